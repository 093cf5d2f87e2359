import PyProof.Rows.All
import Wide.All
import OpenK.AllK
import Wide.FinOn
import HandS.ForMost
import PySem.Challenge.RW_everyfloor_k00_errors_made_from_their_fi
import HandS.Base
import HandS.Call
import HandS.Exc
import HandS.ExcIs
import HandS.IsInst
import HandS.ExcField
import HandS.HotCalls
import HandS.WordsExc
import HandS.Codes
import HandS.More
import HandS.ClsMeth
import HandS.OwnEq
import HandS.ExcOwn
import HandS.Small
import HandS.ForExc
import HandS.TryMany
import HandS.ExcInit
import HandS.Style
import HandS.SetIn
import HandS.Wide
import HandS.DeepEq
import KE.OsRunLaw
set_option Elab.async false
set_option linter.all false
set_option maxRecDepth 100000
set_option maxHeartbeats 4000000
namespace Ef
open PySem PySem.Spec PyProof.Rows L2
def top (i : Nat) : Stmt := PySem.Challenge.pw_everyfloor_k00_errors_made_from_their_fi.main.body.getD i (.Pass ⟨0, 0, 0, 0⟩)
abbrev sPen : Stmt := top 37
abbrev sDraw : Stmt := top 38
abbrev sPick : Stmt := top 39
/-! ### the pen -/
def penD (l : Addr) (a b : Int) : List (Key × V) := [(.inr "cells", .ref l), (.inr "at", .int a), (.inr "left", .int b)]
theorem pen_cells (l : Addr) (a b : Int) : valV (penD l a b) (Sum.inr "cells") = some (.ref l) := by with_unfolding_all rfl
theorem pen_at (l : Addr) (a b : Int) : valV (penD l a b) (Sum.inr "at") = some (.int a) := by with_unfolding_all rfl
theorem pen_left (l : Addr) (a b : Int) : valV (penD l a b) (Sum.inr "left") = some (.int b) := by with_unfolding_all rfl
theorem put_at (l : Addr) (a b c : Int) : putK (penD l a b) (Sum.inr "at") (.int c) = penD l c b := by with_unfolding_all rfl
theorem put_left (l : Addr) (a b c : Int) : putK (penD l a b) (Sum.inr "left") (.int c) = penD l a c := by with_unfolding_all rfl
/-- at p stands the pen: its list of ints at l, its place a, what is left b -/
structure Pen (H : Hp) (p l : Addr) (ns : List Int) (a b : Int) : Prop where
  hd : H p = some (.dK (penD l a b))
  hl : H l = some (.lst (ns.map V.int))
  len : ns.length ≤ 63
  a0 : 0 ≤ a
  b0 : 0 ≤ b
/-- all that is tracked but p is as it was -/
def Kp (p : Addr) (H H' : Hp) : Prop := ∀ x o, x ≠ p → H x = some o → H' x = some o
theorem Kp.refl (p : Addr) (H : Hp) : Kp p H H := fun _ _ _ h => h
theorem Kp.trans {p : Addr} {H H1 H2 : Hp} (a : Kp p H H1) (b : Kp p H1 H2) : Kp p H H2 := fun x o n h => b x o n (a x o n h)
theorem Kp.put {p : Addr} {H : Hp} (o : HO) : Kp p H (upd H p o) := fun x u n h => by rw [upd_ne n]; exact h
theorem Kp.new {p q : Addr} {H : Hp} (o : HO) (hq : H q = none) : Kp p H (upd H q o) := fun x u n h => by rw [upd_ne (ne_of_none h hq)]; exact h
/-! ### data -/
theorem dp_ints {K : PySem.W.Frag} {H : Hp} : ∀ ns : List Int, DpAll K H (ns.map V.int) (ns.map PyData.int)
  | [] => .nil
  | n :: ns => .cons (.int n) (dp_ints ns)
theorem dp_bls {K : PySem.W.Frag} {H : Hp} : ∀ bs : List Bool, DpAll K H (bs.map V.bl) (bs.map PyData.bool)
  | [] => .nil
  | n :: ns => .cons (.bl n) (dp_bls ns)
theorem can_ints : ∀ ns : List Int, PyData.canLayAll0 (ns.map PyData.int) = true ∧ PyData.depthAll (ns.map PyData.int) = 0
  | [] => ⟨rfl, rfl⟩
  | n :: ns => by
    obtain ⟨h1, h2⟩ := can_ints ns
    constructor
    · show (PyData.canLay0 (.int n) && PyData.canLayAll0 (ns.map PyData.int)) = true
      rw [h1]; rfl
    · show max (PyData.depth (.int n)) (PyData.depthAll (ns.map PyData.int)) = 0
      rw [h2]; rfl
theorem can_bls : ∀ ns : List Bool, PyData.canLayAll0 (ns.map PyData.bool) = true ∧ PyData.depthAll (ns.map PyData.bool) = 0
  | [] => ⟨rfl, rfl⟩
  | n :: ns => by
    obtain ⟨h1, h2⟩ := can_bls ns
    constructor
    · show (PyData.canLay0 (.bool n) && PyData.canLayAll0 (ns.map PyData.bool)) = true
      rw [h1]; rfl
    · show max (PyData.depth (.bool n)) (PyData.depthAll (ns.map PyData.bool)) = 0
      rw [h2]; rfl
theorem sh_list {ds : List PyData} (h1 : PyData.canLayAll0 ds = true) (h2 : PyData.depthAll ds = 0) : SeqAt.shaped (.list ds) = true ∧ SeqAt.shaped (.tuple ds) = true := by
  constructor
  · show (PyData.canLayAll0 ds && decide (PyData.depthAll ds + 1 ≤ 64)) = true
    rw [h1, h2]; rfl
  · show (PyData.canLayAll0 ds && decide (PyData.depthAll ds + 1 ≤ 64)) = true
    rw [h1, h2]; rfl
theorem eqv_nil (ns : List Int) : PyData.eqv (.list (ns.map PyData.int)) (.list []) = ns.isEmpty := by
  cases ns with
  | nil => rfl
  | cons n ns => rfl
theorem eqv_bls : ∀ as bs : List Bool, PyData.eqvAll (as.map PyData.bool) (bs.map PyData.bool) = decide (as = bs)
  | [], [] => rfl
  | [], _ :: _ => rfl
  | _ :: _, [] => rfl
  | a :: as, b :: bs => by
    show (PyData.eqv (.bool a) (.bool b) && PyData.eqvAll (as.map PyData.bool) (bs.map PyData.bool)) = _
    rw [eqv_bls as bs]
    show ((a == b) && decide (as = bs)) = decide (a :: as = b :: bs)
    by_cases h1 : a = b <;> by_cases h2 : as = bs <;> simp [h1, h2]
end Ef
set_option Elab.async false
set_option linter.all false
set_option maxRecDepth 100000
set_option maxHeartbeats 4000000
namespace Ef
open PySem PySem.Spec PyProof.Rows L2
structure TxtP (mg : Str → Option Value) : Prop where
  int : mg "int" = none
  len : mg "len" = none
  list : mg "list" = none
/-- what a draw promises -/
def spDraw : Sp := fun vs H Q _ => ∃ (p l : Addr) (ns : List Int) (a b m : Int), vs = [.ref p, .int m] ∧ Pen H p l ns a b ∧ a ≤ 1073741824 ∧ 1 ≤ m ∧ m < 1073741824 ∧
  ∀ (d a' b' : Int) (H' : Hp), 0 ≤ d → d < m → a' ≤ a + 1 → Pen H' p l ns a' b' → Kp p H H' → Q (.int d) H'
theorem scDraw : FnScope ["pen", "many", "digit", "at", "cell", "mixed"] ["pen", "many"] (defScope sDraw) := ⟨rfl, rfl, rfl, by decide +kernel, rfl, by decide +kernel, by decide +kernel⟩
section
variable {P : Program} {w : World} {K : PySem.W.Frag} {mg : Str → Option Value} {base : Heap}
theorem Pen.ne {H : Hp} {p l : Addr} {ns : List Int} {a b : Int} (h : Pen H p l ns a b) : l ≠ p := ne_of h.hl h.hd (by intro q; cases q)
theorem Pen.put {H : Hp} {p l : Addr} {ns : List Int} {a b : Int} (h : Pen H p l ns a b) {a' b' : Int} (ha : 0 ≤ a') (hb : 0 ≤ b') : Pen (upd H p (.dK (penD l a' b'))) p l ns a' b' :=
  ⟨upd_same, by rw [upd_ne h.ne]; exact h.hl, h.len, ha, hb⟩
theorem Pen.kp {H H' : Hp} {p l : Addr} {ns : List Int} {a b : Int} (h : Pen H p l ns a b) (k : Kp p H H') (hp : H' p = H p) : Pen H' p l ns a b := ⟨hp.trans h.hd, k _ _ h.ne h.hl, h.len, h.a0, h.b0⟩
theorem emB (x k : Int) (h : 0 < k) (h2 : k < 2 ^ 64) : -(2 ^ 64) < x % k ∧ x % k < 2 ^ 64 := by
  have h1 := Int.emod_nonneg x (show k ≠ 0 by omega)
  have h3 := Int.emod_lt_of_pos x h
  omega
theorem Pen.gl {H : Hp} {p l : Addr} {ns : List Int} {a b : Int} (h : Pen H p l ns a b) : DGet H p (.str "left") (some (.int b)) := by
  have z := DGet.k (k := Sum.inr "left") h.hd
  rw [pen_left] at z
  exact z
theorem Pen.ga {H : Hp} {p l : Addr} {ns : List Int} {a b : Int} (h : Pen H p l ns a b) : DGet H p (.str "at") (some (.int a)) := by
  have z := DGet.k (k := Sum.inr "at") h.hd
  rw [pen_at] at z
  exact z
theorem Pen.gc {H : Hp} {p l : Addr} {ns : List Int} {a b : Int} (h : Pen H p l ns a b) : DGet H p (.str "cells") (some (.ref l)) := by
  have z := DGet.k (k := Sum.inr "cells") h.hd
  rw [pen_cells] at z
  exact z
theorem Pen.pl {H : Hp} {p l : Addr} {ns : List Int} {a b c : Int} (h : Pen H p l ns a b) : DPut H p (.str "left") (.int c) (upd H p (.dK (penD l a c))) := by
  have z := DPut.k (k := Sum.inr "left") (v := .int c) h.hd (by show 3 < sizeLine; decide)
  rw [put_left] at z
  exact z
theorem Pen.pa {H : Hp} {p l : Addr} {ns : List Int} {a b c : Int} (h : Pen H p l ns a b) : DPut H p (.str "at") (.int c) (upd H p (.dK (penD l c b))) := by
  have z := DPut.k (k := Sum.inr "at") (v := .int c) h.hd (by show 3 < sizeLine; decide)
  rw [put_at] at z
  exact z
theorem ok_draw {f : Addr} {fd : FuncData} (F : Fun K "_law_draw" "_law_draw" sDraw f fd) (T : TxtP mg) : FnOk P w K mg base CX0 1 f fd ["pen", "many"] spDraw := by
  refine F.ok scDraw (fun vs H Q E h => ?_) (fun cdv A outer s H vs Q E hr h => ?_)
  · obtain ⟨p, l, ns, a, b, m, rfl, _⟩ := h
    rfl
  · obtain ⟨p, l, ns, a, b, m, rfl, hP, ha, hm1, hm2, q⟩ := h
    have hu := hu_of hr
    refine ⟨_, (pss_cons (ps_if (pt_cmpR op_ge (pe_dget hu (pv 0) pe_str (fun _ _ => rfl)) (pv 1) (nomark _)) (pss_cons (ps_set (i := 2) scDraw.nd rfl (.inl rfl) (pe_op op_mod (pe_callTy call_int1 (by rfl) T.int (by decide +kernel) (pa_cons (pe_dget hu (pv 0) pe_str (fun _ _ => rfl)) pa_nil)) (pv 1)))
      (pss_cons (ps_dput hu (pv 0) pe_str (pe_op op_fdiv (pe_dget hu (pv 0) pe_str (fun _ _ => rfl)) (pv 1)) rfl)
      (pss_one (ps_ret (pv 2))))) pss_nil)
      (pss_cons (ps_set (i := 3) scDraw.nd rfl (.inl rfl) (pe_dget hu (pv 0) pe_str (fun _ _ => rfl)))
      (pss_cons (ps_dput hu (pv 0) pe_str (pe_op op_add (pv 3) pe_int) rfl)
      (pss_cons (ps_set (i := 4) scDraw.nd rfl (.inl rfl) (pe_op op_add (pe_op op_mul pe_int (pv 3)) pe_int))
      (pss_cons (ps_if (pt_cmpR (op_neD hr.units) (pe_dget hu (pv 0) pe_str (fun _ _ => rfl)) (pe_lst pa_nil) (nomark _)) (pss_one (ps_set (i := 4) scDraw.nd rfl (.inl rfl) (pe_ix ix_list (pe_dget hu (pv 0) pe_str (fun _ _ => rfl)) (pe_op op_mod (pe_callTy call_int1 (by rfl) T.int (by decide +kernel) (pa_cons (pv 3) pa_nil)) (pe_callB call_len_seq (by rfl) T.len PySem.boot_len (pa_cons (pe_dget hu (pv 0) pe_str (fun _ _ => rfl)) pa_nil))) (fun _ _ => rfl)))) pss_nil)
      (pss_cons (ps_if (pw_and (pt_cmpR op_lt (pv 3) (pe_callB call_len_seq (by rfl) T.len PySem.boot_len (pa_cons (pe_dget hu (pv 0) pe_str (fun _ _ => rfl)) pa_nil)) (nomark _)) (pw_and1 (pt_cmpR op_ge (pv 4) (pe_op op_pow pe_int pe_int) (nomark _)))).pt (pss_cons (ps_dput hu (pv 0) pe_str (pe_op op_fdiv (pe_op op_sub (pv 4) (pe_op op_pow pe_int pe_int)) (pv 1)) rfl)
      (pss_one (ps_ret (pe_op op_mod (pe_callTy call_int1 (by rfl) T.int (by decide +kernel) (pa_cons (pe_op op_sub (pv 4) (pe_op op_pow pe_int pe_int)) pa_nil)) (pv 1))))) pss_nil)
      (pss_cons (ps_set (i := 5) scDraw.nd rfl (.inl rfl) (pe_op op_add (pe_op op_add (pe_op op_add (pe_op op_mul (pe_op op_mod (pe_callTy call_int1 (by rfl) T.int (by decide +kernel) (pa_cons (pv 4) pa_nil)) pe_int) pe_int) (pe_op op_mul (pe_op op_mul pe_int (pv 3)) (pv 3))) (pe_op op_mul pe_int (pv 3))) pe_int))
      (pss_cons (ps_set (i := 5) scDraw.nd rfl (.inl rfl) (pe_op op_mod (pe_callTy call_int1 (by rfl) T.int (by decide +kernel) (pa_cons (pv 5) pa_nil)) pe_int))
      (pss_cons (ps_set (i := 5) scDraw.nd rfl (.inl rfl) (pe_op op_mod (pe_callTy call_int1 (by rfl) T.int (by decide +kernel) (pa_cons (pe_op op_mul (pv 5) (pe_op op_add (pv 5) pe_int)) pa_nil)) pe_int))
      (pss_one (ps_ret (pe_op op_mod (pe_callTy call_int1 (by rfl) T.int (by decide +kernel) (pa_cons (pe_op op_fdiv (pe_op op_mod (pe_callTy call_int1 (by rfl) T.int (by decide +kernel) (pa_cons (pe_op op_mul (pv 5) (pv 5)) pa_nil)) pe_int) pe_int) pa_nil)) (pv 1))))))))))))), ?_⟩
    -- if pen['left'] >= many
    refine ⟨_, rfl, p, _, rfl, hP.gl, _, rfl, _, _, rfl, rfl, _, rfl, ?_⟩
    refine ite2 (fun hb => ?_) (fun hb => ?_)
    · -- digit; pen['left']; return
      refine ⟨_, rfl, p, _, rfl, hP.gl, .inl ⟨_, rfl, ?_⟩⟩
      refine ⟨_, rfl, _, _, rfl, rfl, by omega, ?_⟩
      refine ⟨_, rfl, p, _, rfl, hP.gl, _, rfl, _, _, rfl, rfl, ⟨by omega, hm2⟩, _, rfl, p, _, rfl, hP.pl, ?_⟩
      refine ⟨_, rfl, ?_⟩
      exact q _ _ _ _ (Int.emod_nonneg _ (by omega)) (Int.emod_lt_of_pos _ (by omega)) (by omega) (hP.put hP.a0 (Int.ediv_nonneg hP.b0 (by omega))) (Kp.put _)
    · -- at = pen['at']; pen['at'] = at + 1
      refine ⟨_, rfl, p, _, rfl, hP.ga, ?_⟩
      refine ⟨_, rfl, _, _, rfl, rfl, _, rfl, p, _, rfl, hP.pa, ?_⟩
      have hP0 := hP.put (a' := a + 1) (b' := b) (by have := hP.a0; omega) hP.b0
      have a0 := hP.a0
      have b0 := hP.b0
      have k1 : Kp p H (upd H p (.dK (penD l (a + 1) b))) := Kp.put _
      have aE : ∀ {x : Int}, x = a → -(2 ^ 64) < x ∧ x < 2 ^ 64 := fun e => by subst e; constructor <;> omega
      -- cell = 37 * at + 11
      refine ⟨_, rfl, _, _, rfl, rfl, .inl ⟨by decide, by decide⟩, _, _, rfl, rfl, ?_⟩
      -- if pen['cells'] != []
      refine ⟨_, rfl, p, _, rfl, hP0.gc, Nat.zero_le _, fun t ht => ?_⟩
      have hP2 : Pen (upd (upd H p (.dK (penD l (a + 1) b))) t (.lst [])) p l ns (a + 1) b := hP0.kp (Kp.new _ ht) (upd_ne (ne_of_none hP0.hd ht))
      have k2 := k1.trans (Kp.new (.lst []) ht)
      have hT : SqL K (upd (upd H p (.dK (penD l (a + 1) b))) t (.lst [])) t [] := .inl (.inl upd_same)
      refine ⟨_, _, .lst (.inl (.inl hP2.hl)) (dp_ints ns), .lst hT .nil, (sh_list (can_ints ns).1 (can_ints ns).2).1, (sh_list rfl rfl).1, _, rfl, ?_⟩
      generalize upd (upd H p (.dK (penD l (a + 1) b))) t (.lst []) = H2 at hP2 k2 hT ⊢
      rw [eqv_nil]
      have hm0 : (0 : Int) < m := by omega
      refine ite2 ?g1 ?g2
      case' g1 =>
        intro he
        have hn : 0 < ns.length := by
          cases ns with
          | nil => exact absurd he (by decide)
          | cons n ns => exact Nat.succ_pos _
        have hlt : (a % (ns.length : Int)).toNat < ns.length := by
          have h1 := Int.emod_nonneg a (show (ns.length : Int) ≠ 0 by omega)
          have h2 := Int.emod_lt_of_pos a (show (0 : Int) < (ns.length : Int) by omega)
          omega
        refine ⟨_, rfl, p, _, rfl, hP2.gc, _, rfl, .inl ⟨_, rfl, _, rfl, p, _, rfl, hP2.gc, _, _, rfl, .inl (.inl (.inl hP2.hl)), _, _, rfl, rfl, by rw [List.length_map]; omega, l, _, _, .int ns[(a % (ns.length : Int)).toNat], rfl, rfl, .inl (.inl hP2.hl), ?_, ?_⟩⟩
        · rw [List.length_map]
          exact at_of (Int.toNat_of_nonneg (Int.emod_nonneg a (show (ns.length : Int) ≠ 0 by omega))).symm (by rw [List.getElem?_map, List.getElem?_eq_getElem hlt]; rfl)
        generalize ns[(a % (ns.length : Int)).toNat] = c
      case' g2 =>
        intro he
        generalize 37 * a + 11 = c
      all_goals
        refine ⟨_, rfl, _, rfl, p, _, rfl, hP2.gc, _, _, rfl, .inl (.inl (.inl hP2.hl)), _, _, rfl, rfl, _, rfl, ?_⟩
        refine ite2 ?_ ?_
      all_goals intro h1
      all_goals try
        (refine ⟨_, rfl, _, _, rfl, rfl, ⟨by decide, by decide, by decide⟩, _, _, rfl, rfl, _, rfl, ?_⟩
         refine ite2 ?_ ?_ <;> intro h2)
      all_goals try
        (refine ⟨_, rfl, _, _, rfl, rfl, ⟨by decide, by decide, by decide⟩, _, _, rfl, rfl, _, rfl, _, _, rfl, rfl, ⟨hm0, hm2⟩, _, rfl, p, _, rfl, hP2.pl, ?_⟩
         refine ⟨_, rfl, _, _, rfl, rfl, ⟨by decide, by decide, by decide⟩, _, _, rfl, rfl, .inl ⟨_, rfl, _, rfl, _, _, rfl, rfl, hm0, ?_⟩⟩
         exact q _ _ _ _ (Int.emod_nonneg _ (Int.ne_of_gt hm0)) (Int.emod_lt_of_pos _ hm0) (Int.le_refl _) (hP2.put hP2.a0 (Int.ediv_nonneg (Int.sub_nonneg_of_le (of_decide_eq_true h2)) (Int.le_of_lt hm0))) (k2.trans (Kp.put _)))
      all_goals try refine iteF ?_
      all_goals
        refine ⟨_, rfl, .inl ⟨_, rfl, _, _, rfl, rfl, (by show (0 : Int) < _; decide), _, _, rfl, rfl, .inr ⟨by decide, by decide⟩, _, rfl, _, _, rfl, rfl, .inl ⟨by decide, by decide⟩, _, rfl, _, _, rfl, rfl, .inr (aE rfl), _, _, rfl, rfl, _, rfl, _, _, rfl, rfl, .inl ⟨by decide, by decide⟩, _, _, rfl, rfl, _, _, rfl, rfl, ?_⟩⟩
        refine ⟨_, rfl, .inl ⟨_, rfl, _, _, rfl, rfl, (by show (0 : Int) < _; decide), ?_⟩⟩
        refine ⟨_, rfl, _, rfl, _, _, rfl, rfl, _, _, rfl, rfl, .inl (emB _ _ (by decide) (by decide)), .inl ⟨_, rfl, _, _, rfl, rfl, (by show (0 : Int) < _; decide), ?_⟩⟩
        refine ⟨_, rfl, _, rfl, _, _, rfl, rfl, .inl (emB _ _ (by decide) (by decide)), .inl ⟨_, rfl, _, _, rfl, rfl, (by show (0 : Int) < _; decide), _, _, rfl, rfl, ⟨by decide, by decide⟩, .inl ⟨_, rfl, _, rfl, _, _, rfl, rfl, hm0, ?_⟩⟩⟩
        exact q _ _ _ _ (Int.emod_nonneg _ (Int.ne_of_gt hm0)) (Int.emod_lt_of_pos _ hm0) (Int.le_refl _) hP2 k2
end
end Ef
set_option Elab.async false
set_option linter.all false
set_option maxRecDepth 100000
set_option maxHeartbeats 4000000
namespace Ef
open PySem PySem.Spec PyProof.Rows L2
/-- a def of the text, by its name -/
structure Df (P : Program) (w : World) (K : PySem.W.Frag) (mg : Str → Option Value) (base : Heap) (k : Nat) (x : Str) (ps : List Str) (sp : Sp) : Prop where
  ex : ∃ f fd, mg x = some (.ref f) ∧ PySem.W.keepIn K (.ref f) = true ∧ Binds K fd ps [] ∧ FnOk P w K mg base CX0 k f fd ps sp
theorem Df.call {X : Cx} {k : Nat} {x : Str} {ps : List Str} {sp : Sp} {e : Expr} {es : List Expr} {t : TA} {p pos : Pos} (D : Df X.prog X.w X.K X.mg X.base k x ps sp) (hr : Room k X.A) (ha : PA X (e :: es) t) (hg : Gl X x := by rfl)
    (hdb : (x == ("__debug__" : Str)) = false := by decide) (he : starEach (e :: es) X.env = (false, eval e X.env) :: starEach es X.env := by rfl) (hpl : (backTo pos (starEach es X.env)).any (·.1) = false := by rfl) :
    PE X (.Call (.Name x p) (e :: es) [] pos) (tCall sp [] E0 t) := by
  obtain ⟨f, fd, hm, hk, hb, F⟩ := D.ex
  exact pe_call F hr hg hm hk hb .nil pass0 ha hdb he hpl
/-- where the text's def stands behind the top -/
structure At (K : PySem.W.Frag) (mg : Str → Option Value) (x : Str) (st : Stmt) : Prop where
  ex : ∃ f fd, mg x = some (.ref f) ∧ Fun K x x st f fd
section
variable {P : Program} {w : World} {K : PySem.W.Frag} {mg : Str → Option Value} {base : Heap}
theorem Kp.of_same {p : Addr} {H H' : Hp} (h : Same H H') : Kp p H H' := fun x o _ e => h x o e
theorem Kp.rd {p : Addr} {H H' : Hp} {q : Addr} {u : HO} (k : Kp p H H') (n : q ≠ p) (h : Rd H q u) : Rd H' q u := by
  rcases h with h | ⟨o, h⟩
  · exact .inl (k _ _ n h)
  · exact .inr ⟨o, k _ _ n h⟩
theorem Kp.sql {p : Addr} {H H' : Hp} {q : Addr} {xs : List V} (k : Kp p H H') (n : q ≠ p) (h : SqL K H q xs) : SqL K H' q xs := by
  rcases h with h | h
  · exact .inl (k.rd n h)
  · exact .inr h
theorem Kp.sqt {p : Addr} {H H' : Hp} {q : Addr} {xs : List V} (k : Kp p H H') (n : q ≠ p) (h : SqT K H q xs) : SqT K H' q xs := by
  rcases h with h | h
  · exact .inl (k.rd n h)
  · exact .inr h
theorem Kp.free {p : Addr} {H H' : Hp} (k : Kp p H H') {q : Addr} (n : q ≠ p) (h : H' q = none) : H q = none := by
  cases e : H q with
  | none => rfl
  | some o => rw [k q o n e] at h; cases h
theorem Kp.mut {p q : Addr} {H H' : Hp} {o : HO} (k : Kp p H H') (h : H q = none) : Kp p H (upd H' q o) := fun x u n e => by
  rw [upd_ne (ne_of_none e h)]
  exact k x u n e
theorem small1000' {n : Nat} (h : n ≤ 100000) : n < sizeLine := Nat.lt_of_le_of_lt h (by decide)
theorem df_draw (A : At K mg "_law_draw" sDraw) (T : TxtP mg) : Df P w K mg base 1 "_law_draw" ["pen", "many"] spDraw := by
  obtain ⟨f, fd, hm, F⟩ := A.ex
  exact ⟨f, fd, hm, F.kp, F.binds (fun _ _ _ _ _ _ us hl => match us, hl with | [_, _], _ => rfl), ok_draw F T⟩
/-! ### _law_pen -/
def spPen (K : PySem.W.Frag) : Sp := fun vs H Q _ => ∃ (a : Addr) (ns : List Int), vs = [.ref a] ∧ SqL K H a (ns.map V.int) ∧ ns.length ≤ 63 ∧ ∀ (p l : Addr) (H' : Hp), H p = none → Same H H' → Pen H' p l ns 0 0 → Q (.ref p) H'
theorem scPen : FnScope ["script"] ["script"] (defScope sPen) := ⟨rfl, rfl, rfl, by decide +kernel, rfl, by decide +kernel, by decide +kernel⟩
theorem cut63 (xs : List V) (h : xs.length ≤ 63) : cutV xs none (some 63) = xs := by
  unfold cutV
  rw [HT.sIx_none, show HT.sIx xs.length xs.length (some 63) = min 63 xs.length from HT.sIx_nat xs.length xs.length 63, Nat.min_eq_right h]
  simp
theorem df_pen (A : At K mg "_law_pen" sPen) (T : TxtP mg) : Df P w K mg base 1 "_law_pen" ["script"] (spPen K) := by
  obtain ⟨f, fd, hm, F⟩ := A.ex
  refine ⟨f, fd, hm, F.kp, F.binds (fun _ _ _ _ _ _ us hl => match us, hl with | [_], _ => rfl), F.ok scPen (fun vs H Q E h => ?_) (fun cdv A outer s H vs Q E hr h => ?_)⟩
  · obtain ⟨a, ns, rfl, _⟩ := h
    rfl
  · obtain ⟨a, ns, rfl, hS, hlen, q⟩ := h
    refine ⟨_, (pss_one (ps_ret (pe_disp (pps_cons pe_str (pe_callTy call_list_of (by rfl) T.list (by decide +kernel) (pa_cons (pe_slice sl_list (pv 0) po_none (po_some pe_int)) pa_nil)) (pps_cons pe_str pe_int (pps_cons pe_str pe_int pps_nil))) (by rfl) (by rfl) (fun z => by cases z) (by decide)))), ?_⟩
    intro p hp
    have s1 : Same H (upd H p (.dK [])) := fun b o e => by rw [upd_ne (ne_of_none e hp)]; exact e
    refine ⟨_, rfl, 63, rfl, a, _, rfl, s1.seq hS, fun c hc => ?_⟩
    rw [cut63 _ (by rw [List.length_map]; exact hlen)]
    have s2 : Same H (upd (upd H p (.dK [])) c (.lst (ns.map V.int))) := s1.trans fun b o e => by rw [upd_ne (ne_of_none e hc)]; exact e
    refine ⟨c, _, rfl, .inl (.inl (.inl upd_same)), fun l hl => ?_⟩
    have s3 : Same H (upd (upd (upd H p (.dK [])) c (.lst (ns.map V.int))) l (.lst (ns.map V.int))) := s2.trans fun b o e => by rw [upd_ne (ne_of_none e hl)]; exact e
    have hpc : p ≠ c := fun z => by rw [← z, upd_same] at hc; cases hc
    have hpl : p ≠ l := fun z => by rw [← z, upd_ne hpc, upd_same] at hl; cases hl
    refine ⟨by rw [upd_ne hpl, upd_ne hpc, upd_same], penD l 0 0, rfl, by show 3 ≤ 15; decide, ?_⟩
    refine q p l _ hp (fun b o e => ?_) ⟨upd_same, by rw [upd_ne hpl.symm, upd_same], hlen, Int.le_refl 0, Int.le_refl 0⟩
    rw [upd_ne (ne_of_none e hp)]
    exact s3 _ _ e
/-! ### _law_pick -/
def spPick (K : PySem.W.Frag) : Sp := fun vs H Q _ => ∃ (p l q : Addr) (ns : List Int) (a b : Int) (xs : List V), vs = [.ref p, .ref q] ∧ Pen H p l ns a b ∧ a ≤ 1073741824 ∧ SqL K H q xs ∧ q ≠ p ∧ 1 ≤ xs.length ∧ xs.length ≤ 100000 ∧
  ∀ (j : Nat) (v : V) (a' b' : Int) (H' : Hp), xs[j]? = some v → a' ≤ a + 1 → Pen H' p l ns a' b' → Kp p H H' → Q v H'
theorem scPick : FnScope ["pen", "some"] ["pen", "some"] (defScope sPick) := ⟨rfl, rfl, rfl, by decide +kernel, rfl, by decide +kernel, by decide +kernel⟩
theorem df_pick (A : At K mg "_law_pick" sPick) (T : TxtP mg) (Ddraw : Df P w K mg base 1 "_law_draw" ["pen", "many"] spDraw) : Df P w K mg base 2 "_law_pick" ["pen", "some"] (spPick K) := by
  obtain ⟨f, fd, hm, F⟩ := A.ex
  refine ⟨f, fd, hm, F.kp, F.binds (fun _ _ _ _ _ _ us hl => match us, hl with | [_, _], _ => rfl), F.ok scPick (fun vs H Q E h => ?_) (fun cdv A outer s H vs Q E hr h => ?_)⟩
  · obtain ⟨p, l, q, ns, a, b, xs, rfl, _⟩ := h
    rfl
  · obtain ⟨p, l, q, ns, a, b, xs, rfl, hP, ha, hS, hqp, h1, h2, k⟩ := h
    refine ⟨_, (pss_one (ps_ret (pe_ix ix_list (pv 1) (Ddraw.call (hr.mono (by decide)) (pa_cons (pv 0) (pa_cons (pe_callB call_len_seq (by rfl) T.len PySem.boot_len (pa_cons (pv 1) pa_nil)) pa_nil))) (fun _ _ => rfl)))), ?_⟩
    refine ⟨_, rfl, _, rfl, _, rfl, _, _, rfl, .inl hS, p, l, ns, a, b, _, rfl, hP, ha, by omega, by omega, fun d a' b' H' d0 d1 ha' hP' hK => ?_⟩
    have hd : d.toNat < xs.length := by omega
    exact ⟨q, _, _, _, rfl, rfl, hK.sql hqp hS, at_of (Int.toNat_of_nonneg d0).symm (List.getElem?_eq_getElem hd), k _ _ _ _ _ (List.getElem?_eq_getElem hd) ha' hP' hK⟩
end
end Ef
set_option Elab.async false
set_option linter.all false
set_option maxRecDepth 100000
set_option maxHeartbeats 4000000
/-! a caught error handed to a def, and asked there -/
namespace Ef
open PySem PySem.Spec PySem.Calls PyProof.Rows L2 L2H
section
open PySem.W
variable {prog : Program} {w : World} {A : Around} {E : Value → Shared → Prop} {s : Shared} {K : Frag} {x D : Addr} {ox : Obj} {od : Option Obj}
/-- what __class__ finds at an error, with a dict or without -/
theorem exc_found (T : ExcC K D) : findObj K D od "__class__" = some (.bind (.builtin "getset_descriptor.__get__") (.builtin "object.__class__")) := by
  obtain ⟨cd, hc, _⟩ := any_some T.hd
  show ((clsIn K D).bind _) = _
  rw [hc, Option.bind_some, T.ha, Option.bind_some]
  simp only [T.hn, T.ht, Option.bind_some]
/-- the error's __class__ -/
theorem exc_class {Q : Option Value → Shared → Prop} (T : ExcC K D) (X : K.In s.heap) (I : InstAt s.heap x ox D od) (h : Q (some (.ref D)) { s with toks := s.toks + 1 }) : wpAny (model prog w) A (getAttr? (.ref x) "__class__") Q E s := by
  obtain ⟨hp, g, dr, t, os⟩ := s
  have lt := I.type (M := model prog w)
  have l3 := looks_find (M := model prog w) X I (exc_found (od := od) T)
  have no : (Value.builtin "BaseException.__getattribute__" == Value.builtin "object.__getattribute__") = false := by decide +kernel
  have no1 : (onTheHeap (Value.ref D) && Value.builtin "BaseException.__getattribute__" == Value.builtin "object.__getattribute__") = false := by rw [no]; rfl
  have no0 : (false && onTheHeap (Value.builtin "BaseException.__getattribute__")) = false := rfl
  unfold getAttr? getAttrBy? getAttrBy
  refine wpAny_bind (wpAny_mkText (wpAny_bind (wpAny_attempt (wpAny_holding (wpAny_bind (lt.at (wpAny_bind ((looks_findIn (M := model prog w) X T.hg).at ?own))))))))
  case own =>
    show wpAny _ _ (ite _ _ _) _ _ _
    rw [no1, if_neg Bool.false_ne_true]
    unfold getAttrByItsOwn hookBefore
    refine wpAny_bind ?hook
    rw [if_pos (show onTheHeap (Value.ref D) = true from rfl)]
    refine (looks_findIn (M := model prog w) X T.hk).at (wpAny_bind (wpAny_attempt (wpAny_holding ?c)))
    unfold callGetattribute
    rw [no0, if_neg Bool.false_ne_true]
    unfold boundAndCalled
    rw [PySem.F.excAttr_ValueError.ga.bind (.ref x)]
    refine wpAny_bind (wpAny_pure ?d)
    show wpAny _ _ (call (Value.builtin "BaseException.__getattribute__") _) _ _ _
    refine wpAny_call (codeAny_call_builtin PySem.F.excAttr_ValueError.ga.plain PySem.F.entry_bexc_ga (@check_slot (model prog w) _ _ ⟨hp, g, dr, t + 1, os⟩ "BaseException.__getattribute__" "BaseException" "__getattribute__" (.ref x) [.str "__class__" t] [] _ (by decide +kernel) (by decide +kernel) (lt.andThen (looks_subIn X T.hs)) (PySem.F.args_bexc_ga (.ref x) (.str "__class__" t)) ?e))
    unfold Builtin.«object.__getattribute__»
    refine wpAny_bind (wpAny_of_eq (a := ((Value.ref x : Value), [Value.str "__class__" t])) (by first | rfl | (simp only [slotArgs]; rfl)) (wpAny_bind (wpAny_pure (wpAny_bind (lt.at (wpAny_bind (l3.at ?f)))))))
    show wpAny _ _ (holding [Value.builtin "object.__class__"] (call (Value.builtin "getset_descriptor.__get__") [Value.builtin "object.__class__", Value.ref x, Value.ref D]) >>= ret) _ _ _
    refine wpAny_bind (wpAny_holding (wpAny_call (class_get (s := ⟨hp, g, dr, t + 1, os⟩) (ox := ox) (od := od) X I T.hm (wpAny_pure ?g))))
    show wpAny _ _ (handedOut (Value.ref D)) _ _ _
    rw [handedOut_of (v := .ref D) rfl]
    first
      | exact wpAny_pure (wpAny_pure h)
      | exact wpAny_pure h
      | exact wpAny_pure (wpAny_bind (wpAny_pure (wpAny_pure h)))
/-- what isinstance asks of it -/
theorem exc_kit (T : ExcC K D) : KitX K (.ref x) (.ref D) (fun h => InstAt h x ox D od) := by
  obtain ⟨cd, hc, _⟩ := any_some T.hd
  unfold clsIn at hc
  split at hc
  case h_2 => cases hc
  case h_1 ho =>
    refine ⟨fun _ _ _ I => I.type, fun _ _ X _ A' Q' E' s' k q => ?_, fun h tp dd its n sl X htp => Bool.eq_false_iff.mpr fun q => ?_, fun X I k => exc_class T X I k⟩
    · unfold isType loadHead
      exact wpAny_bind (wpAny_loadPart (k _ _ (X _ _ ho)) (wpAny_pure q))
    · have z := X _ _ ho
      rw [Value.ref.inj (beq_iff_eq.mp q), htp] at z
      cases z
end
/-- the error p that a suite holds: its class, its dict -/
structure Caught (p : Addr × Obj) (c : Value) (d : Option Addr) : Prop where
  z : Zc c d p.2
  f : ∃ vs, p.2.data = .fields vs
/-- the dict of an error is tracked, if there is one -/
def DictAt (H : Hp) (d : Option Addr) : Prop := ∀ dd, d = some dd → ∃ fs, H dd = some (.xd fs)
/-- isinstance(e, c) of it -/
def rIsZ (K : PySem.W.Frag) (D a : Addr) (d : Option Addr) : List V → Hp → VK → Prop := fun xs H Q => ∃ (v : V) (u : Value) (b : Bool), xs = [.ref a, v] ∧ ClsV v u ∧ DictAt H d ∧ PySem.W.kitOne K (.ref D) u = some b ∧ Q (.bl b) H
theorem call_isZ {X : Cx} {p : Addr × Obj} {D : Addr} {d : Option Addr} (T : ExcC X.K D) (hp : p ∈ X.pn) (hc : Caught p (.ref D) d) : CallR X (.builtin "isinstance") (rIsZ X.K D p.1 d) := by
  intro pins s σ H xs us Q I r h
  obtain ⟨v, u, b, rfl, hv, hd, e, q⟩ := h
  obtain ⟨u1, u2, rfl, r1, r2⟩ := vals2 r
  cases (show u1 = Value.ref p.1 from r1)
  cases hv.eq r2
  obtain ⟨hget, _⟩ := I.pin p (List.mem_append_left _ hp)
  obtain ⟨vs, hf⟩ := hc.f
  have J : ∃ od, PySem.W.InstAt s.heap p.1 p.2 D od := by
    cases d with
    | none => exact ⟨none, hget, hc.z.1, by unfold PySem.W.notCls; rw [hf] <;> rfl, by rw [hc.z.2]; trivial⟩
    | some dd =>
      obtain ⟨fs, hx⟩ := hd dd rfl
      obtain ⟨mA, hns, _⟩ := (show ObjOk X.prog X.w H s.heap dd (.xd fs) from I.hok dd _ hx)
      obtain ⟨od, ho, _⟩ := lookIn_ns hns
      exact ⟨some od, hget, hc.z.1, by unfold PySem.W.notCls; rw [hf] <;> rfl, by rw [hc.z.2]; exact ho⟩
  obtain ⟨od, J⟩ := J
  exact PySem.W.kia_one (exc_kit T) I.kIn J e (fun z => nomatch z) fun tk => ⟨.bl b, H, I.tok tk, rfl, q⟩
/-- e.f of it -/
def tXz (a : Addr) (d : Option Addr) (f : Str) (te : TE) : TE := fun σ H Q => te σ H fun x H1 => x = .ref a ∧ ∃ (dd : Addr) (fs : List (Str × V)) (v : V), d = some dd ∧ H1 dd = some (.xd fs) ∧ fs.lookup f = some v ∧ Q v H1
theorem pe_xz {X : Cx} {p : Addr × Obj} {D : Addr} {d : Option Addr} {e : Expr} {te : TE} {pos : Pos} {n : Str} (T : XfC X.K D) (hno : PySem.W.findIn X.K (.ref D) n = some none) (hp : p ∈ X.pn) (hc : Caught p (.ref D) d)
    (he : PE X e te) (hb : attributeBase e n X.env (eval e X.env) = eval e X.env := by rfl) : PE X (.Attribute e n pos) (tXz p.1 d n te) := by
  refine ⟨fun pins s σ H Q I h => attr_of hb (thn (he.run pins s σ H _ I h) fun u s1 hh => ?_)⟩
  obtain ⟨x, H1, I1, rx, rfl, dd, fs, v, rfl, ea, l, q⟩ := hh
  cases (show u = Value.ref p.1 from rx)
  obtain ⟨hget, _⟩ := I1.pin p (List.mem_append_left _ hp)
  obtain ⟨vs, hf⟩ := hc.f
  obtain ⟨mA, hns, hr⟩ := (show ObjOk X.prog X.w H1 s1.heap dd (.xd fs) from I1.hok dd _ ea)
  obtain ⟨od, ho, hl⟩ := lookIn_ns hns
  obtain ⟨u, hu, ru⟩ := RelO.some_of (v := v) (o := mA n) (by rw [← l]; exact hr n)
  have J : PySem.W.InstAt s1.heap p.1 p.2 D (some od) := ⟨hget, hc.z.1, by unfold PySem.W.notCls; rw [hf] <;> rfl, by rw [hc.z.2]; exact ho⟩
  exact HandSPX.exc_get I1.kIn J T.ga T.gg T.exC (PySem.W.findObj_own T.hdC hno rfl (by rw [hl, hu])) (handed_of ru) ⟨v, H1, I1.tok _, ru, q⟩
/-! ### defs that get it -/
abbrev SpZ := Addr → Value → Option Addr → Sp
/-- what a def promises of a caught error -/
structure FnZ (P : Program) (w : World) (K : PySem.W.Frag) (mg : Str → Option Value) (base : Heap) (k : Nat) (f : Addr) (fd : FuncData) (ps : List Str) (sp : SpZ) : Prop where
  len : ∀ a c d vs H Q, sp a c d vs H Q E0 → vs.length = ps.length
  run : ∀ (A : Around) (outer : List Env) (s : Shared) (H : Hp) (us : List Value) (vs : List V) (Q : VK) (p : Addr × Obj) (c : Value) (d : Option Addr), RoomH k A → PinOk outer H s p → Caught p c d → Env0 P w K mg base A outer s H →
    BindsTo s fd ⟨us, []⟩ (ps.zip us) → Vals vs us → sp p.1 c d vs H Q E0 → codeAny (model P w) A (.call (.ref f) ⟨us, []⟩) (CR CX0 outer P w H s Q E0) s
theorem okZ {P : Program} {w : World} {K : PySem.W.Frag} {mg : Str → Option Value} {base : Heap} {k : Nat} {x qual : Str} {st : Stmt} {f : Addr} {fd : FuncData} {N ps : List Str} {sp : SpZ} (F : L2.Fun K x qual st f fd) (S : FnScope N ps (defScope st))
    (len : ∀ a c d vs H Q, sp a c d vs H Q E0 → vs.length = ps.length)
    (body : ∀ (cdv : Value) (A : Around) (outer : List Env) (s : Shared) (H : Hp) (vs : List V) (Q : VK) (p : Addr × Obj) (c : Value) (d : Option Addr), RoomH k (A.deeper (envOfC qual (defScope st) s.heap.objs.size f cdv)) → Caught p c d → sp p.1 c d vs H Q E0 →
      ∃ t, PSs (cxH CX0 P w K mg base N qual (defScope st) f cdv A outer s H E0 p).nox (defBody st) t ∧ t { nx := fun _ H' => Q .non H', rt := Q } (L2.start N vs) H) : FnZ P w K mg base (k + 1) f fd ps sp := by
  obtain ⟨oc, od, kV, doc, pm, an, cdv, ct, osl, rfl, lk, hcd⟩ := F.ex
  refine ⟨len, ?_⟩
  intro A outer s H us vs Q p c d room pin caught e0 bnd rel h
  have inS : K.In s.heap := e0.mod.kin.keeps fun b o e => (e0.bs b o e).1
  obtain ⟨t, ht, hq⟩ := body cdv A outer s H vs Q p c d (room.deeper _) caught h
  refine codeAny_call_function room.depth (inS _ _ lk) rfl S.co S.gen rfl (PySem.W.codeRec_of inS hcd) (bnd _ _ _ _ (wpAny_newFunctionEnv_cells S.kind ?kinds fun env he s1 ic => ?rest))
  case kinds =>
    intro y hy
    exact (S.par y.1 (List.of_mem_zip hy).1).elim .inl fun q => .inr ⟨q, PySem.W.cellsFrom_some _ _ _ (.inl q)⟩
  case rest =>
    subst he
    refine ⟨(e0.mod.nolimit.keeps fun b o e => (e0.bs b o e).1).keeps ic.toInCall.keep, codeAny_func (wpAny_mono (ht.nox.run [] s1 (L2.start N vs) H _ (inv_startH S pin e0 (len _ _ _ _ _ _ h) rel ic) hq) ?back fun _ _ z => z)⟩
    intro fl s2 q
    cases fl with
    | ret u => obtain ⟨v, σ2, H2, J, rv, q⟩ := q; exact ⟨v, H2, J.os, J.bare, J.base, J.hok, rv, q⟩
    | next => obtain ⟨σ2, H2, J, q⟩ := q; exact ⟨V.non, H2, J.os, J.bare, J.base, J.hok, rfl, q⟩
    | brk => obtain ⟨_, _, _, q⟩ := q; cases q
    | cont => obtain ⟨_, _, _, q⟩ := q; cases q
section
variable {X : Cx} {k : Nat} {f : Addr} {fd : FuncData} {ps : List Str} {sp : SpZ} {x : Str} {q pos : Pos} {e : Expr} {es : List Expr} {t : TA} {p : Addr × Obj} {c : Value} {d : Option Addr}
/-- f(.., e, ..) -/
theorem pe_callZ0 (F : FnZ X.prog X.w X.K X.mg X.base k f fd ps sp) (hr : RoomH k X.A) (hp : p ∈ X.pn) (hc : Caught p c d) (hg : Gl X x) (hm : X.mg x = some (.ref f)) (hk : PySem.W.keepIn X.K (.ref f) = true) (hb : Binds X.K fd ps [])
    (ha : PA X (e :: es) t) (hdb : (x == ("__debug__" : Str)) = false := by decide) (he : starEach (e :: es) X.env = (false, eval e X.env) :: starEach es X.env := by rfl) (hpl : (backTo pos (starEach es X.env)).any (·.1) = false := by rfl) :
    PE X (.Call (.Name x q) (e :: es) [] pos) (tCall (sp p.1 c d) [] E0 t) := by
  refine ⟨fun pins s σ H Q I h => wpAny_Call_Name_kw (ld_glob I hg hm (PySem.W.callWith_K (h₀ := X.base) I.ok.mod.kin hk (thn (ha.run pos pins s σ H _ I h) fun us s1 hh => ?_) he hpl) hdb)⟩
  obtain ⟨vs, H1, I1, r, h1⟩ := hh
  rw [List.append_nil] at h1
  refine ⟨I1.kIn, ?_⟩
  have bnd := hb s1 us I1.kIn (by rw [List.append_nil, ← r.length]; exact F.len _ _ _ _ _ _ h1)
  rw [List.append_nil] at bnd
  obtain ⟨g1, g2, g3, g4, g5⟩ := I1.pin p (List.mem_append_left _ hp)
  refine wpAny_call (codeAny_mono (F.run X.A X.stack s1 H1 us vs Q p c d hr ⟨g1, g2, fun hm => (List.mem_cons.mp (I1.stkSub p.1 hm)).elim g3 g4, g5⟩ hc I1.env0 bnd r h1) fun res s2 hq => ?_)
  cases res with
  | error u => exact hq.elim
  | ok fl =>
    cases fl with
    | ret u => exact I1.after hq
    | next => exact hq.elim
    | brk => exact hq.elim
    | cont => exact hq.elim
theorem pe_callZ {a : Addr} {oe : Obj} (F : FnZ X.prog X.w X.K X.mg X.base k f fd ps sp) (hr : RoomH k X.A) (hp : (a, oe) ∈ X.pn) (hz : Zc c d oe) (hf : ∃ vs, oe.data = .fields vs) (hg : Gl X x) (hm : X.mg x = some (.ref f)) (hk : PySem.W.keepIn X.K (.ref f) = true) (hb : Binds X.K fd ps [])
    (ha : PA X (e :: es) t) (hdb : (x == ("__debug__" : Str)) = false := by decide) (he : starEach (e :: es) X.env = (false, eval e X.env) :: starEach es X.env := by rfl) (hpl : (backTo pos (starEach es X.env)).any (·.1) = false := by rfl) :
    PE X (.Call (.Name x q) (e :: es) [] pos) (tCall (sp a c d) [] E0 t) := pe_callZ0 F hr hp ⟨hz, hf⟩ hg hm hk hb ha hdb he hpl
end
/-- isinstance(e, c) within the suite, e's class told by what is asked -/
def rIsY (K : PySem.W.Frag) (a : Addr) (c : Value) (d : Option Addr) : List V → Hp → VK → Prop := fun xs H Q => ∃ D, c = .ref D ∧ ExcC K D ∧ rIsZ K D a d xs H Q
theorem call_isY {X : Cx} {K : PySem.W.Frag} {a : Addr} {oe : Obj} {c : Value} {d : Option Addr} (hK : X.K = K) (hp : (a, oe) ∈ X.pn) (hz : Zc c d oe) (hf : ∃ vs, oe.data = .fields vs) : CallR X (.builtin "isinstance") (rIsY K a c d) := by
  subst hK
  intro pins s σ H xs us Q I r h
  obtain ⟨D, rfl, T, h⟩ := h
  exact call_isZ T hp ⟨hz, hf⟩ pins s σ H xs us Q I r h
end Ef
set_option Elab.async false
set_option linter.all false
set_option maxRecDepth 100000
set_option maxHeartbeats 2000000
/-! in, not, bool(..) by a class's own methods; a class that a local name holds, called -/
namespace Ef
open PySem PySem.Spec PyProof.Rows L2
/-- the class at C has its own method m: the def at f, which keeps sp -/
structure Own (P : Program) (w : World) (K : PySem.W.Frag) (mg : Str → Option Value) (base : Heap) (k : Nat) (C : Addr) (m : Str) (ps : List Str) (sp : Sp) : Prop where
  ex : ∃ f fd, PySem.W.findIn K (.ref C) m = some (some (.ref f)) ∧ PySem.W.isFn K (.ref f) = true ∧ PySem.W.typeIn K (.ref f) = some (.type "function") ∧ PySem.W.keepIn K (.ref f) = true ∧ Binds K fd ps [] ∧ FnOk P w K mg base CX0 k f fd ps sp
section
variable {X : Cx} {pins : List (Addr × Obj)} {σ : L2.St} {H : Hp} {s : Shared} {Q : VK} {k : Nat} {C a dx : Addr} {fs : List (Str × V)} {m : Str} {ps : List Str} {sp : Sp} {A : Around} {E' : Value → Shared → Prop}
/-- the call of a def from below the body that runs -/
theorem run_low {f : Addr} {fd : FuncData} {us : List Value} {vs : List V} (F : FnOk X.prog X.w X.K X.mg X.base CX0 k f fd ps sp) (hr : Room k A) (hfr : A.frames = X.A.frames) (hb : Binds X.K fd ps []) (I : Inv X pins σ H s) (r : Vals vs us) (h : sp vs H Q E0) :
    wpAny (model X.prog X.w) A (call (.ref f) us) (EP X pins σ Q) E' s := by
  have e0 : Env0 X.prog X.w X.K X.mg X.base A X.stack s H := by
    have e := I.env0
    exact ⟨hfr.trans e.frames, e.mod, e.bs, e.bsz, e.funs, e.frf, e.hok, e.bare⟩
  have hl : (us ++ []).length = ps.length := by rw [List.append_nil, ← r.length]; exact F.len _ _ _ _ h
  have hbt := hb s us I.kIn hl
  rw [List.append_nil] at hbt
  refine wpAny_call (codeAny_mono (F.run A X.stack s H ⟨us, []⟩ us vs Q E0 hr e0 hbt r h) fun res s' hq => ?_)
  cases res with
  | error e => exact False.elim hq
  | ok fl =>
    cases fl with
    | ret u => exact I.after hq
    | next => exact False.elim hq
    | brk => exact False.elim hq
    | cont => exact False.elim hq
/-- callSpecial? of such a method -/
theorem own_special {args : List Value} {vs : List V} {R : Option Value → Shared → Prop} (O : Own X.prog X.w X.K X.mg X.base k C m ps sp) (hr : Room k A) (hfr : A.frames = X.A.frames) (I : Inv X pins σ H s) (ea : H a = some (.ins C dx fs)) (r : Vals vs args)
    (h : sp (.ref a :: vs) H Q E0) (hR : ∀ u s', EP X pins σ Q u s' → R (some u) s') : wpAny (model X.prog X.w) A (callSpecial? (.ref a) m args) R E' s := by
  obtain ⟨f, fd, hf, hi, ht, hk, hb, F⟩ := O.ex
  obtain ⟨mA, OM, _⟩ := ins_get I.hok ea
  obtain ⟨od, J, _⟩ := OM.look
  refine PySem.W.special_fn I.kIn J hf ht ?_
  exact wpAny_mono (run_low (us := .ref a :: args) (vs := .ref a :: vs) F hr hfr hb I (.cons rfl r) h) (fun u s' z => hR u s' z) fun _ _ z => z
theorem own_unless {args : List Value} {vs : List V} {refuse : Sem Value} {R : Option Value → Shared → Prop} (O : Own X.prog X.w X.K X.mg X.base k C m ps sp) (hr : Room k A) (hfr : A.frames = X.A.frames) (I : Inv X pins σ H s) (ea : H a = some (.ins C dx fs)) (r : Vals vs args)
    (h : sp (.ref a :: vs) H Q E0) (hR : ∀ u s', EP X pins σ Q u s' → R (some u) s') : wpAny (model X.prog X.w) A (callSpecialUnlessNone? (.ref a) m args refuse) R E' s := by
  obtain ⟨f, fd, hf, hi, ht, hk, hb, F⟩ := O.ex
  obtain ⟨mA, OM, _⟩ := ins_get I.hok ea
  obtain ⟨od, J, _⟩ := OM.look
  unfold callSpecialUnlessNone? specialOf
  refine wpAny_bind (wpAny_bind (J.type.here ((PySem.W.looks_findIn I.kIn hf).here ?_)))
  refine wpAny_holding (wpAny_bind ((PySem.W.bind_fn I.kIn _ ht).here ?_))
  show wpAny _ _ (if (Value.ref f == Value.none) = true then _ else _) _ _ _
  rw [if_neg (show ¬ ((Value.ref f == Value.none) = true) from Bool.false_ne_true)]
  refine wpAny_bind (wpAny_mono (run_low (us := .ref a :: args) (vs := .ref a :: vs) F hr hfr hb I (.cons rfl r) h) (fun u s' z => wpAny_pure (hR u s' z)) fun _ _ z => z)
/-- x in o, x not in o, by o's own __contains__ -/
def rOwnIn (C : Addr) (sp : Sp) (neg : Bool) : R2 := fun x y H Q => ∃ (a dx : Addr) (fs : List (Str × V)), y = .ref a ∧ H a = some (.ins C dx fs) ∧ sp [.ref a, x] H (fun v H' => ∃ b, v = .bl b ∧ Q (.bl (if neg = true then !b else b)) H') E0
theorem contains_own {x : V} {u : Value} {R : Bool → Shared → Prop} {Qb : Bool → Hp → Prop} (O : Own X.prog X.w X.K X.mg X.base k C "__contains__" ps sp) (hr : Room k A) (hfr : A.frames = X.A.frames) (I : Inv X pins σ H s) (ea : H a = some (.ins C dx fs)) (r : RelV x u)
    (h : sp [.ref a, x] H (fun v H' => ∃ b, v = .bl b ∧ Qb b H') E0) (hR : ∀ b H' s', Inv X pins σ H' s' → Qb b H' → R b s') : wpAny (model X.prog X.w) A (contains (.ref a) u) R E' s := by
  obtain ⟨f, fd, hf, _⟩ := id O.ex
  obtain ⟨mA, OM, _⟩ := ins_get I.hok ea
  obtain ⟨od, J, _⟩ := OM.look
  unfold contains
  refine wpAny_holding ?_
  have e1 : stdlibNamesSay? (.ref a) u = none := by cases u <;> rfl
  rw [e1]
  dsimp only
  refine wpAny_bind ?_
  unfold specialOf
  refine wpAny_bind (J.type.here ((PySem.W.looks_findIn I.kIn hf).here ?_))
  show wpAny _ _ (if (some (Value.ref f) == some Value.none) = true then _ else _) _ _ _
  rw [if_neg (show ¬ ((some (Value.ref f) == some Value.none) = true) from Bool.false_ne_true)]
  refine wpAny_bind (own_unless (vs := [x]) O hr hfr I ea (.cons r .nil) h fun w' s' hz => ?_)
  obtain ⟨v, H', I', rv, b, rfl, q⟩ := hz
  cases rv
  exact wpAny_truthy_bool (hR b H' s' I' q)
theorem op_in_own (O : Own X.prog X.w X.K X.mg X.base k C "__contains__" ps sp) (hr : Room k X.A) : OpR X (compareOp .In) (rOwnIn C sp false) := by
  intro pins s σ H x y v u Q I rx ry h
  obtain ⟨a, dx, fs, rfl, ea, q⟩ := h
  cases ry
  show wpAny _ _ (contains (.ref a) v >>= fun z => pure (Value.bool z)) _ _ _
  exact wpAny_bind (contains_own O hr rfl I ea rx q fun b H' s' I' z => wpAny_pure ⟨.bl b, H', I', rfl, z⟩)
theorem op_notin_own (O : Own X.prog X.w X.K X.mg X.base k C "__contains__" ps sp) (hr : Room k X.A) : OpR X (compareOp .NotIn) (rOwnIn C sp true) := by
  intro pins s σ H x y v u Q I rx ry h
  obtain ⟨a, dx, fs, rfl, ea, q⟩ := h
  cases ry
  show wpAny _ _ (contains (.ref a) v >>= fun z => pure (Value.bool (!z))) _ _ _
  exact wpAny_bind (contains_own O hr rfl I ea rx q fun b H' s' I' z => wpAny_pure ⟨.bl (!b), H', I', rfl, z⟩)
/-- truth by an own __bool__ -/
theorem truthy_own {R : Bool → Shared → Prop} {Qb : Bool → Hp → Prop} (O : Own X.prog X.w X.K X.mg X.base k C "__bool__" ps sp) (hr : Room k A) (hfr : A.frames = X.A.frames) (I : Inv X pins σ H s) (ea : H a = some (.ins C dx fs))
    (h : sp [.ref a] H (fun v H' => ∃ b, v = .bl b ∧ Qb b H') E0) (hR : ∀ b H' s', Inv X pins σ H' s' → Qb b H' → R b s') : wpAny (model X.prog X.w) A (truthy (.ref a)) R E' s := by
  unfold truthy
  refine wpAny_bind (own_special (vs := []) (args := []) O hr hfr I ea .nil h fun w' s' hz => ?_)
  obtain ⟨v, H', I', rv, b, rfl, q⟩ := hz
  cases rv
  exact wpAny_pure (hR b H' s' I' q)
def rOwnTr (C : Addr) (sp : Sp) : V → Hp → (Bool → Hp → Prop) → Prop := fun x H Q => ∃ (a dx : Addr) (fs : List (Str × V)), x = .ref a ∧ H a = some (.ins C dx fs) ∧ sp [.ref a] H (fun v H' => ∃ b, v = .bl b ∧ Q b H') E0
/-- not o -/
theorem un_not_own (O : Own X.prog X.w X.K X.mg X.base k C "__bool__" ps sp) (hr : Room k X.A) : UnR X (unaryOp .Not) (fun x H Q => rOwnTr C sp x H fun b H' => Q (.bl (!b)) H') := by
  intro pins s σ H x v Q I rx h
  obtain ⟨a, dx, fs, rfl, ea, q⟩ := h
  cases rx
  unfold unaryOp
  refine wpAny_holding ?_
  show wpAny _ _ (truthy (.ref a) >>= fun z => pure (Value.bool (!z))) _ _ _
  exact wpAny_bind (truthy_own O hr rfl I ea q fun b H' s' I' z => wpAny_pure ⟨.bl (!b), H', I', rfl, z⟩)
theorem mono_truthy {M : Model} {E1 : Value → Shared → Prop} {x : Value} {R R' : Bool → Shared → Prop} (h : wpAny M A (truthy x) R E1 s) (hR : ∀ b s', R b s' → R' b s') : wpAny M A (truthy x) R' E1 s := wpAny_mono h (fun b s' z => hR b s' z) fun _ _ z => z
theorem bool_new_in (prog : Program) (w : World) (a : Addr) : MeetsIn prog w (Builtin.«bool.__new__» ⟨[.type "bool", .ref a], []⟩)
    (fun A R s => wpAny (model prog w) A.in1 (truthy (.ref a)) (fun b s' => R (.ok (.ret (.bool b))) s') (fun e s' => R (.error e) s') s) :=
  MeetsIn.of_wp fun A R s hs => by
    have f1 := F.conv_sub_bool
    repeat (any_goals (first | (with_reducible refine mono_truthy hs fun b s' hz => ?_) | wp_step))
    all_goals first | exact ⟨_, rfl, by assumption⟩ | skip
/-- bool(o) -/
theorem call_bool_own (O : Own X.prog X.w X.K X.mg X.base k C "__bool__" ps sp) (hr : Room (k + 2) X.A) : CallR X (.type "bool") (fun xs H Q => ∃ x, xs = [x] ∧ rOwnTr C sp x H fun b H' => Q (.bl b) H') := by
  intro pins s σ H xs us Q I r h
  obtain ⟨x, rfl, a, dx, fs, rfl, ea, q⟩ := h
  obtain rfl := Vals.ref1 r
  refine callType_newIn F.called_bool F.newNe_bool (F.typeCall_bool_1 _) (F.newCall_bool_1 _) (fun obj => F.args_object_init_2 obj _) F.entry_bool_new (bool_new_in X.prog X.w a) ?_
  exact truthy_own O hr.in1.in1 rfl I ea q fun b H' s' I' z => ⟨rfl, .bl b, H', I', rfl, z⟩
/-- C(e, ..) by a local name that holds the class -/
def tMakeL (i : Nat) (C : Addr) (sp : Sp) (t : TA) : TE := fun σ H Q => σ[i]? = some (some (.ref C)) ∧ tMake C sp [] E0 t σ H Q
theorem pe_makeL {f : Addr} {fd : FuncData} {i : Nat} {x : Str} {p pos : Pos} {e : Expr} {es : List Expr} {t : TA} (M : Mk X.K C f) (F : FnOk X.prog X.w X.K X.mg X.base CX0 k f fd ps sp) (hr : Room (k + 1) X.A) (hb : Binds X.K fd ps []) (ha : PA X (e :: es) t)
    (hN : X.N[i]? = some x := by rfl) (hv : Vis X.env.scope x := by first | exact Or.inl rfl | exact Or.inr (Or.inl rfl) | exact Or.inr (Or.inr rfl))
    (hdb : (x == ("__debug__" : Str)) = false := by decide) (hcd : (x == ("__classdict__" : Str)) = false := by decide)
    (hst : starEach (e :: es) X.env = (false, eval e X.env) :: starEach es X.env := by rfl) (hpl : (backTo pos (starEach es X.env)).any (·.1) = false := by rfl) : PE X (.Call (.Name x p) (e :: es) [] pos) (tMakeL i C sp t) := by
  refine ⟨fun pins s σ H Q I h => ?_⟩
  obtain ⟨hs, ht⟩ := h
  have hx := pe_var (X := X) (pos := p) hN hv hdb hcd
  refine wpAny_Call_Name_kw (thn (hx.run pins s σ H (fun v H1 => v = .ref C ∧ H1 = H) I ⟨.ref C, hs, rfl, rfl⟩) fun u s1 ⟨v, H1, I1, r1, q1⟩ => ?_)
  obtain ⟨rfl, rfl⟩ := q1
  cases r1
  exact PySem.W.callWith_K (h₀ := X.base) I.ok.mod.kin M.kp (thn (ha.run pos pins s1 σ _ _ I1 ht) fun us s2 ⟨vs, H2, I2, r, q⟩ => ⟨I2.kIn, run_make M F hr hb .nil pass0 I2 r q⟩) hst hpl
end
end Ef
set_option Elab.async false
set_option linter.all false
set_option maxRecDepth 100000
set_option maxHeartbeats 2000000
/-! an own error without any arguments; // by any divisor -/
namespace Ef
open PySem PySem.Spec PyProof.Rows L2
section
variable {X : Cx} {C : Addr} {bmB : List Value} {B newId initId : String}
/-- raise X(), X without an __init__ of its own -/
theorem pmk_none {x : Str} {p pos : Pos} (F : ExcBaseFacts B newId initId bmB) (q : PySem.W.excIn X.K C bmB newId = true) (gC : X.mg x = some (.ref C)) (kC : PySem.W.keepIn X.K (.ref C) = true) (r : Raises X (.ref C)) (hg : Gl X x) (hdb : (x == ("__debug__" : Str)) = false := by decide) :
    PMk X (.Call (.Name x p) [] [] pos) (fun _ H Q => Q (.ref C) none H) := fun pins s σ H Q I h => by
  refine wpAny_Call_Name_kw (ld_glob I hg gC (PySem.W.callWith_K0 I.kIn kC ?_) hdb)
  show wpAny _ _ (call (.ref C) []) _ _ _
  obtain ⟨bm, N, nm, qn, bs, hdct, sn, sub, ab, col, dd, k0, k1, k2, k3, k5, mN, hC, hN, hni, T⟩ := exc_obj I.kIn q
  exact wpAny_call_exc_subT F T hC hN hni (fun h' e hm => mk_of I hm r h (I.hok.gone hm.new)) (Nat.zero_le _)
/-- // by a divisor of any sign -/
def CDivZ (_ j : Int) : Prop := j ≠ 0 ∧ j.natAbs.log2 < 9000
theorem op_fdivZ : OpR X (binaryOp .FloorDiv) (rI CDivZ fun i j => .int (i.fdiv j)) := opI fun i j _ _ _ _ _ hc q => floordiv_int hc.1 q (.inl (PyProof.noPylong_of_log2 hc.2))
theorem wide_divZ {i j : Int} {b : Nat} (h : j ≠ 0) (hb : j.natAbs < 2 ^ b) (h0 : 0 < b) (h9 : b ≤ 9000) : CDivZ i j := ⟨h, Nat.lt_of_lt_of_le (PySem.Flt.log2_lt_of h0 hb) h9⟩
end
end Ef
set_option Elab.async false
set_option linter.all false
set_option maxRecDepth 100000
set_option maxHeartbeats 2000000
/-! try with several clauses, each with a name -/
namespace Ef
open PySem PySem.Spec PyProof.Rows L2
abbrev AsC := Value × Nat × (Addr → Value → Option Addr → TS)
/-- the ends of a named clause: its name is gone behind it -/
def EndsAs (i : Nat) (D : Ends) : Ends := { nx := fun σ' H' => D.nx (σ'.set i none) H', rt := D.rt, bk := fun σ' H' => D.bk (σ'.set i none) H', ct := fun σ' H' => D.ct (σ'.set i none) H' }
def wAsL (K : PySem.W.Frag) (Wout : WX) (D : Ends) : List AsC → WX
  | [] => Wout
  | (c, i, ts) :: r => fun cls d σ H => ∃ b, PySem.W.exmOne K cls c = some b ∧ (b = true → ∀ a, H a = none → ts a cls d (EndsAs i D) (σ.set i (some (.ref a))) H) ∧ (b = false → wAsL K Wout D r cls d σ H)
inductive HdsAs (X : Cx) : List ExceptHandler → List AsC → Prop
  | nil : HdsAs X [] []
  | cons {x n : Str} {c : Value} {i : Nat} {ts : Addr → Value → Option Addr → TS} {b₀ : Stmt} {suite : List Stmt} {np pos' : Pos} {hds : List ExceptHandler} {l : List AsC}
      (hi : X.N[i]? = some n) (hln : X.env.kindOf n = some NameKind.local) (hc : Names X x c)
      (hsu : ∀ (a : Addr) (oe : Obj) (cls : Value) (d : Option Addr) (pn : List (Addr × Obj)), Zc cls d oe → (∃ vs, oe.data = Data.fields vs) → PSs (X.suite a ((a, oe) :: pn)) (b₀ :: suite) (ts a cls d))
      (r : HdsAs X hds l) : HdsAs X (ExceptHandler.ExceptHandler (some (Expr.Name x np)) (some n) (b₀ :: suite) pos' :: hds) ((c, i, ts) :: l)
/-- what stands when a clause is looked for -/
structure LandAs (X : Cx) (pins : List (Addr × Obj)) (σ : L2.St) (H : Hp) (sI : Shared) (B : Heap) (a : Addr) (cls : Value) (d : Option Addr) (s : Shared) : Prop where
  J : Inv X pins σ H sI
  nb : ∀ (b : Addr) (o : Obj), sI.heap.get? b = some o → ¬b ∈ frs X.stack → B.get? b = some o
  up : sI.heap.UpToSlots s.heap
  fl : PySem.HandSPX.FlyingZ B (X.env :: X.outer) a (Zc cls d) s.heap
  na : H a = none
  os : s.os = sI.os
  ag : PyProof.Rows.AllBare s.gens
theorem handle_as {X : Cx} {pins : List (Addr × Obj)} {σ : L2.St} {H : Hp} {sI : Shared} {B : Heap} {a : Addr} {cls : Value} {d : Option Addr} {D : Ends} {Wout : WX} (hs : X.stack = X.env :: X.outer) (hf : X.env.frame = some X.env.locals) (hN : X.N.Nodup) (tk : Takes X Wout) :
    ∀ {hds : List ExceptHandler} {l : List AsC}, HdsAs X hds l → ∀ {s : Shared}, LandAs X pins σ H sI B a cls d s → wAsL X.K Wout D l cls d σ H →
      wpAny (model X.prog X.w) X.A (handleBy (.ref a) X.env hds) (SP X pins D) X.xe s := by
  intro hds l hh
  induction hh with
  | nil =>
    intro s L h
    have k := id L.fl
    obtain ⟨k1, k2, k3, oe, vs, T, oT, ts', he, hz, hd, h1, hr⟩ := k
    refine wpAny_handleBy_nil ?_
    refine wpAny_bind (wpAny_field he hd h1 ?_)
    rw [if_neg (by simp)]
    refine wpAny_bind ?_
    rw [hf]
    refine PySem.HandSPX.setFlight_upZ L.fl fun h4 hh4 up4 => wpAny_throw (tk _ _ ⟨a, B, sI, pins, σ, H, cls, d, rfl, L.J, L.nb, Heap.UpToSlots.trans L.up up4, Or.inr (Or.inr (by rw [hs]; exact hh4)), L.na, L.os, L.ag, h⟩)
  | @cons x n c i ts b₀ suite np pos' hds l hi hln hc hsu r ih =>
    intro s L h
    have ok := L.J.ok
    have hloc : L2.Loc X.env.scope n := Or.inl hln
    have J3 := Inv.landed L.J L.nb L.fl.1 L.up L.os L.ag
    obtain ⟨oe3, vs3, he3, hz3, hd3⟩ := L.fl.there
    have notFr : ∀ {h' : Heap} {oe : Obj} {vs : Array Value}, h'.FunFrames B (X.env :: X.outer) → h'.get? a = some oe → oe.data = Data.fields vs → a ∉ List.filterMap (fun (x : Env) => x.frame) (X.env :: X.outer) := fun ff e dd hm => by
      obtain ⟨_, o', e', hnf⟩ := Heap.FunFrames.mem ff hm
      rw [e] at e'
      cases e'
      exact hnf _ dd
    have nfr := notFr L.fl.2.2.1 he3 hd3
    have nL : a ≠ X.env.locals := fun z => nfr (List.mem_filterMap.mpr ⟨X.env, List.mem_cons_self, by rw [hf, z]⟩)
    have nF : a ∉ X.fs := fun hm => by
      obtain ⟨e, he, q⟩ := List.mem_filterMap.mp hm
      exact nfr (List.mem_filterMap.mpr ⟨e, List.mem_cons_of_mem _ he, q⟩)
    have S3 := Inv.suite J3 he3 hd3 L.na nL nF
    obtain ⟨b, hb1, hyes, hno⟩ := h
    refine wpAny_handleBy_cons (codeAny_handlers_test ?_) (fun q => nomatch q)
    have LM : PySem.W.Looks (model X.prog X.w) s.heap (excMatches (.ref a) c) b := PySem.W.exm_one J3.kIn (fun A Q E s k q => wpAny_typeOf_ref (k a oe3 he3) (by rw [hz3.1]; exact q)) hb1
    have test : ∀ {Q E}, Q c s → wpAny (model X.prog X.w) (X.suite a ((a, oe3) :: (X.pn ++ pins))).A (eval (.Name x np) X.env) Q E s := fun {Q E} q => by
      obtain ⟨hg, hdbg, hm | ⟨hm, hv, hnn⟩⟩ := hc
      · exact ld_glob S3 hg hm q hdbg
      · exact ld_blt S3 hg hm hv q hnn hdbg
    refine test (LM.here ?_)
    cases b with
    | false => exact ih L (hno rfl)
    | true =>
      refine codeAny_handlers_suite_as (PySem.HandSPX.lands_againZ L.fl fun h4 fl4 up4 => ?_)
      have J4 := Inv.landed (s' := { s with heap := h4 }) L.J L.nb fl4.1 (Heap.UpToSlots.trans L.up up4) L.os L.ag
      obtain ⟨oe4, vs4, he4, hz4, hd4⟩ := fl4.there
      have S4 := Inv.suite J4 he4 hd4 L.na nL nF
      refine store_ok (X := X.suite a ((a, oe4) :: (X.pn ++ pins))) (pins := []) (v := .ref a) S4 hN hi hloc rfl (fun s5 S5 => wpAny_mono ((hsu a oe4 cls d (X.pn ++ pins) hz4 ⟨vs4, hd4⟩).run [] s5 (σ.set i (some (.ref a))) H (EndsAs i D) S5 (hyes rfl a L.na)) (fun f s6 hsp => ?_) fun _ _ z => False.elim z) (Or.inr hln)
      have end_ : ∀ {σ6 : L2.St} {H6 : Hp} {Q : Unit → Shared → Prop}, Inv (X.suite a ((a, oe4) :: (X.pn ++ pins))) [] σ6 H6 s6 → (∀ s7, Inv X pins (σ6.set i none) H6 s7 → Q () s7) → wpAny (model X.prog X.w) X.A (do bindName X.env n Value.none; unbindBehindTheSuite X.env n pos') Q X.xe s6 := fun S6 hq => gone_ok (Inv.unsuite S6 ok) hN hi hln hq
      cases f with
      | next => obtain ⟨σ6, H6, S6, q6⟩ := hsp; exact end_ S6 fun s7 J7 => ⟨_, _, J7, q6⟩
      | brk => obtain ⟨σ6, H6, S6, q6⟩ := hsp; exact end_ S6 fun s7 J7 => ⟨_, _, J7, q6⟩
      | cont => obtain ⟨σ6, H6, S6, q6⟩ := hsp; exact end_ S6 fun s7 J7 => ⟨_, _, J7, q6⟩
      | ret u => obtain ⟨v6, σ6, H6, S6, r6, q6⟩ := hsp; exact end_ S6 fun s7 J7 => ⟨v6, _, _, J7, r6, q6⟩
theorem ps_try_asL {X : Cx} {h₀ : ExceptHandler} {hds : List ExceptHandler} {l : List AsC} {body : List Stmt} {pos : Pos} {tb : WX → TS} {Wout : WX} (hs : X.stack = X.env :: X.outer) (hf : X.env.frame = some X.env.locals) (hN : X.N.Nodup) (tk : Takes X Wout)
    (hb : ∀ (W : WX) (pn : List (Addr × Obj)) (xe : Value → Shared → Prop), Takes (X.tr pn xe) W → PassesOwn (model X.prog X.w) X.A X.env xe → PSs (X.tr pn xe) body (tb W)) (hh : HdsAs X (h₀ :: hds) l) :
    PS X (.Try body (h₀ :: hds) [] [] pos) fun D σ H => tb (wAsL X.K Wout D l) D σ H := by
  refine ⟨fun pins s σ H D I h => ?_⟩
  have ok := I.ok
  have hfr : X.A.frames = some (X.env :: X.outer) := by rw [ok.frames, hs]
  refine wpAny_Try_except (wpAny_mono ((hb (wAsL X.K Wout D l) (X.pn ++ pins) _ (fun u s' xx => ?_) PassesOwn.looking).run [] s σ H D (Inv.toTry I _) h) (fun f s1 hsp => ?_) fun e s1 he => he)
  · obtain ⟨a, B, sI, pins', σ', H', cls, d, rfl, J', nb, up, sky, na, os, ag, hw⟩ := xx
    have J := Inv.ofTry J' ok
    have sky' : Sky B (X.env :: X.outer) a (Zc cls d) X.env.locals s'.heap := by rw [← hs]; exact sky
    exact Sky.land Zc.steady hfr hf sky' fun h3 fl3 up3 => handle_as hs hf hN tk hh ⟨J, nb, Heap.UpToSlots.trans up up3, fl3, na, os, ag⟩ hw
  · cases f with
    | next => obtain ⟨σ', H', J', q⟩ := hsp; exact wpAny_execs_nil ⟨σ', H', Inv.ofTry J' ok, q⟩
    | brk => obtain ⟨σ', H', J', q⟩ := hsp; exact ⟨σ', H', Inv.ofTry J' ok, q⟩
    | cont => obtain ⟨σ', H', J', q⟩ := hsp; exact ⟨σ', H', Inv.ofTry J' ok, q⟩
    | ret u => obtain ⟨v, σ', H', J', r, q⟩ := hsp; exact ⟨v, σ', H', Inv.ofTry J' ok, r, q⟩
end Ef
set_option Elab.async false
set_option linter.all false
set_option maxRecDepth 100000
set_option maxHeartbeats 4000000
namespace Ef
open PySem PySem.Spec PyProof.Rows L2 L2H
def names0 : List Str := [("BadRow" : Str), ("BadUnder" : Str), ("BadPlace" : Str), ("NotWhole" : Str), ("BadNumber" : Str), ("NoDivisor" : Str), ("BadTruth" : Str), ("NoMember" : Str), ("TooHigh" : Str), ("TooFine" : Str), ("TooLate" : Str), ("BadWhole" : Str), ("BadPower" : Str), ("Undefined" : Str), ("NoPieces" : Str), ("BadPiece" : Str), ("BadBegin" : Str), ("BadTest" : Str), ("BadStep" : Str), ("BadMember" : Str), ("TooFew" : Str), ("NoFormula" : Str), ("NoValue" : Str), ("NoBound" : Str), ("TooMany" : Str), ("BadText" : Str), ("BadName" : Str), ("UnknownName" : Str), ("Circle" : Str), ("Refused" : Str), ("Broken" : Str), ("InUse" : Str), ("NoSteps" : Str), ("BadLine" : Str)]
def flds0 : List (List Str) := [([("index" : Str)] : List Str), ([("under" : Str)] : List Str), ([("n" : Str)] : List Str), ([("n" : Str)] : List Str), ([("number" : Str)] : List Str), ([] : List Str), ([("index" : Str)] : List Str), ([("k" : Str)] : List Str), ([("most" : Str)] : List Str), ([("most" : Str)] : List Str), ([("most" : Str)] : List Str), ([("value" : Str)] : List Str), ([("k" : Str)] : List Str), ([("n" : Str)] : List Str), ([] : List Str), ([("index" : Str)] : List Str), ([] : List Str), ([] : List Str), ([] : List Str), ([("index" : Str)] : List Str), ([("have" : Str), ("want" : Str)] : List Str), ([("n" : Str)] : List Str), ([] : List Str), ([("n" : Str)] : List Str), ([("what" : Str), ("many" : Str), ("most" : Str)] : List Str), ([("at" : Str)] : List Str), ([("name" : Str)] : List Str), ([("name" : Str)] : List Str), ([("name" : Str)] : List Str), ([("name" : Str), ("why" : Str)] : List Str), ([("name" : Str), ("n" : Str)] : List Str), ([("name" : Str), ("by" : Str)] : List Str), ([] : List Str), ([("line" : Str), ("why" : Str)] : List Str)]
def allF0 : List Str := [("at" : Str), ("by" : Str), ("have" : Str), ("index" : Str), ("k" : Str), ("line" : Str), ("many" : Str), ("most" : Str), ("n" : Str), ("name" : Str), ("number" : Str), ("under" : Str), ("value" : Str), ("want" : Str), ("what" : Str), ("why" : Str)]
/-- an error's fields are told by its dict -/
def Keeps (fl : List Str) (ws : List V) (fs : List (Str × V)) : Prop := ∀ (j : Nat) (f : Str), fl[j]? = some f → ∃ v, ws[j]? = some v ∧ fs.lookup f = some v
/-- what an __init__ of an error promises -/
def spErrL (C : Addr) (fl : List Str) : Sp := fun vs H Q _ => ∃ (a : Addr) (ws : List V), vs = .ref a :: ws ∧ ws.length = fl.length ∧ H a = some (exo a C none) ∧
  ∀ (dx : Addr) (fs : List (Str × V)) (H' : Hp), H dx = none → dx ≠ a → H' a = some (exo a C (some dx)) → H' dx = some (exd dx fs) → (∀ b, b ≠ a → b ≠ dx → H' b = H b) → Keeps fl ws fs → Q .non H'
/-- the error with these fields flies -/
def Flown (fl : List Str) (ws : List V) (d : Option Addr) (H : Hp) : Prop := (fl = [] ∧ d = none) ∨ ∃ (dd : Addr) (fs : List (Str × V)), d = some dd ∧ H dd = some (.xd fs) ∧ Keeps fl ws fs
theorem mk_errL {C : Addr} {fl : List Str} {H : Hp} {ws : List V} {R : XK} (hl : ws.length = fl.length) (h3 : ws.length ≤ 3) (h : ∀ d H', Same H H' → Flown fl ws d H' → R (.ref C) d H') :
    ws.length ≤ 1000 ∧ ∀ a, H a = none → spErrL C fl (.ref a :: (ws ++ [])) (upd H a (exo a C none)) (fun v H2 => v = .non ∧ ∃ (d : Addr) (fs : List (Str × V)), H2 a = some (exo a C (some d)) ∧ H2 d = some (exd d fs) ∧ H d = none ∧ R (.ref C) (some d) (upd (del H2 a) d (.xd fs))) (fun _ _ _ => False) := by
  refine ⟨by omega, fun a ha => ⟨a, ws, by rw [List.append_nil], hl, upd_same, fun dx fs H2 h1 h2 e1 e2 fr kp => ⟨rfl, dx, fs, e1, e2, ?_, ?_⟩⟩⟩
  · rw [upd_ne h2] at h1; exact h1
  · have hdx : H dx = none := by rw [upd_ne h2] at h1; exact h1
    refine h (some dx) _ (fun b o e => ?_) (.inr ⟨dx, fs, rfl, upd_same, kp⟩)
    have nb : b ≠ dx := ne_of_none e hdx
    have na : b ≠ a := ne_of_none e ha
    rw [upd_ne nb]
    unfold del
    rw [if_neg na, fr b na nb, upd_ne na]
    exact e
/-- what the text has of an error with fields -/
structure ErrA (P : Program) (w : World) (K : PySem.W.Frag) (mg : Str → Option Value) (base : Heap) (x : Str) (fl : List Str) (C : Addr) : Prop where
  oex : OexC K C
  mgC : mg x = some (.ref C)
  ini : ∃ (fI : Addr) (fd : FuncData), PySem.W.findIn K (.ref C) "__init__" = some (some (.ref fI)) ∧ PySem.W.typeIn K (.ref fI) = some (.type "function") ∧ FnOk P w K mg base CX0 1 fI fd ("self" :: fl) (spErrL C fl) ∧ Binds K fd ("self" :: fl) []
/-- of one without -/
structure ErrB (K : PySem.W.Frag) (mg : Str → Option Value) (x : Str) (C : Addr) : Prop where
  ex : PySem.W.excIn K C [.type "ValueError", .type "Exception", .type "BaseException", .type "object"] "ValueError.__new__" = true
  g : mg x = some (.ref C)
  k : PySem.W.keepIn K (.ref C) = true
  b : PySem.W.subIn K (.ref C) (.type "BaseException") = some true
  t : PySem.W.typeIn K (.ref C) = some (.type "type")
section
variable {P : Program} {w : World} {K : PySem.W.Frag} {mg : Str → Option Value} {base : Heap}
abbrev sE0 : Stmt := inClass (top 2) 0
theorem scE0 : FnScope ["self", "index"] ["self", "index"] (defScope sE0) := ⟨rfl, rfl, rfl, by decide +kernel, rfl, by decide +kernel, by decide +kernel⟩
theorem okE0 {f C : Addr} {fd : FuncData} (F : L2.Fun K "__init__" "BadRow.__init__" sE0 f fd) (T : OexC K C) (n0 : PySem.W.findIn K (.ref C) "index" = some none) : FnOk P w K mg base CX0 1 f fd ["self", "index"] (spErrL C ["index"]) := by
  refine F.ok scE0 (fun vs H Q E h => ?_) (fun cdv A outer s H vs Q E hr h => ?_)
  · obtain ⟨a, ws, rfl, hl, _⟩ := h
    show ws.length + 1 = _; rw [hl]; rfl
  · obtain ⟨a, ws, rfl, hl, ha, q⟩ := h
    match ws, hl with
    | [v0], _ =>
      refine ⟨_, (pss_one (ps_ost (pv 0) (pv 1))), ?_⟩
      exact ⟨_, rfl, _, rfl, a, C, rfl, T, n0, .inl ⟨ha, fun dx h1 h2 => q dx _ _ h1 h2 upd_same (by rw [upd_ne h2, upd_same]) (fun b k1 k2 => by rw [upd_ne k1, upd_ne k2]) fun j f hj => by match j, hj with | 0, hj => (cases hj; exact ⟨v0, rfl, by rw [lookup_put, if_pos rfl]⟩)⟩⟩
abbrev sE1 : Stmt := inClass (top 3) 0
theorem scE1 : FnScope ["self", "under"] ["self", "under"] (defScope sE1) := ⟨rfl, rfl, rfl, by decide +kernel, rfl, by decide +kernel, by decide +kernel⟩
theorem okE1 {f C : Addr} {fd : FuncData} (F : L2.Fun K "__init__" "BadUnder.__init__" sE1 f fd) (T : OexC K C) (n0 : PySem.W.findIn K (.ref C) "under" = some none) : FnOk P w K mg base CX0 1 f fd ["self", "under"] (spErrL C ["under"]) := by
  refine F.ok scE1 (fun vs H Q E h => ?_) (fun cdv A outer s H vs Q E hr h => ?_)
  · obtain ⟨a, ws, rfl, hl, _⟩ := h
    show ws.length + 1 = _; rw [hl]; rfl
  · obtain ⟨a, ws, rfl, hl, ha, q⟩ := h
    match ws, hl with
    | [v0], _ =>
      refine ⟨_, (pss_one (ps_ost (pv 0) (pv 1))), ?_⟩
      exact ⟨_, rfl, _, rfl, a, C, rfl, T, n0, .inl ⟨ha, fun dx h1 h2 => q dx _ _ h1 h2 upd_same (by rw [upd_ne h2, upd_same]) (fun b k1 k2 => by rw [upd_ne k1, upd_ne k2]) fun j f hj => by match j, hj with | 0, hj => (cases hj; exact ⟨v0, rfl, by rw [lookup_put, if_pos rfl]⟩)⟩⟩
abbrev sE2 : Stmt := inClass (top 4) 0
theorem scE2 : FnScope ["self", "n"] ["self", "n"] (defScope sE2) := ⟨rfl, rfl, rfl, by decide +kernel, rfl, by decide +kernel, by decide +kernel⟩
theorem okE2 {f C : Addr} {fd : FuncData} (F : L2.Fun K "__init__" "BadPlace.__init__" sE2 f fd) (T : OexC K C) (n0 : PySem.W.findIn K (.ref C) "n" = some none) : FnOk P w K mg base CX0 1 f fd ["self", "n"] (spErrL C ["n"]) := by
  refine F.ok scE2 (fun vs H Q E h => ?_) (fun cdv A outer s H vs Q E hr h => ?_)
  · obtain ⟨a, ws, rfl, hl, _⟩ := h
    show ws.length + 1 = _; rw [hl]; rfl
  · obtain ⟨a, ws, rfl, hl, ha, q⟩ := h
    match ws, hl with
    | [v0], _ =>
      refine ⟨_, (pss_one (ps_ost (pv 0) (pv 1))), ?_⟩
      exact ⟨_, rfl, _, rfl, a, C, rfl, T, n0, .inl ⟨ha, fun dx h1 h2 => q dx _ _ h1 h2 upd_same (by rw [upd_ne h2, upd_same]) (fun b k1 k2 => by rw [upd_ne k1, upd_ne k2]) fun j f hj => by match j, hj with | 0, hj => (cases hj; exact ⟨v0, rfl, by rw [lookup_put, if_pos rfl]⟩)⟩⟩
abbrev sE3 : Stmt := inClass (top 5) 0
theorem scE3 : FnScope ["self", "n"] ["self", "n"] (defScope sE3) := ⟨rfl, rfl, rfl, by decide +kernel, rfl, by decide +kernel, by decide +kernel⟩
theorem okE3 {f C : Addr} {fd : FuncData} (F : L2.Fun K "__init__" "NotWhole.__init__" sE3 f fd) (T : OexC K C) (n0 : PySem.W.findIn K (.ref C) "n" = some none) : FnOk P w K mg base CX0 1 f fd ["self", "n"] (spErrL C ["n"]) := by
  refine F.ok scE3 (fun vs H Q E h => ?_) (fun cdv A outer s H vs Q E hr h => ?_)
  · obtain ⟨a, ws, rfl, hl, _⟩ := h
    show ws.length + 1 = _; rw [hl]; rfl
  · obtain ⟨a, ws, rfl, hl, ha, q⟩ := h
    match ws, hl with
    | [v0], _ =>
      refine ⟨_, (pss_one (ps_ost (pv 0) (pv 1))), ?_⟩
      exact ⟨_, rfl, _, rfl, a, C, rfl, T, n0, .inl ⟨ha, fun dx h1 h2 => q dx _ _ h1 h2 upd_same (by rw [upd_ne h2, upd_same]) (fun b k1 k2 => by rw [upd_ne k1, upd_ne k2]) fun j f hj => by match j, hj with | 0, hj => (cases hj; exact ⟨v0, rfl, by rw [lookup_put, if_pos rfl]⟩)⟩⟩
abbrev sE4 : Stmt := inClass (top 6) 0
theorem scE4 : FnScope ["self", "number"] ["self", "number"] (defScope sE4) := ⟨rfl, rfl, rfl, by decide +kernel, rfl, by decide +kernel, by decide +kernel⟩
theorem okE4 {f C : Addr} {fd : FuncData} (F : L2.Fun K "__init__" "BadNumber.__init__" sE4 f fd) (T : OexC K C) (n0 : PySem.W.findIn K (.ref C) "number" = some none) : FnOk P w K mg base CX0 1 f fd ["self", "number"] (spErrL C ["number"]) := by
  refine F.ok scE4 (fun vs H Q E h => ?_) (fun cdv A outer s H vs Q E hr h => ?_)
  · obtain ⟨a, ws, rfl, hl, _⟩ := h
    show ws.length + 1 = _; rw [hl]; rfl
  · obtain ⟨a, ws, rfl, hl, ha, q⟩ := h
    match ws, hl with
    | [v0], _ =>
      refine ⟨_, (pss_one (ps_ost (pv 0) (pv 1))), ?_⟩
      exact ⟨_, rfl, _, rfl, a, C, rfl, T, n0, .inl ⟨ha, fun dx h1 h2 => q dx _ _ h1 h2 upd_same (by rw [upd_ne h2, upd_same]) (fun b k1 k2 => by rw [upd_ne k1, upd_ne k2]) fun j f hj => by match j, hj with | 0, hj => (cases hj; exact ⟨v0, rfl, by rw [lookup_put, if_pos rfl]⟩)⟩⟩
abbrev sE6 : Stmt := inClass (top 8) 0
theorem scE6 : FnScope ["self", "index"] ["self", "index"] (defScope sE6) := ⟨rfl, rfl, rfl, by decide +kernel, rfl, by decide +kernel, by decide +kernel⟩
theorem okE6 {f C : Addr} {fd : FuncData} (F : L2.Fun K "__init__" "BadTruth.__init__" sE6 f fd) (T : OexC K C) (n0 : PySem.W.findIn K (.ref C) "index" = some none) : FnOk P w K mg base CX0 1 f fd ["self", "index"] (spErrL C ["index"]) := by
  refine F.ok scE6 (fun vs H Q E h => ?_) (fun cdv A outer s H vs Q E hr h => ?_)
  · obtain ⟨a, ws, rfl, hl, _⟩ := h
    show ws.length + 1 = _; rw [hl]; rfl
  · obtain ⟨a, ws, rfl, hl, ha, q⟩ := h
    match ws, hl with
    | [v0], _ =>
      refine ⟨_, (pss_one (ps_ost (pv 0) (pv 1))), ?_⟩
      exact ⟨_, rfl, _, rfl, a, C, rfl, T, n0, .inl ⟨ha, fun dx h1 h2 => q dx _ _ h1 h2 upd_same (by rw [upd_ne h2, upd_same]) (fun b k1 k2 => by rw [upd_ne k1, upd_ne k2]) fun j f hj => by match j, hj with | 0, hj => (cases hj; exact ⟨v0, rfl, by rw [lookup_put, if_pos rfl]⟩)⟩⟩
abbrev sE7 : Stmt := inClass (top 9) 0
theorem scE7 : FnScope ["self", "k"] ["self", "k"] (defScope sE7) := ⟨rfl, rfl, rfl, by decide +kernel, rfl, by decide +kernel, by decide +kernel⟩
theorem okE7 {f C : Addr} {fd : FuncData} (F : L2.Fun K "__init__" "NoMember.__init__" sE7 f fd) (T : OexC K C) (n0 : PySem.W.findIn K (.ref C) "k" = some none) : FnOk P w K mg base CX0 1 f fd ["self", "k"] (spErrL C ["k"]) := by
  refine F.ok scE7 (fun vs H Q E h => ?_) (fun cdv A outer s H vs Q E hr h => ?_)
  · obtain ⟨a, ws, rfl, hl, _⟩ := h
    show ws.length + 1 = _; rw [hl]; rfl
  · obtain ⟨a, ws, rfl, hl, ha, q⟩ := h
    match ws, hl with
    | [v0], _ =>
      refine ⟨_, (pss_one (ps_ost (pv 0) (pv 1))), ?_⟩
      exact ⟨_, rfl, _, rfl, a, C, rfl, T, n0, .inl ⟨ha, fun dx h1 h2 => q dx _ _ h1 h2 upd_same (by rw [upd_ne h2, upd_same]) (fun b k1 k2 => by rw [upd_ne k1, upd_ne k2]) fun j f hj => by match j, hj with | 0, hj => (cases hj; exact ⟨v0, rfl, by rw [lookup_put, if_pos rfl]⟩)⟩⟩
abbrev sE8 : Stmt := inClass (top 10) 0
theorem scE8 : FnScope ["self", "most"] ["self", "most"] (defScope sE8) := ⟨rfl, rfl, rfl, by decide +kernel, rfl, by decide +kernel, by decide +kernel⟩
theorem okE8 {f C : Addr} {fd : FuncData} (F : L2.Fun K "__init__" "TooHigh.__init__" sE8 f fd) (T : OexC K C) (n0 : PySem.W.findIn K (.ref C) "most" = some none) : FnOk P w K mg base CX0 1 f fd ["self", "most"] (spErrL C ["most"]) := by
  refine F.ok scE8 (fun vs H Q E h => ?_) (fun cdv A outer s H vs Q E hr h => ?_)
  · obtain ⟨a, ws, rfl, hl, _⟩ := h
    show ws.length + 1 = _; rw [hl]; rfl
  · obtain ⟨a, ws, rfl, hl, ha, q⟩ := h
    match ws, hl with
    | [v0], _ =>
      refine ⟨_, (pss_one (ps_ost (pv 0) (pv 1))), ?_⟩
      exact ⟨_, rfl, _, rfl, a, C, rfl, T, n0, .inl ⟨ha, fun dx h1 h2 => q dx _ _ h1 h2 upd_same (by rw [upd_ne h2, upd_same]) (fun b k1 k2 => by rw [upd_ne k1, upd_ne k2]) fun j f hj => by match j, hj with | 0, hj => (cases hj; exact ⟨v0, rfl, by rw [lookup_put, if_pos rfl]⟩)⟩⟩
abbrev sE9 : Stmt := inClass (top 11) 0
theorem scE9 : FnScope ["self", "most"] ["self", "most"] (defScope sE9) := ⟨rfl, rfl, rfl, by decide +kernel, rfl, by decide +kernel, by decide +kernel⟩
theorem okE9 {f C : Addr} {fd : FuncData} (F : L2.Fun K "__init__" "TooFine.__init__" sE9 f fd) (T : OexC K C) (n0 : PySem.W.findIn K (.ref C) "most" = some none) : FnOk P w K mg base CX0 1 f fd ["self", "most"] (spErrL C ["most"]) := by
  refine F.ok scE9 (fun vs H Q E h => ?_) (fun cdv A outer s H vs Q E hr h => ?_)
  · obtain ⟨a, ws, rfl, hl, _⟩ := h
    show ws.length + 1 = _; rw [hl]; rfl
  · obtain ⟨a, ws, rfl, hl, ha, q⟩ := h
    match ws, hl with
    | [v0], _ =>
      refine ⟨_, (pss_one (ps_ost (pv 0) (pv 1))), ?_⟩
      exact ⟨_, rfl, _, rfl, a, C, rfl, T, n0, .inl ⟨ha, fun dx h1 h2 => q dx _ _ h1 h2 upd_same (by rw [upd_ne h2, upd_same]) (fun b k1 k2 => by rw [upd_ne k1, upd_ne k2]) fun j f hj => by match j, hj with | 0, hj => (cases hj; exact ⟨v0, rfl, by rw [lookup_put, if_pos rfl]⟩)⟩⟩
abbrev sE10 : Stmt := inClass (top 12) 0
theorem scE10 : FnScope ["self", "most"] ["self", "most"] (defScope sE10) := ⟨rfl, rfl, rfl, by decide +kernel, rfl, by decide +kernel, by decide +kernel⟩
theorem okE10 {f C : Addr} {fd : FuncData} (F : L2.Fun K "__init__" "TooLate.__init__" sE10 f fd) (T : OexC K C) (n0 : PySem.W.findIn K (.ref C) "most" = some none) : FnOk P w K mg base CX0 1 f fd ["self", "most"] (spErrL C ["most"]) := by
  refine F.ok scE10 (fun vs H Q E h => ?_) (fun cdv A outer s H vs Q E hr h => ?_)
  · obtain ⟨a, ws, rfl, hl, _⟩ := h
    show ws.length + 1 = _; rw [hl]; rfl
  · obtain ⟨a, ws, rfl, hl, ha, q⟩ := h
    match ws, hl with
    | [v0], _ =>
      refine ⟨_, (pss_one (ps_ost (pv 0) (pv 1))), ?_⟩
      exact ⟨_, rfl, _, rfl, a, C, rfl, T, n0, .inl ⟨ha, fun dx h1 h2 => q dx _ _ h1 h2 upd_same (by rw [upd_ne h2, upd_same]) (fun b k1 k2 => by rw [upd_ne k1, upd_ne k2]) fun j f hj => by match j, hj with | 0, hj => (cases hj; exact ⟨v0, rfl, by rw [lookup_put, if_pos rfl]⟩)⟩⟩
abbrev sE11 : Stmt := inClass (top 13) 0
theorem scE11 : FnScope ["self", "value"] ["self", "value"] (defScope sE11) := ⟨rfl, rfl, rfl, by decide +kernel, rfl, by decide +kernel, by decide +kernel⟩
theorem okE11 {f C : Addr} {fd : FuncData} (F : L2.Fun K "__init__" "BadWhole.__init__" sE11 f fd) (T : OexC K C) (n0 : PySem.W.findIn K (.ref C) "value" = some none) : FnOk P w K mg base CX0 1 f fd ["self", "value"] (spErrL C ["value"]) := by
  refine F.ok scE11 (fun vs H Q E h => ?_) (fun cdv A outer s H vs Q E hr h => ?_)
  · obtain ⟨a, ws, rfl, hl, _⟩ := h
    show ws.length + 1 = _; rw [hl]; rfl
  · obtain ⟨a, ws, rfl, hl, ha, q⟩ := h
    match ws, hl with
    | [v0], _ =>
      refine ⟨_, (pss_one (ps_ost (pv 0) (pv 1))), ?_⟩
      exact ⟨_, rfl, _, rfl, a, C, rfl, T, n0, .inl ⟨ha, fun dx h1 h2 => q dx _ _ h1 h2 upd_same (by rw [upd_ne h2, upd_same]) (fun b k1 k2 => by rw [upd_ne k1, upd_ne k2]) fun j f hj => by match j, hj with | 0, hj => (cases hj; exact ⟨v0, rfl, by rw [lookup_put, if_pos rfl]⟩)⟩⟩
abbrev sE12 : Stmt := inClass (top 14) 0
theorem scE12 : FnScope ["self", "k"] ["self", "k"] (defScope sE12) := ⟨rfl, rfl, rfl, by decide +kernel, rfl, by decide +kernel, by decide +kernel⟩
theorem okE12 {f C : Addr} {fd : FuncData} (F : L2.Fun K "__init__" "BadPower.__init__" sE12 f fd) (T : OexC K C) (n0 : PySem.W.findIn K (.ref C) "k" = some none) : FnOk P w K mg base CX0 1 f fd ["self", "k"] (spErrL C ["k"]) := by
  refine F.ok scE12 (fun vs H Q E h => ?_) (fun cdv A outer s H vs Q E hr h => ?_)
  · obtain ⟨a, ws, rfl, hl, _⟩ := h
    show ws.length + 1 = _; rw [hl]; rfl
  · obtain ⟨a, ws, rfl, hl, ha, q⟩ := h
    match ws, hl with
    | [v0], _ =>
      refine ⟨_, (pss_one (ps_ost (pv 0) (pv 1))), ?_⟩
      exact ⟨_, rfl, _, rfl, a, C, rfl, T, n0, .inl ⟨ha, fun dx h1 h2 => q dx _ _ h1 h2 upd_same (by rw [upd_ne h2, upd_same]) (fun b k1 k2 => by rw [upd_ne k1, upd_ne k2]) fun j f hj => by match j, hj with | 0, hj => (cases hj; exact ⟨v0, rfl, by rw [lookup_put, if_pos rfl]⟩)⟩⟩
abbrev sE13 : Stmt := inClass (top 15) 0
theorem scE13 : FnScope ["self", "n"] ["self", "n"] (defScope sE13) := ⟨rfl, rfl, rfl, by decide +kernel, rfl, by decide +kernel, by decide +kernel⟩
theorem okE13 {f C : Addr} {fd : FuncData} (F : L2.Fun K "__init__" "Undefined.__init__" sE13 f fd) (T : OexC K C) (n0 : PySem.W.findIn K (.ref C) "n" = some none) : FnOk P w K mg base CX0 1 f fd ["self", "n"] (spErrL C ["n"]) := by
  refine F.ok scE13 (fun vs H Q E h => ?_) (fun cdv A outer s H vs Q E hr h => ?_)
  · obtain ⟨a, ws, rfl, hl, _⟩ := h
    show ws.length + 1 = _; rw [hl]; rfl
  · obtain ⟨a, ws, rfl, hl, ha, q⟩ := h
    match ws, hl with
    | [v0], _ =>
      refine ⟨_, (pss_one (ps_ost (pv 0) (pv 1))), ?_⟩
      exact ⟨_, rfl, _, rfl, a, C, rfl, T, n0, .inl ⟨ha, fun dx h1 h2 => q dx _ _ h1 h2 upd_same (by rw [upd_ne h2, upd_same]) (fun b k1 k2 => by rw [upd_ne k1, upd_ne k2]) fun j f hj => by match j, hj with | 0, hj => (cases hj; exact ⟨v0, rfl, by rw [lookup_put, if_pos rfl]⟩)⟩⟩
abbrev sE15 : Stmt := inClass (top 17) 0
theorem scE15 : FnScope ["self", "index"] ["self", "index"] (defScope sE15) := ⟨rfl, rfl, rfl, by decide +kernel, rfl, by decide +kernel, by decide +kernel⟩
theorem okE15 {f C : Addr} {fd : FuncData} (F : L2.Fun K "__init__" "BadPiece.__init__" sE15 f fd) (T : OexC K C) (n0 : PySem.W.findIn K (.ref C) "index" = some none) : FnOk P w K mg base CX0 1 f fd ["self", "index"] (spErrL C ["index"]) := by
  refine F.ok scE15 (fun vs H Q E h => ?_) (fun cdv A outer s H vs Q E hr h => ?_)
  · obtain ⟨a, ws, rfl, hl, _⟩ := h
    show ws.length + 1 = _; rw [hl]; rfl
  · obtain ⟨a, ws, rfl, hl, ha, q⟩ := h
    match ws, hl with
    | [v0], _ =>
      refine ⟨_, (pss_one (ps_ost (pv 0) (pv 1))), ?_⟩
      exact ⟨_, rfl, _, rfl, a, C, rfl, T, n0, .inl ⟨ha, fun dx h1 h2 => q dx _ _ h1 h2 upd_same (by rw [upd_ne h2, upd_same]) (fun b k1 k2 => by rw [upd_ne k1, upd_ne k2]) fun j f hj => by match j, hj with | 0, hj => (cases hj; exact ⟨v0, rfl, by rw [lookup_put, if_pos rfl]⟩)⟩⟩
abbrev sE19 : Stmt := inClass (top 21) 0
theorem scE19 : FnScope ["self", "index"] ["self", "index"] (defScope sE19) := ⟨rfl, rfl, rfl, by decide +kernel, rfl, by decide +kernel, by decide +kernel⟩
theorem okE19 {f C : Addr} {fd : FuncData} (F : L2.Fun K "__init__" "BadMember.__init__" sE19 f fd) (T : OexC K C) (n0 : PySem.W.findIn K (.ref C) "index" = some none) : FnOk P w K mg base CX0 1 f fd ["self", "index"] (spErrL C ["index"]) := by
  refine F.ok scE19 (fun vs H Q E h => ?_) (fun cdv A outer s H vs Q E hr h => ?_)
  · obtain ⟨a, ws, rfl, hl, _⟩ := h
    show ws.length + 1 = _; rw [hl]; rfl
  · obtain ⟨a, ws, rfl, hl, ha, q⟩ := h
    match ws, hl with
    | [v0], _ =>
      refine ⟨_, (pss_one (ps_ost (pv 0) (pv 1))), ?_⟩
      exact ⟨_, rfl, _, rfl, a, C, rfl, T, n0, .inl ⟨ha, fun dx h1 h2 => q dx _ _ h1 h2 upd_same (by rw [upd_ne h2, upd_same]) (fun b k1 k2 => by rw [upd_ne k1, upd_ne k2]) fun j f hj => by match j, hj with | 0, hj => (cases hj; exact ⟨v0, rfl, by rw [lookup_put, if_pos rfl]⟩)⟩⟩
abbrev sE20 : Stmt := inClass (top 22) 0
theorem scE20 : FnScope ["self", "have", "want"] ["self", "have", "want"] (defScope sE20) := ⟨rfl, rfl, rfl, by decide +kernel, rfl, by decide +kernel, by decide +kernel⟩
theorem okE20 {f C : Addr} {fd : FuncData} (F : L2.Fun K "__init__" "TooFew.__init__" sE20 f fd) (T : OexC K C) (n0 : PySem.W.findIn K (.ref C) "have" = some none) (n1 : PySem.W.findIn K (.ref C) "want" = some none) : FnOk P w K mg base CX0 1 f fd ["self", "have", "want"] (spErrL C ["have", "want"]) := by
  refine F.ok scE20 (fun vs H Q E h => ?_) (fun cdv A outer s H vs Q E hr h => ?_)
  · obtain ⟨a, ws, rfl, hl, _⟩ := h
    show ws.length + 1 = _; rw [hl]; rfl
  · obtain ⟨a, ws, rfl, hl, ha, q⟩ := h
    match ws, hl with
    | [v0, v1], _ =>
      refine ⟨_, (pss_cons (ps_ost (pv 0) (pv 1)) (pss_one (ps_ost (pv 0) (pv 2)))), ?_⟩
      refine ⟨_, rfl, _, rfl, a, C, rfl, T, n0, .inl ⟨ha, fun dx h1 h2 => ?_⟩⟩
      have e0 : (upd (upd H dx (exd dx [("have", v0)])) a (exo a C (some dx))) dx = some (exd dx [("have", v0)]) := by rw [upd_ne h2, upd_same]
      refine ⟨_, rfl, _, rfl, a, C, rfl, T, n1, .inr ⟨dx, _, upd_same, e0, by show 1 ≤ 900; decide, ?_⟩⟩
      exact q dx _ _ h1 h2 (by rw [upd_ne (Ne.symm h2), upd_same]) upd_same (fun b k1 k2 => by rw [upd_ne k2, upd_ne k1, upd_ne k2]) fun j f hj => by match j, hj with | 0, hj => (cases hj; exact ⟨v0, rfl, by rw [lookup_put, if_neg (by decide +kernel), lookup_put, if_pos rfl]⟩) | 1, hj => (cases hj; exact ⟨v1, rfl, by rw [lookup_put, if_pos rfl]⟩)
abbrev sE21 : Stmt := inClass (top 23) 0
theorem scE21 : FnScope ["self", "n"] ["self", "n"] (defScope sE21) := ⟨rfl, rfl, rfl, by decide +kernel, rfl, by decide +kernel, by decide +kernel⟩
theorem okE21 {f C : Addr} {fd : FuncData} (F : L2.Fun K "__init__" "NoFormula.__init__" sE21 f fd) (T : OexC K C) (n0 : PySem.W.findIn K (.ref C) "n" = some none) : FnOk P w K mg base CX0 1 f fd ["self", "n"] (spErrL C ["n"]) := by
  refine F.ok scE21 (fun vs H Q E h => ?_) (fun cdv A outer s H vs Q E hr h => ?_)
  · obtain ⟨a, ws, rfl, hl, _⟩ := h
    show ws.length + 1 = _; rw [hl]; rfl
  · obtain ⟨a, ws, rfl, hl, ha, q⟩ := h
    match ws, hl with
    | [v0], _ =>
      refine ⟨_, (pss_one (ps_ost (pv 0) (pv 1))), ?_⟩
      exact ⟨_, rfl, _, rfl, a, C, rfl, T, n0, .inl ⟨ha, fun dx h1 h2 => q dx _ _ h1 h2 upd_same (by rw [upd_ne h2, upd_same]) (fun b k1 k2 => by rw [upd_ne k1, upd_ne k2]) fun j f hj => by match j, hj with | 0, hj => (cases hj; exact ⟨v0, rfl, by rw [lookup_put, if_pos rfl]⟩)⟩⟩
abbrev sE23 : Stmt := inClass (top 25) 0
theorem scE23 : FnScope ["self", "n"] ["self", "n"] (defScope sE23) := ⟨rfl, rfl, rfl, by decide +kernel, rfl, by decide +kernel, by decide +kernel⟩
theorem okE23 {f C : Addr} {fd : FuncData} (F : L2.Fun K "__init__" "NoBound.__init__" sE23 f fd) (T : OexC K C) (n0 : PySem.W.findIn K (.ref C) "n" = some none) : FnOk P w K mg base CX0 1 f fd ["self", "n"] (spErrL C ["n"]) := by
  refine F.ok scE23 (fun vs H Q E h => ?_) (fun cdv A outer s H vs Q E hr h => ?_)
  · obtain ⟨a, ws, rfl, hl, _⟩ := h
    show ws.length + 1 = _; rw [hl]; rfl
  · obtain ⟨a, ws, rfl, hl, ha, q⟩ := h
    match ws, hl with
    | [v0], _ =>
      refine ⟨_, (pss_one (ps_ost (pv 0) (pv 1))), ?_⟩
      exact ⟨_, rfl, _, rfl, a, C, rfl, T, n0, .inl ⟨ha, fun dx h1 h2 => q dx _ _ h1 h2 upd_same (by rw [upd_ne h2, upd_same]) (fun b k1 k2 => by rw [upd_ne k1, upd_ne k2]) fun j f hj => by match j, hj with | 0, hj => (cases hj; exact ⟨v0, rfl, by rw [lookup_put, if_pos rfl]⟩)⟩⟩
abbrev sE24 : Stmt := inClass (top 26) 0
theorem scE24 : FnScope ["self", "what", "many", "most"] ["self", "what", "many", "most"] (defScope sE24) := ⟨rfl, rfl, rfl, by decide +kernel, rfl, by decide +kernel, by decide +kernel⟩
theorem okE24 {f C : Addr} {fd : FuncData} (F : L2.Fun K "__init__" "TooMany.__init__" sE24 f fd) (T : OexC K C) (n0 : PySem.W.findIn K (.ref C) "what" = some none) (n1 : PySem.W.findIn K (.ref C) "many" = some none) (n2 : PySem.W.findIn K (.ref C) "most" = some none) : FnOk P w K mg base CX0 1 f fd ["self", "what", "many", "most"] (spErrL C ["what", "many", "most"]) := by
  refine F.ok scE24 (fun vs H Q E h => ?_) (fun cdv A outer s H vs Q E hr h => ?_)
  · obtain ⟨a, ws, rfl, hl, _⟩ := h
    show ws.length + 1 = _; rw [hl]; rfl
  · obtain ⟨a, ws, rfl, hl, ha, q⟩ := h
    match ws, hl with
    | [v0, v1, v2], _ =>
      refine ⟨_, (pss_cons (ps_ost (pv 0) (pv 1)) (pss_cons (ps_ost (pv 0) (pv 2)) (pss_one (ps_ost (pv 0) (pv 3))))), ?_⟩
      refine ⟨_, rfl, _, rfl, a, C, rfl, T, n0, .inl ⟨ha, fun dx h1 h2 => ?_⟩⟩
      have e0 : (upd (upd H dx (exd dx [("what", v0)])) a (exo a C (some dx))) dx = some (exd dx [("what", v0)]) := by rw [upd_ne h2, upd_same]
      refine ⟨_, rfl, _, rfl, a, C, rfl, T, n1, .inr ⟨dx, _, upd_same, e0, by show 1 ≤ 900; decide, ?_⟩⟩
      refine ⟨_, rfl, _, rfl, a, C, rfl, T, n2, .inr ⟨dx, _, by rw [upd_ne (Ne.symm h2), upd_same], upd_same, by show 2 ≤ 900; decide, ?_⟩⟩
      exact q dx _ _ h1 h2 (by rw [upd_ne (Ne.symm h2), upd_ne (Ne.symm h2), upd_same]) upd_same (fun b k1 k2 => by rw [upd_ne k2, upd_ne k2, upd_ne k1, upd_ne k2]) fun j f hj => by match j, hj with | 0, hj => (cases hj; exact ⟨v0, rfl, by rw [lookup_put, if_neg (by decide +kernel), lookup_put, if_neg (by decide +kernel), lookup_put, if_pos rfl]⟩) | 1, hj => (cases hj; exact ⟨v1, rfl, by rw [lookup_put, if_neg (by decide +kernel), lookup_put, if_pos rfl]⟩) | 2, hj => (cases hj; exact ⟨v2, rfl, by rw [lookup_put, if_pos rfl]⟩)
abbrev sE25 : Stmt := inClass (top 27) 0
theorem scE25 : FnScope ["self", "at"] ["self", "at"] (defScope sE25) := ⟨rfl, rfl, rfl, by decide +kernel, rfl, by decide +kernel, by decide +kernel⟩
theorem okE25 {f C : Addr} {fd : FuncData} (F : L2.Fun K "__init__" "BadText.__init__" sE25 f fd) (T : OexC K C) (n0 : PySem.W.findIn K (.ref C) "at" = some none) : FnOk P w K mg base CX0 1 f fd ["self", "at"] (spErrL C ["at"]) := by
  refine F.ok scE25 (fun vs H Q E h => ?_) (fun cdv A outer s H vs Q E hr h => ?_)
  · obtain ⟨a, ws, rfl, hl, _⟩ := h
    show ws.length + 1 = _; rw [hl]; rfl
  · obtain ⟨a, ws, rfl, hl, ha, q⟩ := h
    match ws, hl with
    | [v0], _ =>
      refine ⟨_, (pss_one (ps_ost (pv 0) (pv 1))), ?_⟩
      exact ⟨_, rfl, _, rfl, a, C, rfl, T, n0, .inl ⟨ha, fun dx h1 h2 => q dx _ _ h1 h2 upd_same (by rw [upd_ne h2, upd_same]) (fun b k1 k2 => by rw [upd_ne k1, upd_ne k2]) fun j f hj => by match j, hj with | 0, hj => (cases hj; exact ⟨v0, rfl, by rw [lookup_put, if_pos rfl]⟩)⟩⟩
abbrev sE26 : Stmt := inClass (top 28) 0
theorem scE26 : FnScope ["self", "name"] ["self", "name"] (defScope sE26) := ⟨rfl, rfl, rfl, by decide +kernel, rfl, by decide +kernel, by decide +kernel⟩
theorem okE26 {f C : Addr} {fd : FuncData} (F : L2.Fun K "__init__" "BadName.__init__" sE26 f fd) (T : OexC K C) (n0 : PySem.W.findIn K (.ref C) "name" = some none) : FnOk P w K mg base CX0 1 f fd ["self", "name"] (spErrL C ["name"]) := by
  refine F.ok scE26 (fun vs H Q E h => ?_) (fun cdv A outer s H vs Q E hr h => ?_)
  · obtain ⟨a, ws, rfl, hl, _⟩ := h
    show ws.length + 1 = _; rw [hl]; rfl
  · obtain ⟨a, ws, rfl, hl, ha, q⟩ := h
    match ws, hl with
    | [v0], _ =>
      refine ⟨_, (pss_one (ps_ost (pv 0) (pv 1))), ?_⟩
      exact ⟨_, rfl, _, rfl, a, C, rfl, T, n0, .inl ⟨ha, fun dx h1 h2 => q dx _ _ h1 h2 upd_same (by rw [upd_ne h2, upd_same]) (fun b k1 k2 => by rw [upd_ne k1, upd_ne k2]) fun j f hj => by match j, hj with | 0, hj => (cases hj; exact ⟨v0, rfl, by rw [lookup_put, if_pos rfl]⟩)⟩⟩
abbrev sE27 : Stmt := inClass (top 29) 0
theorem scE27 : FnScope ["self", "name"] ["self", "name"] (defScope sE27) := ⟨rfl, rfl, rfl, by decide +kernel, rfl, by decide +kernel, by decide +kernel⟩
theorem okE27 {f C : Addr} {fd : FuncData} (F : L2.Fun K "__init__" "UnknownName.__init__" sE27 f fd) (T : OexC K C) (n0 : PySem.W.findIn K (.ref C) "name" = some none) : FnOk P w K mg base CX0 1 f fd ["self", "name"] (spErrL C ["name"]) := by
  refine F.ok scE27 (fun vs H Q E h => ?_) (fun cdv A outer s H vs Q E hr h => ?_)
  · obtain ⟨a, ws, rfl, hl, _⟩ := h
    show ws.length + 1 = _; rw [hl]; rfl
  · obtain ⟨a, ws, rfl, hl, ha, q⟩ := h
    match ws, hl with
    | [v0], _ =>
      refine ⟨_, (pss_one (ps_ost (pv 0) (pv 1))), ?_⟩
      exact ⟨_, rfl, _, rfl, a, C, rfl, T, n0, .inl ⟨ha, fun dx h1 h2 => q dx _ _ h1 h2 upd_same (by rw [upd_ne h2, upd_same]) (fun b k1 k2 => by rw [upd_ne k1, upd_ne k2]) fun j f hj => by match j, hj with | 0, hj => (cases hj; exact ⟨v0, rfl, by rw [lookup_put, if_pos rfl]⟩)⟩⟩
abbrev sE28 : Stmt := inClass (top 30) 0
theorem scE28 : FnScope ["self", "name"] ["self", "name"] (defScope sE28) := ⟨rfl, rfl, rfl, by decide +kernel, rfl, by decide +kernel, by decide +kernel⟩
theorem okE28 {f C : Addr} {fd : FuncData} (F : L2.Fun K "__init__" "Circle.__init__" sE28 f fd) (T : OexC K C) (n0 : PySem.W.findIn K (.ref C) "name" = some none) : FnOk P w K mg base CX0 1 f fd ["self", "name"] (spErrL C ["name"]) := by
  refine F.ok scE28 (fun vs H Q E h => ?_) (fun cdv A outer s H vs Q E hr h => ?_)
  · obtain ⟨a, ws, rfl, hl, _⟩ := h
    show ws.length + 1 = _; rw [hl]; rfl
  · obtain ⟨a, ws, rfl, hl, ha, q⟩ := h
    match ws, hl with
    | [v0], _ =>
      refine ⟨_, (pss_one (ps_ost (pv 0) (pv 1))), ?_⟩
      exact ⟨_, rfl, _, rfl, a, C, rfl, T, n0, .inl ⟨ha, fun dx h1 h2 => q dx _ _ h1 h2 upd_same (by rw [upd_ne h2, upd_same]) (fun b k1 k2 => by rw [upd_ne k1, upd_ne k2]) fun j f hj => by match j, hj with | 0, hj => (cases hj; exact ⟨v0, rfl, by rw [lookup_put, if_pos rfl]⟩)⟩⟩
abbrev sE29 : Stmt := inClass (top 31) 0
theorem scE29 : FnScope ["self", "name", "why"] ["self", "name", "why"] (defScope sE29) := ⟨rfl, rfl, rfl, by decide +kernel, rfl, by decide +kernel, by decide +kernel⟩
theorem okE29 {f C : Addr} {fd : FuncData} (F : L2.Fun K "__init__" "Refused.__init__" sE29 f fd) (T : OexC K C) (n0 : PySem.W.findIn K (.ref C) "name" = some none) (n1 : PySem.W.findIn K (.ref C) "why" = some none) : FnOk P w K mg base CX0 1 f fd ["self", "name", "why"] (spErrL C ["name", "why"]) := by
  refine F.ok scE29 (fun vs H Q E h => ?_) (fun cdv A outer s H vs Q E hr h => ?_)
  · obtain ⟨a, ws, rfl, hl, _⟩ := h
    show ws.length + 1 = _; rw [hl]; rfl
  · obtain ⟨a, ws, rfl, hl, ha, q⟩ := h
    match ws, hl with
    | [v0, v1], _ =>
      refine ⟨_, (pss_cons (ps_ost (pv 0) (pv 1)) (pss_one (ps_ost (pv 0) (pv 2)))), ?_⟩
      refine ⟨_, rfl, _, rfl, a, C, rfl, T, n0, .inl ⟨ha, fun dx h1 h2 => ?_⟩⟩
      have e0 : (upd (upd H dx (exd dx [("name", v0)])) a (exo a C (some dx))) dx = some (exd dx [("name", v0)]) := by rw [upd_ne h2, upd_same]
      refine ⟨_, rfl, _, rfl, a, C, rfl, T, n1, .inr ⟨dx, _, upd_same, e0, by show 1 ≤ 900; decide, ?_⟩⟩
      exact q dx _ _ h1 h2 (by rw [upd_ne (Ne.symm h2), upd_same]) upd_same (fun b k1 k2 => by rw [upd_ne k2, upd_ne k1, upd_ne k2]) fun j f hj => by match j, hj with | 0, hj => (cases hj; exact ⟨v0, rfl, by rw [lookup_put, if_neg (by decide +kernel), lookup_put, if_pos rfl]⟩) | 1, hj => (cases hj; exact ⟨v1, rfl, by rw [lookup_put, if_pos rfl]⟩)
abbrev sE30 : Stmt := inClass (top 32) 0
theorem scE30 : FnScope ["self", "name", "n"] ["self", "name", "n"] (defScope sE30) := ⟨rfl, rfl, rfl, by decide +kernel, rfl, by decide +kernel, by decide +kernel⟩
theorem okE30 {f C : Addr} {fd : FuncData} (F : L2.Fun K "__init__" "Broken.__init__" sE30 f fd) (T : OexC K C) (n0 : PySem.W.findIn K (.ref C) "name" = some none) (n1 : PySem.W.findIn K (.ref C) "n" = some none) : FnOk P w K mg base CX0 1 f fd ["self", "name", "n"] (spErrL C ["name", "n"]) := by
  refine F.ok scE30 (fun vs H Q E h => ?_) (fun cdv A outer s H vs Q E hr h => ?_)
  · obtain ⟨a, ws, rfl, hl, _⟩ := h
    show ws.length + 1 = _; rw [hl]; rfl
  · obtain ⟨a, ws, rfl, hl, ha, q⟩ := h
    match ws, hl with
    | [v0, v1], _ =>
      refine ⟨_, (pss_cons (ps_ost (pv 0) (pv 1)) (pss_one (ps_ost (pv 0) (pv 2)))), ?_⟩
      refine ⟨_, rfl, _, rfl, a, C, rfl, T, n0, .inl ⟨ha, fun dx h1 h2 => ?_⟩⟩
      have e0 : (upd (upd H dx (exd dx [("name", v0)])) a (exo a C (some dx))) dx = some (exd dx [("name", v0)]) := by rw [upd_ne h2, upd_same]
      refine ⟨_, rfl, _, rfl, a, C, rfl, T, n1, .inr ⟨dx, _, upd_same, e0, by show 1 ≤ 900; decide, ?_⟩⟩
      exact q dx _ _ h1 h2 (by rw [upd_ne (Ne.symm h2), upd_same]) upd_same (fun b k1 k2 => by rw [upd_ne k2, upd_ne k1, upd_ne k2]) fun j f hj => by match j, hj with | 0, hj => (cases hj; exact ⟨v0, rfl, by rw [lookup_put, if_neg (by decide +kernel), lookup_put, if_pos rfl]⟩) | 1, hj => (cases hj; exact ⟨v1, rfl, by rw [lookup_put, if_pos rfl]⟩)
abbrev sE31 : Stmt := inClass (top 33) 0
theorem scE31 : FnScope ["self", "name", "by"] ["self", "name", "by"] (defScope sE31) := ⟨rfl, rfl, rfl, by decide +kernel, rfl, by decide +kernel, by decide +kernel⟩
theorem okE31 {f C : Addr} {fd : FuncData} (F : L2.Fun K "__init__" "InUse.__init__" sE31 f fd) (T : OexC K C) (n0 : PySem.W.findIn K (.ref C) "name" = some none) (n1 : PySem.W.findIn K (.ref C) "by" = some none) : FnOk P w K mg base CX0 1 f fd ["self", "name", "by"] (spErrL C ["name", "by"]) := by
  refine F.ok scE31 (fun vs H Q E h => ?_) (fun cdv A outer s H vs Q E hr h => ?_)
  · obtain ⟨a, ws, rfl, hl, _⟩ := h
    show ws.length + 1 = _; rw [hl]; rfl
  · obtain ⟨a, ws, rfl, hl, ha, q⟩ := h
    match ws, hl with
    | [v0, v1], _ =>
      refine ⟨_, (pss_cons (ps_ost (pv 0) (pv 1)) (pss_one (ps_ost (pv 0) (pv 2)))), ?_⟩
      refine ⟨_, rfl, _, rfl, a, C, rfl, T, n0, .inl ⟨ha, fun dx h1 h2 => ?_⟩⟩
      have e0 : (upd (upd H dx (exd dx [("name", v0)])) a (exo a C (some dx))) dx = some (exd dx [("name", v0)]) := by rw [upd_ne h2, upd_same]
      refine ⟨_, rfl, _, rfl, a, C, rfl, T, n1, .inr ⟨dx, _, upd_same, e0, by show 1 ≤ 900; decide, ?_⟩⟩
      exact q dx _ _ h1 h2 (by rw [upd_ne (Ne.symm h2), upd_same]) upd_same (fun b k1 k2 => by rw [upd_ne k2, upd_ne k1, upd_ne k2]) fun j f hj => by match j, hj with | 0, hj => (cases hj; exact ⟨v0, rfl, by rw [lookup_put, if_neg (by decide +kernel), lookup_put, if_pos rfl]⟩) | 1, hj => (cases hj; exact ⟨v1, rfl, by rw [lookup_put, if_pos rfl]⟩)
abbrev sE33 : Stmt := inClass (top 35) 0
theorem scE33 : FnScope ["self", "line", "why"] ["self", "line", "why"] (defScope sE33) := ⟨rfl, rfl, rfl, by decide +kernel, rfl, by decide +kernel, by decide +kernel⟩
theorem okE33 {f C : Addr} {fd : FuncData} (F : L2.Fun K "__init__" "BadLine.__init__" sE33 f fd) (T : OexC K C) (n0 : PySem.W.findIn K (.ref C) "line" = some none) (n1 : PySem.W.findIn K (.ref C) "why" = some none) : FnOk P w K mg base CX0 1 f fd ["self", "line", "why"] (spErrL C ["line", "why"]) := by
  refine F.ok scE33 (fun vs H Q E h => ?_) (fun cdv A outer s H vs Q E hr h => ?_)
  · obtain ⟨a, ws, rfl, hl, _⟩ := h
    show ws.length + 1 = _; rw [hl]; rfl
  · obtain ⟨a, ws, rfl, hl, ha, q⟩ := h
    match ws, hl with
    | [v0, v1], _ =>
      refine ⟨_, (pss_cons (ps_ost (pv 0) (pv 1)) (pss_one (ps_ost (pv 0) (pv 2)))), ?_⟩
      refine ⟨_, rfl, _, rfl, a, C, rfl, T, n0, .inl ⟨ha, fun dx h1 h2 => ?_⟩⟩
      have e0 : (upd (upd H dx (exd dx [("line", v0)])) a (exo a C (some dx))) dx = some (exd dx [("line", v0)]) := by rw [upd_ne h2, upd_same]
      refine ⟨_, rfl, _, rfl, a, C, rfl, T, n1, .inr ⟨dx, _, upd_same, e0, by show 1 ≤ 900; decide, ?_⟩⟩
      exact q dx _ _ h1 h2 (by rw [upd_ne (Ne.symm h2), upd_same]) upd_same (fun b k1 k2 => by rw [upd_ne k2, upd_ne k1, upd_ne k2]) fun j f hj => by match j, hj with | 0, hj => (cases hj; exact ⟨v0, rfl, by rw [lookup_put, if_neg (by decide +kernel), lookup_put, if_pos rfl]⟩) | 1, hj => (cases hj; exact ⟨v1, rfl, by rw [lookup_put, if_pos rfl]⟩)
end
/-- the errors of the text -/
structure Errs (P : Program) (w : World) (K : PySem.W.Frag) (mg : Str → Option Value) (base : Heap) (C : Nat → Addr) (CE : Addr) : Prop where
  e0 : ErrA P w K mg base "BadRow" ["index"] (C 0)
  e1 : ErrA P w K mg base "BadUnder" ["under"] (C 1)
  e2 : ErrA P w K mg base "BadPlace" ["n"] (C 2)
  e3 : ErrA P w K mg base "NotWhole" ["n"] (C 3)
  e4 : ErrA P w K mg base "BadNumber" ["number"] (C 4)
  e5 : ErrB K mg "NoDivisor" (C 5)
  e6 : ErrA P w K mg base "BadTruth" ["index"] (C 6)
  e7 : ErrA P w K mg base "NoMember" ["k"] (C 7)
  e8 : ErrA P w K mg base "TooHigh" ["most"] (C 8)
  e9 : ErrA P w K mg base "TooFine" ["most"] (C 9)
  e10 : ErrA P w K mg base "TooLate" ["most"] (C 10)
  e11 : ErrA P w K mg base "BadWhole" ["value"] (C 11)
  e12 : ErrA P w K mg base "BadPower" ["k"] (C 12)
  e13 : ErrA P w K mg base "Undefined" ["n"] (C 13)
  e14 : ErrB K mg "NoPieces" (C 14)
  e15 : ErrA P w K mg base "BadPiece" ["index"] (C 15)
  e16 : ErrB K mg "BadBegin" (C 16)
  e17 : ErrB K mg "BadTest" (C 17)
  e18 : ErrB K mg "BadStep" (C 18)
  e19 : ErrA P w K mg base "BadMember" ["index"] (C 19)
  e20 : ErrA P w K mg base "TooFew" ["have", "want"] (C 20)
  e21 : ErrA P w K mg base "NoFormula" ["n"] (C 21)
  e22 : ErrB K mg "NoValue" (C 22)
  e23 : ErrA P w K mg base "NoBound" ["n"] (C 23)
  e24 : ErrA P w K mg base "TooMany" ["what", "many", "most"] (C 24)
  e25 : ErrA P w K mg base "BadText" ["at"] (C 25)
  e26 : ErrA P w K mg base "BadName" ["name"] (C 26)
  e27 : ErrA P w K mg base "UnknownName" ["name"] (C 27)
  e28 : ErrA P w K mg base "Circle" ["name"] (C 28)
  e29 : ErrA P w K mg base "Refused" ["name", "why"] (C 29)
  e30 : ErrA P w K mg base "Broken" ["name", "n"] (C 30)
  e31 : ErrA P w K mg base "InUse" ["name", "by"] (C 31)
  e32 : ErrB K mg "NoSteps" (C 32)
  e33 : ErrA P w K mg base "BadLine" ["line", "why"] (C 33)
  xf : ∀ k, k < 34 → XfC K (C k)
  xc : ∀ k, k < 34 → ExcC K (C k)
  nN : ∀ k, k < 34 → ∀ f ∈ allF0, PySem.W.findIn K (.ref (C k)) f = some none
  is : ∀ k j, k < 34 → j < 34 → PySem.W.kitOne K (.ref (C k)) (.ref (C j)) = some (decide (j = k))
  em : ∀ k, k < 34 → PySem.W.exmOne K (.ref (C k)) (.ref CE) = some true
  gE : mg "EveryfloorError" = some (.ref CE)
  vE : ∀ k, k < 34 → PySem.W.kitOne K (.ref (C k)) (.type "ValueError") = some true
end Ef
set_option Elab.async false
set_option linter.all false
set_option maxRecDepth 100000
set_option maxHeartbeats 4000000
namespace Ef
open PySem PySem.Spec PyProof.Rows L2 L2H
abbrev sThr : Stmt := top 40
abbrev sThr2 : Stmt := top 41
abbrev sKinds : Stmt := top 42
abbrev sFields : Stmt := top 43
abbrev sCaught : Stmt := top 44
theorem dint (a b : Int) : decide (V.int a = V.int b) = decide (a = b) := by
  by_cases h : a = b
  · rw [decide_eq_true h, decide_eq_true (by rw [h])]
  · rw [decide_eq_false h, decide_eq_false (fun z => h (V.int.inj z))]
theorem same_new {H : Hp} {p : Addr} {o : HO} (h : H p = none) : Same H (upd H p o) := fun b x e => by rw [upd_ne (ne_of_none e h)]; exact e
theorem same_mut {H0 H : Hp} {p : Addr} {o : HO} (h : Same H0 H) (hp : H0 p = none) : Same H0 (upd H p o) := fun b x e => by rw [upd_ne (ne_of_none e hp)]; exact h b x e
theorem inV_ints (n : Int) : ∀ ns : List Int, inV (.int n) (ns.map V.int) = decide (n ∈ ns)
  | [] => by simp [inV]
  | c :: ns => by
    show (eqV (.int c) (.int n) || inV (.int n) (ns.map V.int)) = _
    rw [inV_ints n ns, show eqV (.int c) (.int n) = decide (c = n) from rfl]
    by_cases h : c = n
    · rw [decide_eq_true h, Bool.true_or, decide_eq_true (by rw [h]; exact List.mem_cons_self)]
    · rw [decide_eq_false h, Bool.false_or]
      by_cases h2 : n ∈ ns
      · rw [decide_eq_true h2, decide_eq_true (List.mem_cons_of_mem _ h2)]
      · rw [decide_eq_false h2, decide_eq_false fun z => (List.mem_cons.mp z).elim (fun y => h y.symm) h2]
structure TxtZ (mg : Str → Option Value) : Prop extends TxtP mg where
  isinstance : mg "isinstance" = none
  range : mg "range" = none
  min : mg "min" = none
  vErr : mg "ValueError" = none
/-- a def that may raise, by its name -/
structure DfX (P : Program) (w : World) (K : PySem.W.Frag) (mg : Str → Option Value) (base : Heap) (k : Nat) (x : Str) (ps : List Str) (sp : Sp) (f : Addr) (fd : FuncData) : Prop where
  at_ : mg x = some (.ref f)
  kp : PySem.W.keepIn K (.ref f) = true
  b : Binds K fd ps []
  F : FnOk P w K mg base (L2.CX P w) k f fd ps sp
/-- a def that gets a caught error, by its name -/
structure DfZ (P : Program) (w : World) (K : PySem.W.Frag) (mg : Str → Option Value) (base : Heap) (k : Nat) (x : Str) (ps : List Str) (sp : SpZ) (f : Addr) (fd : FuncData) : Prop where
  at_ : mg x = some (.ref f)
  kp : PySem.W.keepIn K (.ref f) = true
  b : Binds K fd ps []
  F : FnZ P w K mg base k f fd ps sp
theorem Flown.more {fl : List Str} {ws : List V} {d : Option Addr} {H : Hp} (r : List V) (h : Flown fl ws d H) : Flown fl (ws ++ r) d H := by
  rcases h with h | ⟨dd, fs, e, hx, kp⟩
  · exact .inl h
  · refine .inr ⟨dd, fs, e, hx, fun j f hj => ?_⟩
    obtain ⟨v, hv, hl⟩ := kp j f hj
    have hlt : j < ws.length := (List.getElem?_eq_some_iff.mp hv).1
    exact ⟨v, by rw [List.getElem?_append_left hlt]; exact hv, hl⟩
def spThr (lo : Nat) (C : Nat → Addr) : Sp := fun vs H _ E => ∃ (k : Nat) (a b c : V), vs = [.int (k : Nat), a, b, c] ∧ lo ≤ k ∧ k < 34 ∧ ∀ (d : Option Addr) (H' : Hp), Same H H' → Flown (flds0.getD k []) [a, b, c] d H' → E (.ref (C k)) d H'
section
variable {P : Program} {w : World} {K : PySem.W.Frag} {mg : Str → Option Value} {base : Heap} {C : Nat → Addr} {CE : Addr}
theorem scThr2 : FnScope ["k", "a", "b", "c"] ["k", "a", "b", "c"] (defScope sThr2) := ⟨rfl, rfl, rfl, by decide +kernel, rfl, by decide +kernel, by decide +kernel⟩
theorem dx_scThr2 {f : Addr} {fd : FuncData} (hm : mg "_law_thrown_second" = some (.ref f)) (F : L2.Fun K "_law_thrown_second" "_law_thrown_second" sThr2 f fd) (Er : Errs P w K mg base C CE) : DfX P w K mg base 3 "_law_thrown_second" ["k", "a", "b", "c"] (spThr 17 C) f fd := by
  refine ⟨hm, F.kp, F.binds (fun _ _ _ _ _ _ us hl => match us, hl with | [_, _, _, _], _ => rfl), F.okX scThr2 (fun vs H Q E h => ?_) (fun cdv A outer s H vs Q E hr h => ?_)⟩
  · obtain ⟨k, a, b, c, rfl, _⟩ := h
    rfl
  · obtain ⟨k, a, b, c, rfl, k0, k1, q⟩ := h
    obtain ⟨f19, d19, i19, t19, F19, b19⟩ := Er.e19.ini
    obtain ⟨f20, d20, i20, t20, F20, b20⟩ := Er.e20.ini
    obtain ⟨f21, d21, i21, t21, F21, b21⟩ := Er.e21.ini
    obtain ⟨f23, d23, i23, t23, F23, b23⟩ := Er.e23.ini
    obtain ⟨f24, d24, i24, t24, F24, b24⟩ := Er.e24.ini
    obtain ⟨f25, d25, i25, t25, F25, b25⟩ := Er.e25.ini
    obtain ⟨f26, d26, i26, t26, F26, b26⟩ := Er.e26.ini
    obtain ⟨f27, d27, i27, t27, F27, b27⟩ := Er.e27.ini
    obtain ⟨f28, d28, i28, t28, F28, b28⟩ := Er.e28.ini
    obtain ⟨f29, d29, i29, t29, F29, b29⟩ := Er.e29.ini
    obtain ⟨f30, d30, i30, t30, F30, b30⟩ := Er.e30.ini
    obtain ⟨f31, d31, i31, t31, F31, b31⟩ := Er.e31.ini
    obtain ⟨f33, d33, i33, t33, F33, b33⟩ := Er.e33.ini
    refine ⟨_, (pss_cons (ps_if (pt_cmpR op_eq (pv 0) pe_int (nomark _)) (pss_one (ps_raise rfl (L2.takes_of rfl rfl rfl rfl) (pmk_none PySem.F.excBase_ValueError Er.e17.ex Er.e17.g Er.e17.k (raises_own Er.e17.b Er.e17.t) (by rfl)))) pss_nil)
      (pss_cons (ps_if (pt_cmpR op_eq (pv 0) pe_int (nomark _)) (pss_one (ps_raise rfl (L2.takes_of rfl rfl rfl rfl) (pmk_none PySem.F.excBase_ValueError Er.e18.ex Er.e18.g Er.e18.k (raises_own Er.e18.b Er.e18.t) (by rfl)))) pss_nil)
      (pss_cons (ps_if (pt_cmpR op_eq (pv 0) pe_int (nomark _)) (pss_one (ps_raise rfl (L2.takes_of rfl rfl rfl rfl) (pmk_oex Er.e19.oex i19 t19 F19 (hr.mono (by decide)) b19 .nil pass0 (by rfl) Er.e19.mgC (pa_cons (pv 1) pa_nil)))) pss_nil)
      (pss_cons (ps_if (pt_cmpR op_eq (pv 0) pe_int (nomark _)) (pss_one (ps_raise rfl (L2.takes_of rfl rfl rfl rfl) (pmk_oex Er.e20.oex i20 t20 F20 (hr.mono (by decide)) b20 .nil pass0 (by rfl) Er.e20.mgC (pa_cons (pv 1) (pa_cons (pv 2) pa_nil))))) pss_nil)
      (pss_cons (ps_if (pt_cmpR op_eq (pv 0) pe_int (nomark _)) (pss_one (ps_raise rfl (L2.takes_of rfl rfl rfl rfl) (pmk_oex Er.e21.oex i21 t21 F21 (hr.mono (by decide)) b21 .nil pass0 (by rfl) Er.e21.mgC (pa_cons (pv 1) pa_nil)))) pss_nil)
      (pss_cons (ps_if (pt_cmpR op_eq (pv 0) pe_int (nomark _)) (pss_one (ps_raise rfl (L2.takes_of rfl rfl rfl rfl) (pmk_none PySem.F.excBase_ValueError Er.e22.ex Er.e22.g Er.e22.k (raises_own Er.e22.b Er.e22.t) (by rfl)))) pss_nil)
      (pss_cons (ps_if (pt_cmpR op_eq (pv 0) pe_int (nomark _)) (pss_one (ps_raise rfl (L2.takes_of rfl rfl rfl rfl) (pmk_oex Er.e23.oex i23 t23 F23 (hr.mono (by decide)) b23 .nil pass0 (by rfl) Er.e23.mgC (pa_cons (pv 1) pa_nil)))) pss_nil)
      (pss_cons (ps_if (pt_cmpR op_eq (pv 0) pe_int (nomark _)) (pss_one (ps_raise rfl (L2.takes_of rfl rfl rfl rfl) (pmk_oex Er.e24.oex i24 t24 F24 (hr.mono (by decide)) b24 .nil pass0 (by rfl) Er.e24.mgC (pa_cons (pv 1) (pa_cons (pv 2) (pa_cons (pv 3) pa_nil)))))) pss_nil)
      (pss_cons (ps_if (pt_cmpR op_eq (pv 0) pe_int (nomark _)) (pss_one (ps_raise rfl (L2.takes_of rfl rfl rfl rfl) (pmk_oex Er.e25.oex i25 t25 F25 (hr.mono (by decide)) b25 .nil pass0 (by rfl) Er.e25.mgC (pa_cons (pv 1) pa_nil)))) pss_nil)
      (pss_cons (ps_if (pt_cmpR op_eq (pv 0) pe_int (nomark _)) (pss_one (ps_raise rfl (L2.takes_of rfl rfl rfl rfl) (pmk_oex Er.e26.oex i26 t26 F26 (hr.mono (by decide)) b26 .nil pass0 (by rfl) Er.e26.mgC (pa_cons (pv 1) pa_nil)))) pss_nil)
      (pss_cons (ps_if (pt_cmpR op_eq (pv 0) pe_int (nomark _)) (pss_one (ps_raise rfl (L2.takes_of rfl rfl rfl rfl) (pmk_oex Er.e27.oex i27 t27 F27 (hr.mono (by decide)) b27 .nil pass0 (by rfl) Er.e27.mgC (pa_cons (pv 1) pa_nil)))) pss_nil)
      (pss_cons (ps_if (pt_cmpR op_eq (pv 0) pe_int (nomark _)) (pss_one (ps_raise rfl (L2.takes_of rfl rfl rfl rfl) (pmk_oex Er.e28.oex i28 t28 F28 (hr.mono (by decide)) b28 .nil pass0 (by rfl) Er.e28.mgC (pa_cons (pv 1) pa_nil)))) pss_nil)
      (pss_cons (ps_if (pt_cmpR op_eq (pv 0) pe_int (nomark _)) (pss_one (ps_raise rfl (L2.takes_of rfl rfl rfl rfl) (pmk_oex Er.e29.oex i29 t29 F29 (hr.mono (by decide)) b29 .nil pass0 (by rfl) Er.e29.mgC (pa_cons (pv 1) (pa_cons (pv 2) pa_nil))))) pss_nil)
      (pss_cons (ps_if (pt_cmpR op_eq (pv 0) pe_int (nomark _)) (pss_one (ps_raise rfl (L2.takes_of rfl rfl rfl rfl) (pmk_oex Er.e30.oex i30 t30 F30 (hr.mono (by decide)) b30 .nil pass0 (by rfl) Er.e30.mgC (pa_cons (pv 1) (pa_cons (pv 2) pa_nil))))) pss_nil)
      (pss_cons (ps_if (pt_cmpR op_eq (pv 0) pe_int (nomark _)) (pss_one (ps_raise rfl (L2.takes_of rfl rfl rfl rfl) (pmk_oex Er.e31.oex i31 t31 F31 (hr.mono (by decide)) b31 .nil pass0 (by rfl) Er.e31.mgC (pa_cons (pv 1) (pa_cons (pv 2) pa_nil))))) pss_nil)
      (pss_cons (ps_if (pt_cmpR op_eq (pv 0) pe_int (nomark _)) (pss_one (ps_raise rfl (L2.takes_of rfl rfl rfl rfl) (pmk_none PySem.F.excBase_ValueError Er.e32.ex Er.e32.g Er.e32.k (raises_own Er.e32.b Er.e32.t) (by rfl)))) pss_nil)
      (pss_cons (ps_if (pt_cmpR op_eq (pv 0) pe_int (nomark _)) (pss_one (ps_raise rfl (L2.takes_of rfl rfl rfl rfl) (pmk_oex Er.e33.oex i33 t33 F33 (hr.mono (by decide)) b33 .nil pass0 (by rfl) Er.e33.mgC (pa_cons (pv 1) (pa_cons (pv 2) pa_nil))))) pss_nil)
      (pss_one (ps_ret pe_non))))))))))))))))))), ?_⟩
    refine ⟨_, rfl, rfl, _, rfl, ?_⟩
    rw [dint]
    refine ite2 (fun hb => ?_) (fun hb => ?_)
    · have hk : k = 17 := by have := of_decide_eq_true hb; omega
      subst hk
      exact q none H (Same.refl H) (.inl ⟨rfl, rfl⟩)
    have m17 : k ≠ 17 := fun z => hb (by rw [z]; rfl)
    refine ⟨_, rfl, rfl, _, rfl, ?_⟩
    rw [dint]
    refine ite2 (fun hb => ?_) (fun hb => ?_)
    · have hk : k = 18 := by have := of_decide_eq_true hb; omega
      subst hk
      exact q none H (Same.refl H) (.inl ⟨rfl, rfl⟩)
    have m18 : k ≠ 18 := fun z => hb (by rw [z]; rfl)
    refine ⟨_, rfl, rfl, _, rfl, ?_⟩
    rw [dint]
    refine ite2 (fun hb => ?_) (fun hb => ?_)
    · have hk : k = 19 := by have := of_decide_eq_true hb; omega
      subst hk
      exact ⟨_, rfl, mk_errL (fl := ["index"]) (ws := [a]) (R := E) rfl (by show 1 ≤ 3; decide) fun d H1 s1 fl => q d H1 s1 (fl.more [b, c])⟩
    have m19 : k ≠ 19 := fun z => hb (by rw [z]; rfl)
    refine ⟨_, rfl, rfl, _, rfl, ?_⟩
    rw [dint]
    refine ite2 (fun hb => ?_) (fun hb => ?_)
    · have hk : k = 20 := by have := of_decide_eq_true hb; omega
      subst hk
      exact ⟨_, rfl, _, rfl, mk_errL (fl := ["have", "want"]) (ws := [a, b]) (R := E) rfl (by show 2 ≤ 3; decide) fun d H1 s1 fl => q d H1 s1 (fl.more [c])⟩
    have m20 : k ≠ 20 := fun z => hb (by rw [z]; rfl)
    refine ⟨_, rfl, rfl, _, rfl, ?_⟩
    rw [dint]
    refine ite2 (fun hb => ?_) (fun hb => ?_)
    · have hk : k = 21 := by have := of_decide_eq_true hb; omega
      subst hk
      exact ⟨_, rfl, mk_errL (fl := ["n"]) (ws := [a]) (R := E) rfl (by show 1 ≤ 3; decide) fun d H1 s1 fl => q d H1 s1 (fl.more [b, c])⟩
    have m21 : k ≠ 21 := fun z => hb (by rw [z]; rfl)
    refine ⟨_, rfl, rfl, _, rfl, ?_⟩
    rw [dint]
    refine ite2 (fun hb => ?_) (fun hb => ?_)
    · have hk : k = 22 := by have := of_decide_eq_true hb; omega
      subst hk
      exact q none H (Same.refl H) (.inl ⟨rfl, rfl⟩)
    have m22 : k ≠ 22 := fun z => hb (by rw [z]; rfl)
    refine ⟨_, rfl, rfl, _, rfl, ?_⟩
    rw [dint]
    refine ite2 (fun hb => ?_) (fun hb => ?_)
    · have hk : k = 23 := by have := of_decide_eq_true hb; omega
      subst hk
      exact ⟨_, rfl, mk_errL (fl := ["n"]) (ws := [a]) (R := E) rfl (by show 1 ≤ 3; decide) fun d H1 s1 fl => q d H1 s1 (fl.more [b, c])⟩
    have m23 : k ≠ 23 := fun z => hb (by rw [z]; rfl)
    refine ⟨_, rfl, rfl, _, rfl, ?_⟩
    rw [dint]
    refine ite2 (fun hb => ?_) (fun hb => ?_)
    · have hk : k = 24 := by have := of_decide_eq_true hb; omega
      subst hk
      exact ⟨_, rfl, _, rfl, _, rfl, mk_errL (fl := ["what", "many", "most"]) (ws := [a, b, c]) (R := E) rfl (by show 3 ≤ 3; decide) fun d H1 s1 fl => q d H1 s1 (fl.more [])⟩
    have m24 : k ≠ 24 := fun z => hb (by rw [z]; rfl)
    refine ⟨_, rfl, rfl, _, rfl, ?_⟩
    rw [dint]
    refine ite2 (fun hb => ?_) (fun hb => ?_)
    · have hk : k = 25 := by have := of_decide_eq_true hb; omega
      subst hk
      exact ⟨_, rfl, mk_errL (fl := ["at"]) (ws := [a]) (R := E) rfl (by show 1 ≤ 3; decide) fun d H1 s1 fl => q d H1 s1 (fl.more [b, c])⟩
    have m25 : k ≠ 25 := fun z => hb (by rw [z]; rfl)
    refine ⟨_, rfl, rfl, _, rfl, ?_⟩
    rw [dint]
    refine ite2 (fun hb => ?_) (fun hb => ?_)
    · have hk : k = 26 := by have := of_decide_eq_true hb; omega
      subst hk
      exact ⟨_, rfl, mk_errL (fl := ["name"]) (ws := [a]) (R := E) rfl (by show 1 ≤ 3; decide) fun d H1 s1 fl => q d H1 s1 (fl.more [b, c])⟩
    have m26 : k ≠ 26 := fun z => hb (by rw [z]; rfl)
    refine ⟨_, rfl, rfl, _, rfl, ?_⟩
    rw [dint]
    refine ite2 (fun hb => ?_) (fun hb => ?_)
    · have hk : k = 27 := by have := of_decide_eq_true hb; omega
      subst hk
      exact ⟨_, rfl, mk_errL (fl := ["name"]) (ws := [a]) (R := E) rfl (by show 1 ≤ 3; decide) fun d H1 s1 fl => q d H1 s1 (fl.more [b, c])⟩
    have m27 : k ≠ 27 := fun z => hb (by rw [z]; rfl)
    refine ⟨_, rfl, rfl, _, rfl, ?_⟩
    rw [dint]
    refine ite2 (fun hb => ?_) (fun hb => ?_)
    · have hk : k = 28 := by have := of_decide_eq_true hb; omega
      subst hk
      exact ⟨_, rfl, mk_errL (fl := ["name"]) (ws := [a]) (R := E) rfl (by show 1 ≤ 3; decide) fun d H1 s1 fl => q d H1 s1 (fl.more [b, c])⟩
    have m28 : k ≠ 28 := fun z => hb (by rw [z]; rfl)
    refine ⟨_, rfl, rfl, _, rfl, ?_⟩
    rw [dint]
    refine ite2 (fun hb => ?_) (fun hb => ?_)
    · have hk : k = 29 := by have := of_decide_eq_true hb; omega
      subst hk
      exact ⟨_, rfl, _, rfl, mk_errL (fl := ["name", "why"]) (ws := [a, b]) (R := E) rfl (by show 2 ≤ 3; decide) fun d H1 s1 fl => q d H1 s1 (fl.more [c])⟩
    have m29 : k ≠ 29 := fun z => hb (by rw [z]; rfl)
    refine ⟨_, rfl, rfl, _, rfl, ?_⟩
    rw [dint]
    refine ite2 (fun hb => ?_) (fun hb => ?_)
    · have hk : k = 30 := by have := of_decide_eq_true hb; omega
      subst hk
      exact ⟨_, rfl, _, rfl, mk_errL (fl := ["name", "n"]) (ws := [a, b]) (R := E) rfl (by show 2 ≤ 3; decide) fun d H1 s1 fl => q d H1 s1 (fl.more [c])⟩
    have m30 : k ≠ 30 := fun z => hb (by rw [z]; rfl)
    refine ⟨_, rfl, rfl, _, rfl, ?_⟩
    rw [dint]
    refine ite2 (fun hb => ?_) (fun hb => ?_)
    · have hk : k = 31 := by have := of_decide_eq_true hb; omega
      subst hk
      exact ⟨_, rfl, _, rfl, mk_errL (fl := ["name", "by"]) (ws := [a, b]) (R := E) rfl (by show 2 ≤ 3; decide) fun d H1 s1 fl => q d H1 s1 (fl.more [c])⟩
    have m31 : k ≠ 31 := fun z => hb (by rw [z]; rfl)
    refine ⟨_, rfl, rfl, _, rfl, ?_⟩
    rw [dint]
    refine ite2 (fun hb => ?_) (fun hb => ?_)
    · have hk : k = 32 := by have := of_decide_eq_true hb; omega
      subst hk
      exact q none H (Same.refl H) (.inl ⟨rfl, rfl⟩)
    have m32 : k ≠ 32 := fun z => hb (by rw [z]; rfl)
    refine ⟨_, rfl, rfl, _, rfl, ?_⟩
    rw [dint]
    refine ite2 (fun hb => ?_) (fun hb => ?_)
    · have hk : k = 33 := by have := of_decide_eq_true hb; omega
      subst hk
      exact ⟨_, rfl, _, rfl, mk_errL (fl := ["line", "why"]) (ws := [a, b]) (R := E) rfl (by show 2 ≤ 3; decide) fun d H1 s1 fl => q d H1 s1 (fl.more [c])⟩
    have m33 : k ≠ 33 := fun z => hb (by rw [z]; rfl)
    exact absurd k1 (by omega)
theorem scThr : FnScope ["k", "a", "b", "c"] ["k", "a", "b", "c"] (defScope sThr) := ⟨rfl, rfl, rfl, by decide +kernel, rfl, by decide +kernel, by decide +kernel⟩
theorem dx_scThr {f : Addr} {fd : FuncData} (hm : mg "_law_thrown" = some (.ref f)) (F : L2.Fun K "_law_thrown" "_law_thrown" sThr f fd) (Er : Errs P w K mg base C CE) {f2 : Addr} {fd2 : FuncData} (D2 : DfX P w K mg base 3 "_law_thrown_second" ["k", "a", "b", "c"] (spThr 17 C) f2 fd2) : DfX P w K mg base 5 "_law_thrown" ["k", "a", "b", "c"] (spThr 0 C) f fd := by
  refine ⟨hm, F.kp, F.binds (fun _ _ _ _ _ _ us hl => match us, hl with | [_, _, _, _], _ => rfl), F.okX scThr (fun vs H Q E h => ?_) (fun cdv A outer s H vs Q E hr h => ?_)⟩
  · obtain ⟨k, a, b, c, rfl, _⟩ := h
    rfl
  · obtain ⟨k, a, b, c, rfl, k0, k1, q⟩ := h
    obtain ⟨f0, d0, i0, t0, F0, b0⟩ := Er.e0.ini
    obtain ⟨f1, d1, i1, t1, F1, b1⟩ := Er.e1.ini
    obtain ⟨f2, d2, i2, t2, F2, b2⟩ := Er.e2.ini
    obtain ⟨f3, d3, i3, t3, F3, b3⟩ := Er.e3.ini
    obtain ⟨f4, d4, i4, t4, F4, b4⟩ := Er.e4.ini
    obtain ⟨f6, d6, i6, t6, F6, b6⟩ := Er.e6.ini
    obtain ⟨f7, d7, i7, t7, F7, b7⟩ := Er.e7.ini
    obtain ⟨f8, d8, i8, t8, F8, b8⟩ := Er.e8.ini
    obtain ⟨f9, d9, i9, t9, F9, b9⟩ := Er.e9.ini
    obtain ⟨f10, d10, i10, t10, F10, b10⟩ := Er.e10.ini
    obtain ⟨f11, d11, i11, t11, F11, b11⟩ := Er.e11.ini
    obtain ⟨f12, d12, i12, t12, F12, b12⟩ := Er.e12.ini
    obtain ⟨f13, d13, i13, t13, F13, b13⟩ := Er.e13.ini
    obtain ⟨f15, d15, i15, t15, F15, b15⟩ := Er.e15.ini
    refine ⟨_, (pss_cons (ps_if (pt_cmpR op_eq (pv 0) pe_int (nomark _)) (pss_one (ps_raise rfl (L2.takes_of rfl rfl rfl rfl) (pmk_oex Er.e0.oex i0 t0 F0 (hr.mono (by decide)) b0 .nil pass0 (by rfl) Er.e0.mgC (pa_cons (pv 1) pa_nil)))) pss_nil)
      (pss_cons (ps_if (pt_cmpR op_eq (pv 0) pe_int (nomark _)) (pss_one (ps_raise rfl (L2.takes_of rfl rfl rfl rfl) (pmk_oex Er.e1.oex i1 t1 F1 (hr.mono (by decide)) b1 .nil pass0 (by rfl) Er.e1.mgC (pa_cons (pv 1) pa_nil)))) pss_nil)
      (pss_cons (ps_if (pt_cmpR op_eq (pv 0) pe_int (nomark _)) (pss_one (ps_raise rfl (L2.takes_of rfl rfl rfl rfl) (pmk_oex Er.e2.oex i2 t2 F2 (hr.mono (by decide)) b2 .nil pass0 (by rfl) Er.e2.mgC (pa_cons (pv 1) pa_nil)))) pss_nil)
      (pss_cons (ps_if (pt_cmpR op_eq (pv 0) pe_int (nomark _)) (pss_one (ps_raise rfl (L2.takes_of rfl rfl rfl rfl) (pmk_oex Er.e3.oex i3 t3 F3 (hr.mono (by decide)) b3 .nil pass0 (by rfl) Er.e3.mgC (pa_cons (pv 1) pa_nil)))) pss_nil)
      (pss_cons (ps_if (pt_cmpR op_eq (pv 0) pe_int (nomark _)) (pss_one (ps_raise rfl (L2.takes_of rfl rfl rfl rfl) (pmk_oex Er.e4.oex i4 t4 F4 (hr.mono (by decide)) b4 .nil pass0 (by rfl) Er.e4.mgC (pa_cons (pv 1) pa_nil)))) pss_nil)
      (pss_cons (ps_if (pt_cmpR op_eq (pv 0) pe_int (nomark _)) (pss_one (ps_raise rfl (L2.takes_of rfl rfl rfl rfl) (pmk_none PySem.F.excBase_ValueError Er.e5.ex Er.e5.g Er.e5.k (raises_own Er.e5.b Er.e5.t) (by rfl)))) pss_nil)
      (pss_cons (ps_if (pt_cmpR op_eq (pv 0) pe_int (nomark _)) (pss_one (ps_raise rfl (L2.takes_of rfl rfl rfl rfl) (pmk_oex Er.e6.oex i6 t6 F6 (hr.mono (by decide)) b6 .nil pass0 (by rfl) Er.e6.mgC (pa_cons (pv 1) pa_nil)))) pss_nil)
      (pss_cons (ps_if (pt_cmpR op_eq (pv 0) pe_int (nomark _)) (pss_one (ps_raise rfl (L2.takes_of rfl rfl rfl rfl) (pmk_oex Er.e7.oex i7 t7 F7 (hr.mono (by decide)) b7 .nil pass0 (by rfl) Er.e7.mgC (pa_cons (pv 1) pa_nil)))) pss_nil)
      (pss_cons (ps_if (pt_cmpR op_eq (pv 0) pe_int (nomark _)) (pss_one (ps_raise rfl (L2.takes_of rfl rfl rfl rfl) (pmk_oex Er.e8.oex i8 t8 F8 (hr.mono (by decide)) b8 .nil pass0 (by rfl) Er.e8.mgC (pa_cons (pv 1) pa_nil)))) pss_nil)
      (pss_cons (ps_if (pt_cmpR op_eq (pv 0) pe_int (nomark _)) (pss_one (ps_raise rfl (L2.takes_of rfl rfl rfl rfl) (pmk_oex Er.e9.oex i9 t9 F9 (hr.mono (by decide)) b9 .nil pass0 (by rfl) Er.e9.mgC (pa_cons (pv 1) pa_nil)))) pss_nil)
      (pss_cons (ps_if (pt_cmpR op_eq (pv 0) pe_int (nomark _)) (pss_one (ps_raise rfl (L2.takes_of rfl rfl rfl rfl) (pmk_oex Er.e10.oex i10 t10 F10 (hr.mono (by decide)) b10 .nil pass0 (by rfl) Er.e10.mgC (pa_cons (pv 1) pa_nil)))) pss_nil)
      (pss_cons (ps_if (pt_cmpR op_eq (pv 0) pe_int (nomark _)) (pss_one (ps_raise rfl (L2.takes_of rfl rfl rfl rfl) (pmk_oex Er.e11.oex i11 t11 F11 (hr.mono (by decide)) b11 .nil pass0 (by rfl) Er.e11.mgC (pa_cons (pv 1) pa_nil)))) pss_nil)
      (pss_cons (ps_if (pt_cmpR op_eq (pv 0) pe_int (nomark _)) (pss_one (ps_raise rfl (L2.takes_of rfl rfl rfl rfl) (pmk_oex Er.e12.oex i12 t12 F12 (hr.mono (by decide)) b12 .nil pass0 (by rfl) Er.e12.mgC (pa_cons (pv 1) pa_nil)))) pss_nil)
      (pss_cons (ps_if (pt_cmpR op_eq (pv 0) pe_int (nomark _)) (pss_one (ps_raise rfl (L2.takes_of rfl rfl rfl rfl) (pmk_oex Er.e13.oex i13 t13 F13 (hr.mono (by decide)) b13 .nil pass0 (by rfl) Er.e13.mgC (pa_cons (pv 1) pa_nil)))) pss_nil)
      (pss_cons (ps_if (pt_cmpR op_eq (pv 0) pe_int (nomark _)) (pss_one (ps_raise rfl (L2.takes_of rfl rfl rfl rfl) (pmk_none PySem.F.excBase_ValueError Er.e14.ex Er.e14.g Er.e14.k (raises_own Er.e14.b Er.e14.t) (by rfl)))) pss_nil)
      (pss_cons (ps_if (pt_cmpR op_eq (pv 0) pe_int (nomark _)) (pss_one (ps_raise rfl (L2.takes_of rfl rfl rfl rfl) (pmk_oex Er.e15.oex i15 t15 F15 (hr.mono (by decide)) b15 .nil pass0 (by rfl) Er.e15.mgC (pa_cons (pv 1) pa_nil)))) pss_nil)
      (pss_cons (ps_if (pt_cmpR op_eq (pv 0) pe_int (nomark _)) (pss_one (ps_raise rfl (L2.takes_of rfl rfl rfl rfl) (pmk_none PySem.F.excBase_ValueError Er.e16.ex Er.e16.g Er.e16.k (raises_own Er.e16.b Er.e16.t) (by rfl)))) pss_nil)
      (pss_one (ps_ret (pe_callS D2.F (hr.mono (by decide)) (by rfl) D2.at_ D2.kp D2.b (fun σ => L2.passAt (L2.takes_of rfl rfl rfl rfl) σ) (pa_cons (pv 0) (pa_cons (pv 1) (pa_cons (pv 2) (pa_cons (pv 3) pa_nil)))))))))))))))))))))))), ?_⟩
    refine ⟨_, rfl, rfl, _, rfl, ?_⟩
    rw [dint]
    refine ite2 (fun hb => ?_) (fun hb => ?_)
    · have hk : k = 0 := by have := of_decide_eq_true hb; omega
      subst hk
      exact ⟨_, rfl, mk_errL (fl := ["index"]) (ws := [a]) (R := E) rfl (by show 1 ≤ 3; decide) fun d H1 s1 fl => q d H1 s1 (fl.more [b, c])⟩
    have m0 : k ≠ 0 := fun z => hb (by rw [z]; rfl)
    refine ⟨_, rfl, rfl, _, rfl, ?_⟩
    rw [dint]
    refine ite2 (fun hb => ?_) (fun hb => ?_)
    · have hk : k = 1 := by have := of_decide_eq_true hb; omega
      subst hk
      exact ⟨_, rfl, mk_errL (fl := ["under"]) (ws := [a]) (R := E) rfl (by show 1 ≤ 3; decide) fun d H1 s1 fl => q d H1 s1 (fl.more [b, c])⟩
    have m1 : k ≠ 1 := fun z => hb (by rw [z]; rfl)
    refine ⟨_, rfl, rfl, _, rfl, ?_⟩
    rw [dint]
    refine ite2 (fun hb => ?_) (fun hb => ?_)
    · have hk : k = 2 := by have := of_decide_eq_true hb; omega
      subst hk
      exact ⟨_, rfl, mk_errL (fl := ["n"]) (ws := [a]) (R := E) rfl (by show 1 ≤ 3; decide) fun d H1 s1 fl => q d H1 s1 (fl.more [b, c])⟩
    have m2 : k ≠ 2 := fun z => hb (by rw [z]; rfl)
    refine ⟨_, rfl, rfl, _, rfl, ?_⟩
    rw [dint]
    refine ite2 (fun hb => ?_) (fun hb => ?_)
    · have hk : k = 3 := by have := of_decide_eq_true hb; omega
      subst hk
      exact ⟨_, rfl, mk_errL (fl := ["n"]) (ws := [a]) (R := E) rfl (by show 1 ≤ 3; decide) fun d H1 s1 fl => q d H1 s1 (fl.more [b, c])⟩
    have m3 : k ≠ 3 := fun z => hb (by rw [z]; rfl)
    refine ⟨_, rfl, rfl, _, rfl, ?_⟩
    rw [dint]
    refine ite2 (fun hb => ?_) (fun hb => ?_)
    · have hk : k = 4 := by have := of_decide_eq_true hb; omega
      subst hk
      exact ⟨_, rfl, mk_errL (fl := ["number"]) (ws := [a]) (R := E) rfl (by show 1 ≤ 3; decide) fun d H1 s1 fl => q d H1 s1 (fl.more [b, c])⟩
    have m4 : k ≠ 4 := fun z => hb (by rw [z]; rfl)
    refine ⟨_, rfl, rfl, _, rfl, ?_⟩
    rw [dint]
    refine ite2 (fun hb => ?_) (fun hb => ?_)
    · have hk : k = 5 := by have := of_decide_eq_true hb; omega
      subst hk
      exact q none H (Same.refl H) (.inl ⟨rfl, rfl⟩)
    have m5 : k ≠ 5 := fun z => hb (by rw [z]; rfl)
    refine ⟨_, rfl, rfl, _, rfl, ?_⟩
    rw [dint]
    refine ite2 (fun hb => ?_) (fun hb => ?_)
    · have hk : k = 6 := by have := of_decide_eq_true hb; omega
      subst hk
      exact ⟨_, rfl, mk_errL (fl := ["index"]) (ws := [a]) (R := E) rfl (by show 1 ≤ 3; decide) fun d H1 s1 fl => q d H1 s1 (fl.more [b, c])⟩
    have m6 : k ≠ 6 := fun z => hb (by rw [z]; rfl)
    refine ⟨_, rfl, rfl, _, rfl, ?_⟩
    rw [dint]
    refine ite2 (fun hb => ?_) (fun hb => ?_)
    · have hk : k = 7 := by have := of_decide_eq_true hb; omega
      subst hk
      exact ⟨_, rfl, mk_errL (fl := ["k"]) (ws := [a]) (R := E) rfl (by show 1 ≤ 3; decide) fun d H1 s1 fl => q d H1 s1 (fl.more [b, c])⟩
    have m7 : k ≠ 7 := fun z => hb (by rw [z]; rfl)
    refine ⟨_, rfl, rfl, _, rfl, ?_⟩
    rw [dint]
    refine ite2 (fun hb => ?_) (fun hb => ?_)
    · have hk : k = 8 := by have := of_decide_eq_true hb; omega
      subst hk
      exact ⟨_, rfl, mk_errL (fl := ["most"]) (ws := [a]) (R := E) rfl (by show 1 ≤ 3; decide) fun d H1 s1 fl => q d H1 s1 (fl.more [b, c])⟩
    have m8 : k ≠ 8 := fun z => hb (by rw [z]; rfl)
    refine ⟨_, rfl, rfl, _, rfl, ?_⟩
    rw [dint]
    refine ite2 (fun hb => ?_) (fun hb => ?_)
    · have hk : k = 9 := by have := of_decide_eq_true hb; omega
      subst hk
      exact ⟨_, rfl, mk_errL (fl := ["most"]) (ws := [a]) (R := E) rfl (by show 1 ≤ 3; decide) fun d H1 s1 fl => q d H1 s1 (fl.more [b, c])⟩
    have m9 : k ≠ 9 := fun z => hb (by rw [z]; rfl)
    refine ⟨_, rfl, rfl, _, rfl, ?_⟩
    rw [dint]
    refine ite2 (fun hb => ?_) (fun hb => ?_)
    · have hk : k = 10 := by have := of_decide_eq_true hb; omega
      subst hk
      exact ⟨_, rfl, mk_errL (fl := ["most"]) (ws := [a]) (R := E) rfl (by show 1 ≤ 3; decide) fun d H1 s1 fl => q d H1 s1 (fl.more [b, c])⟩
    have m10 : k ≠ 10 := fun z => hb (by rw [z]; rfl)
    refine ⟨_, rfl, rfl, _, rfl, ?_⟩
    rw [dint]
    refine ite2 (fun hb => ?_) (fun hb => ?_)
    · have hk : k = 11 := by have := of_decide_eq_true hb; omega
      subst hk
      exact ⟨_, rfl, mk_errL (fl := ["value"]) (ws := [a]) (R := E) rfl (by show 1 ≤ 3; decide) fun d H1 s1 fl => q d H1 s1 (fl.more [b, c])⟩
    have m11 : k ≠ 11 := fun z => hb (by rw [z]; rfl)
    refine ⟨_, rfl, rfl, _, rfl, ?_⟩
    rw [dint]
    refine ite2 (fun hb => ?_) (fun hb => ?_)
    · have hk : k = 12 := by have := of_decide_eq_true hb; omega
      subst hk
      exact ⟨_, rfl, mk_errL (fl := ["k"]) (ws := [a]) (R := E) rfl (by show 1 ≤ 3; decide) fun d H1 s1 fl => q d H1 s1 (fl.more [b, c])⟩
    have m12 : k ≠ 12 := fun z => hb (by rw [z]; rfl)
    refine ⟨_, rfl, rfl, _, rfl, ?_⟩
    rw [dint]
    refine ite2 (fun hb => ?_) (fun hb => ?_)
    · have hk : k = 13 := by have := of_decide_eq_true hb; omega
      subst hk
      exact ⟨_, rfl, mk_errL (fl := ["n"]) (ws := [a]) (R := E) rfl (by show 1 ≤ 3; decide) fun d H1 s1 fl => q d H1 s1 (fl.more [b, c])⟩
    have m13 : k ≠ 13 := fun z => hb (by rw [z]; rfl)
    refine ⟨_, rfl, rfl, _, rfl, ?_⟩
    rw [dint]
    refine ite2 (fun hb => ?_) (fun hb => ?_)
    · have hk : k = 14 := by have := of_decide_eq_true hb; omega
      subst hk
      exact q none H (Same.refl H) (.inl ⟨rfl, rfl⟩)
    have m14 : k ≠ 14 := fun z => hb (by rw [z]; rfl)
    refine ⟨_, rfl, rfl, _, rfl, ?_⟩
    rw [dint]
    refine ite2 (fun hb => ?_) (fun hb => ?_)
    · have hk : k = 15 := by have := of_decide_eq_true hb; omega
      subst hk
      exact ⟨_, rfl, mk_errL (fl := ["index"]) (ws := [a]) (R := E) rfl (by show 1 ≤ 3; decide) fun d H1 s1 fl => q d H1 s1 (fl.more [b, c])⟩
    have m15 : k ≠ 15 := fun z => hb (by rw [z]; rfl)
    refine ⟨_, rfl, rfl, _, rfl, ?_⟩
    rw [dint]
    refine ite2 (fun hb => ?_) (fun hb => ?_)
    · have hk : k = 16 := by have := of_decide_eq_true hb; omega
      subst hk
      exact q none H (Same.refl H) (.inl ⟨rfl, rfl⟩)
    have m16 : k ≠ 16 := fun z => hb (by rw [z]; rfl)
    exact ⟨_, rfl, _, rfl, _, rfl, _, rfl, k, a, b, c, rfl, by omega, k1, q⟩
theorem DictAt.same {H H' : Hp} {d : Option Addr} (h : DictAt H d) (s : Same H H') : DictAt H' d := fun dd e => (h dd e).elim fun fs hx => ⟨fs, s _ _ hx⟩
def kinds0 (k : Nat) : List Bool := (List.range 34).map fun j => decide (j = k)
def spKinds (C : Nat → Addr) : SpZ := fun a c d vs H Q _ => ∃ k, k < 34 ∧ c = .ref (C k) ∧ vs = [.ref a] ∧ DictAt H d ∧ ∀ (l : Addr) (H' : Hp), Same H H' → H' l = some (.lst ((kinds0 k).map V.bl)) → Q (.ref l) H'
theorem scKinds : FnScope ["e", "found"] ["e"] (defScope sKinds) := ⟨rfl, rfl, rfl, by decide +kernel, rfl, by decide +kernel, by decide +kernel⟩
theorem dz_kinds {f : Addr} {fd : FuncData} (hm : mg "_law_kinds" = some (.ref f)) (F : L2.Fun K "_law_kinds" "_law_kinds" sKinds f fd) (Er : Errs P w K mg base C CE) (T : TxtZ mg) : DfZ P w K mg base 1 "_law_kinds" ["e"] (spKinds C) f fd := by
  refine ⟨hm, F.kp, F.binds (fun _ _ _ _ _ _ us hl => match us, hl with | [_], _ => rfl), okZ F scKinds (fun a c d vs H Q h => ?_) (fun cdv A outer s H vs Q p c d hr hc h => ?_)⟩
  · obtain ⟨k, _, _, rfl, _⟩ := h
    rfl
  · obtain ⟨k, hk, rfl, rfl, hd, q⟩ := h
    refine ⟨_, (pss_cons (ps_set (i := 1) scKinds.nd rfl (.inl rfl) (pe_lst (pa_cons (pe_callB (call_isZ (Er.xc k hk) (show p ∈ [p] from List.mem_cons_self) hc) (by rfl) T.isinstance (by decide +kernel) (pa_cons (pv 0) (pa_cons (pe_glob (v := .ref (C 0)) (by rfl) Er.e0.mgC rfl) pa_nil))) (pa_cons (pe_callB (call_isZ (Er.xc k hk) (show p ∈ [p] from List.mem_cons_self) hc) (by rfl) T.isinstance (by decide +kernel) (pa_cons (pv 0) (pa_cons (pe_glob (v := .ref (C 1)) (by rfl) Er.e1.mgC rfl) pa_nil))) (pa_cons (pe_callB (call_isZ (Er.xc k hk) (show p ∈ [p] from List.mem_cons_self) hc) (by rfl) T.isinstance (by decide +kernel) (pa_cons (pv 0) (pa_cons (pe_glob (v := .ref (C 2)) (by rfl) Er.e2.mgC rfl) pa_nil))) pa_nil)))))
      (pss_cons (ps_set (i := 1) scKinds.nd rfl (.inl rfl) (pe_op op_cat (pv 1) (pe_lst (pa_cons (pe_callB (call_isZ (Er.xc k hk) (show p ∈ [p] from List.mem_cons_self) hc) (by rfl) T.isinstance (by decide +kernel) (pa_cons (pv 0) (pa_cons (pe_glob (v := .ref (C 3)) (by rfl) Er.e3.mgC rfl) pa_nil))) (pa_cons (pe_callB (call_isZ (Er.xc k hk) (show p ∈ [p] from List.mem_cons_self) hc) (by rfl) T.isinstance (by decide +kernel) (pa_cons (pv 0) (pa_cons (pe_glob (v := .ref (C 4)) (by rfl) Er.e4.mgC rfl) pa_nil))) (pa_cons (pe_callB (call_isZ (Er.xc k hk) (show p ∈ [p] from List.mem_cons_self) hc) (by rfl) T.isinstance (by decide +kernel) (pa_cons (pv 0) (pa_cons (pe_glob (v := .ref (C 5)) (by rfl) Er.e5.g rfl) pa_nil))) pa_nil))))))
      (pss_cons (ps_set (i := 1) scKinds.nd rfl (.inl rfl) (pe_op op_cat (pv 1) (pe_lst (pa_cons (pe_callB (call_isZ (Er.xc k hk) (show p ∈ [p] from List.mem_cons_self) hc) (by rfl) T.isinstance (by decide +kernel) (pa_cons (pv 0) (pa_cons (pe_glob (v := .ref (C 6)) (by rfl) Er.e6.mgC rfl) pa_nil))) (pa_cons (pe_callB (call_isZ (Er.xc k hk) (show p ∈ [p] from List.mem_cons_self) hc) (by rfl) T.isinstance (by decide +kernel) (pa_cons (pv 0) (pa_cons (pe_glob (v := .ref (C 7)) (by rfl) Er.e7.mgC rfl) pa_nil))) (pa_cons (pe_callB (call_isZ (Er.xc k hk) (show p ∈ [p] from List.mem_cons_self) hc) (by rfl) T.isinstance (by decide +kernel) (pa_cons (pv 0) (pa_cons (pe_glob (v := .ref (C 8)) (by rfl) Er.e8.mgC rfl) pa_nil))) pa_nil))))))
      (pss_cons (ps_set (i := 1) scKinds.nd rfl (.inl rfl) (pe_op op_cat (pv 1) (pe_lst (pa_cons (pe_callB (call_isZ (Er.xc k hk) (show p ∈ [p] from List.mem_cons_self) hc) (by rfl) T.isinstance (by decide +kernel) (pa_cons (pv 0) (pa_cons (pe_glob (v := .ref (C 9)) (by rfl) Er.e9.mgC rfl) pa_nil))) (pa_cons (pe_callB (call_isZ (Er.xc k hk) (show p ∈ [p] from List.mem_cons_self) hc) (by rfl) T.isinstance (by decide +kernel) (pa_cons (pv 0) (pa_cons (pe_glob (v := .ref (C 10)) (by rfl) Er.e10.mgC rfl) pa_nil))) (pa_cons (pe_callB (call_isZ (Er.xc k hk) (show p ∈ [p] from List.mem_cons_self) hc) (by rfl) T.isinstance (by decide +kernel) (pa_cons (pv 0) (pa_cons (pe_glob (v := .ref (C 11)) (by rfl) Er.e11.mgC rfl) pa_nil))) pa_nil))))))
      (pss_cons (ps_set (i := 1) scKinds.nd rfl (.inl rfl) (pe_op op_cat (pv 1) (pe_lst (pa_cons (pe_callB (call_isZ (Er.xc k hk) (show p ∈ [p] from List.mem_cons_self) hc) (by rfl) T.isinstance (by decide +kernel) (pa_cons (pv 0) (pa_cons (pe_glob (v := .ref (C 12)) (by rfl) Er.e12.mgC rfl) pa_nil))) (pa_cons (pe_callB (call_isZ (Er.xc k hk) (show p ∈ [p] from List.mem_cons_self) hc) (by rfl) T.isinstance (by decide +kernel) (pa_cons (pv 0) (pa_cons (pe_glob (v := .ref (C 13)) (by rfl) Er.e13.mgC rfl) pa_nil))) (pa_cons (pe_callB (call_isZ (Er.xc k hk) (show p ∈ [p] from List.mem_cons_self) hc) (by rfl) T.isinstance (by decide +kernel) (pa_cons (pv 0) (pa_cons (pe_glob (v := .ref (C 14)) (by rfl) Er.e14.g rfl) pa_nil))) pa_nil))))))
      (pss_cons (ps_set (i := 1) scKinds.nd rfl (.inl rfl) (pe_op op_cat (pv 1) (pe_lst (pa_cons (pe_callB (call_isZ (Er.xc k hk) (show p ∈ [p] from List.mem_cons_self) hc) (by rfl) T.isinstance (by decide +kernel) (pa_cons (pv 0) (pa_cons (pe_glob (v := .ref (C 15)) (by rfl) Er.e15.mgC rfl) pa_nil))) (pa_cons (pe_callB (call_isZ (Er.xc k hk) (show p ∈ [p] from List.mem_cons_self) hc) (by rfl) T.isinstance (by decide +kernel) (pa_cons (pv 0) (pa_cons (pe_glob (v := .ref (C 16)) (by rfl) Er.e16.g rfl) pa_nil))) (pa_cons (pe_callB (call_isZ (Er.xc k hk) (show p ∈ [p] from List.mem_cons_self) hc) (by rfl) T.isinstance (by decide +kernel) (pa_cons (pv 0) (pa_cons (pe_glob (v := .ref (C 17)) (by rfl) Er.e17.g rfl) pa_nil))) pa_nil))))))
      (pss_cons (ps_set (i := 1) scKinds.nd rfl (.inl rfl) (pe_op op_cat (pv 1) (pe_lst (pa_cons (pe_callB (call_isZ (Er.xc k hk) (show p ∈ [p] from List.mem_cons_self) hc) (by rfl) T.isinstance (by decide +kernel) (pa_cons (pv 0) (pa_cons (pe_glob (v := .ref (C 18)) (by rfl) Er.e18.g rfl) pa_nil))) (pa_cons (pe_callB (call_isZ (Er.xc k hk) (show p ∈ [p] from List.mem_cons_self) hc) (by rfl) T.isinstance (by decide +kernel) (pa_cons (pv 0) (pa_cons (pe_glob (v := .ref (C 19)) (by rfl) Er.e19.mgC rfl) pa_nil))) (pa_cons (pe_callB (call_isZ (Er.xc k hk) (show p ∈ [p] from List.mem_cons_self) hc) (by rfl) T.isinstance (by decide +kernel) (pa_cons (pv 0) (pa_cons (pe_glob (v := .ref (C 20)) (by rfl) Er.e20.mgC rfl) pa_nil))) pa_nil))))))
      (pss_cons (ps_set (i := 1) scKinds.nd rfl (.inl rfl) (pe_op op_cat (pv 1) (pe_lst (pa_cons (pe_callB (call_isZ (Er.xc k hk) (show p ∈ [p] from List.mem_cons_self) hc) (by rfl) T.isinstance (by decide +kernel) (pa_cons (pv 0) (pa_cons (pe_glob (v := .ref (C 21)) (by rfl) Er.e21.mgC rfl) pa_nil))) (pa_cons (pe_callB (call_isZ (Er.xc k hk) (show p ∈ [p] from List.mem_cons_self) hc) (by rfl) T.isinstance (by decide +kernel) (pa_cons (pv 0) (pa_cons (pe_glob (v := .ref (C 22)) (by rfl) Er.e22.g rfl) pa_nil))) (pa_cons (pe_callB (call_isZ (Er.xc k hk) (show p ∈ [p] from List.mem_cons_self) hc) (by rfl) T.isinstance (by decide +kernel) (pa_cons (pv 0) (pa_cons (pe_glob (v := .ref (C 23)) (by rfl) Er.e23.mgC rfl) pa_nil))) pa_nil))))))
      (pss_cons (ps_set (i := 1) scKinds.nd rfl (.inl rfl) (pe_op op_cat (pv 1) (pe_lst (pa_cons (pe_callB (call_isZ (Er.xc k hk) (show p ∈ [p] from List.mem_cons_self) hc) (by rfl) T.isinstance (by decide +kernel) (pa_cons (pv 0) (pa_cons (pe_glob (v := .ref (C 24)) (by rfl) Er.e24.mgC rfl) pa_nil))) (pa_cons (pe_callB (call_isZ (Er.xc k hk) (show p ∈ [p] from List.mem_cons_self) hc) (by rfl) T.isinstance (by decide +kernel) (pa_cons (pv 0) (pa_cons (pe_glob (v := .ref (C 25)) (by rfl) Er.e25.mgC rfl) pa_nil))) (pa_cons (pe_callB (call_isZ (Er.xc k hk) (show p ∈ [p] from List.mem_cons_self) hc) (by rfl) T.isinstance (by decide +kernel) (pa_cons (pv 0) (pa_cons (pe_glob (v := .ref (C 26)) (by rfl) Er.e26.mgC rfl) pa_nil))) pa_nil))))))
      (pss_cons (ps_set (i := 1) scKinds.nd rfl (.inl rfl) (pe_op op_cat (pv 1) (pe_lst (pa_cons (pe_callB (call_isZ (Er.xc k hk) (show p ∈ [p] from List.mem_cons_self) hc) (by rfl) T.isinstance (by decide +kernel) (pa_cons (pv 0) (pa_cons (pe_glob (v := .ref (C 27)) (by rfl) Er.e27.mgC rfl) pa_nil))) (pa_cons (pe_callB (call_isZ (Er.xc k hk) (show p ∈ [p] from List.mem_cons_self) hc) (by rfl) T.isinstance (by decide +kernel) (pa_cons (pv 0) (pa_cons (pe_glob (v := .ref (C 28)) (by rfl) Er.e28.mgC rfl) pa_nil))) (pa_cons (pe_callB (call_isZ (Er.xc k hk) (show p ∈ [p] from List.mem_cons_self) hc) (by rfl) T.isinstance (by decide +kernel) (pa_cons (pv 0) (pa_cons (pe_glob (v := .ref (C 29)) (by rfl) Er.e29.mgC rfl) pa_nil))) pa_nil))))))
      (pss_cons (ps_set (i := 1) scKinds.nd rfl (.inl rfl) (pe_op op_cat (pv 1) (pe_lst (pa_cons (pe_callB (call_isZ (Er.xc k hk) (show p ∈ [p] from List.mem_cons_self) hc) (by rfl) T.isinstance (by decide +kernel) (pa_cons (pv 0) (pa_cons (pe_glob (v := .ref (C 30)) (by rfl) Er.e30.mgC rfl) pa_nil))) (pa_cons (pe_callB (call_isZ (Er.xc k hk) (show p ∈ [p] from List.mem_cons_self) hc) (by rfl) T.isinstance (by decide +kernel) (pa_cons (pv 0) (pa_cons (pe_glob (v := .ref (C 31)) (by rfl) Er.e31.mgC rfl) pa_nil))) (pa_cons (pe_callB (call_isZ (Er.xc k hk) (show p ∈ [p] from List.mem_cons_self) hc) (by rfl) T.isinstance (by decide +kernel) (pa_cons (pv 0) (pa_cons (pe_glob (v := .ref (C 32)) (by rfl) Er.e32.g rfl) pa_nil))) pa_nil))))))
      (pss_cons (ps_set (i := 1) scKinds.nd rfl (.inl rfl) (pe_op op_cat (pv 1) (pe_lst (pa_cons (pe_callB (call_isZ (Er.xc k hk) (show p ∈ [p] from List.mem_cons_self) hc) (by rfl) T.isinstance (by decide +kernel) (pa_cons (pv 0) (pa_cons (pe_glob (v := .ref (C 33)) (by rfl) Er.e33.mgC rfl) pa_nil))) pa_nil))))
      (pss_one (ps_ret (pv 1))))))))))))))), ?_⟩
    have s0 : Same H H := Same.refl H
    refine ⟨_, rfl, _, _, _, rfl, .own _, hd.same s0, Er.is k 0 hk (by decide), _, rfl, _, _, _, rfl, .own _, hd.same s0, Er.is k 1 hk (by decide), _, rfl, _, _, _, rfl, .own _, hd.same s0, Er.is k 2 hk (by decide), by show 3 ≤ sizeLine; decide, fun l1 hl1 => ?_⟩
    have e1 : (upd H l1 (.lst [V.bl (decide (0 = k)), V.bl (decide (1 = k)), V.bl (decide (2 = k))])) l1 = some (.lst [V.bl (decide (0 = k)), V.bl (decide (1 = k)), V.bl (decide (2 = k))]) := upd_same
    have s1 := s0.trans (same_new (o := .lst [V.bl (decide (0 = k)), V.bl (decide (1 = k)), V.bl (decide (2 = k))]) hl1)
    generalize upd H l1 (.lst [V.bl (decide (0 = k)), V.bl (decide (1 = k)), V.bl (decide (2 = k))]) = H1 at e1 s1 ⊢
    refine ⟨_, rfl, _, rfl, _, _, _, rfl, .own _, hd.same s1, Er.is k 3 hk (by decide), _, rfl, _, _, _, rfl, .own _, hd.same s1, Er.is k 4 hk (by decide), _, rfl, _, _, _, rfl, .own _, hd.same s1, Er.is k 5 hk (by decide), by show 3 ≤ sizeLine; decide, fun q1 hq1 => ⟨l1, q1, [V.bl (decide (0 = k)), V.bl (decide (1 = k)), V.bl (decide (2 = k))], [V.bl (decide (3 = k)), V.bl (decide (4 = k)), V.bl (decide (5 = k))], rfl, rfl, (same_new hq1) _ _ e1, upd_same, by show 6 ≤ sizeLine; decide, fun l2 hl2 => ?_⟩⟩
    have e2 : (upd (upd H1 q1 (.lst [V.bl (decide (3 = k)), V.bl (decide (4 = k)), V.bl (decide (5 = k))])) l2 (.lst ([V.bl (decide (0 = k)), V.bl (decide (1 = k)), V.bl (decide (2 = k))] ++ [V.bl (decide (3 = k)), V.bl (decide (4 = k)), V.bl (decide (5 = k))]))) l2 = some (.lst [V.bl (decide (0 = k)), V.bl (decide (1 = k)), V.bl (decide (2 = k)), V.bl (decide (3 = k)), V.bl (decide (4 = k)), V.bl (decide (5 = k))]) := upd_same
    have s2 := (s1.trans (same_new (o := .lst [V.bl (decide (3 = k)), V.bl (decide (4 = k)), V.bl (decide (5 = k))]) hq1)).trans (same_new (o := .lst ([V.bl (decide (0 = k)), V.bl (decide (1 = k)), V.bl (decide (2 = k))] ++ [V.bl (decide (3 = k)), V.bl (decide (4 = k)), V.bl (decide (5 = k))])) hl2)
    generalize upd (upd H1 q1 (.lst [V.bl (decide (3 = k)), V.bl (decide (4 = k)), V.bl (decide (5 = k))])) l2 (.lst ([V.bl (decide (0 = k)), V.bl (decide (1 = k)), V.bl (decide (2 = k))] ++ [V.bl (decide (3 = k)), V.bl (decide (4 = k)), V.bl (decide (5 = k))])) = H2 at e2 s2 ⊢
    refine ⟨_, rfl, _, rfl, _, _, _, rfl, .own _, hd.same s2, Er.is k 6 hk (by decide), _, rfl, _, _, _, rfl, .own _, hd.same s2, Er.is k 7 hk (by decide), _, rfl, _, _, _, rfl, .own _, hd.same s2, Er.is k 8 hk (by decide), by show 3 ≤ sizeLine; decide, fun q2 hq2 => ⟨l2, q2, [V.bl (decide (0 = k)), V.bl (decide (1 = k)), V.bl (decide (2 = k)), V.bl (decide (3 = k)), V.bl (decide (4 = k)), V.bl (decide (5 = k))], [V.bl (decide (6 = k)), V.bl (decide (7 = k)), V.bl (decide (8 = k))], rfl, rfl, (same_new hq2) _ _ e2, upd_same, by show 9 ≤ sizeLine; decide, fun l3 hl3 => ?_⟩⟩
    have e3 : (upd (upd H2 q2 (.lst [V.bl (decide (6 = k)), V.bl (decide (7 = k)), V.bl (decide (8 = k))])) l3 (.lst ([V.bl (decide (0 = k)), V.bl (decide (1 = k)), V.bl (decide (2 = k)), V.bl (decide (3 = k)), V.bl (decide (4 = k)), V.bl (decide (5 = k))] ++ [V.bl (decide (6 = k)), V.bl (decide (7 = k)), V.bl (decide (8 = k))]))) l3 = some (.lst [V.bl (decide (0 = k)), V.bl (decide (1 = k)), V.bl (decide (2 = k)), V.bl (decide (3 = k)), V.bl (decide (4 = k)), V.bl (decide (5 = k)), V.bl (decide (6 = k)), V.bl (decide (7 = k)), V.bl (decide (8 = k))]) := upd_same
    have s3 := (s2.trans (same_new (o := .lst [V.bl (decide (6 = k)), V.bl (decide (7 = k)), V.bl (decide (8 = k))]) hq2)).trans (same_new (o := .lst ([V.bl (decide (0 = k)), V.bl (decide (1 = k)), V.bl (decide (2 = k)), V.bl (decide (3 = k)), V.bl (decide (4 = k)), V.bl (decide (5 = k))] ++ [V.bl (decide (6 = k)), V.bl (decide (7 = k)), V.bl (decide (8 = k))])) hl3)
    generalize upd (upd H2 q2 (.lst [V.bl (decide (6 = k)), V.bl (decide (7 = k)), V.bl (decide (8 = k))])) l3 (.lst ([V.bl (decide (0 = k)), V.bl (decide (1 = k)), V.bl (decide (2 = k)), V.bl (decide (3 = k)), V.bl (decide (4 = k)), V.bl (decide (5 = k))] ++ [V.bl (decide (6 = k)), V.bl (decide (7 = k)), V.bl (decide (8 = k))])) = H3 at e3 s3 ⊢
    refine ⟨_, rfl, _, rfl, _, _, _, rfl, .own _, hd.same s3, Er.is k 9 hk (by decide), _, rfl, _, _, _, rfl, .own _, hd.same s3, Er.is k 10 hk (by decide), _, rfl, _, _, _, rfl, .own _, hd.same s3, Er.is k 11 hk (by decide), by show 3 ≤ sizeLine; decide, fun q3 hq3 => ⟨l3, q3, [V.bl (decide (0 = k)), V.bl (decide (1 = k)), V.bl (decide (2 = k)), V.bl (decide (3 = k)), V.bl (decide (4 = k)), V.bl (decide (5 = k)), V.bl (decide (6 = k)), V.bl (decide (7 = k)), V.bl (decide (8 = k))], [V.bl (decide (9 = k)), V.bl (decide (10 = k)), V.bl (decide (11 = k))], rfl, rfl, (same_new hq3) _ _ e3, upd_same, by show 12 ≤ sizeLine; decide, fun l4 hl4 => ?_⟩⟩
    have e4 : (upd (upd H3 q3 (.lst [V.bl (decide (9 = k)), V.bl (decide (10 = k)), V.bl (decide (11 = k))])) l4 (.lst ([V.bl (decide (0 = k)), V.bl (decide (1 = k)), V.bl (decide (2 = k)), V.bl (decide (3 = k)), V.bl (decide (4 = k)), V.bl (decide (5 = k)), V.bl (decide (6 = k)), V.bl (decide (7 = k)), V.bl (decide (8 = k))] ++ [V.bl (decide (9 = k)), V.bl (decide (10 = k)), V.bl (decide (11 = k))]))) l4 = some (.lst [V.bl (decide (0 = k)), V.bl (decide (1 = k)), V.bl (decide (2 = k)), V.bl (decide (3 = k)), V.bl (decide (4 = k)), V.bl (decide (5 = k)), V.bl (decide (6 = k)), V.bl (decide (7 = k)), V.bl (decide (8 = k)), V.bl (decide (9 = k)), V.bl (decide (10 = k)), V.bl (decide (11 = k))]) := upd_same
    have s4 := (s3.trans (same_new (o := .lst [V.bl (decide (9 = k)), V.bl (decide (10 = k)), V.bl (decide (11 = k))]) hq3)).trans (same_new (o := .lst ([V.bl (decide (0 = k)), V.bl (decide (1 = k)), V.bl (decide (2 = k)), V.bl (decide (3 = k)), V.bl (decide (4 = k)), V.bl (decide (5 = k)), V.bl (decide (6 = k)), V.bl (decide (7 = k)), V.bl (decide (8 = k))] ++ [V.bl (decide (9 = k)), V.bl (decide (10 = k)), V.bl (decide (11 = k))])) hl4)
    generalize upd (upd H3 q3 (.lst [V.bl (decide (9 = k)), V.bl (decide (10 = k)), V.bl (decide (11 = k))])) l4 (.lst ([V.bl (decide (0 = k)), V.bl (decide (1 = k)), V.bl (decide (2 = k)), V.bl (decide (3 = k)), V.bl (decide (4 = k)), V.bl (decide (5 = k)), V.bl (decide (6 = k)), V.bl (decide (7 = k)), V.bl (decide (8 = k))] ++ [V.bl (decide (9 = k)), V.bl (decide (10 = k)), V.bl (decide (11 = k))])) = H4 at e4 s4 ⊢
    refine ⟨_, rfl, _, rfl, _, _, _, rfl, .own _, hd.same s4, Er.is k 12 hk (by decide), _, rfl, _, _, _, rfl, .own _, hd.same s4, Er.is k 13 hk (by decide), _, rfl, _, _, _, rfl, .own _, hd.same s4, Er.is k 14 hk (by decide), by show 3 ≤ sizeLine; decide, fun q4 hq4 => ⟨l4, q4, [V.bl (decide (0 = k)), V.bl (decide (1 = k)), V.bl (decide (2 = k)), V.bl (decide (3 = k)), V.bl (decide (4 = k)), V.bl (decide (5 = k)), V.bl (decide (6 = k)), V.bl (decide (7 = k)), V.bl (decide (8 = k)), V.bl (decide (9 = k)), V.bl (decide (10 = k)), V.bl (decide (11 = k))], [V.bl (decide (12 = k)), V.bl (decide (13 = k)), V.bl (decide (14 = k))], rfl, rfl, (same_new hq4) _ _ e4, upd_same, by show 15 ≤ sizeLine; decide, fun l5 hl5 => ?_⟩⟩
    have e5 : (upd (upd H4 q4 (.lst [V.bl (decide (12 = k)), V.bl (decide (13 = k)), V.bl (decide (14 = k))])) l5 (.lst ([V.bl (decide (0 = k)), V.bl (decide (1 = k)), V.bl (decide (2 = k)), V.bl (decide (3 = k)), V.bl (decide (4 = k)), V.bl (decide (5 = k)), V.bl (decide (6 = k)), V.bl (decide (7 = k)), V.bl (decide (8 = k)), V.bl (decide (9 = k)), V.bl (decide (10 = k)), V.bl (decide (11 = k))] ++ [V.bl (decide (12 = k)), V.bl (decide (13 = k)), V.bl (decide (14 = k))]))) l5 = some (.lst [V.bl (decide (0 = k)), V.bl (decide (1 = k)), V.bl (decide (2 = k)), V.bl (decide (3 = k)), V.bl (decide (4 = k)), V.bl (decide (5 = k)), V.bl (decide (6 = k)), V.bl (decide (7 = k)), V.bl (decide (8 = k)), V.bl (decide (9 = k)), V.bl (decide (10 = k)), V.bl (decide (11 = k)), V.bl (decide (12 = k)), V.bl (decide (13 = k)), V.bl (decide (14 = k))]) := upd_same
    have s5 := (s4.trans (same_new (o := .lst [V.bl (decide (12 = k)), V.bl (decide (13 = k)), V.bl (decide (14 = k))]) hq4)).trans (same_new (o := .lst ([V.bl (decide (0 = k)), V.bl (decide (1 = k)), V.bl (decide (2 = k)), V.bl (decide (3 = k)), V.bl (decide (4 = k)), V.bl (decide (5 = k)), V.bl (decide (6 = k)), V.bl (decide (7 = k)), V.bl (decide (8 = k)), V.bl (decide (9 = k)), V.bl (decide (10 = k)), V.bl (decide (11 = k))] ++ [V.bl (decide (12 = k)), V.bl (decide (13 = k)), V.bl (decide (14 = k))])) hl5)
    generalize upd (upd H4 q4 (.lst [V.bl (decide (12 = k)), V.bl (decide (13 = k)), V.bl (decide (14 = k))])) l5 (.lst ([V.bl (decide (0 = k)), V.bl (decide (1 = k)), V.bl (decide (2 = k)), V.bl (decide (3 = k)), V.bl (decide (4 = k)), V.bl (decide (5 = k)), V.bl (decide (6 = k)), V.bl (decide (7 = k)), V.bl (decide (8 = k)), V.bl (decide (9 = k)), V.bl (decide (10 = k)), V.bl (decide (11 = k))] ++ [V.bl (decide (12 = k)), V.bl (decide (13 = k)), V.bl (decide (14 = k))])) = H5 at e5 s5 ⊢
    refine ⟨_, rfl, _, rfl, _, _, _, rfl, .own _, hd.same s5, Er.is k 15 hk (by decide), _, rfl, _, _, _, rfl, .own _, hd.same s5, Er.is k 16 hk (by decide), _, rfl, _, _, _, rfl, .own _, hd.same s5, Er.is k 17 hk (by decide), by show 3 ≤ sizeLine; decide, fun q5 hq5 => ⟨l5, q5, [V.bl (decide (0 = k)), V.bl (decide (1 = k)), V.bl (decide (2 = k)), V.bl (decide (3 = k)), V.bl (decide (4 = k)), V.bl (decide (5 = k)), V.bl (decide (6 = k)), V.bl (decide (7 = k)), V.bl (decide (8 = k)), V.bl (decide (9 = k)), V.bl (decide (10 = k)), V.bl (decide (11 = k)), V.bl (decide (12 = k)), V.bl (decide (13 = k)), V.bl (decide (14 = k))], [V.bl (decide (15 = k)), V.bl (decide (16 = k)), V.bl (decide (17 = k))], rfl, rfl, (same_new hq5) _ _ e5, upd_same, by show 18 ≤ sizeLine; decide, fun l6 hl6 => ?_⟩⟩
    have e6 : (upd (upd H5 q5 (.lst [V.bl (decide (15 = k)), V.bl (decide (16 = k)), V.bl (decide (17 = k))])) l6 (.lst ([V.bl (decide (0 = k)), V.bl (decide (1 = k)), V.bl (decide (2 = k)), V.bl (decide (3 = k)), V.bl (decide (4 = k)), V.bl (decide (5 = k)), V.bl (decide (6 = k)), V.bl (decide (7 = k)), V.bl (decide (8 = k)), V.bl (decide (9 = k)), V.bl (decide (10 = k)), V.bl (decide (11 = k)), V.bl (decide (12 = k)), V.bl (decide (13 = k)), V.bl (decide (14 = k))] ++ [V.bl (decide (15 = k)), V.bl (decide (16 = k)), V.bl (decide (17 = k))]))) l6 = some (.lst [V.bl (decide (0 = k)), V.bl (decide (1 = k)), V.bl (decide (2 = k)), V.bl (decide (3 = k)), V.bl (decide (4 = k)), V.bl (decide (5 = k)), V.bl (decide (6 = k)), V.bl (decide (7 = k)), V.bl (decide (8 = k)), V.bl (decide (9 = k)), V.bl (decide (10 = k)), V.bl (decide (11 = k)), V.bl (decide (12 = k)), V.bl (decide (13 = k)), V.bl (decide (14 = k)), V.bl (decide (15 = k)), V.bl (decide (16 = k)), V.bl (decide (17 = k))]) := upd_same
    have s6 := (s5.trans (same_new (o := .lst [V.bl (decide (15 = k)), V.bl (decide (16 = k)), V.bl (decide (17 = k))]) hq5)).trans (same_new (o := .lst ([V.bl (decide (0 = k)), V.bl (decide (1 = k)), V.bl (decide (2 = k)), V.bl (decide (3 = k)), V.bl (decide (4 = k)), V.bl (decide (5 = k)), V.bl (decide (6 = k)), V.bl (decide (7 = k)), V.bl (decide (8 = k)), V.bl (decide (9 = k)), V.bl (decide (10 = k)), V.bl (decide (11 = k)), V.bl (decide (12 = k)), V.bl (decide (13 = k)), V.bl (decide (14 = k))] ++ [V.bl (decide (15 = k)), V.bl (decide (16 = k)), V.bl (decide (17 = k))])) hl6)
    generalize upd (upd H5 q5 (.lst [V.bl (decide (15 = k)), V.bl (decide (16 = k)), V.bl (decide (17 = k))])) l6 (.lst ([V.bl (decide (0 = k)), V.bl (decide (1 = k)), V.bl (decide (2 = k)), V.bl (decide (3 = k)), V.bl (decide (4 = k)), V.bl (decide (5 = k)), V.bl (decide (6 = k)), V.bl (decide (7 = k)), V.bl (decide (8 = k)), V.bl (decide (9 = k)), V.bl (decide (10 = k)), V.bl (decide (11 = k)), V.bl (decide (12 = k)), V.bl (decide (13 = k)), V.bl (decide (14 = k))] ++ [V.bl (decide (15 = k)), V.bl (decide (16 = k)), V.bl (decide (17 = k))])) = H6 at e6 s6 ⊢
    refine ⟨_, rfl, _, rfl, _, _, _, rfl, .own _, hd.same s6, Er.is k 18 hk (by decide), _, rfl, _, _, _, rfl, .own _, hd.same s6, Er.is k 19 hk (by decide), _, rfl, _, _, _, rfl, .own _, hd.same s6, Er.is k 20 hk (by decide), by show 3 ≤ sizeLine; decide, fun q6 hq6 => ⟨l6, q6, [V.bl (decide (0 = k)), V.bl (decide (1 = k)), V.bl (decide (2 = k)), V.bl (decide (3 = k)), V.bl (decide (4 = k)), V.bl (decide (5 = k)), V.bl (decide (6 = k)), V.bl (decide (7 = k)), V.bl (decide (8 = k)), V.bl (decide (9 = k)), V.bl (decide (10 = k)), V.bl (decide (11 = k)), V.bl (decide (12 = k)), V.bl (decide (13 = k)), V.bl (decide (14 = k)), V.bl (decide (15 = k)), V.bl (decide (16 = k)), V.bl (decide (17 = k))], [V.bl (decide (18 = k)), V.bl (decide (19 = k)), V.bl (decide (20 = k))], rfl, rfl, (same_new hq6) _ _ e6, upd_same, by show 21 ≤ sizeLine; decide, fun l7 hl7 => ?_⟩⟩
    have e7 : (upd (upd H6 q6 (.lst [V.bl (decide (18 = k)), V.bl (decide (19 = k)), V.bl (decide (20 = k))])) l7 (.lst ([V.bl (decide (0 = k)), V.bl (decide (1 = k)), V.bl (decide (2 = k)), V.bl (decide (3 = k)), V.bl (decide (4 = k)), V.bl (decide (5 = k)), V.bl (decide (6 = k)), V.bl (decide (7 = k)), V.bl (decide (8 = k)), V.bl (decide (9 = k)), V.bl (decide (10 = k)), V.bl (decide (11 = k)), V.bl (decide (12 = k)), V.bl (decide (13 = k)), V.bl (decide (14 = k)), V.bl (decide (15 = k)), V.bl (decide (16 = k)), V.bl (decide (17 = k))] ++ [V.bl (decide (18 = k)), V.bl (decide (19 = k)), V.bl (decide (20 = k))]))) l7 = some (.lst [V.bl (decide (0 = k)), V.bl (decide (1 = k)), V.bl (decide (2 = k)), V.bl (decide (3 = k)), V.bl (decide (4 = k)), V.bl (decide (5 = k)), V.bl (decide (6 = k)), V.bl (decide (7 = k)), V.bl (decide (8 = k)), V.bl (decide (9 = k)), V.bl (decide (10 = k)), V.bl (decide (11 = k)), V.bl (decide (12 = k)), V.bl (decide (13 = k)), V.bl (decide (14 = k)), V.bl (decide (15 = k)), V.bl (decide (16 = k)), V.bl (decide (17 = k)), V.bl (decide (18 = k)), V.bl (decide (19 = k)), V.bl (decide (20 = k))]) := upd_same
    have s7 := (s6.trans (same_new (o := .lst [V.bl (decide (18 = k)), V.bl (decide (19 = k)), V.bl (decide (20 = k))]) hq6)).trans (same_new (o := .lst ([V.bl (decide (0 = k)), V.bl (decide (1 = k)), V.bl (decide (2 = k)), V.bl (decide (3 = k)), V.bl (decide (4 = k)), V.bl (decide (5 = k)), V.bl (decide (6 = k)), V.bl (decide (7 = k)), V.bl (decide (8 = k)), V.bl (decide (9 = k)), V.bl (decide (10 = k)), V.bl (decide (11 = k)), V.bl (decide (12 = k)), V.bl (decide (13 = k)), V.bl (decide (14 = k)), V.bl (decide (15 = k)), V.bl (decide (16 = k)), V.bl (decide (17 = k))] ++ [V.bl (decide (18 = k)), V.bl (decide (19 = k)), V.bl (decide (20 = k))])) hl7)
    generalize upd (upd H6 q6 (.lst [V.bl (decide (18 = k)), V.bl (decide (19 = k)), V.bl (decide (20 = k))])) l7 (.lst ([V.bl (decide (0 = k)), V.bl (decide (1 = k)), V.bl (decide (2 = k)), V.bl (decide (3 = k)), V.bl (decide (4 = k)), V.bl (decide (5 = k)), V.bl (decide (6 = k)), V.bl (decide (7 = k)), V.bl (decide (8 = k)), V.bl (decide (9 = k)), V.bl (decide (10 = k)), V.bl (decide (11 = k)), V.bl (decide (12 = k)), V.bl (decide (13 = k)), V.bl (decide (14 = k)), V.bl (decide (15 = k)), V.bl (decide (16 = k)), V.bl (decide (17 = k))] ++ [V.bl (decide (18 = k)), V.bl (decide (19 = k)), V.bl (decide (20 = k))])) = H7 at e7 s7 ⊢
    refine ⟨_, rfl, _, rfl, _, _, _, rfl, .own _, hd.same s7, Er.is k 21 hk (by decide), _, rfl, _, _, _, rfl, .own _, hd.same s7, Er.is k 22 hk (by decide), _, rfl, _, _, _, rfl, .own _, hd.same s7, Er.is k 23 hk (by decide), by show 3 ≤ sizeLine; decide, fun q7 hq7 => ⟨l7, q7, [V.bl (decide (0 = k)), V.bl (decide (1 = k)), V.bl (decide (2 = k)), V.bl (decide (3 = k)), V.bl (decide (4 = k)), V.bl (decide (5 = k)), V.bl (decide (6 = k)), V.bl (decide (7 = k)), V.bl (decide (8 = k)), V.bl (decide (9 = k)), V.bl (decide (10 = k)), V.bl (decide (11 = k)), V.bl (decide (12 = k)), V.bl (decide (13 = k)), V.bl (decide (14 = k)), V.bl (decide (15 = k)), V.bl (decide (16 = k)), V.bl (decide (17 = k)), V.bl (decide (18 = k)), V.bl (decide (19 = k)), V.bl (decide (20 = k))], [V.bl (decide (21 = k)), V.bl (decide (22 = k)), V.bl (decide (23 = k))], rfl, rfl, (same_new hq7) _ _ e7, upd_same, by show 24 ≤ sizeLine; decide, fun l8 hl8 => ?_⟩⟩
    have e8 : (upd (upd H7 q7 (.lst [V.bl (decide (21 = k)), V.bl (decide (22 = k)), V.bl (decide (23 = k))])) l8 (.lst ([V.bl (decide (0 = k)), V.bl (decide (1 = k)), V.bl (decide (2 = k)), V.bl (decide (3 = k)), V.bl (decide (4 = k)), V.bl (decide (5 = k)), V.bl (decide (6 = k)), V.bl (decide (7 = k)), V.bl (decide (8 = k)), V.bl (decide (9 = k)), V.bl (decide (10 = k)), V.bl (decide (11 = k)), V.bl (decide (12 = k)), V.bl (decide (13 = k)), V.bl (decide (14 = k)), V.bl (decide (15 = k)), V.bl (decide (16 = k)), V.bl (decide (17 = k)), V.bl (decide (18 = k)), V.bl (decide (19 = k)), V.bl (decide (20 = k))] ++ [V.bl (decide (21 = k)), V.bl (decide (22 = k)), V.bl (decide (23 = k))]))) l8 = some (.lst [V.bl (decide (0 = k)), V.bl (decide (1 = k)), V.bl (decide (2 = k)), V.bl (decide (3 = k)), V.bl (decide (4 = k)), V.bl (decide (5 = k)), V.bl (decide (6 = k)), V.bl (decide (7 = k)), V.bl (decide (8 = k)), V.bl (decide (9 = k)), V.bl (decide (10 = k)), V.bl (decide (11 = k)), V.bl (decide (12 = k)), V.bl (decide (13 = k)), V.bl (decide (14 = k)), V.bl (decide (15 = k)), V.bl (decide (16 = k)), V.bl (decide (17 = k)), V.bl (decide (18 = k)), V.bl (decide (19 = k)), V.bl (decide (20 = k)), V.bl (decide (21 = k)), V.bl (decide (22 = k)), V.bl (decide (23 = k))]) := upd_same
    have s8 := (s7.trans (same_new (o := .lst [V.bl (decide (21 = k)), V.bl (decide (22 = k)), V.bl (decide (23 = k))]) hq7)).trans (same_new (o := .lst ([V.bl (decide (0 = k)), V.bl (decide (1 = k)), V.bl (decide (2 = k)), V.bl (decide (3 = k)), V.bl (decide (4 = k)), V.bl (decide (5 = k)), V.bl (decide (6 = k)), V.bl (decide (7 = k)), V.bl (decide (8 = k)), V.bl (decide (9 = k)), V.bl (decide (10 = k)), V.bl (decide (11 = k)), V.bl (decide (12 = k)), V.bl (decide (13 = k)), V.bl (decide (14 = k)), V.bl (decide (15 = k)), V.bl (decide (16 = k)), V.bl (decide (17 = k)), V.bl (decide (18 = k)), V.bl (decide (19 = k)), V.bl (decide (20 = k))] ++ [V.bl (decide (21 = k)), V.bl (decide (22 = k)), V.bl (decide (23 = k))])) hl8)
    generalize upd (upd H7 q7 (.lst [V.bl (decide (21 = k)), V.bl (decide (22 = k)), V.bl (decide (23 = k))])) l8 (.lst ([V.bl (decide (0 = k)), V.bl (decide (1 = k)), V.bl (decide (2 = k)), V.bl (decide (3 = k)), V.bl (decide (4 = k)), V.bl (decide (5 = k)), V.bl (decide (6 = k)), V.bl (decide (7 = k)), V.bl (decide (8 = k)), V.bl (decide (9 = k)), V.bl (decide (10 = k)), V.bl (decide (11 = k)), V.bl (decide (12 = k)), V.bl (decide (13 = k)), V.bl (decide (14 = k)), V.bl (decide (15 = k)), V.bl (decide (16 = k)), V.bl (decide (17 = k)), V.bl (decide (18 = k)), V.bl (decide (19 = k)), V.bl (decide (20 = k))] ++ [V.bl (decide (21 = k)), V.bl (decide (22 = k)), V.bl (decide (23 = k))])) = H8 at e8 s8 ⊢
    refine ⟨_, rfl, _, rfl, _, _, _, rfl, .own _, hd.same s8, Er.is k 24 hk (by decide), _, rfl, _, _, _, rfl, .own _, hd.same s8, Er.is k 25 hk (by decide), _, rfl, _, _, _, rfl, .own _, hd.same s8, Er.is k 26 hk (by decide), by show 3 ≤ sizeLine; decide, fun q8 hq8 => ⟨l8, q8, [V.bl (decide (0 = k)), V.bl (decide (1 = k)), V.bl (decide (2 = k)), V.bl (decide (3 = k)), V.bl (decide (4 = k)), V.bl (decide (5 = k)), V.bl (decide (6 = k)), V.bl (decide (7 = k)), V.bl (decide (8 = k)), V.bl (decide (9 = k)), V.bl (decide (10 = k)), V.bl (decide (11 = k)), V.bl (decide (12 = k)), V.bl (decide (13 = k)), V.bl (decide (14 = k)), V.bl (decide (15 = k)), V.bl (decide (16 = k)), V.bl (decide (17 = k)), V.bl (decide (18 = k)), V.bl (decide (19 = k)), V.bl (decide (20 = k)), V.bl (decide (21 = k)), V.bl (decide (22 = k)), V.bl (decide (23 = k))], [V.bl (decide (24 = k)), V.bl (decide (25 = k)), V.bl (decide (26 = k))], rfl, rfl, (same_new hq8) _ _ e8, upd_same, by show 27 ≤ sizeLine; decide, fun l9 hl9 => ?_⟩⟩
    have e9 : (upd (upd H8 q8 (.lst [V.bl (decide (24 = k)), V.bl (decide (25 = k)), V.bl (decide (26 = k))])) l9 (.lst ([V.bl (decide (0 = k)), V.bl (decide (1 = k)), V.bl (decide (2 = k)), V.bl (decide (3 = k)), V.bl (decide (4 = k)), V.bl (decide (5 = k)), V.bl (decide (6 = k)), V.bl (decide (7 = k)), V.bl (decide (8 = k)), V.bl (decide (9 = k)), V.bl (decide (10 = k)), V.bl (decide (11 = k)), V.bl (decide (12 = k)), V.bl (decide (13 = k)), V.bl (decide (14 = k)), V.bl (decide (15 = k)), V.bl (decide (16 = k)), V.bl (decide (17 = k)), V.bl (decide (18 = k)), V.bl (decide (19 = k)), V.bl (decide (20 = k)), V.bl (decide (21 = k)), V.bl (decide (22 = k)), V.bl (decide (23 = k))] ++ [V.bl (decide (24 = k)), V.bl (decide (25 = k)), V.bl (decide (26 = k))]))) l9 = some (.lst [V.bl (decide (0 = k)), V.bl (decide (1 = k)), V.bl (decide (2 = k)), V.bl (decide (3 = k)), V.bl (decide (4 = k)), V.bl (decide (5 = k)), V.bl (decide (6 = k)), V.bl (decide (7 = k)), V.bl (decide (8 = k)), V.bl (decide (9 = k)), V.bl (decide (10 = k)), V.bl (decide (11 = k)), V.bl (decide (12 = k)), V.bl (decide (13 = k)), V.bl (decide (14 = k)), V.bl (decide (15 = k)), V.bl (decide (16 = k)), V.bl (decide (17 = k)), V.bl (decide (18 = k)), V.bl (decide (19 = k)), V.bl (decide (20 = k)), V.bl (decide (21 = k)), V.bl (decide (22 = k)), V.bl (decide (23 = k)), V.bl (decide (24 = k)), V.bl (decide (25 = k)), V.bl (decide (26 = k))]) := upd_same
    have s9 := (s8.trans (same_new (o := .lst [V.bl (decide (24 = k)), V.bl (decide (25 = k)), V.bl (decide (26 = k))]) hq8)).trans (same_new (o := .lst ([V.bl (decide (0 = k)), V.bl (decide (1 = k)), V.bl (decide (2 = k)), V.bl (decide (3 = k)), V.bl (decide (4 = k)), V.bl (decide (5 = k)), V.bl (decide (6 = k)), V.bl (decide (7 = k)), V.bl (decide (8 = k)), V.bl (decide (9 = k)), V.bl (decide (10 = k)), V.bl (decide (11 = k)), V.bl (decide (12 = k)), V.bl (decide (13 = k)), V.bl (decide (14 = k)), V.bl (decide (15 = k)), V.bl (decide (16 = k)), V.bl (decide (17 = k)), V.bl (decide (18 = k)), V.bl (decide (19 = k)), V.bl (decide (20 = k)), V.bl (decide (21 = k)), V.bl (decide (22 = k)), V.bl (decide (23 = k))] ++ [V.bl (decide (24 = k)), V.bl (decide (25 = k)), V.bl (decide (26 = k))])) hl9)
    generalize upd (upd H8 q8 (.lst [V.bl (decide (24 = k)), V.bl (decide (25 = k)), V.bl (decide (26 = k))])) l9 (.lst ([V.bl (decide (0 = k)), V.bl (decide (1 = k)), V.bl (decide (2 = k)), V.bl (decide (3 = k)), V.bl (decide (4 = k)), V.bl (decide (5 = k)), V.bl (decide (6 = k)), V.bl (decide (7 = k)), V.bl (decide (8 = k)), V.bl (decide (9 = k)), V.bl (decide (10 = k)), V.bl (decide (11 = k)), V.bl (decide (12 = k)), V.bl (decide (13 = k)), V.bl (decide (14 = k)), V.bl (decide (15 = k)), V.bl (decide (16 = k)), V.bl (decide (17 = k)), V.bl (decide (18 = k)), V.bl (decide (19 = k)), V.bl (decide (20 = k)), V.bl (decide (21 = k)), V.bl (decide (22 = k)), V.bl (decide (23 = k))] ++ [V.bl (decide (24 = k)), V.bl (decide (25 = k)), V.bl (decide (26 = k))])) = H9 at e9 s9 ⊢
    refine ⟨_, rfl, _, rfl, _, _, _, rfl, .own _, hd.same s9, Er.is k 27 hk (by decide), _, rfl, _, _, _, rfl, .own _, hd.same s9, Er.is k 28 hk (by decide), _, rfl, _, _, _, rfl, .own _, hd.same s9, Er.is k 29 hk (by decide), by show 3 ≤ sizeLine; decide, fun q9 hq9 => ⟨l9, q9, [V.bl (decide (0 = k)), V.bl (decide (1 = k)), V.bl (decide (2 = k)), V.bl (decide (3 = k)), V.bl (decide (4 = k)), V.bl (decide (5 = k)), V.bl (decide (6 = k)), V.bl (decide (7 = k)), V.bl (decide (8 = k)), V.bl (decide (9 = k)), V.bl (decide (10 = k)), V.bl (decide (11 = k)), V.bl (decide (12 = k)), V.bl (decide (13 = k)), V.bl (decide (14 = k)), V.bl (decide (15 = k)), V.bl (decide (16 = k)), V.bl (decide (17 = k)), V.bl (decide (18 = k)), V.bl (decide (19 = k)), V.bl (decide (20 = k)), V.bl (decide (21 = k)), V.bl (decide (22 = k)), V.bl (decide (23 = k)), V.bl (decide (24 = k)), V.bl (decide (25 = k)), V.bl (decide (26 = k))], [V.bl (decide (27 = k)), V.bl (decide (28 = k)), V.bl (decide (29 = k))], rfl, rfl, (same_new hq9) _ _ e9, upd_same, by show 30 ≤ sizeLine; decide, fun l10 hl10 => ?_⟩⟩
    have e10 : (upd (upd H9 q9 (.lst [V.bl (decide (27 = k)), V.bl (decide (28 = k)), V.bl (decide (29 = k))])) l10 (.lst ([V.bl (decide (0 = k)), V.bl (decide (1 = k)), V.bl (decide (2 = k)), V.bl (decide (3 = k)), V.bl (decide (4 = k)), V.bl (decide (5 = k)), V.bl (decide (6 = k)), V.bl (decide (7 = k)), V.bl (decide (8 = k)), V.bl (decide (9 = k)), V.bl (decide (10 = k)), V.bl (decide (11 = k)), V.bl (decide (12 = k)), V.bl (decide (13 = k)), V.bl (decide (14 = k)), V.bl (decide (15 = k)), V.bl (decide (16 = k)), V.bl (decide (17 = k)), V.bl (decide (18 = k)), V.bl (decide (19 = k)), V.bl (decide (20 = k)), V.bl (decide (21 = k)), V.bl (decide (22 = k)), V.bl (decide (23 = k)), V.bl (decide (24 = k)), V.bl (decide (25 = k)), V.bl (decide (26 = k))] ++ [V.bl (decide (27 = k)), V.bl (decide (28 = k)), V.bl (decide (29 = k))]))) l10 = some (.lst [V.bl (decide (0 = k)), V.bl (decide (1 = k)), V.bl (decide (2 = k)), V.bl (decide (3 = k)), V.bl (decide (4 = k)), V.bl (decide (5 = k)), V.bl (decide (6 = k)), V.bl (decide (7 = k)), V.bl (decide (8 = k)), V.bl (decide (9 = k)), V.bl (decide (10 = k)), V.bl (decide (11 = k)), V.bl (decide (12 = k)), V.bl (decide (13 = k)), V.bl (decide (14 = k)), V.bl (decide (15 = k)), V.bl (decide (16 = k)), V.bl (decide (17 = k)), V.bl (decide (18 = k)), V.bl (decide (19 = k)), V.bl (decide (20 = k)), V.bl (decide (21 = k)), V.bl (decide (22 = k)), V.bl (decide (23 = k)), V.bl (decide (24 = k)), V.bl (decide (25 = k)), V.bl (decide (26 = k)), V.bl (decide (27 = k)), V.bl (decide (28 = k)), V.bl (decide (29 = k))]) := upd_same
    have s10 := (s9.trans (same_new (o := .lst [V.bl (decide (27 = k)), V.bl (decide (28 = k)), V.bl (decide (29 = k))]) hq9)).trans (same_new (o := .lst ([V.bl (decide (0 = k)), V.bl (decide (1 = k)), V.bl (decide (2 = k)), V.bl (decide (3 = k)), V.bl (decide (4 = k)), V.bl (decide (5 = k)), V.bl (decide (6 = k)), V.bl (decide (7 = k)), V.bl (decide (8 = k)), V.bl (decide (9 = k)), V.bl (decide (10 = k)), V.bl (decide (11 = k)), V.bl (decide (12 = k)), V.bl (decide (13 = k)), V.bl (decide (14 = k)), V.bl (decide (15 = k)), V.bl (decide (16 = k)), V.bl (decide (17 = k)), V.bl (decide (18 = k)), V.bl (decide (19 = k)), V.bl (decide (20 = k)), V.bl (decide (21 = k)), V.bl (decide (22 = k)), V.bl (decide (23 = k)), V.bl (decide (24 = k)), V.bl (decide (25 = k)), V.bl (decide (26 = k))] ++ [V.bl (decide (27 = k)), V.bl (decide (28 = k)), V.bl (decide (29 = k))])) hl10)
    generalize upd (upd H9 q9 (.lst [V.bl (decide (27 = k)), V.bl (decide (28 = k)), V.bl (decide (29 = k))])) l10 (.lst ([V.bl (decide (0 = k)), V.bl (decide (1 = k)), V.bl (decide (2 = k)), V.bl (decide (3 = k)), V.bl (decide (4 = k)), V.bl (decide (5 = k)), V.bl (decide (6 = k)), V.bl (decide (7 = k)), V.bl (decide (8 = k)), V.bl (decide (9 = k)), V.bl (decide (10 = k)), V.bl (decide (11 = k)), V.bl (decide (12 = k)), V.bl (decide (13 = k)), V.bl (decide (14 = k)), V.bl (decide (15 = k)), V.bl (decide (16 = k)), V.bl (decide (17 = k)), V.bl (decide (18 = k)), V.bl (decide (19 = k)), V.bl (decide (20 = k)), V.bl (decide (21 = k)), V.bl (decide (22 = k)), V.bl (decide (23 = k)), V.bl (decide (24 = k)), V.bl (decide (25 = k)), V.bl (decide (26 = k))] ++ [V.bl (decide (27 = k)), V.bl (decide (28 = k)), V.bl (decide (29 = k))])) = H10 at e10 s10 ⊢
    refine ⟨_, rfl, _, rfl, _, _, _, rfl, .own _, hd.same s10, Er.is k 30 hk (by decide), _, rfl, _, _, _, rfl, .own _, hd.same s10, Er.is k 31 hk (by decide), _, rfl, _, _, _, rfl, .own _, hd.same s10, Er.is k 32 hk (by decide), by show 3 ≤ sizeLine; decide, fun q10 hq10 => ⟨l10, q10, [V.bl (decide (0 = k)), V.bl (decide (1 = k)), V.bl (decide (2 = k)), V.bl (decide (3 = k)), V.bl (decide (4 = k)), V.bl (decide (5 = k)), V.bl (decide (6 = k)), V.bl (decide (7 = k)), V.bl (decide (8 = k)), V.bl (decide (9 = k)), V.bl (decide (10 = k)), V.bl (decide (11 = k)), V.bl (decide (12 = k)), V.bl (decide (13 = k)), V.bl (decide (14 = k)), V.bl (decide (15 = k)), V.bl (decide (16 = k)), V.bl (decide (17 = k)), V.bl (decide (18 = k)), V.bl (decide (19 = k)), V.bl (decide (20 = k)), V.bl (decide (21 = k)), V.bl (decide (22 = k)), V.bl (decide (23 = k)), V.bl (decide (24 = k)), V.bl (decide (25 = k)), V.bl (decide (26 = k)), V.bl (decide (27 = k)), V.bl (decide (28 = k)), V.bl (decide (29 = k))], [V.bl (decide (30 = k)), V.bl (decide (31 = k)), V.bl (decide (32 = k))], rfl, rfl, (same_new hq10) _ _ e10, upd_same, by show 33 ≤ sizeLine; decide, fun l11 hl11 => ?_⟩⟩
    have e11 : (upd (upd H10 q10 (.lst [V.bl (decide (30 = k)), V.bl (decide (31 = k)), V.bl (decide (32 = k))])) l11 (.lst ([V.bl (decide (0 = k)), V.bl (decide (1 = k)), V.bl (decide (2 = k)), V.bl (decide (3 = k)), V.bl (decide (4 = k)), V.bl (decide (5 = k)), V.bl (decide (6 = k)), V.bl (decide (7 = k)), V.bl (decide (8 = k)), V.bl (decide (9 = k)), V.bl (decide (10 = k)), V.bl (decide (11 = k)), V.bl (decide (12 = k)), V.bl (decide (13 = k)), V.bl (decide (14 = k)), V.bl (decide (15 = k)), V.bl (decide (16 = k)), V.bl (decide (17 = k)), V.bl (decide (18 = k)), V.bl (decide (19 = k)), V.bl (decide (20 = k)), V.bl (decide (21 = k)), V.bl (decide (22 = k)), V.bl (decide (23 = k)), V.bl (decide (24 = k)), V.bl (decide (25 = k)), V.bl (decide (26 = k)), V.bl (decide (27 = k)), V.bl (decide (28 = k)), V.bl (decide (29 = k))] ++ [V.bl (decide (30 = k)), V.bl (decide (31 = k)), V.bl (decide (32 = k))]))) l11 = some (.lst [V.bl (decide (0 = k)), V.bl (decide (1 = k)), V.bl (decide (2 = k)), V.bl (decide (3 = k)), V.bl (decide (4 = k)), V.bl (decide (5 = k)), V.bl (decide (6 = k)), V.bl (decide (7 = k)), V.bl (decide (8 = k)), V.bl (decide (9 = k)), V.bl (decide (10 = k)), V.bl (decide (11 = k)), V.bl (decide (12 = k)), V.bl (decide (13 = k)), V.bl (decide (14 = k)), V.bl (decide (15 = k)), V.bl (decide (16 = k)), V.bl (decide (17 = k)), V.bl (decide (18 = k)), V.bl (decide (19 = k)), V.bl (decide (20 = k)), V.bl (decide (21 = k)), V.bl (decide (22 = k)), V.bl (decide (23 = k)), V.bl (decide (24 = k)), V.bl (decide (25 = k)), V.bl (decide (26 = k)), V.bl (decide (27 = k)), V.bl (decide (28 = k)), V.bl (decide (29 = k)), V.bl (decide (30 = k)), V.bl (decide (31 = k)), V.bl (decide (32 = k))]) := upd_same
    have s11 := (s10.trans (same_new (o := .lst [V.bl (decide (30 = k)), V.bl (decide (31 = k)), V.bl (decide (32 = k))]) hq10)).trans (same_new (o := .lst ([V.bl (decide (0 = k)), V.bl (decide (1 = k)), V.bl (decide (2 = k)), V.bl (decide (3 = k)), V.bl (decide (4 = k)), V.bl (decide (5 = k)), V.bl (decide (6 = k)), V.bl (decide (7 = k)), V.bl (decide (8 = k)), V.bl (decide (9 = k)), V.bl (decide (10 = k)), V.bl (decide (11 = k)), V.bl (decide (12 = k)), V.bl (decide (13 = k)), V.bl (decide (14 = k)), V.bl (decide (15 = k)), V.bl (decide (16 = k)), V.bl (decide (17 = k)), V.bl (decide (18 = k)), V.bl (decide (19 = k)), V.bl (decide (20 = k)), V.bl (decide (21 = k)), V.bl (decide (22 = k)), V.bl (decide (23 = k)), V.bl (decide (24 = k)), V.bl (decide (25 = k)), V.bl (decide (26 = k)), V.bl (decide (27 = k)), V.bl (decide (28 = k)), V.bl (decide (29 = k))] ++ [V.bl (decide (30 = k)), V.bl (decide (31 = k)), V.bl (decide (32 = k))])) hl11)
    generalize upd (upd H10 q10 (.lst [V.bl (decide (30 = k)), V.bl (decide (31 = k)), V.bl (decide (32 = k))])) l11 (.lst ([V.bl (decide (0 = k)), V.bl (decide (1 = k)), V.bl (decide (2 = k)), V.bl (decide (3 = k)), V.bl (decide (4 = k)), V.bl (decide (5 = k)), V.bl (decide (6 = k)), V.bl (decide (7 = k)), V.bl (decide (8 = k)), V.bl (decide (9 = k)), V.bl (decide (10 = k)), V.bl (decide (11 = k)), V.bl (decide (12 = k)), V.bl (decide (13 = k)), V.bl (decide (14 = k)), V.bl (decide (15 = k)), V.bl (decide (16 = k)), V.bl (decide (17 = k)), V.bl (decide (18 = k)), V.bl (decide (19 = k)), V.bl (decide (20 = k)), V.bl (decide (21 = k)), V.bl (decide (22 = k)), V.bl (decide (23 = k)), V.bl (decide (24 = k)), V.bl (decide (25 = k)), V.bl (decide (26 = k)), V.bl (decide (27 = k)), V.bl (decide (28 = k)), V.bl (decide (29 = k))] ++ [V.bl (decide (30 = k)), V.bl (decide (31 = k)), V.bl (decide (32 = k))])) = H11 at e11 s11 ⊢
    refine ⟨_, rfl, _, rfl, _, _, _, rfl, .own _, hd.same s11, Er.is k 33 hk (by decide), by show 1 ≤ sizeLine; decide, fun q11 hq11 => ⟨l11, q11, [V.bl (decide (0 = k)), V.bl (decide (1 = k)), V.bl (decide (2 = k)), V.bl (decide (3 = k)), V.bl (decide (4 = k)), V.bl (decide (5 = k)), V.bl (decide (6 = k)), V.bl (decide (7 = k)), V.bl (decide (8 = k)), V.bl (decide (9 = k)), V.bl (decide (10 = k)), V.bl (decide (11 = k)), V.bl (decide (12 = k)), V.bl (decide (13 = k)), V.bl (decide (14 = k)), V.bl (decide (15 = k)), V.bl (decide (16 = k)), V.bl (decide (17 = k)), V.bl (decide (18 = k)), V.bl (decide (19 = k)), V.bl (decide (20 = k)), V.bl (decide (21 = k)), V.bl (decide (22 = k)), V.bl (decide (23 = k)), V.bl (decide (24 = k)), V.bl (decide (25 = k)), V.bl (decide (26 = k)), V.bl (decide (27 = k)), V.bl (decide (28 = k)), V.bl (decide (29 = k)), V.bl (decide (30 = k)), V.bl (decide (31 = k)), V.bl (decide (32 = k))], [V.bl (decide (33 = k))], rfl, rfl, (same_new hq11) _ _ e11, upd_same, by show 34 ≤ sizeLine; decide, fun l12 hl12 => ?_⟩⟩
    have e12 : (upd (upd H11 q11 (.lst [V.bl (decide (33 = k))])) l12 (.lst ([V.bl (decide (0 = k)), V.bl (decide (1 = k)), V.bl (decide (2 = k)), V.bl (decide (3 = k)), V.bl (decide (4 = k)), V.bl (decide (5 = k)), V.bl (decide (6 = k)), V.bl (decide (7 = k)), V.bl (decide (8 = k)), V.bl (decide (9 = k)), V.bl (decide (10 = k)), V.bl (decide (11 = k)), V.bl (decide (12 = k)), V.bl (decide (13 = k)), V.bl (decide (14 = k)), V.bl (decide (15 = k)), V.bl (decide (16 = k)), V.bl (decide (17 = k)), V.bl (decide (18 = k)), V.bl (decide (19 = k)), V.bl (decide (20 = k)), V.bl (decide (21 = k)), V.bl (decide (22 = k)), V.bl (decide (23 = k)), V.bl (decide (24 = k)), V.bl (decide (25 = k)), V.bl (decide (26 = k)), V.bl (decide (27 = k)), V.bl (decide (28 = k)), V.bl (decide (29 = k)), V.bl (decide (30 = k)), V.bl (decide (31 = k)), V.bl (decide (32 = k))] ++ [V.bl (decide (33 = k))]))) l12 = some (.lst [V.bl (decide (0 = k)), V.bl (decide (1 = k)), V.bl (decide (2 = k)), V.bl (decide (3 = k)), V.bl (decide (4 = k)), V.bl (decide (5 = k)), V.bl (decide (6 = k)), V.bl (decide (7 = k)), V.bl (decide (8 = k)), V.bl (decide (9 = k)), V.bl (decide (10 = k)), V.bl (decide (11 = k)), V.bl (decide (12 = k)), V.bl (decide (13 = k)), V.bl (decide (14 = k)), V.bl (decide (15 = k)), V.bl (decide (16 = k)), V.bl (decide (17 = k)), V.bl (decide (18 = k)), V.bl (decide (19 = k)), V.bl (decide (20 = k)), V.bl (decide (21 = k)), V.bl (decide (22 = k)), V.bl (decide (23 = k)), V.bl (decide (24 = k)), V.bl (decide (25 = k)), V.bl (decide (26 = k)), V.bl (decide (27 = k)), V.bl (decide (28 = k)), V.bl (decide (29 = k)), V.bl (decide (30 = k)), V.bl (decide (31 = k)), V.bl (decide (32 = k)), V.bl (decide (33 = k))]) := upd_same
    have s12 := (s11.trans (same_new (o := .lst [V.bl (decide (33 = k))]) hq11)).trans (same_new (o := .lst ([V.bl (decide (0 = k)), V.bl (decide (1 = k)), V.bl (decide (2 = k)), V.bl (decide (3 = k)), V.bl (decide (4 = k)), V.bl (decide (5 = k)), V.bl (decide (6 = k)), V.bl (decide (7 = k)), V.bl (decide (8 = k)), V.bl (decide (9 = k)), V.bl (decide (10 = k)), V.bl (decide (11 = k)), V.bl (decide (12 = k)), V.bl (decide (13 = k)), V.bl (decide (14 = k)), V.bl (decide (15 = k)), V.bl (decide (16 = k)), V.bl (decide (17 = k)), V.bl (decide (18 = k)), V.bl (decide (19 = k)), V.bl (decide (20 = k)), V.bl (decide (21 = k)), V.bl (decide (22 = k)), V.bl (decide (23 = k)), V.bl (decide (24 = k)), V.bl (decide (25 = k)), V.bl (decide (26 = k)), V.bl (decide (27 = k)), V.bl (decide (28 = k)), V.bl (decide (29 = k)), V.bl (decide (30 = k)), V.bl (decide (31 = k)), V.bl (decide (32 = k))] ++ [V.bl (decide (33 = k))])) hl12)
    generalize upd (upd H11 q11 (.lst [V.bl (decide (33 = k))])) l12 (.lst ([V.bl (decide (0 = k)), V.bl (decide (1 = k)), V.bl (decide (2 = k)), V.bl (decide (3 = k)), V.bl (decide (4 = k)), V.bl (decide (5 = k)), V.bl (decide (6 = k)), V.bl (decide (7 = k)), V.bl (decide (8 = k)), V.bl (decide (9 = k)), V.bl (decide (10 = k)), V.bl (decide (11 = k)), V.bl (decide (12 = k)), V.bl (decide (13 = k)), V.bl (decide (14 = k)), V.bl (decide (15 = k)), V.bl (decide (16 = k)), V.bl (decide (17 = k)), V.bl (decide (18 = k)), V.bl (decide (19 = k)), V.bl (decide (20 = k)), V.bl (decide (21 = k)), V.bl (decide (22 = k)), V.bl (decide (23 = k)), V.bl (decide (24 = k)), V.bl (decide (25 = k)), V.bl (decide (26 = k)), V.bl (decide (27 = k)), V.bl (decide (28 = k)), V.bl (decide (29 = k)), V.bl (decide (30 = k)), V.bl (decide (31 = k)), V.bl (decide (32 = k))] ++ [V.bl (decide (33 = k))])) = H12 at e12 s12 ⊢
    exact ⟨_, rfl, q _ _ s12 e12⟩
def spFields (C : Nat → Addr) : SpZ := fun a c d vs H Q _ => ∃ (k : Nat) (x y z : V), k < 34 ∧ c = .ref (C k) ∧ vs = [.int (k : Nat), .ref a] ∧ Flown (flds0.getD k []) [x, y, z] d H ∧ ∀ (l : Addr) (H' : Hp), Same H H' → H' l = some (.lst ([x, y, z].take (flds0.getD k []).length)) → Q (.ref l) H'
theorem scFields : FnScope ["k", "e"] ["k", "e"] (defScope sFields) := ⟨rfl, rfl, rfl, by decide +kernel, rfl, by decide +kernel, by decide +kernel⟩
theorem Flown.one {f : Str} {fl : List Str} {ws : List V} {d : Option Addr} {H : Hp} (h : Flown (f :: fl) ws d H) : ∃ (dd : Addr) (fs : List (Str × V)), d = some dd ∧ H dd = some (.xd fs) ∧ Keeps (f :: fl) ws fs := by
  rcases h with ⟨h, _⟩ | h
  · cases h
  · exact h
theorem Keeps.at {fl : List Str} {ws : List V} {fs : List (Str × V)} (h : Keeps fl ws fs) (j : Nat) (f : Str) (v : V) (hj : fl[j]? = some f) (hv : ws[j]? = some v) : fs.lookup f = some v := by
  obtain ⟨u, hu, hl⟩ := h j f hj
  rw [hv] at hu
  cases hu
  exact hl
theorem dz_fields {f : Addr} {fd : FuncData} (hm : mg "_law_fields" = some (.ref f)) (F : L2.Fun K "_law_fields" "_law_fields" sFields f fd) (Er : Errs P w K mg base C CE) : DfZ P w K mg base 1 "_law_fields" ["k", "e"] (spFields C) f fd := by
  refine ⟨hm, F.kp, F.binds (fun _ _ _ _ _ _ us hl => match us, hl with | [_, _], _ => rfl), okZ F scFields (fun a c d vs H Q h => ?_) (fun cdv A outer s H vs Q p c d hr hc h => ?_)⟩
  · obtain ⟨k, _, _, _, _, _, rfl, _⟩ := h
    rfl
  · obtain ⟨k, x, y, z, hk, rfl, rfl, hf, q⟩ := h
    refine ⟨_, (pss_cons (ps_if (pt_cmpR op_in_seq (pv 0) (pe_lst (pa_cons pe_int (pa_cons pe_int (pa_cons pe_int (pa_cons pe_int pa_nil))))) (by rfl)) (pss_one (ps_ret (pe_lst (pa_cons (pe_xz (Er.xf k hk) (Er.nN k hk "index" (by decide +kernel)) (show p ∈ [p] from List.mem_cons_self) hc (pv 1)) pa_nil)))) pss_nil)
      (pss_cons (ps_if (pt_cmpR op_in_seq (pv 0) (pe_lst (pa_cons pe_int pa_nil)) (by rfl)) (pss_one (ps_ret (pe_lst (pa_cons (pe_xz (Er.xf k hk) (Er.nN k hk "under" (by decide +kernel)) (show p ∈ [p] from List.mem_cons_self) hc (pv 1)) pa_nil)))) pss_nil)
      (pss_cons (ps_if (pt_cmpR op_in_seq (pv 0) (pe_lst (pa_cons pe_int (pa_cons pe_int (pa_cons pe_int (pa_cons pe_int (pa_cons pe_int pa_nil)))))) (by rfl)) (pss_one (ps_ret (pe_lst (pa_cons (pe_xz (Er.xf k hk) (Er.nN k hk "n" (by decide +kernel)) (show p ∈ [p] from List.mem_cons_self) hc (pv 1)) pa_nil)))) pss_nil)
      (pss_cons (ps_if (pt_cmpR op_in_seq (pv 0) (pe_lst (pa_cons pe_int pa_nil)) (by rfl)) (pss_one (ps_ret (pe_lst (pa_cons (pe_xz (Er.xf k hk) (Er.nN k hk "number" (by decide +kernel)) (show p ∈ [p] from List.mem_cons_self) hc (pv 1)) pa_nil)))) pss_nil)
      (pss_cons (ps_if (pt_cmpR op_in_seq (pv 0) (pe_lst (pa_cons pe_int (pa_cons pe_int pa_nil))) (by rfl)) (pss_one (ps_ret (pe_lst (pa_cons (pe_xz (Er.xf k hk) (Er.nN k hk "k" (by decide +kernel)) (show p ∈ [p] from List.mem_cons_self) hc (pv 1)) pa_nil)))) pss_nil)
      (pss_cons (ps_if (pt_cmpR op_in_seq (pv 0) (pe_lst (pa_cons pe_int (pa_cons pe_int (pa_cons pe_int pa_nil)))) (by rfl)) (pss_one (ps_ret (pe_lst (pa_cons (pe_xz (Er.xf k hk) (Er.nN k hk "most" (by decide +kernel)) (show p ∈ [p] from List.mem_cons_self) hc (pv 1)) pa_nil)))) pss_nil)
      (pss_cons (ps_if (pt_cmpR op_in_seq (pv 0) (pe_lst (pa_cons pe_int pa_nil)) (by rfl)) (pss_one (ps_ret (pe_lst (pa_cons (pe_xz (Er.xf k hk) (Er.nN k hk "value" (by decide +kernel)) (show p ∈ [p] from List.mem_cons_self) hc (pv 1)) pa_nil)))) pss_nil)
      (pss_cons (ps_if (pt_cmpR op_in_seq (pv 0) (pe_lst (pa_cons pe_int pa_nil)) (by rfl)) (pss_one (ps_ret (pe_lst (pa_cons (pe_xz (Er.xf k hk) (Er.nN k hk "have" (by decide +kernel)) (show p ∈ [p] from List.mem_cons_self) hc (pv 1)) (pa_cons (pe_xz (Er.xf k hk) (Er.nN k hk "want" (by decide +kernel)) (show p ∈ [p] from List.mem_cons_self) hc (pv 1)) pa_nil))))) pss_nil)
      (pss_cons (ps_if (pt_cmpR op_in_seq (pv 0) (pe_lst (pa_cons pe_int pa_nil)) (by rfl)) (pss_one (ps_ret (pe_lst (pa_cons (pe_xz (Er.xf k hk) (Er.nN k hk "what" (by decide +kernel)) (show p ∈ [p] from List.mem_cons_self) hc (pv 1)) (pa_cons (pe_xz (Er.xf k hk) (Er.nN k hk "many" (by decide +kernel)) (show p ∈ [p] from List.mem_cons_self) hc (pv 1)) (pa_cons (pe_xz (Er.xf k hk) (Er.nN k hk "most" (by decide +kernel)) (show p ∈ [p] from List.mem_cons_self) hc (pv 1)) pa_nil)))))) pss_nil)
      (pss_cons (ps_if (pt_cmpR op_in_seq (pv 0) (pe_lst (pa_cons pe_int pa_nil)) (by rfl)) (pss_one (ps_ret (pe_lst (pa_cons (pe_xz (Er.xf k hk) (Er.nN k hk "at" (by decide +kernel)) (show p ∈ [p] from List.mem_cons_self) hc (pv 1)) pa_nil)))) pss_nil)
      (pss_cons (ps_if (pt_cmpR op_in_seq (pv 0) (pe_lst (pa_cons pe_int (pa_cons pe_int (pa_cons pe_int pa_nil)))) (by rfl)) (pss_one (ps_ret (pe_lst (pa_cons (pe_xz (Er.xf k hk) (Er.nN k hk "name" (by decide +kernel)) (show p ∈ [p] from List.mem_cons_self) hc (pv 1)) pa_nil)))) pss_nil)
      (pss_cons (ps_if (pt_cmpR op_in_seq (pv 0) (pe_lst (pa_cons pe_int pa_nil)) (by rfl)) (pss_one (ps_ret (pe_lst (pa_cons (pe_xz (Er.xf k hk) (Er.nN k hk "name" (by decide +kernel)) (show p ∈ [p] from List.mem_cons_self) hc (pv 1)) (pa_cons (pe_xz (Er.xf k hk) (Er.nN k hk "why" (by decide +kernel)) (show p ∈ [p] from List.mem_cons_self) hc (pv 1)) pa_nil))))) pss_nil)
      (pss_cons (ps_if (pt_cmpR op_in_seq (pv 0) (pe_lst (pa_cons pe_int pa_nil)) (by rfl)) (pss_one (ps_ret (pe_lst (pa_cons (pe_xz (Er.xf k hk) (Er.nN k hk "name" (by decide +kernel)) (show p ∈ [p] from List.mem_cons_self) hc (pv 1)) (pa_cons (pe_xz (Er.xf k hk) (Er.nN k hk "n" (by decide +kernel)) (show p ∈ [p] from List.mem_cons_self) hc (pv 1)) pa_nil))))) pss_nil)
      (pss_cons (ps_if (pt_cmpR op_in_seq (pv 0) (pe_lst (pa_cons pe_int pa_nil)) (by rfl)) (pss_one (ps_ret (pe_lst (pa_cons (pe_xz (Er.xf k hk) (Er.nN k hk "name" (by decide +kernel)) (show p ∈ [p] from List.mem_cons_self) hc (pv 1)) (pa_cons (pe_xz (Er.xf k hk) (Er.nN k hk "by" (by decide +kernel)) (show p ∈ [p] from List.mem_cons_self) hc (pv 1)) pa_nil))))) pss_nil)
      (pss_cons (ps_if (pt_cmpR op_in_seq (pv 0) (pe_lst (pa_cons pe_int pa_nil)) (by rfl)) (pss_one (ps_ret (pe_lst (pa_cons (pe_xz (Er.xf k hk) (Er.nN k hk "line" (by decide +kernel)) (show p ∈ [p] from List.mem_cons_self) hc (pv 1)) (pa_cons (pe_xz (Er.xf k hk) (Er.nN k hk "why" (by decide +kernel)) (show p ∈ [p] from List.mem_cons_self) hc (pv 1)) pa_nil))))) pss_nil)
      (pss_one (ps_ret (pe_lst pa_nil)))))))))))))))))), ?_⟩
    have s0 : Same H H := Same.refl H
    refine ⟨_, rfl, by show 4 ≤ sizeLine; decide, fun q0 hq0 => ⟨q0, [V.int 0, V.int 6, V.int 15, V.int 19], rfl, .inl (.inl (.inl upd_same)), rfl, rfl, _, rfl, ?_⟩⟩
    have s1 := s0.trans (same_new (o := .lst [V.int 0, V.int 6, V.int 15, V.int 19]) hq0)
    generalize upd H q0 (.lst [V.int 0, V.int 6, V.int 15, V.int 19]) = H1 at s1 ⊢
    rw [if_neg Bool.false_ne_true, show inV (.int (k : Nat)) [V.int 0, V.int 6, V.int 15, V.int 19] = decide ((k : Int) ∈ [(0 : Int), (6 : Int), (15 : Int), (19 : Int)]) from inV_ints _ [(0 : Int), (6 : Int), (15 : Int), (19 : Int)]]
    refine ite2 (fun hb => ?_) (fun hb => ?_)
    · have hb := of_decide_eq_true hb
      simp only [List.mem_cons, List.not_mem_nil, or_false] at hb
      have hk2 : k = 0 ∨ k = 6 ∨ k = 15 ∨ k = 19 := by omega
      rcases hk2 with rfl | rfl | rfl | rfl
      all_goals
        obtain ⟨dd, fs, rfl, hx, kp⟩ := Flown.one hf
        exact ⟨_, rfl, rfl, dd, fs, _, rfl, s1 _ _ hx, kp.at 0 _ _ rfl rfl, by show 1 ≤ sizeLine; decide, fun l hl => q l _ (s1.trans (same_new hl)) upd_same⟩
    have m0 : k ≠ 0 ∧ k ≠ 6 ∧ k ≠ 15 ∧ k ≠ 19 := by
      have hb2 : ¬ ((k : Int) ∈ [(0 : Int), (6 : Int), (15 : Int), (19 : Int)]) := fun z => hb (decide_eq_true z)
      simp only [List.mem_cons, List.not_mem_nil, or_false] at hb2
      omega
    refine ⟨_, rfl, by show 1 ≤ sizeLine; decide, fun q1 hq1 => ⟨q1, [V.int 1], rfl, .inl (.inl (.inl upd_same)), rfl, rfl, _, rfl, ?_⟩⟩
    have s2 := s1.trans (same_new (o := .lst [V.int 1]) hq1)
    generalize upd H1 q1 (.lst [V.int 1]) = H2 at s2 ⊢
    rw [if_neg Bool.false_ne_true, show inV (.int (k : Nat)) [V.int 1] = decide ((k : Int) ∈ [(1 : Int)]) from inV_ints _ [(1 : Int)]]
    refine ite2 (fun hb => ?_) (fun hb => ?_)
    · have hb := of_decide_eq_true hb
      simp only [List.mem_cons, List.not_mem_nil, or_false] at hb
      have hk2 : k = 1 := by omega
      rcases hk2 with rfl
      all_goals
        obtain ⟨dd, fs, rfl, hx, kp⟩ := Flown.one hf
        exact ⟨_, rfl, rfl, dd, fs, _, rfl, s2 _ _ hx, kp.at 0 _ _ rfl rfl, by show 1 ≤ sizeLine; decide, fun l hl => q l _ (s2.trans (same_new hl)) upd_same⟩
    have m1 : k ≠ 1 := by
      have hb2 : ¬ ((k : Int) ∈ [(1 : Int)]) := fun z => hb (decide_eq_true z)
      simp only [List.mem_cons, List.not_mem_nil, or_false] at hb2
      omega
    refine ⟨_, rfl, by show 5 ≤ sizeLine; decide, fun q2 hq2 => ⟨q2, [V.int 2, V.int 3, V.int 13, V.int 21, V.int 23], rfl, .inl (.inl (.inl upd_same)), rfl, rfl, _, rfl, ?_⟩⟩
    have s3 := s2.trans (same_new (o := .lst [V.int 2, V.int 3, V.int 13, V.int 21, V.int 23]) hq2)
    generalize upd H2 q2 (.lst [V.int 2, V.int 3, V.int 13, V.int 21, V.int 23]) = H3 at s3 ⊢
    rw [if_neg Bool.false_ne_true, show inV (.int (k : Nat)) [V.int 2, V.int 3, V.int 13, V.int 21, V.int 23] = decide ((k : Int) ∈ [(2 : Int), (3 : Int), (13 : Int), (21 : Int), (23 : Int)]) from inV_ints _ [(2 : Int), (3 : Int), (13 : Int), (21 : Int), (23 : Int)]]
    refine ite2 (fun hb => ?_) (fun hb => ?_)
    · have hb := of_decide_eq_true hb
      simp only [List.mem_cons, List.not_mem_nil, or_false] at hb
      have hk2 : k = 2 ∨ k = 3 ∨ k = 13 ∨ k = 21 ∨ k = 23 := by omega
      rcases hk2 with rfl | rfl | rfl | rfl | rfl
      all_goals
        obtain ⟨dd, fs, rfl, hx, kp⟩ := Flown.one hf
        exact ⟨_, rfl, rfl, dd, fs, _, rfl, s3 _ _ hx, kp.at 0 _ _ rfl rfl, by show 1 ≤ sizeLine; decide, fun l hl => q l _ (s3.trans (same_new hl)) upd_same⟩
    have m2 : k ≠ 2 ∧ k ≠ 3 ∧ k ≠ 13 ∧ k ≠ 21 ∧ k ≠ 23 := by
      have hb2 : ¬ ((k : Int) ∈ [(2 : Int), (3 : Int), (13 : Int), (21 : Int), (23 : Int)]) := fun z => hb (decide_eq_true z)
      simp only [List.mem_cons, List.not_mem_nil, or_false] at hb2
      omega
    refine ⟨_, rfl, by show 1 ≤ sizeLine; decide, fun q3 hq3 => ⟨q3, [V.int 4], rfl, .inl (.inl (.inl upd_same)), rfl, rfl, _, rfl, ?_⟩⟩
    have s4 := s3.trans (same_new (o := .lst [V.int 4]) hq3)
    generalize upd H3 q3 (.lst [V.int 4]) = H4 at s4 ⊢
    rw [if_neg Bool.false_ne_true, show inV (.int (k : Nat)) [V.int 4] = decide ((k : Int) ∈ [(4 : Int)]) from inV_ints _ [(4 : Int)]]
    refine ite2 (fun hb => ?_) (fun hb => ?_)
    · have hb := of_decide_eq_true hb
      simp only [List.mem_cons, List.not_mem_nil, or_false] at hb
      have hk2 : k = 4 := by omega
      rcases hk2 with rfl
      all_goals
        obtain ⟨dd, fs, rfl, hx, kp⟩ := Flown.one hf
        exact ⟨_, rfl, rfl, dd, fs, _, rfl, s4 _ _ hx, kp.at 0 _ _ rfl rfl, by show 1 ≤ sizeLine; decide, fun l hl => q l _ (s4.trans (same_new hl)) upd_same⟩
    have m3 : k ≠ 4 := by
      have hb2 : ¬ ((k : Int) ∈ [(4 : Int)]) := fun z => hb (decide_eq_true z)
      simp only [List.mem_cons, List.not_mem_nil, or_false] at hb2
      omega
    refine ⟨_, rfl, by show 2 ≤ sizeLine; decide, fun q4 hq4 => ⟨q4, [V.int 7, V.int 12], rfl, .inl (.inl (.inl upd_same)), rfl, rfl, _, rfl, ?_⟩⟩
    have s5 := s4.trans (same_new (o := .lst [V.int 7, V.int 12]) hq4)
    generalize upd H4 q4 (.lst [V.int 7, V.int 12]) = H5 at s5 ⊢
    rw [if_neg Bool.false_ne_true, show inV (.int (k : Nat)) [V.int 7, V.int 12] = decide ((k : Int) ∈ [(7 : Int), (12 : Int)]) from inV_ints _ [(7 : Int), (12 : Int)]]
    refine ite2 (fun hb => ?_) (fun hb => ?_)
    · have hb := of_decide_eq_true hb
      simp only [List.mem_cons, List.not_mem_nil, or_false] at hb
      have hk2 : k = 7 ∨ k = 12 := by omega
      rcases hk2 with rfl | rfl
      all_goals
        obtain ⟨dd, fs, rfl, hx, kp⟩ := Flown.one hf
        exact ⟨_, rfl, rfl, dd, fs, _, rfl, s5 _ _ hx, kp.at 0 _ _ rfl rfl, by show 1 ≤ sizeLine; decide, fun l hl => q l _ (s5.trans (same_new hl)) upd_same⟩
    have m4 : k ≠ 7 ∧ k ≠ 12 := by
      have hb2 : ¬ ((k : Int) ∈ [(7 : Int), (12 : Int)]) := fun z => hb (decide_eq_true z)
      simp only [List.mem_cons, List.not_mem_nil, or_false] at hb2
      omega
    refine ⟨_, rfl, by show 3 ≤ sizeLine; decide, fun q5 hq5 => ⟨q5, [V.int 8, V.int 9, V.int 10], rfl, .inl (.inl (.inl upd_same)), rfl, rfl, _, rfl, ?_⟩⟩
    have s6 := s5.trans (same_new (o := .lst [V.int 8, V.int 9, V.int 10]) hq5)
    generalize upd H5 q5 (.lst [V.int 8, V.int 9, V.int 10]) = H6 at s6 ⊢
    rw [if_neg Bool.false_ne_true, show inV (.int (k : Nat)) [V.int 8, V.int 9, V.int 10] = decide ((k : Int) ∈ [(8 : Int), (9 : Int), (10 : Int)]) from inV_ints _ [(8 : Int), (9 : Int), (10 : Int)]]
    refine ite2 (fun hb => ?_) (fun hb => ?_)
    · have hb := of_decide_eq_true hb
      simp only [List.mem_cons, List.not_mem_nil, or_false] at hb
      have hk2 : k = 8 ∨ k = 9 ∨ k = 10 := by omega
      rcases hk2 with rfl | rfl | rfl
      all_goals
        obtain ⟨dd, fs, rfl, hx, kp⟩ := Flown.one hf
        exact ⟨_, rfl, rfl, dd, fs, _, rfl, s6 _ _ hx, kp.at 0 _ _ rfl rfl, by show 1 ≤ sizeLine; decide, fun l hl => q l _ (s6.trans (same_new hl)) upd_same⟩
    have m5 : k ≠ 8 ∧ k ≠ 9 ∧ k ≠ 10 := by
      have hb2 : ¬ ((k : Int) ∈ [(8 : Int), (9 : Int), (10 : Int)]) := fun z => hb (decide_eq_true z)
      simp only [List.mem_cons, List.not_mem_nil, or_false] at hb2
      omega
    refine ⟨_, rfl, by show 1 ≤ sizeLine; decide, fun q6 hq6 => ⟨q6, [V.int 11], rfl, .inl (.inl (.inl upd_same)), rfl, rfl, _, rfl, ?_⟩⟩
    have s7 := s6.trans (same_new (o := .lst [V.int 11]) hq6)
    generalize upd H6 q6 (.lst [V.int 11]) = H7 at s7 ⊢
    rw [if_neg Bool.false_ne_true, show inV (.int (k : Nat)) [V.int 11] = decide ((k : Int) ∈ [(11 : Int)]) from inV_ints _ [(11 : Int)]]
    refine ite2 (fun hb => ?_) (fun hb => ?_)
    · have hb := of_decide_eq_true hb
      simp only [List.mem_cons, List.not_mem_nil, or_false] at hb
      have hk2 : k = 11 := by omega
      rcases hk2 with rfl
      all_goals
        obtain ⟨dd, fs, rfl, hx, kp⟩ := Flown.one hf
        exact ⟨_, rfl, rfl, dd, fs, _, rfl, s7 _ _ hx, kp.at 0 _ _ rfl rfl, by show 1 ≤ sizeLine; decide, fun l hl => q l _ (s7.trans (same_new hl)) upd_same⟩
    have m6 : k ≠ 11 := by
      have hb2 : ¬ ((k : Int) ∈ [(11 : Int)]) := fun z => hb (decide_eq_true z)
      simp only [List.mem_cons, List.not_mem_nil, or_false] at hb2
      omega
    refine ⟨_, rfl, by show 1 ≤ sizeLine; decide, fun q7 hq7 => ⟨q7, [V.int 20], rfl, .inl (.inl (.inl upd_same)), rfl, rfl, _, rfl, ?_⟩⟩
    have s8 := s7.trans (same_new (o := .lst [V.int 20]) hq7)
    generalize upd H7 q7 (.lst [V.int 20]) = H8 at s8 ⊢
    rw [if_neg Bool.false_ne_true, show inV (.int (k : Nat)) [V.int 20] = decide ((k : Int) ∈ [(20 : Int)]) from inV_ints _ [(20 : Int)]]
    refine ite2 (fun hb => ?_) (fun hb => ?_)
    · have hb := of_decide_eq_true hb
      simp only [List.mem_cons, List.not_mem_nil, or_false] at hb
      have hk2 : k = 20 := by omega
      rcases hk2 with rfl
      all_goals
        obtain ⟨dd, fs, rfl, hx, kp⟩ := Flown.one hf
        exact ⟨_, rfl, rfl, dd, fs, _, rfl, s8 _ _ hx, kp.at 0 _ _ rfl rfl, _, rfl, rfl, dd, fs, _, rfl, s8 _ _ hx, kp.at 1 _ _ rfl rfl, by show 2 ≤ sizeLine; decide, fun l hl => q l _ (s8.trans (same_new hl)) upd_same⟩
    have m7 : k ≠ 20 := by
      have hb2 : ¬ ((k : Int) ∈ [(20 : Int)]) := fun z => hb (decide_eq_true z)
      simp only [List.mem_cons, List.not_mem_nil, or_false] at hb2
      omega
    refine ⟨_, rfl, by show 1 ≤ sizeLine; decide, fun q8 hq8 => ⟨q8, [V.int 24], rfl, .inl (.inl (.inl upd_same)), rfl, rfl, _, rfl, ?_⟩⟩
    have s9 := s8.trans (same_new (o := .lst [V.int 24]) hq8)
    generalize upd H8 q8 (.lst [V.int 24]) = H9 at s9 ⊢
    rw [if_neg Bool.false_ne_true, show inV (.int (k : Nat)) [V.int 24] = decide ((k : Int) ∈ [(24 : Int)]) from inV_ints _ [(24 : Int)]]
    refine ite2 (fun hb => ?_) (fun hb => ?_)
    · have hb := of_decide_eq_true hb
      simp only [List.mem_cons, List.not_mem_nil, or_false] at hb
      have hk2 : k = 24 := by omega
      rcases hk2 with rfl
      all_goals
        obtain ⟨dd, fs, rfl, hx, kp⟩ := Flown.one hf
        exact ⟨_, rfl, rfl, dd, fs, _, rfl, s9 _ _ hx, kp.at 0 _ _ rfl rfl, _, rfl, rfl, dd, fs, _, rfl, s9 _ _ hx, kp.at 1 _ _ rfl rfl, _, rfl, rfl, dd, fs, _, rfl, s9 _ _ hx, kp.at 2 _ _ rfl rfl, by show 3 ≤ sizeLine; decide, fun l hl => q l _ (s9.trans (same_new hl)) upd_same⟩
    have m8 : k ≠ 24 := by
      have hb2 : ¬ ((k : Int) ∈ [(24 : Int)]) := fun z => hb (decide_eq_true z)
      simp only [List.mem_cons, List.not_mem_nil, or_false] at hb2
      omega
    refine ⟨_, rfl, by show 1 ≤ sizeLine; decide, fun q9 hq9 => ⟨q9, [V.int 25], rfl, .inl (.inl (.inl upd_same)), rfl, rfl, _, rfl, ?_⟩⟩
    have s10 := s9.trans (same_new (o := .lst [V.int 25]) hq9)
    generalize upd H9 q9 (.lst [V.int 25]) = H10 at s10 ⊢
    rw [if_neg Bool.false_ne_true, show inV (.int (k : Nat)) [V.int 25] = decide ((k : Int) ∈ [(25 : Int)]) from inV_ints _ [(25 : Int)]]
    refine ite2 (fun hb => ?_) (fun hb => ?_)
    · have hb := of_decide_eq_true hb
      simp only [List.mem_cons, List.not_mem_nil, or_false] at hb
      have hk2 : k = 25 := by omega
      rcases hk2 with rfl
      all_goals
        obtain ⟨dd, fs, rfl, hx, kp⟩ := Flown.one hf
        exact ⟨_, rfl, rfl, dd, fs, _, rfl, s10 _ _ hx, kp.at 0 _ _ rfl rfl, by show 1 ≤ sizeLine; decide, fun l hl => q l _ (s10.trans (same_new hl)) upd_same⟩
    have m9 : k ≠ 25 := by
      have hb2 : ¬ ((k : Int) ∈ [(25 : Int)]) := fun z => hb (decide_eq_true z)
      simp only [List.mem_cons, List.not_mem_nil, or_false] at hb2
      omega
    refine ⟨_, rfl, by show 3 ≤ sizeLine; decide, fun q10 hq10 => ⟨q10, [V.int 26, V.int 27, V.int 28], rfl, .inl (.inl (.inl upd_same)), rfl, rfl, _, rfl, ?_⟩⟩
    have s11 := s10.trans (same_new (o := .lst [V.int 26, V.int 27, V.int 28]) hq10)
    generalize upd H10 q10 (.lst [V.int 26, V.int 27, V.int 28]) = H11 at s11 ⊢
    rw [if_neg Bool.false_ne_true, show inV (.int (k : Nat)) [V.int 26, V.int 27, V.int 28] = decide ((k : Int) ∈ [(26 : Int), (27 : Int), (28 : Int)]) from inV_ints _ [(26 : Int), (27 : Int), (28 : Int)]]
    refine ite2 (fun hb => ?_) (fun hb => ?_)
    · have hb := of_decide_eq_true hb
      simp only [List.mem_cons, List.not_mem_nil, or_false] at hb
      have hk2 : k = 26 ∨ k = 27 ∨ k = 28 := by omega
      rcases hk2 with rfl | rfl | rfl
      all_goals
        obtain ⟨dd, fs, rfl, hx, kp⟩ := Flown.one hf
        exact ⟨_, rfl, rfl, dd, fs, _, rfl, s11 _ _ hx, kp.at 0 _ _ rfl rfl, by show 1 ≤ sizeLine; decide, fun l hl => q l _ (s11.trans (same_new hl)) upd_same⟩
    have m10 : k ≠ 26 ∧ k ≠ 27 ∧ k ≠ 28 := by
      have hb2 : ¬ ((k : Int) ∈ [(26 : Int), (27 : Int), (28 : Int)]) := fun z => hb (decide_eq_true z)
      simp only [List.mem_cons, List.not_mem_nil, or_false] at hb2
      omega
    refine ⟨_, rfl, by show 1 ≤ sizeLine; decide, fun q11 hq11 => ⟨q11, [V.int 29], rfl, .inl (.inl (.inl upd_same)), rfl, rfl, _, rfl, ?_⟩⟩
    have s12 := s11.trans (same_new (o := .lst [V.int 29]) hq11)
    generalize upd H11 q11 (.lst [V.int 29]) = H12 at s12 ⊢
    rw [if_neg Bool.false_ne_true, show inV (.int (k : Nat)) [V.int 29] = decide ((k : Int) ∈ [(29 : Int)]) from inV_ints _ [(29 : Int)]]
    refine ite2 (fun hb => ?_) (fun hb => ?_)
    · have hb := of_decide_eq_true hb
      simp only [List.mem_cons, List.not_mem_nil, or_false] at hb
      have hk2 : k = 29 := by omega
      rcases hk2 with rfl
      all_goals
        obtain ⟨dd, fs, rfl, hx, kp⟩ := Flown.one hf
        exact ⟨_, rfl, rfl, dd, fs, _, rfl, s12 _ _ hx, kp.at 0 _ _ rfl rfl, _, rfl, rfl, dd, fs, _, rfl, s12 _ _ hx, kp.at 1 _ _ rfl rfl, by show 2 ≤ sizeLine; decide, fun l hl => q l _ (s12.trans (same_new hl)) upd_same⟩
    have m11 : k ≠ 29 := by
      have hb2 : ¬ ((k : Int) ∈ [(29 : Int)]) := fun z => hb (decide_eq_true z)
      simp only [List.mem_cons, List.not_mem_nil, or_false] at hb2
      omega
    refine ⟨_, rfl, by show 1 ≤ sizeLine; decide, fun q12 hq12 => ⟨q12, [V.int 30], rfl, .inl (.inl (.inl upd_same)), rfl, rfl, _, rfl, ?_⟩⟩
    have s13 := s12.trans (same_new (o := .lst [V.int 30]) hq12)
    generalize upd H12 q12 (.lst [V.int 30]) = H13 at s13 ⊢
    rw [if_neg Bool.false_ne_true, show inV (.int (k : Nat)) [V.int 30] = decide ((k : Int) ∈ [(30 : Int)]) from inV_ints _ [(30 : Int)]]
    refine ite2 (fun hb => ?_) (fun hb => ?_)
    · have hb := of_decide_eq_true hb
      simp only [List.mem_cons, List.not_mem_nil, or_false] at hb
      have hk2 : k = 30 := by omega
      rcases hk2 with rfl
      all_goals
        obtain ⟨dd, fs, rfl, hx, kp⟩ := Flown.one hf
        exact ⟨_, rfl, rfl, dd, fs, _, rfl, s13 _ _ hx, kp.at 0 _ _ rfl rfl, _, rfl, rfl, dd, fs, _, rfl, s13 _ _ hx, kp.at 1 _ _ rfl rfl, by show 2 ≤ sizeLine; decide, fun l hl => q l _ (s13.trans (same_new hl)) upd_same⟩
    have m12 : k ≠ 30 := by
      have hb2 : ¬ ((k : Int) ∈ [(30 : Int)]) := fun z => hb (decide_eq_true z)
      simp only [List.mem_cons, List.not_mem_nil, or_false] at hb2
      omega
    refine ⟨_, rfl, by show 1 ≤ sizeLine; decide, fun q13 hq13 => ⟨q13, [V.int 31], rfl, .inl (.inl (.inl upd_same)), rfl, rfl, _, rfl, ?_⟩⟩
    have s14 := s13.trans (same_new (o := .lst [V.int 31]) hq13)
    generalize upd H13 q13 (.lst [V.int 31]) = H14 at s14 ⊢
    rw [if_neg Bool.false_ne_true, show inV (.int (k : Nat)) [V.int 31] = decide ((k : Int) ∈ [(31 : Int)]) from inV_ints _ [(31 : Int)]]
    refine ite2 (fun hb => ?_) (fun hb => ?_)
    · have hb := of_decide_eq_true hb
      simp only [List.mem_cons, List.not_mem_nil, or_false] at hb
      have hk2 : k = 31 := by omega
      rcases hk2 with rfl
      all_goals
        obtain ⟨dd, fs, rfl, hx, kp⟩ := Flown.one hf
        exact ⟨_, rfl, rfl, dd, fs, _, rfl, s14 _ _ hx, kp.at 0 _ _ rfl rfl, _, rfl, rfl, dd, fs, _, rfl, s14 _ _ hx, kp.at 1 _ _ rfl rfl, by show 2 ≤ sizeLine; decide, fun l hl => q l _ (s14.trans (same_new hl)) upd_same⟩
    have m13 : k ≠ 31 := by
      have hb2 : ¬ ((k : Int) ∈ [(31 : Int)]) := fun z => hb (decide_eq_true z)
      simp only [List.mem_cons, List.not_mem_nil, or_false] at hb2
      omega
    refine ⟨_, rfl, by show 1 ≤ sizeLine; decide, fun q14 hq14 => ⟨q14, [V.int 33], rfl, .inl (.inl (.inl upd_same)), rfl, rfl, _, rfl, ?_⟩⟩
    have s15 := s14.trans (same_new (o := .lst [V.int 33]) hq14)
    generalize upd H14 q14 (.lst [V.int 33]) = H15 at s15 ⊢
    rw [if_neg Bool.false_ne_true, show inV (.int (k : Nat)) [V.int 33] = decide ((k : Int) ∈ [(33 : Int)]) from inV_ints _ [(33 : Int)]]
    refine ite2 (fun hb => ?_) (fun hb => ?_)
    · have hb := of_decide_eq_true hb
      simp only [List.mem_cons, List.not_mem_nil, or_false] at hb
      have hk2 : k = 33 := by omega
      rcases hk2 with rfl
      all_goals
        obtain ⟨dd, fs, rfl, hx, kp⟩ := Flown.one hf
        exact ⟨_, rfl, rfl, dd, fs, _, rfl, s15 _ _ hx, kp.at 0 _ _ rfl rfl, _, rfl, rfl, dd, fs, _, rfl, s15 _ _ hx, kp.at 1 _ _ rfl rfl, by show 2 ≤ sizeLine; decide, fun l hl => q l _ (s15.trans (same_new hl)) upd_same⟩
    have m14 : k ≠ 33 := by
      have hb2 : ¬ ((k : Int) ∈ [(33 : Int)]) := fun z => hb (decide_eq_true z)
      simp only [List.mem_cons, List.not_mem_nil, or_false] at hb2
      omega
    have hk2 : k = 5 ∨ k = 14 ∨ k = 16 ∨ k = 17 ∨ k = 18 ∨ k = 22 ∨ k = 32 := by omega
    rcases hk2 with rfl | rfl | rfl | rfl | rfl | rfl | rfl
    all_goals exact ⟨by show 0 ≤ sizeLine; decide, fun l hl => q l _ (s15.trans (same_new hl)) upd_same⟩
def spCaught (C : Nat → Addr) : Sp := fun vs H Q _ => ∃ (k : Nat) (a b c : V), vs = [.int (k : Nat), a, b, c] ∧ k < 34 ∧
  ∀ (l l1 l2 : Addr) (H' : Hp), Same H H' → H' l = some (.lst [.ref l1, .ref l2, .bl true]) → H' l1 = some (.lst ((kinds0 k).map V.bl)) → H' l2 = some (.lst ([a, b, c].take (flds0.getD k []).length)) → Q (.ref l) H'
theorem scCaught : FnScope ["k", "a", "b", "c", "e"] ["k", "a", "b", "c"] (defScope sCaught) := ⟨rfl, rfl, rfl, by decide +kernel, rfl, by decide +kernel, by decide +kernel⟩
theorem Flown.dict {fl : List Str} {ws : List V} {d : Option Addr} {H : Hp} (h : Flown fl ws d H) : DictAt H d := fun dd e => by
  rcases h with ⟨_, h⟩ | ⟨d2, fs, h, hx, _⟩
  · rw [h] at e; cases e
  · rw [h] at e; cases e; exact ⟨fs, hx⟩
theorem Flown.same {fl : List Str} {ws : List V} {d : Option Addr} {H H' : Hp} (h : Flown fl ws d H) (s : Same H H') : Flown fl ws d H' := by
  rcases h with h | ⟨d2, fs, h, hx, kp⟩
  · exact .inl h
  · exact .inr ⟨d2, fs, h, s _ _ hx, kp⟩
theorem df_caught {f1 f2 f3 : Addr} {fd1 fd2 fd3 : FuncData} (A : At K mg "_law_caught" sCaught) (Er : Errs P w K mg base C CE) (T : TxtZ mg) (DT : DfX P w K mg base 5 "_law_thrown" ["k", "a", "b", "c"] (spThr 0 C) f1 fd1) (DK : DfZ P w K mg base 1 "_law_kinds" ["e"] (spKinds C) f2 fd2) (DF : DfZ P w K mg base 1 "_law_fields" ["k", "e"] (spFields C) f3 fd3) :
    Df P w K mg base 6 "_law_caught" ["k", "a", "b", "c"] (spCaught C) := by
  obtain ⟨f, fd, hm, F⟩ := A.ex
  refine ⟨f, fd, hm, F.kp, F.binds (fun _ _ _ _ _ _ us hl => match us, hl with | [_, _, _, _], _ => rfl), F.ok scCaught (fun vs H Q E h => ?_) (fun cdv A outer s H vs Q E hr h => ?_)⟩
  · obtain ⟨k, a, b, c, rfl, _⟩ := h
    rfl
  · obtain ⟨k, a, b, c, rfl, hk, q⟩ := h
    refine ⟨_, pss_cons (ps_try_asL rfl rfl scCaught.nd takes0 (fun W pn xe tk _ => pss_one (ps_expr (pe_callS DT.F (hr.mono (by decide)) (by rfl) DT.at_ DT.kp DT.b (fun σ => L2.passAt tk σ) (pa_cons (pv 0) (pa_cons (pv 1) (pa_cons (pv 2) (pa_cons (pv 3) pa_nil)))))))
      (.cons (i := 4) rfl rfl ⟨rfl, by decide, .inl Er.gE⟩ (fun a oe cls d pn hz hf => pss_one (ps_ret (pe_lst (pa_cons (pe_callZ DK.F ⟨(hr.mono (j := 1) (by decide)).dp, (hr.mono (j := 1) (by decide)).un⟩ (show (a, oe) ∈ (a, oe) :: pn from List.mem_cons_self) hz hf (by rfl) DK.at_ DK.kp DK.b (pa_cons (pv 4) pa_nil))
        (pa_cons (pe_callZ DF.F ⟨(hr.mono (j := 1) (by decide)).dp, (hr.mono (j := 1) (by decide)).un⟩ (show (a, oe) ∈ (a, oe) :: pn from List.mem_cons_self) hz hf (by rfl) DF.at_ DF.kp DF.b (pa_cons (pv 0) (pa_cons (pv 4) pa_nil)))
        (pa_cons (pe_callB (call_isY (K := K) rfl (show (a, oe) ∈ (a, oe) :: pn from List.mem_cons_self) hz hf) (by rfl) T.isinstance (by decide +kernel) (pa_cons (pv 4) (pa_cons (pe_bltn (v := .ty "ValueError") (by rfl) T.vErr (by decide +kernel) rfl) pa_nil))) pa_nil)))))) .nil)) (pss_one (ps_ret (pe_lst pa_nil))), ?_⟩
    refine ⟨_, rfl, _, rfl, _, rfl, _, rfl, k, a, b, c, rfl, Nat.zero_le _, hk, fun d H1 s1 hf => ?_⟩
    refine ⟨true, Er.em k hk, fun _ e he => ?_, fun z => Bool.noConfusion z⟩
    refine ⟨_, rfl, k, hk, rfl, rfl, hf.dict, fun l1 H2 s2 e2 => ?_⟩
    refine ⟨_, rfl, _, rfl, k, a, b, c, hk, rfl, rfl, hf.same s2, fun l2 H3 s3 e3 => ?_⟩
    refine ⟨_, rfl, C k, rfl, Er.xc k hk, _, _, true, rfl, .ty "ValueError", (hf.dict.same s2).same s3, Er.vE k hk, by show 3 ≤ sizeLine; decide, fun l hl => ?_⟩
    exact q l l1 l2 _ (((s1.trans s2).trans s3).trans (same_new hl)) upd_same (same_new hl _ _ (s3 _ _ e2)) (same_new hl _ _ e3)
end
end Ef
set_option Elab.async false
set_option linter.all false
/-! a power of a wide number -/
namespace Ef
open PySem PySem.Spec PyProof.Rows L2
def CPowW : Int → Int → Prop := fun i j => 0 ≤ j ∧ (Builtin.Int.intBits i : Int) * j ≤ 2 ^ 27
theorem op_powW {X : Cx} : OpR X (binaryOp .Pow) (rI CPowW fun i j => .int (i ^ j.toNat)) := opI fun _ _ _ _ _ _ _ hc q => pow_int hc.1 hc.2 q
theorem wide_pow2 {i : Int} {b : Nat} (h : i.natAbs < 2 ^ b) (hb : b ≤ 10000) : CPowW i 2 := by
  refine ⟨by decide, ?_⟩
  have e := intBits_le h
  have e2 : (Builtin.Int.intBits i : Int) ≤ (b : Int) := by omega
  have : (2 : Int) ^ 27 = 134217728 := by decide
  omega
end Ef
set_option Elab.async false
set_option linter.all false
set_option maxRecDepth 100000
set_option maxHeartbeats 4000000
namespace Ef
open PySem PySem.Spec PyProof.Rows L2 L2H
abbrev sValue : Stmt := top 45
abbrev sLaw : Stmt := top 46
/-- data that may be compared with itself -/
structure Fine (d : PyData) : Prop where
  can : PyData.canLay0 d = true
  dep : PyData.depth d ≤ 3
  eqv : PyData.eqv d d = true
/-- the tuples stay -/
def Kt (H H' : Hp) : Prop := ∀ (x : Addr) (xs : List V), H x = some (.tup xs) → H' x = some (.tup xs)
theorem Kt.trans {H H1 H2 : Hp} (a : Kt H H1) (b : Kt H1 H2) : Kt H H2 := fun x xs h => b x xs (a x xs h)
theorem Kt.of_same {H H' : Hp} (h : Same H H') : Kt H H' := fun x xs e => h _ _ e
theorem Kt.of_kp {H H' : Hp} {p l : Addr} {ns : List Int} {a b : Int} (hP : Pen H p l ns a b) (k : Kp p H H') : Kt H H' := fun x xs e => k _ _ (ne_of e hP.hd (by intro z; cases z)) e
theorem Kt.lst {H : Hp} {q : Addr} {ys : List V} {o : HO} (h : H q = some (.lst ys)) : Kt H (upd H q o) := fun x xs e => by rw [upd_ne (ne_of e h (by intro z; cases z))]; exact e
/-- v is the data d, and stays so while the tuples stay -/
def Dv (K : PySem.W.Frag) (H : Hp) (v : V) (d : PyData) : Prop := ∀ H', Kt H H' → Dp K H' v d
def DvL (K : PySem.W.Frag) (H : Hp) (vs : List V) (ds : List PyData) : Prop := ∀ H', Kt H H' → DpAll K H' vs ds
theorem dpAll_snoc {K : PySem.W.Frag} {H : Hp} {v : V} {d : PyData} : ∀ {vs : List V} {ds : List PyData}, DpAll K H vs ds → Dp K H v d → DpAll K H (vs ++ [v]) (ds ++ [d])
  | _, _, .nil, h => .cons h .nil
  | _, _, .cons h1 h2, h => .cons h1 (dpAll_snoc h2 h)
theorem fineAll : ∀ {ds : List PyData}, (∀ d ∈ ds, Fine d) → PyData.canLayAll0 ds = true ∧ PyData.depthAll ds ≤ 3 ∧ PyData.eqvAll ds ds = true
  | [], _ => ⟨rfl, Nat.zero_le _, rfl⟩
  | d :: ds, h => by
    obtain ⟨h1, h2, h3⟩ := fineAll fun x hx => h x (List.mem_cons_of_mem _ hx)
    have f := h d List.mem_cons_self
    refine ⟨?_, ?_, ?_⟩
    · show (PyData.canLay0 d && PyData.canLayAll0 ds) = true
      rw [f.can, h1]; rfl
    · show max (PyData.depth d) (PyData.depthAll ds) ≤ 3
      exact Nat.max_le.mpr ⟨f.dep, h2⟩
    · show (PyData.eqv d d && PyData.eqvAll ds ds) = true
      rw [f.eqv, h3]; rfl
theorem Pen.newlst {H : Hp} {p l : Addr} {ns : List Int} {a b : Int} (h : Pen H p l ns a b) {q : Addr} {o : HO} (hq : H q = none) : Pen (upd H q o) p l ns a b := h.kp (Kp.new _ hq) (upd_ne (ne_of_none h.hd hq))
theorem Pen.same {H H' : Hp} {p l : Addr} {ns : List Int} {a b : Int} (h : Pen H p l ns a b) (e : Same H H') : Pen H' p l ns a b := ⟨e _ _ h.hd, e _ _ h.hl, h.len, h.a0, h.b0⟩
section
variable {P : Program} {w : World} {K : PySem.W.Frag} {mg : Str → Option Value} {base : Heap} {C : Nat → Addr} {CE : Addr}
def spValue (K : PySem.W.Frag) : Sp := fun vs H Q _ => ∃ (p l : Addr) (ns : List Int) (a b : Int), vs = [.ref p] ∧ Pen H p l ns a b ∧ a ≤ 1000000000 ∧
  ∀ (v : V) (d : PyData) (a' b' : Int) (H' : Hp), Dv K H' v d → Fine d → a' ≤ a + 1 → Pen H' p l ns a' b' → Kp p H H' → Q v H'
theorem scValue : FnScope ["pen"] ["pen"] (defScope sValue) := ⟨rfl, rfl, rfl, by decide +kernel, rfl, by decide +kernel, by decide +kernel⟩
theorem df_value (A : At K mg "_law_value" sValue) (Dpick : Df P w K mg base 2 "_law_pick" ["pen", "some"] (spPick K)) : Df P w K mg base 3 "_law_value" ["pen"] (spValue K) := by
  obtain ⟨f, fd, hm, F⟩ := A.ex
  refine ⟨f, fd, hm, F.kp, F.binds (fun _ _ _ _ _ _ us hl => match us, hl with | [_], _ => rfl), F.ok scValue (fun vs H Q E h => ?_) (fun cdv A outer s H vs Q E hr h => ?_)⟩
  · obtain ⟨p, l, ns, a, b, rfl, _⟩ := h
    rfl
  · obtain ⟨p, l, ns, a, b, rfl, hP, ha, q⟩ := h
    refine ⟨_, (pss_one (ps_ret (Dpick.call (hr.mono (by decide)) (pa_cons (pv 0) (pa_cons (pe_lst (pa_cons pe_str (pa_cons (pe_op op_powW pe_int pe_int) (pa_cons (pe_op op_powW pe_int pe_int) (pa_cons (pe_un un_neg pe_int) (pa_cons (pe_tup (pa_cons pe_int (pa_cons pe_str pa_nil))) (pa_cons pe_str (pa_cons (pe_tup (pa_cons pe_str (pa_cons (pe_tup (pa_cons pe_int (pa_cons pe_int pa_nil))) pa_nil))) (pa_cons pe_int (pa_cons pe_str (pa_cons (pe_tup pa_nil) (pa_cons pe_non pa_nil)))))))))))) pa_nil))))), ?_⟩
    refine ⟨_, rfl, _, _, rfl, rfl, ⟨by decide, by decide +kernel⟩, _, _, rfl, rfl, ⟨by decide, by decide +kernel⟩, _, rfl, by show 2 ≤ sizeLine; decide, fun t1 h1 => ?_⟩
    have s1 := same_new (o := .tup [.int 3, .str "x"]) h1
    have e1 : (upd H t1 (.tup [.int 3, .str "x"])) t1 = some (.tup [.int 3, .str "x"]) := upd_same
    generalize upd H t1 (.tup [.int 3, .str "x"]) = H1 at s1 e1 ⊢
    refine ⟨by show 2 ≤ sizeLine; decide, fun t2 h2 => ?_⟩
    have s2 := same_new (o := .tup [.int 0, .int 4]) h2
    have e2 : (upd H1 t2 (.tup [.int 0, .int 4])) t2 = some (.tup [.int 0, .int 4]) := upd_same
    generalize upd H1 t2 (.tup [.int 0, .int 4]) = H2 at s2 e2 ⊢
    refine ⟨by show 2 ≤ sizeLine; decide, fun t3 h3 => ?_⟩
    have s3 := same_new (o := .tup [.str "f", .ref t2]) h3
    have e3 : (upd H2 t3 (.tup [.str "f", .ref t2])) t3 = some (.tup [.str "f", .ref t2]) := upd_same
    generalize upd H2 t3 (.tup [.str "f", .ref t2]) = H3 at s3 e3 ⊢
    refine ⟨by show 0 ≤ sizeLine; decide, fun t4 h4 => ?_⟩
    have s4 := same_new (o := .tup []) h4
    have e4 : (upd H3 t4 (.tup [])) t4 = some (.tup []) := upd_same
    generalize upd H3 t4 (.tup []) = H4 at s4 e4 ⊢
    refine ⟨by show 11 ≤ sizeLine; decide, fun t5 h5 => ?_⟩
    have sA : Same H H4 := ((s1.trans s2).trans s3).trans s4
    have hP4 := hP.same sA
    have np : ∀ {t : Addr} {xs : List V} {H' : Hp}, Pen H' p l ns a b → H' t = some (.tup xs) → t ≠ p := fun hp ht => ne_of ht hp.hd (by intro z; cases z)
    refine ⟨p, l, t5, ns, a, b, _, rfl, hP4.newlst h5, by omega, .inl (.inl upd_same), fun z => ?_, by show 1 ≤ 11; decide, by show 11 ≤ 100000; decide, ?_⟩
    · rw [z, hP4.hd] at h5; cases h5
    intro j v a' b' H' hj ha' hP' hK
    have k4 : Kp p H4 H' := (Kp.of_same (same_new h5)).trans hK
    have kA : Kp p H H' := (Kp.of_same sA).trans k4
    have tupAt : ∀ {t : Addr} {xs : List V} {H2 : Hp}, H4 t = some (.tup xs) → Kt H' H2 → SqT K H2 t xs := fun ht k => .inl (.inl (k _ _ (k4 _ _ (np hP4 ht) ht)))
    have hm := List.mem_of_getElem? hj
    simp only [List.mem_cons, List.not_mem_nil, or_false] at hm
    have fin : ∀ (d : PyData), Dv K H' v d → Fine d → Q v H' := fun d h1 h2 => q v d a' b' H' h1 h2 ha' hP' kA
    rcases hm with rfl | rfl | rfl | rfl | rfl | rfl | rfl | rfl | rfl | rfl | rfl
    · exact fin _ (fun _ _ => .str _) ⟨by decide +kernel, by decide +kernel, by decide +kernel⟩
    · exact fin _ (fun _ _ => .int _) ⟨by decide +kernel, by decide +kernel, by decide +kernel⟩
    · exact fin _ (fun _ _ => .int _) ⟨by decide +kernel, by decide +kernel, by decide +kernel⟩
    · exact fin _ (fun _ _ => .int _) ⟨by decide +kernel, by decide +kernel, by decide +kernel⟩
    · exact fin _ (fun _ k => .tup (tupAt (s4 _ _ (s3 _ _ (s2 _ _ e1))) k) (.cons (.int _) (.cons (.str _) .nil))) ⟨by decide +kernel, by decide +kernel, by decide +kernel⟩
    · exact fin _ (fun _ _ => .str _) ⟨by decide +kernel, by decide +kernel, by decide +kernel⟩
    · exact fin _ (fun _ k => .tup (tupAt (s4 _ _ e3) k) (.cons (.str _) (.cons (.tup (tupAt (s4 _ _ (s3 _ _ e2)) k) (.cons (.int _) (.cons (.int _) .nil))) .nil))) ⟨by decide +kernel, by decide +kernel, by decide +kernel⟩
    · exact fin _ (fun _ _ => .int _) ⟨by decide +kernel, by decide +kernel, by decide +kernel⟩
    · exact fin _ (fun _ _ => .str _) ⟨by decide +kernel, by decide +kernel, by decide +kernel⟩
    · exact fin _ (fun _ k => .tup (tupAt e4 k) .nil) ⟨by decide +kernel, by decide +kernel, by decide +kernel⟩
    · exact fin _ (fun _ _ => .non) ⟨by decide +kernel, by decide +kernel, by decide +kernel⟩
end
end Ef
set_option Elab.async false
set_option linter.all false
set_option maxRecDepth 100000
set_option maxHeartbeats 8000000
namespace Ef
open PySem PySem.Spec PyProof.Rows L2 L2H
section
variable {P : Program} {w : World} {K : PySem.W.Frag} {mg : Str → Option Value} {base : Heap} {C : Nat → Addr} {CE : Addr}
def sizes0 : List Int := [1, 1, 1, 1, 1, 0, 1, 1, 1, 1, 1, 1, 1, 1, 0, 1, 0, 0, 0, 1, 2, 1, 0, 1, 3, 1, 1, 1, 1, 2, 2, 2, 0, 2]
theorem sizes_at : ∀ k : Nat, k < 34 → sizes0[k]? = some (((flds0.getD k []).length : Nat) : Int) ∧ (flds0.getD k []).length ≤ 3 := by decide +kernel
theorem dk0 (j k : Nat) : decide (0 + (j : Int) = (k : Int)) = decide (j = k) := by
  by_cases w : j = k
  · rw [decide_eq_true w, decide_eq_true (by omega)]
  · rw [decide_eq_false w, decide_eq_false (by omega)]
def spLaw (K : PySem.W.Frag) : Sp := fun vs H Q _ => ∃ (a : Addr) (ns : List Int), vs = [.ref a] ∧ SqL K H a (ns.map V.int) ∧ ns.length ≤ 63 ∧ ∀ H', Q (.bl true) H'
theorem scLaw : FnScope ["script", "pen", "sizes", "turn", "k", "fields", "more", "due", "spot", "j"] ["script"] (defScope sLaw) := ⟨rfl, rfl, rfl, by decide +kernel, rfl, by decide +kernel, by decide +kernel⟩
theorem ok_law {f : Addr} {fd : FuncData} (F : L2.Fun K "law" "law" sLaw f fd) (T : TxtZ mg) (Dpen : Df P w K mg base 1 "_law_pen" ["script"] (spPen K)) (Ddraw : Df P w K mg base 1 "_law_draw" ["pen", "many"] spDraw)
    (Dvalue : Df P w K mg base 3 "_law_value" ["pen"] (spValue K)) (Dcaught : Df P w K mg base 6 "_law_caught" ["k", "a", "b", "c"] (spCaught C)) : FnOk P w K mg base CX0 7 f fd ["script"] (spLaw K) := by
  refine F.ok scLaw (fun vs H Q E h => ?_) (fun cdv A outer s H vs Q E hr h => ?_)
  · obtain ⟨a, ns, rfl, _⟩ := h
    rfl
  · obtain ⟨a, ns, rfl, hS, hlen, q⟩ := h
    refine ⟨_, (pss_cons (ps_set (i := 1) scLaw.nd rfl (.inr rfl) (Dpen.call (hr.mono (by decide)) (pa_cons (pv 0) pa_nil)))
      (pss_cons (ps_set (i := 2) scLaw.nd rfl (.inl rfl) (pe_lst (pa_cons pe_int (pa_cons pe_int (pa_cons pe_int (pa_cons pe_int (pa_cons pe_int (pa_cons pe_int (pa_cons pe_int (pa_cons pe_int (pa_cons pe_int (pa_cons pe_int (pa_cons pe_int (pa_cons pe_int (pa_cons pe_int (pa_cons pe_int (pa_cons pe_int (pa_cons pe_int (pa_cons pe_int (pa_cons pe_int (pa_cons pe_int (pa_cons pe_int (pa_cons pe_int (pa_cons pe_int (pa_cons pe_int (pa_cons pe_int (pa_cons pe_int (pa_cons pe_int (pa_cons pe_int (pa_cons pe_int (pa_cons pe_int (pa_cons pe_int (pa_cons pe_int (pa_cons pe_int (pa_cons pe_int (pa_cons pe_int pa_nil))))))))))))))))))))))))))))))))))))
      (pss_cons (ps_for PassesOwn.never rfl (pi_range1 (by rfl) T.range (pa_cons (pe_op op_add pe_int (pe_callB (call_min2 rfl) (by rfl) T.min (by decide +kernel) (pa_cons pe_int (pa_cons (pe_callB call_len_seq (by rfl) T.len PySem.boot_len (pa_cons (pv 0) pa_nil)) pa_nil)))) pa_nil)) (pg_name (i := 3) scLaw.nd rfl (.inl rfl))
      (pss_cons (ps_set (i := 4) scLaw.nd rfl (.inr rfl) (pe_ifExp (pt_cmpR op_lt (pv 3) pe_int (nomark _)) (pv 3) (Ddraw.call (hr.mono (by decide)) (pa_cons (pv 1) (pa_cons pe_int pa_nil)))))
      (pss_cons (ps_setLc (i := 5) (own := [("spot", 8)]) (g := gName 8) (by rfl) scLaw.nd rfl rfl (sw_true rfl rfl rfl (by decide +kernel)) (pi_range1 (by rfl) T.range (pa_cons (pe_ix ix_list (pv 2) (pv 4) (fun _ _ => rfl)) pa_nil)) (blkOk_by (own := [("spot", 8)]) (N := ["script", "pen", "sizes", "turn", "k", "fields", "more", "due", "spot", "j"]) (sc := defScope sLaw) (by decide +kernel)) (fun _ _ _ _ _ => pg_name (i := 8) scLaw.nd rfl (Or.inl rfl)) (fun _ _ _ _ _ => pts_nil) (fun _ _ _ _ _ => (Dvalue.call (hr.mono (by decide)) (pa_cons (pv 1) pa_nil))))
      (pss_cons (ps_set (i := 6) scLaw.nd rfl (.inl rfl) (pe_op op_cat (pv 5) (pe_lst (pa_cons pe_non (pa_cons pe_non (pa_cons pe_non pa_nil))))))
      (pss_cons (ps_set (i := 7) scLaw.nd rfl (.inl rfl) (pe_lst (pa_cons (pe_lc (own := [("j", 9)]) (g := gName 9) (by rfl) scLaw.nd (pi_range1 (by rfl) T.range (pa_cons pe_int pa_nil)) (blkOk_by (own := [("j", 9)]) (N := ["script", "pen", "sizes", "turn", "k", "fields", "more", "due", "spot", "j"]) (sc := defScope sLaw) (by decide +kernel)) (fun _ _ _ _ _ => pg_name (i := 9) scLaw.nd rfl (Or.inl rfl)) (fun _ _ _ _ _ => pts_nil) (fun _ _ _ _ _ => (pe_cmpR op_eq (pv 9) (pv 4) (nomark _)))) (pa_cons (pv 5) (pa_cons pe_bl pa_nil)))))
      (pss_one (ps_if (pt_cmpR (op_neD hr.units) (Dcaught.call (hr.mono (by decide)) (pa_cons (pv 4) (pa_cons (pe_ix ix_list (pv 6) pe_int (fun _ _ => rfl)) (pa_cons (pe_ix ix_list (pv 6) pe_int (fun _ _ => rfl)) (pa_cons (pe_ix ix_list (pv 6) pe_int (fun _ _ => rfl)) pa_nil))))) (pv 7) (nomark _)) (pss_one (ps_ret pe_bl)) pss_nil)))))))
      (pss_one (ps_ret pe_bl))))), ?_⟩
    refine ⟨_, rfl, a, ns, rfl, hS, hlen, fun p l H0 hp0 s0 hP0 => ?_⟩
    refine ⟨by show 34 ≤ sizeLine; decide, fun z hz => ?_⟩
    have s1 := s0.trans (same_new (o := .lst (sizes0.map V.int)) hz)
    have eZ : (upd H0 z (.lst (sizes0.map V.int))) z = some (.lst (sizes0.map V.int)) := upd_same
    have hPz := hP0.newlst (o := .lst (sizes0.map V.int)) hz
    refine ⟨_, rfl, a, _, rfl, .inl (s1.seq hS), _, _, rfl, _, _, rfl, rfl, ?_⟩
    have hm : ∃ m : Int, (if (((ns.map V.int).length : Nat) : Int) < 20 then (((ns.map V.int).length : Nat) : Int) else 20) = m ∧ 0 ≤ m ∧ m ≤ 20 := by
      refine ⟨_, rfl, ?_, ?_⟩ <;> split <;> omega
    obtain ⟨m, em, m0, m20⟩ := hm
    rw [em]
    refine ⟨_, rfl, by omega, by omega, ?_⟩
    refine for_range (lo := 0) (n := (34 + m).toNat) (fun i σ H' => ∃ (a' b' : Int) (y3 y4 y5 y6 y7 y8 y9 : Option V), Pen H' p l ns a' b' ∧ a' ≤ 10 * i ∧ H' z = some (.lst (sizes0.map V.int)) ∧ σ = [some (.ref a), some (.ref p), some (.ref z), y3, y4, y5, y6, y7, y8, y9])
      ⟨0, 0, none, none, none, none, none, none, none, hPz, by omega, eZ, rfl⟩ ?_ ?_
    · rintro i σ H1 hi ⟨a1, b1, y3, y4, y5, y6, y7, y8, y9, hP1, ha1, eZ1, rfl⟩
      have hi9 : i < 100 := by omega
      have ha2 : a1 ≤ 10 * i + 1 := by omega
      refine ⟨_, rfl, _, _, rfl, rfl, _, rfl, ?_⟩
      refine ite2 ?g1 ?g2
      case' g1 =>
        intro hb
        obtain ⟨kk, ek, hk⟩ : ∃ kk : Nat, (0 + (i : Int)) = (kk : Int) ∧ kk < 34 := ⟨i, by omega, by have := of_decide_eq_true hb; omega⟩
        refine ⟨_, rfl, ?_⟩
        rw [ek]
      case' g2 =>
        intro hb
        refine ⟨_, rfl, p, l, ns, a1, b1, _, rfl, hP1, by omega, by decide, by decide, fun d a2 b2 H2 d0 d1 ha3 hP2 hK2 => ?_⟩
        have eZ2 := hK2 _ _ (ne_of eZ1 hP1.hd (by intro q; cases q)) eZ1
        have ha2 : a2 ≤ 10 * i + 1 := by omega
        clear hP1 eZ1 hK2 ha3 ha1
        obtain ⟨kk, rfl, hk⟩ : ∃ kk : Nat, d = (kk : Int) ∧ kk < 34 := ⟨d.toNat, by omega, by omega⟩
        have hP1 := hP2
        have eZ1 := eZ2
      all_goals
        obtain ⟨hsz, hlm⟩ := sizes_at kk hk
        refine ⟨_, rfl, _, rfl, z, _, _, _, rfl, rfl, .inl (.inl eZ1), at_of rfl (by rw [List.getElem?_map, hsz]; rfl), _, rfl, by omega, by omega, fun D hD => ?_⟩
        generalize hn : (flds0.getD kk []).length = n at hlm hsz ⊢
        have hDp : D ≠ p := fun e => by rw [e, hP1.hd] at hD; cases hD
        have hDl : D ≠ l := fun e => by rw [e, hP1.hl] at hD; cases hD
        refine lc_range (lo := 0) (n := ((n : Nat) : Int).toNat) (fun j H' => ∃ (vs : List V) (ds : List PyData) (a' b' : Int), H' D = some (.lst vs) ∧ vs.length = j ∧ DvL K H' vs ds ∧ (∀ d ∈ ds, Fine d) ∧ Pen H' p l ns a' b' ∧ a' ≤ 10 * i + 1 + j ∧ Kp p _ H')
          ⟨[], [], _, _, upd_same, rfl, fun _ _ => .nil, fun d hd => (by cases hd), hP1.newlst hD, by omega, Kp.new _ hD⟩ ?_ ?_
        · rintro j H4 hj ⟨vs, ds, a4, b4, hV, hl4, hds, hF, hP4, ha4, hK4⟩
          refine ⟨rfl, _, rfl, p, l, ns, a4, b4, rfl, hP4, by omega, fun v d a5 b5 H5 hv hd ha5 hP5 hK5 => ?_⟩
          have hV5 := hK5 _ _ hDp hV
          have kt5 : Kt H5 (upd H5 D (.lst (vs ++ [v]))) := Kt.lst hV5
          refine ⟨_, hV5, Nat.lt_of_le_of_lt (show vs.length ≤ 100 by omega) (by decide), vs ++ [v], ds ++ [d], a5, b5, upd_same, by rw [List.length_append, hl4]; rfl, fun H6 k6 => dpAll_snoc (hds H6 (((Kt.of_kp hP4 hK5).trans kt5).trans k6)) (hv H6 (kt5.trans k6)), fun x hx => ?_, ?_, by omega, (hK4.trans hK5).mut hD⟩
          · rcases List.mem_append.mp hx with w | w
            · exact hF x w
            · rw [List.mem_singleton.mp w]; exact hd
          · exact ⟨by rw [upd_ne (Ne.symm hDp)]; exact hP5.hd, by rw [upd_ne (Ne.symm hDl)]; exact hP5.hl, hP5.len, hP5.a0, hP5.b0⟩
        · rintro H4 ⟨vs, ds, a4, b4, hV, hl4, hds, hF, hP4, ha4, hK4⟩
          have hvn : vs.length = n := by omega
          have eZ4 := hK4 _ _ (ne_of eZ1 hP1.hd (by intro q; cases q)) eZ1
          refine ⟨_, rfl, by show 3 ≤ sizeLine; decide, fun t1 ht1 => ⟨D, t1, vs, [.non, .non, .non], rfl, rfl, same_new ht1 _ _ hV, upd_same, Nat.le_trans (show vs.length + 3 ≤ 100 by omega) (by decide), fun mo hmo => ?_⟩⟩
          have s5 : Same H4 (upd (upd H4 t1 (.lst [.non, .non, .non])) mo (.lst (vs ++ [.non, .non, .non]))) := (same_new ht1).trans (same_new hmo)
          have e5 : (upd (upd H4 t1 (.lst [.non, .non, .non])) mo (.lst (vs ++ [.non, .non, .non]))) mo = some (.lst (vs ++ [.non, .non, .non])) := upd_same
          generalize upd (upd H4 t1 (.lst [.non, .non, .non])) mo (.lst (vs ++ [.non, .non, .non])) = H5 at s5 e5 ⊢
          refine ⟨34, rfl, by decide, by decide, fun D2 hD2 => ?_⟩
          refine lc_range (lo := 0) (n := 34) (fun j H' => Same H5 H' ∧ H' D2 = some (.lst (((List.range j).map fun x => decide (x = kk)).map V.bl))) ⟨same_new hD2, upd_same⟩ ?_ ?_
          · rintro j H6 hj ⟨s6, e6⟩
            refine ⟨rfl, _, rfl, _, rfl, rfl, ?_⟩
            refine ⟨_, e6, ?_, same_mut s6 hD2, ?_⟩
            · rw [List.length_map, List.length_map, List.length_range]; exact Nat.lt_of_le_of_lt (show j ≤ 100 by omega) (by decide)
            · rw [upd_same, dint, List.range_succ, List.map_append, List.map_append, dk0]
              rfl
          · rintro H6 ⟨s6, e6⟩
            refine ⟨_, rfl, by show 3 ≤ sizeLine; decide, fun du hdu => ?_⟩
            have s7 : Same H6 (upd H6 du (.lst [.ref D2, .ref D, .bl true])) := same_new hdu
            have e7 : (upd H6 du (.lst [.ref D2, .ref D, .bl true])) du = some (.lst [.ref D2, .ref D, .bl true]) := upd_same
            generalize upd H6 du (.lst [.ref D2, .ref D, .bl true]) = H7 at s7 e7 ⊢
            have hmore : ∃ x0 x1 x2 rest, vs ++ [V.non, V.non, V.non] = x0 :: x1 :: x2 :: rest ∧ [x0, x1, x2].take vs.length = vs := by
              match vs, hvn with
              | [], _ => exact ⟨_, _, _, _, rfl, rfl⟩
              | [v1], _ => exact ⟨_, _, _, _, rfl, rfl⟩
              | [v1, v2], _ => exact ⟨_, _, _, _, rfl, rfl⟩
              | [v1, v2, v3], _ => exact ⟨_, _, _, _, rfl, rfl⟩
              | _ :: _ :: _ :: _ :: _, h4 => exact absurd hlm (by rw [← h4]; simp only [List.length_cons]; omega)
            obtain ⟨x0, x1, x2, rest, ex, etk⟩ := hmore
            have e57 : H7 mo = some (.lst (x0 :: x1 :: x2 :: rest)) := by rw [← ex]; exact s7 _ _ (s6 _ _ e5)
            have sq : SqL K H7 mo (x0 :: x1 :: x2 :: rest) := .inl (.inl e57)
            refine ⟨_, rfl, _, rfl, mo, _, _, x0, rfl, rfl, sq, at_of (show (0 : Int) = ((0 : Nat) : Int) from rfl) rfl, _, rfl, mo, _, _, x1, rfl, rfl, sq, at_of (show (1 : Int) = ((1 : Nat) : Int) from rfl) rfl, _, rfl, mo, _, _, x2, rfl, rfl, sq, at_of (show (2 : Int) = ((2 : Nat) : Int) from rfl) rfl, kk, x0, x1, x2, rfl, hk, fun lo l1 l2 H8 s8 f0 f1 f2 => ?_⟩
            rw [hn, ← hvn, etk] at f2
            have sA : Same H4 H8 := ((s5.trans s6).trans s7).trans s8
            have hdA := hds H8 (Kt.of_same sA)
            obtain ⟨c1, c2, c3⟩ := fineAll hF
            obtain ⟨b1, b2⟩ := can_bls (kinds0 kk)
            have sh : SeqAt.shaped (.list [.list ((kinds0 kk).map PyData.bool), .list ds, .bool true]) = true := by
              show ((PyData.canLayAll0 ((kinds0 kk).map PyData.bool) && (PyData.canLayAll0 ds && true)) && decide (max (PyData.depthAll ((kinds0 kk).map PyData.bool) + 1) (max (PyData.depthAll ds + 1) (max (PyData.depth (.bool true)) 0)) + 1 ≤ 64)) = true
              rw [b1, c1, b2]
              exact decide_eq_true (by show max (0 + 1) (max (PyData.depthAll ds + 1) (max 0 0)) + 1 ≤ 64; omega)
            refine ⟨_, rfl, _, _, .lst (.inl (.inl f0)) (.cons (.lst (.inl (.inl f1)) (dp_bls (kinds0 kk))) (.cons (.lst (.inl (.inl f2)) hdA) (.cons (.bl true) .nil))),
              .lst (.inl (.inl (s8 _ _ e7))) (.cons (.lst (.inl (.inl (s8 _ _ (s7 _ _ e6)))) (dp_bls (kinds0 kk))) (.cons (.lst (.inl (.inl (sA _ _ hV))) hdA) (.cons (.bl true) .nil))), sh, sh, _, rfl, ?_⟩
            have ee : PyData.eqv (.list [.list ((kinds0 kk).map PyData.bool), .list ds, .bool true]) (.list [.list ((kinds0 kk).map PyData.bool), .list ds, .bool true]) = true := by
              show (PyData.eqvAll ((kinds0 kk).map PyData.bool) ((kinds0 kk).map PyData.bool) && (PyData.eqvAll ds ds && (PyData.eqv (.bool true) (.bool true) && true))) = true
              rw [eqv_bls, c3, decide_eq_true rfl]
              rfl
            rw [ee]
            refine iteF ?_
            exact ⟨a4, b4, _, _, _, _, _, _, _, hP4.same sA, by omega, sA _ _ eZ4, rfl⟩
    · rintro σ H3 ⟨a3, b3, y3, y4, y5, y6, y7, y8, y9, hP3, ha3, eZ3, rfl⟩
      exact q H3
end
end Ef
set_option Elab.async false
set_option linter.all false
set_option maxRecDepth 100000
set_option maxHeartbeats 8000000
namespace Ef
open PySem PySem.Spec PyProof.Rows L2 L2H
def oneE (K : PySem.W.Frag) (CE c : Addr) : Bool := xfB K c && decide (PySem.W.findIn K (.ref c) "__setattr__" = some (some (.builtin "object.__setattr__"))) && decide (PySem.W.findIn K (.ref c) "__class__" = some (some (.builtin "object.__class__"))) &&
  decide (PySem.W.mroIn K c (.type "object") = some true) && PySem.W.isClsIn K c && decide (PySem.W.typeIn K (.ref c) = some (.type "type")) && PySem.W.keepIn K (.ref c) && decide (PySem.W.subIn K (.ref c) (.ref CE) = some true) && decide (PySem.W.subIn K (.ref c) (.type "ValueError") = some true) &&
  allF0.all fun f => decide (PySem.W.findIn K (.ref c) f = some none)
def chkE (K : PySem.W.Frag) (Cs : List Addr) (CE : Addr) : Bool := Cs.all (oneE K CE)
def chkS (K : PySem.W.Frag) (Cs : List Addr) : Bool := (List.range 34).all fun i => (List.range 34).all fun j => decide (PySem.W.subIn K (.ref (Cs.getD i 0)) (.ref (Cs.getD j 0)) = some (decide (j = i)))
structure OneE (K : PySem.W.Frag) (CE c : Addr) : Prop where
  xf : XfC K c
  sa : PySem.W.findIn K (.ref c) "__setattr__" = some (some (.builtin "object.__setattr__"))
  ha : PySem.W.findIn K (.ref c) "__class__" = some (some (.builtin "object.__class__"))
  hm : PySem.W.mroIn K c (.type "object") = some true
  j : PySem.W.isClsIn K c = true
  t : PySem.W.typeIn K (.ref c) = some (.type "type")
  k : PySem.W.keepIn K (.ref c) = true
  e : PySem.W.subIn K (.ref c) (.ref CE) = some true
  v : PySem.W.subIn K (.ref c) (.type "ValueError") = some true
  nN : ∀ f ∈ allF0, PySem.W.findIn K (.ref c) f = some none
theorem oneE_ok {K : PySem.W.Frag} {CE c : Addr} (h : oneE K CE c = true) : OneE K CE c := by
  unfold oneE at h
  simp only [Bool.and_eq_true, decide_eq_true_eq, List.all_eq_true] at h
  obtain ⟨⟨⟨⟨⟨⟨⟨⟨⟨h1, h2⟩, h3⟩, h4⟩, h5⟩, h6⟩, h7⟩, h8⟩, h9⟩, h10⟩ := h
  exact ⟨xfB_ok h1, h2, h3, h4, h5, h6, h7, h8, h9, h10⟩
theorem chkE_at {K : PySem.W.Frag} {Cs : List Addr} {CE : Addr} (h : chkE K Cs CE = true) (hl : Cs.length = 34) (k : Nat) (hk : k < 34) : OneE K CE (Cs.getD k 0) := by
  refine oneE_ok (List.all_eq_true.mp h _ ?_)
  rw [List.getD_eq_getElem?_getD, List.getElem?_eq_getElem (by omega)]
  exact List.getElem_mem _
theorem chkS_at {K : PySem.W.Frag} {Cs : List Addr} (h : chkS K Cs = true) (i j : Nat) (hi : i < 34) (hj : j < 34) : PySem.W.subIn K (.ref (Cs.getD i 0)) (.ref (Cs.getD j 0)) = some (decide (j = i)) :=
  of_decide_eq_true (List.all_eq_true.mp (List.all_eq_true.mp h i (List.mem_range.mpr hi)) j (List.mem_range.mpr hj))
theorem at_mk {K : PySem.W.Frag} {h : Heap} {mg : Str → Option Value} {x : Str} {st : Stmt} {f : Addr} {oc kV doc pm cdv ct : Value} {od an : Option Addr} {osl : Array (Option Value)} (X : K.In h) (G : h.Ns mainGlobals mg) (a : PySem.W.nsIn K mainGlobals x = some (some (.ref f)))
    (l : K.lookup f = some ⟨oc, od, .func (PySem.W.fnOf x x (defArgs st) (defBody st) (defScope st) .none kV doc pm an cdv ct), osl⟩) (c : PySem.W.codeIn K cdv x = true) (k : PySem.W.keepIn K (.ref f) = true) : At K mg x st := ⟨f, _, PySem.W.mg_of X G a, fun_mk l c k⟩
theorem exm_by {K : PySem.W.Frag} {S : Addr} {c : Value} {b : Bool} (h1 : PySem.W.subIn K (.ref S) (.type "BaseException") = some true) (h2 : PySem.W.isClsIn K S = true) (h3 : PySem.W.typeIn K (.ref S) = some (.type "type")) (h4 : PySem.W.subIn K c (.ref S) = some b) :
    PySem.W.exmOne K c (.ref S) = some b := by
  unfold PySem.W.exmOne PySem.W.kitCls
  have h2' : (PySem.W.clsIn K S).isSome = true := h2
  rw [h1, if_pos (by rfl)]
  show (if ((PySem.W.clsIn K S).isSome && PySem.W.typeIn K (.ref S) == some (.type "type")) = true then PySem.W.subIn K c (.ref S) else none) = some b
  rw [h2', h3, if_pos (by rfl)]
  exact h4
theorem kit_sub {K : PySem.W.Frag} {C D : Addr} {b : Bool} (h2 : PySem.W.isClsIn K D = true) (h3 : PySem.W.typeIn K (.ref D) = some (.type "type")) (h4 : PySem.W.subIn K (.ref C) (.ref D) = some b) (hs : C = D → b = true) : PySem.W.kitOne K (.ref C) (.ref D) = some b := by
  unfold PySem.W.kitOne PySem.W.kitCls
  have h2' : (PySem.W.clsIn K D).isSome = true := h2
  by_cases e : C = D
  · rw [if_pos (by rw [e]; exact beq_self_eq_true _), hs e]
  · rw [if_neg (fun z => e (Value.ref.inj (beq_iff_eq.mp z)))]
    show (if ((PySem.W.clsIn K D).isSome && PySem.W.typeIn K (.ref D) == some (.type "type")) = true then PySem.W.subIn K (.ref C) (.ref D) else none) = some b
    rw [h2', h3, if_pos (by rfl)]
    exact h4
theorem kit_val {K : PySem.W.Frag} {C : Addr} (h : PySem.W.subIn K (.ref C) (.type "ValueError") = some true) : PySem.W.kitOne K (.ref C) (.type "ValueError") = some true := by
  show (if PySem.W.kitMeta "ValueError" = true then PySem.W.subIn K (.ref C) (.type "ValueError") else none) = some true
  rw [if_pos (by decide +kernel)]
  exact h
theorem all_mk {P : Program} {w : World} {K : PySem.W.Frag} {h : Heap} {mg : Str → Option Value} {fa CE f0 f1 f2 f3 f4 f5 f6 f7 f8 f9 f100 f101 f102 f103 f104 f106 f107 f108 f109 f110 f111 f112 f113 f115 f119 f120 f121 f123 f124 f125 f126 f127 f128 f129 f130 f131 f133 A0 A1 A2 A3 A4 A5 A6 A7 A8 A9 A10 A11 A12 A13 A14 A15 A16 A17 A18 A19 A20 A21 A22 A23 A24 A25 A26 A27 A28 A29 A30 A31 A32 A33 : Addr} (X : K.In h) (G : h.Ns mainGlobals mg) (hfa : mg "law" = some (.ref fa))
    {od0 an0 od1 an1 od2 an2 od3 an3 od4 an4 od5 an5 od6 an6 od7 an7 od8 an8 od9 an9 od100 an100 od101 an101 od102 an102 od103 an103 od104 an104 od106 an106 od107 an107 od108 an108 od109 an109 od110 an110 od111 an111 od112 an112 od113 an113 od115 an115 od119 an119 od120 an120 od121 an121 od123 an123 od124 an124 od125 an125 od126 an126 od127 an127 od128 an128 od129 an129 od130 an130 od131 an131 od133 an133 : Option Addr} {sl0 sl1 sl2 sl3 sl4 sl5 sl6 sl7 sl8 sl9 sl100 sl101 sl102 sl103 sl104 sl106 sl107 sl108 sl109 sl110 sl111 sl112 sl113 sl115 sl119 sl120 sl121 sl123 sl124 sl125 sl126 sl127 sl128 sl129 sl130 sl131 sl133 : Array (Option Value)} {oc0 kV0 dc0 pm0 cd0 ct0 oc1 kV1 dc1 pm1 cd1 ct1 oc2 kV2 dc2 pm2 cd2 ct2 oc3 kV3 dc3 pm3 cd3 ct3 oc4 kV4 dc4 pm4 cd4 ct4 oc5 kV5 dc5 pm5 cd5 ct5 oc6 kV6 dc6 pm6 cd6 ct6 oc7 kV7 dc7 pm7 cd7 ct7 oc8 kV8 dc8 pm8 cd8 ct8 oc9 kV9 dc9 pm9 cd9 ct9 oc100 kV100 dc100 pm100 cd100 ct100 oc101 kV101 dc101 pm101 cd101 ct101 oc102 kV102 dc102 pm102 cd102 ct102 oc103 kV103 dc103 pm103 cd103 ct103 oc104 kV104 dc104 pm104 cd104 ct104 oc106 kV106 dc106 pm106 cd106 ct106 oc107 kV107 dc107 pm107 cd107 ct107 oc108 kV108 dc108 pm108 cd108 ct108 oc109 kV109 dc109 pm109 cd109 ct109 oc110 kV110 dc110 pm110 cd110 ct110 oc111 kV111 dc111 pm111 cd111 ct111 oc112 kV112 dc112 pm112 cd112 ct112 oc113 kV113 dc113 pm113 cd113 ct113 oc115 kV115 dc115 pm115 cd115 ct115 oc119 kV119 dc119 pm119 cd119 ct119 oc120 kV120 dc120 pm120 cd120 ct120 oc121 kV121 dc121 pm121 cd121 ct121 oc123 kV123 dc123 pm123 cd123 ct123 oc124 kV124 dc124 pm124 cd124 ct124 oc125 kV125 dc125 pm125 cd125 ct125 oc126 kV126 dc126 pm126 cd126 ct126 oc127 kV127 dc127 pm127 cd127 ct127 oc128 kV128 dc128 pm128 cd128 ct128 oc129 kV129 dc129 pm129 cd129 ct129 oc130 kV130 dc130 pm130 cd130 ct130 oc131 kV131 dc131 pm131 cd131 ct131 oc133 kV133 dc133 pm133 cd133 ct133 : Value}
    {nm0 q0 nm1 q1 nm2 q2 nm3 q3 nm4 q4 nm6 q6 nm7 q7 nm8 q8 nm9 q9 nm10 q10 nm11 q11 nm12 q12 nm13 q13 nm15 q15 nm19 q19 nm20 q20 nm21 q21 nm23 q23 nm24 q24 nm25 q25 nm26 q26 nm27 q27 nm28 q28 nm29 q29 nm30 q30 nm31 q31 nm33 q33 : Str} {N0 N1 N2 N3 N4 N6 N7 N8 N9 N10 N11 N12 N13 N15 N19 N20 N21 N23 N24 N25 N26 N27 N28 N29 N30 N31 N33 : Addr} {bs0 bm0 sub0 bs1 bm1 sub1 bs2 bm2 sub2 bs3 bm3 sub3 bs4 bm4 sub4 bs6 bm6 sub6 bs7 bm7 sub7 bs8 bm8 sub8 bs9 bm9 sub9 bs10 bm10 sub10 bs11 bm11 sub11 bs12 bm12 sub12 bs13 bm13 sub13 bs15 bm15 sub15 bs19 bm19 sub19 bs20 bm20 sub20 bs21 bm21 sub21 bs23 bm23 sub23 bs24 bm24 sub24 bs25 bm25 sub25 bs26 bm26 sub26 bs27 bm27 sub27 bs28 bm28 sub28 bs29 bm29 sub29 bs30 bm30 sub30 bs31 bm31 sub31 bs33 bm33 sub33 : List Value} {sn0 sn1 sn2 sn3 sn4 sn6 sn7 sn8 sn9 sn10 sn11 sn12 sn13 sn15 sn19 sn20 sn21 sn23 sn24 sn25 sn26 sn27 sn28 sn29 sn30 sn31 sn33 : List Str} {ab0 ab1 ab2 ab3 ab4 ab6 ab7 ab8 ab9 ab10 ab11 ab12 ab13 ab15 ab19 ab20 ab21 ab23 ab24 ab25 ab26 ab27 ab28 ab29 ab30 ab31 ab33 : Bool} {col0 col1 col2 col3 col4 col6 col7 col8 col9 col10 col11 col12 col13 col15 col19 col20 col21 col23 col24 col25 col26 col27 col28 col29 col30 col31 col33 : Option Bool} {dd0 dd1 dd2 dd3 dd4 dd6 dd7 dd8 dd9 dd10 dd11 dd12 dd13 dd15 dd19 dd20 dd21 dd23 dd24 dd25 dd26 dd27 dd28 dd29 dd30 dd31 dd33 : Option Addr} {x00 x10 x20 x30 x50 x01 x11 x21 x31 x51 x02 x12 x22 x32 x52 x03 x13 x23 x33 x53 x04 x14 x24 x34 x54 x06 x16 x26 x36 x56 x07 x17 x27 x37 x57 x08 x18 x28 x38 x58 x09 x19 x29 x39 x59 x010 x110 x210 x310 x510 x011 x111 x211 x311 x511 x012 x112 x212 x312 x512 x013 x113 x213 x313 x513 x015 x115 x215 x315 x515 x019 x119 x219 x319 x519 x020 x120 x220 x320 x520 x021 x121 x221 x321 x521 x023 x123 x223 x323 x523 x024 x124 x224 x324 x524 x025 x125 x225 x325 x525 x026 x126 x226 x326 x526 x027 x127 x227 x327 x527 x028 x128 x228 x328 x528 x029 x129 x229 x329 x529 x030 x130 x230 x330 x530 x031 x131 x231 x331 x531 x033 x133 x233 x333 x533 : Option Value}
    (a0 : PySem.W.nsIn K mainGlobals "_law_pen" = some (some (.ref f0)))
    (l0 : K.lookup f0 = some ⟨oc0, od0, .func (PySem.W.fnOf "_law_pen" "_law_pen" (defArgs sPen) (defBody sPen) (defScope sPen) .none kV0 dc0 pm0 an0 cd0 ct0), sl0⟩)
    (c0 : PySem.W.codeIn K cd0 "_law_pen" = true)
    (k0 : PySem.W.keepIn K (.ref f0) = true)
    (a1 : PySem.W.nsIn K mainGlobals "_law_draw" = some (some (.ref f1)))
    (l1 : K.lookup f1 = some ⟨oc1, od1, .func (PySem.W.fnOf "_law_draw" "_law_draw" (defArgs sDraw) (defBody sDraw) (defScope sDraw) .none kV1 dc1 pm1 an1 cd1 ct1), sl1⟩)
    (c1 : PySem.W.codeIn K cd1 "_law_draw" = true)
    (k1 : PySem.W.keepIn K (.ref f1) = true)
    (a2 : PySem.W.nsIn K mainGlobals "_law_pick" = some (some (.ref f2)))
    (l2 : K.lookup f2 = some ⟨oc2, od2, .func (PySem.W.fnOf "_law_pick" "_law_pick" (defArgs sPick) (defBody sPick) (defScope sPick) .none kV2 dc2 pm2 an2 cd2 ct2), sl2⟩)
    (c2 : PySem.W.codeIn K cd2 "_law_pick" = true)
    (k2 : PySem.W.keepIn K (.ref f2) = true)
    (a3 : PySem.W.nsIn K mainGlobals "_law_thrown" = some (some (.ref f3)))
    (l3 : K.lookup f3 = some ⟨oc3, od3, .func (PySem.W.fnOf "_law_thrown" "_law_thrown" (defArgs sThr) (defBody sThr) (defScope sThr) .none kV3 dc3 pm3 an3 cd3 ct3), sl3⟩)
    (c3 : PySem.W.codeIn K cd3 "_law_thrown" = true)
    (k3 : PySem.W.keepIn K (.ref f3) = true)
    (a4 : PySem.W.nsIn K mainGlobals "_law_thrown_second" = some (some (.ref f4)))
    (l4 : K.lookup f4 = some ⟨oc4, od4, .func (PySem.W.fnOf "_law_thrown_second" "_law_thrown_second" (defArgs sThr2) (defBody sThr2) (defScope sThr2) .none kV4 dc4 pm4 an4 cd4 ct4), sl4⟩)
    (c4 : PySem.W.codeIn K cd4 "_law_thrown_second" = true)
    (k4 : PySem.W.keepIn K (.ref f4) = true)
    (a5 : PySem.W.nsIn K mainGlobals "_law_kinds" = some (some (.ref f5)))
    (l5 : K.lookup f5 = some ⟨oc5, od5, .func (PySem.W.fnOf "_law_kinds" "_law_kinds" (defArgs sKinds) (defBody sKinds) (defScope sKinds) .none kV5 dc5 pm5 an5 cd5 ct5), sl5⟩)
    (c5 : PySem.W.codeIn K cd5 "_law_kinds" = true)
    (k5 : PySem.W.keepIn K (.ref f5) = true)
    (a6 : PySem.W.nsIn K mainGlobals "_law_fields" = some (some (.ref f6)))
    (l6 : K.lookup f6 = some ⟨oc6, od6, .func (PySem.W.fnOf "_law_fields" "_law_fields" (defArgs sFields) (defBody sFields) (defScope sFields) .none kV6 dc6 pm6 an6 cd6 ct6), sl6⟩)
    (c6 : PySem.W.codeIn K cd6 "_law_fields" = true)
    (k6 : PySem.W.keepIn K (.ref f6) = true)
    (a7 : PySem.W.nsIn K mainGlobals "_law_caught" = some (some (.ref f7)))
    (l7 : K.lookup f7 = some ⟨oc7, od7, .func (PySem.W.fnOf "_law_caught" "_law_caught" (defArgs sCaught) (defBody sCaught) (defScope sCaught) .none kV7 dc7 pm7 an7 cd7 ct7), sl7⟩)
    (c7 : PySem.W.codeIn K cd7 "_law_caught" = true)
    (k7 : PySem.W.keepIn K (.ref f7) = true)
    (a8 : PySem.W.nsIn K mainGlobals "_law_value" = some (some (.ref f8)))
    (l8 : K.lookup f8 = some ⟨oc8, od8, .func (PySem.W.fnOf "_law_value" "_law_value" (defArgs sValue) (defBody sValue) (defScope sValue) .none kV8 dc8 pm8 an8 cd8 ct8), sl8⟩)
    (c8 : PySem.W.codeIn K cd8 "_law_value" = true)
    (k8 : PySem.W.keepIn K (.ref f8) = true)
    (a9 : PySem.W.nsIn K mainGlobals "law" = some (some (.ref f9)))
    (l9 : K.lookup f9 = some ⟨oc9, od9, .func (PySem.W.fnOf "law" "law" (defArgs sLaw) (defBody sLaw) (defScope sLaw) .none kV9 dc9 pm9 an9 cd9 ct9), sl9⟩)
    (c9 : PySem.W.codeIn K cd9 "law" = true)
    (k9 : PySem.W.keepIn K (.ref f9) = true)
    (m0 : PySem.W.nsIn K mainGlobals "BadRow" = some (some (.ref A0)))
    (o0 : K.lookup A0 = some (excClassObj nm0 q0 A0 N0 bs0 bm0 true sn0 sub0 ab0 col0 dd0 x00 x10 x20 x30 x50 "ValueError.__new__"))
    (v0 : PySem.HandSPX.refsVE bm0 = true)
    (i0 : PySem.W.findIn K (.ref A0) "__init__" = some (some (.ref f100)))
    (u0 : PySem.W.typeIn K (.ref f100) = some (.type "function"))
    (l100 : K.lookup f100 = some ⟨oc100, od100, .func (PySem.W.fnOf "__init__" "BadRow.__init__" (defArgs sE0) (defBody sE0) (defScope sE0) .none kV100 dc100 pm100 an100 cd100 ct100), sl100⟩)
    (c100 : PySem.W.codeIn K cd100 "BadRow.__init__" = true)
    (k100 : PySem.W.keepIn K (.ref f100) = true)
    (m1 : PySem.W.nsIn K mainGlobals "BadUnder" = some (some (.ref A1)))
    (o1 : K.lookup A1 = some (excClassObj nm1 q1 A1 N1 bs1 bm1 true sn1 sub1 ab1 col1 dd1 x01 x11 x21 x31 x51 "ValueError.__new__"))
    (v1 : PySem.HandSPX.refsVE bm1 = true)
    (i1 : PySem.W.findIn K (.ref A1) "__init__" = some (some (.ref f101)))
    (u1 : PySem.W.typeIn K (.ref f101) = some (.type "function"))
    (l101 : K.lookup f101 = some ⟨oc101, od101, .func (PySem.W.fnOf "__init__" "BadUnder.__init__" (defArgs sE1) (defBody sE1) (defScope sE1) .none kV101 dc101 pm101 an101 cd101 ct101), sl101⟩)
    (c101 : PySem.W.codeIn K cd101 "BadUnder.__init__" = true)
    (k101 : PySem.W.keepIn K (.ref f101) = true)
    (m2 : PySem.W.nsIn K mainGlobals "BadPlace" = some (some (.ref A2)))
    (o2 : K.lookup A2 = some (excClassObj nm2 q2 A2 N2 bs2 bm2 true sn2 sub2 ab2 col2 dd2 x02 x12 x22 x32 x52 "ValueError.__new__"))
    (v2 : PySem.HandSPX.refsVE bm2 = true)
    (i2 : PySem.W.findIn K (.ref A2) "__init__" = some (some (.ref f102)))
    (u2 : PySem.W.typeIn K (.ref f102) = some (.type "function"))
    (l102 : K.lookup f102 = some ⟨oc102, od102, .func (PySem.W.fnOf "__init__" "BadPlace.__init__" (defArgs sE2) (defBody sE2) (defScope sE2) .none kV102 dc102 pm102 an102 cd102 ct102), sl102⟩)
    (c102 : PySem.W.codeIn K cd102 "BadPlace.__init__" = true)
    (k102 : PySem.W.keepIn K (.ref f102) = true)
    (m3 : PySem.W.nsIn K mainGlobals "NotWhole" = some (some (.ref A3)))
    (o3 : K.lookup A3 = some (excClassObj nm3 q3 A3 N3 bs3 bm3 true sn3 sub3 ab3 col3 dd3 x03 x13 x23 x33 x53 "ValueError.__new__"))
    (v3 : PySem.HandSPX.refsVE bm3 = true)
    (i3 : PySem.W.findIn K (.ref A3) "__init__" = some (some (.ref f103)))
    (u3 : PySem.W.typeIn K (.ref f103) = some (.type "function"))
    (l103 : K.lookup f103 = some ⟨oc103, od103, .func (PySem.W.fnOf "__init__" "NotWhole.__init__" (defArgs sE3) (defBody sE3) (defScope sE3) .none kV103 dc103 pm103 an103 cd103 ct103), sl103⟩)
    (c103 : PySem.W.codeIn K cd103 "NotWhole.__init__" = true)
    (k103 : PySem.W.keepIn K (.ref f103) = true)
    (m4 : PySem.W.nsIn K mainGlobals "BadNumber" = some (some (.ref A4)))
    (o4 : K.lookup A4 = some (excClassObj nm4 q4 A4 N4 bs4 bm4 true sn4 sub4 ab4 col4 dd4 x04 x14 x24 x34 x54 "ValueError.__new__"))
    (v4 : PySem.HandSPX.refsVE bm4 = true)
    (i4 : PySem.W.findIn K (.ref A4) "__init__" = some (some (.ref f104)))
    (u4 : PySem.W.typeIn K (.ref f104) = some (.type "function"))
    (l104 : K.lookup f104 = some ⟨oc104, od104, .func (PySem.W.fnOf "__init__" "BadNumber.__init__" (defArgs sE4) (defBody sE4) (defScope sE4) .none kV104 dc104 pm104 an104 cd104 ct104), sl104⟩)
    (c104 : PySem.W.codeIn K cd104 "BadNumber.__init__" = true)
    (k104 : PySem.W.keepIn K (.ref f104) = true)
    (m5 : PySem.W.nsIn K mainGlobals "NoDivisor" = some (some (.ref A5)))
    (x5 : PySem.W.excIn K A5 [.type "ValueError", .type "Exception", .type "BaseException", .type "object"] "ValueError.__new__" = true)
    (m6 : PySem.W.nsIn K mainGlobals "BadTruth" = some (some (.ref A6)))
    (o6 : K.lookup A6 = some (excClassObj nm6 q6 A6 N6 bs6 bm6 true sn6 sub6 ab6 col6 dd6 x06 x16 x26 x36 x56 "ValueError.__new__"))
    (v6 : PySem.HandSPX.refsVE bm6 = true)
    (i6 : PySem.W.findIn K (.ref A6) "__init__" = some (some (.ref f106)))
    (u6 : PySem.W.typeIn K (.ref f106) = some (.type "function"))
    (l106 : K.lookup f106 = some ⟨oc106, od106, .func (PySem.W.fnOf "__init__" "BadTruth.__init__" (defArgs sE6) (defBody sE6) (defScope sE6) .none kV106 dc106 pm106 an106 cd106 ct106), sl106⟩)
    (c106 : PySem.W.codeIn K cd106 "BadTruth.__init__" = true)
    (k106 : PySem.W.keepIn K (.ref f106) = true)
    (m7 : PySem.W.nsIn K mainGlobals "NoMember" = some (some (.ref A7)))
    (o7 : K.lookup A7 = some (excClassObj nm7 q7 A7 N7 bs7 bm7 true sn7 sub7 ab7 col7 dd7 x07 x17 x27 x37 x57 "ValueError.__new__"))
    (v7 : PySem.HandSPX.refsVE bm7 = true)
    (i7 : PySem.W.findIn K (.ref A7) "__init__" = some (some (.ref f107)))
    (u7 : PySem.W.typeIn K (.ref f107) = some (.type "function"))
    (l107 : K.lookup f107 = some ⟨oc107, od107, .func (PySem.W.fnOf "__init__" "NoMember.__init__" (defArgs sE7) (defBody sE7) (defScope sE7) .none kV107 dc107 pm107 an107 cd107 ct107), sl107⟩)
    (c107 : PySem.W.codeIn K cd107 "NoMember.__init__" = true)
    (k107 : PySem.W.keepIn K (.ref f107) = true)
    (m8 : PySem.W.nsIn K mainGlobals "TooHigh" = some (some (.ref A8)))
    (o8 : K.lookup A8 = some (excClassObj nm8 q8 A8 N8 bs8 bm8 true sn8 sub8 ab8 col8 dd8 x08 x18 x28 x38 x58 "ValueError.__new__"))
    (v8 : PySem.HandSPX.refsVE bm8 = true)
    (i8 : PySem.W.findIn K (.ref A8) "__init__" = some (some (.ref f108)))
    (u8 : PySem.W.typeIn K (.ref f108) = some (.type "function"))
    (l108 : K.lookup f108 = some ⟨oc108, od108, .func (PySem.W.fnOf "__init__" "TooHigh.__init__" (defArgs sE8) (defBody sE8) (defScope sE8) .none kV108 dc108 pm108 an108 cd108 ct108), sl108⟩)
    (c108 : PySem.W.codeIn K cd108 "TooHigh.__init__" = true)
    (k108 : PySem.W.keepIn K (.ref f108) = true)
    (m9 : PySem.W.nsIn K mainGlobals "TooFine" = some (some (.ref A9)))
    (o9 : K.lookup A9 = some (excClassObj nm9 q9 A9 N9 bs9 bm9 true sn9 sub9 ab9 col9 dd9 x09 x19 x29 x39 x59 "ValueError.__new__"))
    (v9 : PySem.HandSPX.refsVE bm9 = true)
    (i9 : PySem.W.findIn K (.ref A9) "__init__" = some (some (.ref f109)))
    (u9 : PySem.W.typeIn K (.ref f109) = some (.type "function"))
    (l109 : K.lookup f109 = some ⟨oc109, od109, .func (PySem.W.fnOf "__init__" "TooFine.__init__" (defArgs sE9) (defBody sE9) (defScope sE9) .none kV109 dc109 pm109 an109 cd109 ct109), sl109⟩)
    (c109 : PySem.W.codeIn K cd109 "TooFine.__init__" = true)
    (k109 : PySem.W.keepIn K (.ref f109) = true)
    (m10 : PySem.W.nsIn K mainGlobals "TooLate" = some (some (.ref A10)))
    (o10 : K.lookup A10 = some (excClassObj nm10 q10 A10 N10 bs10 bm10 true sn10 sub10 ab10 col10 dd10 x010 x110 x210 x310 x510 "ValueError.__new__"))
    (v10 : PySem.HandSPX.refsVE bm10 = true)
    (i10 : PySem.W.findIn K (.ref A10) "__init__" = some (some (.ref f110)))
    (u10 : PySem.W.typeIn K (.ref f110) = some (.type "function"))
    (l110 : K.lookup f110 = some ⟨oc110, od110, .func (PySem.W.fnOf "__init__" "TooLate.__init__" (defArgs sE10) (defBody sE10) (defScope sE10) .none kV110 dc110 pm110 an110 cd110 ct110), sl110⟩)
    (c110 : PySem.W.codeIn K cd110 "TooLate.__init__" = true)
    (k110 : PySem.W.keepIn K (.ref f110) = true)
    (m11 : PySem.W.nsIn K mainGlobals "BadWhole" = some (some (.ref A11)))
    (o11 : K.lookup A11 = some (excClassObj nm11 q11 A11 N11 bs11 bm11 true sn11 sub11 ab11 col11 dd11 x011 x111 x211 x311 x511 "ValueError.__new__"))
    (v11 : PySem.HandSPX.refsVE bm11 = true)
    (i11 : PySem.W.findIn K (.ref A11) "__init__" = some (some (.ref f111)))
    (u11 : PySem.W.typeIn K (.ref f111) = some (.type "function"))
    (l111 : K.lookup f111 = some ⟨oc111, od111, .func (PySem.W.fnOf "__init__" "BadWhole.__init__" (defArgs sE11) (defBody sE11) (defScope sE11) .none kV111 dc111 pm111 an111 cd111 ct111), sl111⟩)
    (c111 : PySem.W.codeIn K cd111 "BadWhole.__init__" = true)
    (k111 : PySem.W.keepIn K (.ref f111) = true)
    (m12 : PySem.W.nsIn K mainGlobals "BadPower" = some (some (.ref A12)))
    (o12 : K.lookup A12 = some (excClassObj nm12 q12 A12 N12 bs12 bm12 true sn12 sub12 ab12 col12 dd12 x012 x112 x212 x312 x512 "ValueError.__new__"))
    (v12 : PySem.HandSPX.refsVE bm12 = true)
    (i12 : PySem.W.findIn K (.ref A12) "__init__" = some (some (.ref f112)))
    (u12 : PySem.W.typeIn K (.ref f112) = some (.type "function"))
    (l112 : K.lookup f112 = some ⟨oc112, od112, .func (PySem.W.fnOf "__init__" "BadPower.__init__" (defArgs sE12) (defBody sE12) (defScope sE12) .none kV112 dc112 pm112 an112 cd112 ct112), sl112⟩)
    (c112 : PySem.W.codeIn K cd112 "BadPower.__init__" = true)
    (k112 : PySem.W.keepIn K (.ref f112) = true)
    (m13 : PySem.W.nsIn K mainGlobals "Undefined" = some (some (.ref A13)))
    (o13 : K.lookup A13 = some (excClassObj nm13 q13 A13 N13 bs13 bm13 true sn13 sub13 ab13 col13 dd13 x013 x113 x213 x313 x513 "ValueError.__new__"))
    (v13 : PySem.HandSPX.refsVE bm13 = true)
    (i13 : PySem.W.findIn K (.ref A13) "__init__" = some (some (.ref f113)))
    (u13 : PySem.W.typeIn K (.ref f113) = some (.type "function"))
    (l113 : K.lookup f113 = some ⟨oc113, od113, .func (PySem.W.fnOf "__init__" "Undefined.__init__" (defArgs sE13) (defBody sE13) (defScope sE13) .none kV113 dc113 pm113 an113 cd113 ct113), sl113⟩)
    (c113 : PySem.W.codeIn K cd113 "Undefined.__init__" = true)
    (k113 : PySem.W.keepIn K (.ref f113) = true)
    (m14 : PySem.W.nsIn K mainGlobals "NoPieces" = some (some (.ref A14)))
    (x14 : PySem.W.excIn K A14 [.type "ValueError", .type "Exception", .type "BaseException", .type "object"] "ValueError.__new__" = true)
    (m15 : PySem.W.nsIn K mainGlobals "BadPiece" = some (some (.ref A15)))
    (o15 : K.lookup A15 = some (excClassObj nm15 q15 A15 N15 bs15 bm15 true sn15 sub15 ab15 col15 dd15 x015 x115 x215 x315 x515 "ValueError.__new__"))
    (v15 : PySem.HandSPX.refsVE bm15 = true)
    (i15 : PySem.W.findIn K (.ref A15) "__init__" = some (some (.ref f115)))
    (u15 : PySem.W.typeIn K (.ref f115) = some (.type "function"))
    (l115 : K.lookup f115 = some ⟨oc115, od115, .func (PySem.W.fnOf "__init__" "BadPiece.__init__" (defArgs sE15) (defBody sE15) (defScope sE15) .none kV115 dc115 pm115 an115 cd115 ct115), sl115⟩)
    (c115 : PySem.W.codeIn K cd115 "BadPiece.__init__" = true)
    (k115 : PySem.W.keepIn K (.ref f115) = true)
    (m16 : PySem.W.nsIn K mainGlobals "BadBegin" = some (some (.ref A16)))
    (x16 : PySem.W.excIn K A16 [.type "ValueError", .type "Exception", .type "BaseException", .type "object"] "ValueError.__new__" = true)
    (m17 : PySem.W.nsIn K mainGlobals "BadTest" = some (some (.ref A17)))
    (x17 : PySem.W.excIn K A17 [.type "ValueError", .type "Exception", .type "BaseException", .type "object"] "ValueError.__new__" = true)
    (m18 : PySem.W.nsIn K mainGlobals "BadStep" = some (some (.ref A18)))
    (x18 : PySem.W.excIn K A18 [.type "ValueError", .type "Exception", .type "BaseException", .type "object"] "ValueError.__new__" = true)
    (m19 : PySem.W.nsIn K mainGlobals "BadMember" = some (some (.ref A19)))
    (o19 : K.lookup A19 = some (excClassObj nm19 q19 A19 N19 bs19 bm19 true sn19 sub19 ab19 col19 dd19 x019 x119 x219 x319 x519 "ValueError.__new__"))
    (v19 : PySem.HandSPX.refsVE bm19 = true)
    (i19 : PySem.W.findIn K (.ref A19) "__init__" = some (some (.ref f119)))
    (u19 : PySem.W.typeIn K (.ref f119) = some (.type "function"))
    (l119 : K.lookup f119 = some ⟨oc119, od119, .func (PySem.W.fnOf "__init__" "BadMember.__init__" (defArgs sE19) (defBody sE19) (defScope sE19) .none kV119 dc119 pm119 an119 cd119 ct119), sl119⟩)
    (c119 : PySem.W.codeIn K cd119 "BadMember.__init__" = true)
    (k119 : PySem.W.keepIn K (.ref f119) = true)
    (m20 : PySem.W.nsIn K mainGlobals "TooFew" = some (some (.ref A20)))
    (o20 : K.lookup A20 = some (excClassObj nm20 q20 A20 N20 bs20 bm20 true sn20 sub20 ab20 col20 dd20 x020 x120 x220 x320 x520 "ValueError.__new__"))
    (v20 : PySem.HandSPX.refsVE bm20 = true)
    (i20 : PySem.W.findIn K (.ref A20) "__init__" = some (some (.ref f120)))
    (u20 : PySem.W.typeIn K (.ref f120) = some (.type "function"))
    (l120 : K.lookup f120 = some ⟨oc120, od120, .func (PySem.W.fnOf "__init__" "TooFew.__init__" (defArgs sE20) (defBody sE20) (defScope sE20) .none kV120 dc120 pm120 an120 cd120 ct120), sl120⟩)
    (c120 : PySem.W.codeIn K cd120 "TooFew.__init__" = true)
    (k120 : PySem.W.keepIn K (.ref f120) = true)
    (m21 : PySem.W.nsIn K mainGlobals "NoFormula" = some (some (.ref A21)))
    (o21 : K.lookup A21 = some (excClassObj nm21 q21 A21 N21 bs21 bm21 true sn21 sub21 ab21 col21 dd21 x021 x121 x221 x321 x521 "ValueError.__new__"))
    (v21 : PySem.HandSPX.refsVE bm21 = true)
    (i21 : PySem.W.findIn K (.ref A21) "__init__" = some (some (.ref f121)))
    (u21 : PySem.W.typeIn K (.ref f121) = some (.type "function"))
    (l121 : K.lookup f121 = some ⟨oc121, od121, .func (PySem.W.fnOf "__init__" "NoFormula.__init__" (defArgs sE21) (defBody sE21) (defScope sE21) .none kV121 dc121 pm121 an121 cd121 ct121), sl121⟩)
    (c121 : PySem.W.codeIn K cd121 "NoFormula.__init__" = true)
    (k121 : PySem.W.keepIn K (.ref f121) = true)
    (m22 : PySem.W.nsIn K mainGlobals "NoValue" = some (some (.ref A22)))
    (x22 : PySem.W.excIn K A22 [.type "ValueError", .type "Exception", .type "BaseException", .type "object"] "ValueError.__new__" = true)
    (m23 : PySem.W.nsIn K mainGlobals "NoBound" = some (some (.ref A23)))
    (o23 : K.lookup A23 = some (excClassObj nm23 q23 A23 N23 bs23 bm23 true sn23 sub23 ab23 col23 dd23 x023 x123 x223 x323 x523 "ValueError.__new__"))
    (v23 : PySem.HandSPX.refsVE bm23 = true)
    (i23 : PySem.W.findIn K (.ref A23) "__init__" = some (some (.ref f123)))
    (u23 : PySem.W.typeIn K (.ref f123) = some (.type "function"))
    (l123 : K.lookup f123 = some ⟨oc123, od123, .func (PySem.W.fnOf "__init__" "NoBound.__init__" (defArgs sE23) (defBody sE23) (defScope sE23) .none kV123 dc123 pm123 an123 cd123 ct123), sl123⟩)
    (c123 : PySem.W.codeIn K cd123 "NoBound.__init__" = true)
    (k123 : PySem.W.keepIn K (.ref f123) = true)
    (m24 : PySem.W.nsIn K mainGlobals "TooMany" = some (some (.ref A24)))
    (o24 : K.lookup A24 = some (excClassObj nm24 q24 A24 N24 bs24 bm24 true sn24 sub24 ab24 col24 dd24 x024 x124 x224 x324 x524 "ValueError.__new__"))
    (v24 : PySem.HandSPX.refsVE bm24 = true)
    (i24 : PySem.W.findIn K (.ref A24) "__init__" = some (some (.ref f124)))
    (u24 : PySem.W.typeIn K (.ref f124) = some (.type "function"))
    (l124 : K.lookup f124 = some ⟨oc124, od124, .func (PySem.W.fnOf "__init__" "TooMany.__init__" (defArgs sE24) (defBody sE24) (defScope sE24) .none kV124 dc124 pm124 an124 cd124 ct124), sl124⟩)
    (c124 : PySem.W.codeIn K cd124 "TooMany.__init__" = true)
    (k124 : PySem.W.keepIn K (.ref f124) = true)
    (m25 : PySem.W.nsIn K mainGlobals "BadText" = some (some (.ref A25)))
    (o25 : K.lookup A25 = some (excClassObj nm25 q25 A25 N25 bs25 bm25 true sn25 sub25 ab25 col25 dd25 x025 x125 x225 x325 x525 "ValueError.__new__"))
    (v25 : PySem.HandSPX.refsVE bm25 = true)
    (i25 : PySem.W.findIn K (.ref A25) "__init__" = some (some (.ref f125)))
    (u25 : PySem.W.typeIn K (.ref f125) = some (.type "function"))
    (l125 : K.lookup f125 = some ⟨oc125, od125, .func (PySem.W.fnOf "__init__" "BadText.__init__" (defArgs sE25) (defBody sE25) (defScope sE25) .none kV125 dc125 pm125 an125 cd125 ct125), sl125⟩)
    (c125 : PySem.W.codeIn K cd125 "BadText.__init__" = true)
    (k125 : PySem.W.keepIn K (.ref f125) = true)
    (m26 : PySem.W.nsIn K mainGlobals "BadName" = some (some (.ref A26)))
    (o26 : K.lookup A26 = some (excClassObj nm26 q26 A26 N26 bs26 bm26 true sn26 sub26 ab26 col26 dd26 x026 x126 x226 x326 x526 "ValueError.__new__"))
    (v26 : PySem.HandSPX.refsVE bm26 = true)
    (i26 : PySem.W.findIn K (.ref A26) "__init__" = some (some (.ref f126)))
    (u26 : PySem.W.typeIn K (.ref f126) = some (.type "function"))
    (l126 : K.lookup f126 = some ⟨oc126, od126, .func (PySem.W.fnOf "__init__" "BadName.__init__" (defArgs sE26) (defBody sE26) (defScope sE26) .none kV126 dc126 pm126 an126 cd126 ct126), sl126⟩)
    (c126 : PySem.W.codeIn K cd126 "BadName.__init__" = true)
    (k126 : PySem.W.keepIn K (.ref f126) = true)
    (m27 : PySem.W.nsIn K mainGlobals "UnknownName" = some (some (.ref A27)))
    (o27 : K.lookup A27 = some (excClassObj nm27 q27 A27 N27 bs27 bm27 true sn27 sub27 ab27 col27 dd27 x027 x127 x227 x327 x527 "ValueError.__new__"))
    (v27 : PySem.HandSPX.refsVE bm27 = true)
    (i27 : PySem.W.findIn K (.ref A27) "__init__" = some (some (.ref f127)))
    (u27 : PySem.W.typeIn K (.ref f127) = some (.type "function"))
    (l127 : K.lookup f127 = some ⟨oc127, od127, .func (PySem.W.fnOf "__init__" "UnknownName.__init__" (defArgs sE27) (defBody sE27) (defScope sE27) .none kV127 dc127 pm127 an127 cd127 ct127), sl127⟩)
    (c127 : PySem.W.codeIn K cd127 "UnknownName.__init__" = true)
    (k127 : PySem.W.keepIn K (.ref f127) = true)
    (m28 : PySem.W.nsIn K mainGlobals "Circle" = some (some (.ref A28)))
    (o28 : K.lookup A28 = some (excClassObj nm28 q28 A28 N28 bs28 bm28 true sn28 sub28 ab28 col28 dd28 x028 x128 x228 x328 x528 "ValueError.__new__"))
    (v28 : PySem.HandSPX.refsVE bm28 = true)
    (i28 : PySem.W.findIn K (.ref A28) "__init__" = some (some (.ref f128)))
    (u28 : PySem.W.typeIn K (.ref f128) = some (.type "function"))
    (l128 : K.lookup f128 = some ⟨oc128, od128, .func (PySem.W.fnOf "__init__" "Circle.__init__" (defArgs sE28) (defBody sE28) (defScope sE28) .none kV128 dc128 pm128 an128 cd128 ct128), sl128⟩)
    (c128 : PySem.W.codeIn K cd128 "Circle.__init__" = true)
    (k128 : PySem.W.keepIn K (.ref f128) = true)
    (m29 : PySem.W.nsIn K mainGlobals "Refused" = some (some (.ref A29)))
    (o29 : K.lookup A29 = some (excClassObj nm29 q29 A29 N29 bs29 bm29 true sn29 sub29 ab29 col29 dd29 x029 x129 x229 x329 x529 "ValueError.__new__"))
    (v29 : PySem.HandSPX.refsVE bm29 = true)
    (i29 : PySem.W.findIn K (.ref A29) "__init__" = some (some (.ref f129)))
    (u29 : PySem.W.typeIn K (.ref f129) = some (.type "function"))
    (l129 : K.lookup f129 = some ⟨oc129, od129, .func (PySem.W.fnOf "__init__" "Refused.__init__" (defArgs sE29) (defBody sE29) (defScope sE29) .none kV129 dc129 pm129 an129 cd129 ct129), sl129⟩)
    (c129 : PySem.W.codeIn K cd129 "Refused.__init__" = true)
    (k129 : PySem.W.keepIn K (.ref f129) = true)
    (m30 : PySem.W.nsIn K mainGlobals "Broken" = some (some (.ref A30)))
    (o30 : K.lookup A30 = some (excClassObj nm30 q30 A30 N30 bs30 bm30 true sn30 sub30 ab30 col30 dd30 x030 x130 x230 x330 x530 "ValueError.__new__"))
    (v30 : PySem.HandSPX.refsVE bm30 = true)
    (i30 : PySem.W.findIn K (.ref A30) "__init__" = some (some (.ref f130)))
    (u30 : PySem.W.typeIn K (.ref f130) = some (.type "function"))
    (l130 : K.lookup f130 = some ⟨oc130, od130, .func (PySem.W.fnOf "__init__" "Broken.__init__" (defArgs sE30) (defBody sE30) (defScope sE30) .none kV130 dc130 pm130 an130 cd130 ct130), sl130⟩)
    (c130 : PySem.W.codeIn K cd130 "Broken.__init__" = true)
    (k130 : PySem.W.keepIn K (.ref f130) = true)
    (m31 : PySem.W.nsIn K mainGlobals "InUse" = some (some (.ref A31)))
    (o31 : K.lookup A31 = some (excClassObj nm31 q31 A31 N31 bs31 bm31 true sn31 sub31 ab31 col31 dd31 x031 x131 x231 x331 x531 "ValueError.__new__"))
    (v31 : PySem.HandSPX.refsVE bm31 = true)
    (i31 : PySem.W.findIn K (.ref A31) "__init__" = some (some (.ref f131)))
    (u31 : PySem.W.typeIn K (.ref f131) = some (.type "function"))
    (l131 : K.lookup f131 = some ⟨oc131, od131, .func (PySem.W.fnOf "__init__" "InUse.__init__" (defArgs sE31) (defBody sE31) (defScope sE31) .none kV131 dc131 pm131 an131 cd131 ct131), sl131⟩)
    (c131 : PySem.W.codeIn K cd131 "InUse.__init__" = true)
    (k131 : PySem.W.keepIn K (.ref f131) = true)
    (m32 : PySem.W.nsIn K mainGlobals "NoSteps" = some (some (.ref A32)))
    (x32 : PySem.W.excIn K A32 [.type "ValueError", .type "Exception", .type "BaseException", .type "object"] "ValueError.__new__" = true)
    (m33 : PySem.W.nsIn K mainGlobals "BadLine" = some (some (.ref A33)))
    (o33 : K.lookup A33 = some (excClassObj nm33 q33 A33 N33 bs33 bm33 true sn33 sub33 ab33 col33 dd33 x033 x133 x233 x333 x533 "ValueError.__new__"))
    (v33 : PySem.HandSPX.refsVE bm33 = true)
    (i33 : PySem.W.findIn K (.ref A33) "__init__" = some (some (.ref f133)))
    (u33 : PySem.W.typeIn K (.ref f133) = some (.type "function"))
    (l133 : K.lookup f133 = some ⟨oc133, od133, .func (PySem.W.fnOf "__init__" "BadLine.__init__" (defArgs sE33) (defBody sE33) (defScope sE33) .none kV133 dc133 pm133 an133 cd133 ct133), sl133⟩)
    (c133 : PySem.W.codeIn K cd133 "BadLine.__init__" = true)
    (k133 : PySem.W.keepIn K (.ref f133) = true)
    (mE : PySem.W.nsIn K mainGlobals "EveryfloorError" = some (some (.ref CE)))
    (jE : PySem.W.isClsIn K CE = true)
    (tE : PySem.W.typeIn K (.ref CE) = some (.type "type"))
    (bE : PySem.W.subIn K (.ref CE) (.type "BaseException") = some true)
    (hn : PySem.W.specialIn K (.builtin "object.__class__") "__get__" = some (some (.builtin "getset_descriptor.__get__")))
    (ht : PySem.W.takesIn K (.builtin "object.__class__") = some true)
    (chk : chkE K [A0, A1, A2, A3, A4, A5, A6, A7, A8, A9, A10, A11, A12, A13, A14, A15, A16, A17, A18, A19, A20, A21, A22, A23, A24, A25, A26, A27, A28, A29, A30, A31, A32, A33] CE = true)
    (chk2 : chkS K [A0, A1, A2, A3, A4, A5, A6, A7, A8, A9, A10, A11, A12, A13, A14, A15, A16, A17, A18, A19, A20, A21, A22, A23, A24, A25, A26, A27, A28, A29, A30, A31, A32, A33] = true)
    (z0 : PySem.W.nsIn K mainGlobals "int" = some none)
    (z1 : PySem.W.nsIn K mainGlobals "len" = some none)
    (z2 : PySem.W.nsIn K mainGlobals "list" = some none)
    (z3 : PySem.W.nsIn K mainGlobals "isinstance" = some none)
    (z4 : PySem.W.nsIn K mainGlobals "range" = some none)
    (z5 : PySem.W.nsIn K mainGlobals "min" = some none)
    (z6 : PySem.W.nsIn K mainGlobals "ValueError" = some none)
    : ∃ fd : FuncData, (∀ (s : Shared) (v : Value), BindsTo s fd ⟨[v], []⟩ [("script", v)]) ∧ ∀ base : Heap, K.In base → base.Ns mainGlobals mg → FnOk P w K mg base CX0 7 fa fd ["script"] (spLaw K) := by
  have e := hfa.symm.trans (PySem.W.mg_of X G a9)
  cases e
  have T : TxtZ mg := { int := PySem.W.mg_none_of X G z0, len := PySem.W.mg_none_of X G z1, list := PySem.W.mg_none_of X G z2, isinstance := PySem.W.mg_none_of X G z3, range := PySem.W.mg_none_of X G z4, min := PySem.W.mg_none_of X G z5, vErr := PySem.W.mg_none_of X G z6 }
  have Q := fun k hk => chkE_at chk rfl k hk
  have S := fun i j hi hj => chkS_at chk2 i j hi hj
  refine ⟨PySem.W.fnOf "law" "law" (defArgs sLaw) (defBody sLaw) (defScope sLaw) .none kV9 dc9 pm9 an9 cd9 ct9, fun s v => .of_eq rfl, fun base _ _ => ?_⟩
  have Er : Errs P w K mg base (fun k => [A0, A1, A2, A3, A4, A5, A6, A7, A8, A9, A10, A11, A12, A13, A14, A15, A16, A17, A18, A19, A20, A21, A22, A23, A24, A25, A26, A27, A28, A29, A30, A31, A32, A33].getD k 0) CE := {
    e0 := ⟨⟨⟨_, _, _, _, _, _, _, _, _, _, _, _, _, _, _, o0, v0⟩, (Q 0 (by decide)).sa, (Q 0 (by decide)).xf.exC, (Q 0 (by decide)).t, (Q 0 (by decide)).k⟩, PySem.W.mg_of X G m0, _, _, i0, u0, okE0 (fun_mk (st := sE0) l100 c100 k100) ⟨⟨_, _, _, _, _, _, _, _, _, _, _, _, _, _, _, o0, v0⟩, (Q 0 (by decide)).sa, (Q 0 (by decide)).xf.exC, (Q 0 (by decide)).t, (Q 0 (by decide)).k⟩ ((Q 0 (by decide)).nN "index" (by decide +kernel)), (fun_mk (st := sE0) l100 c100 k100).binds (ps := ["self", "index"]) fun _ _ _ _ _ _ us hl => match us, hl with | [_, _], _ => rfl⟩
    e1 := ⟨⟨⟨_, _, _, _, _, _, _, _, _, _, _, _, _, _, _, o1, v1⟩, (Q 1 (by decide)).sa, (Q 1 (by decide)).xf.exC, (Q 1 (by decide)).t, (Q 1 (by decide)).k⟩, PySem.W.mg_of X G m1, _, _, i1, u1, okE1 (fun_mk (st := sE1) l101 c101 k101) ⟨⟨_, _, _, _, _, _, _, _, _, _, _, _, _, _, _, o1, v1⟩, (Q 1 (by decide)).sa, (Q 1 (by decide)).xf.exC, (Q 1 (by decide)).t, (Q 1 (by decide)).k⟩ ((Q 1 (by decide)).nN "under" (by decide +kernel)), (fun_mk (st := sE1) l101 c101 k101).binds (ps := ["self", "under"]) fun _ _ _ _ _ _ us hl => match us, hl with | [_, _], _ => rfl⟩
    e2 := ⟨⟨⟨_, _, _, _, _, _, _, _, _, _, _, _, _, _, _, o2, v2⟩, (Q 2 (by decide)).sa, (Q 2 (by decide)).xf.exC, (Q 2 (by decide)).t, (Q 2 (by decide)).k⟩, PySem.W.mg_of X G m2, _, _, i2, u2, okE2 (fun_mk (st := sE2) l102 c102 k102) ⟨⟨_, _, _, _, _, _, _, _, _, _, _, _, _, _, _, o2, v2⟩, (Q 2 (by decide)).sa, (Q 2 (by decide)).xf.exC, (Q 2 (by decide)).t, (Q 2 (by decide)).k⟩ ((Q 2 (by decide)).nN "n" (by decide +kernel)), (fun_mk (st := sE2) l102 c102 k102).binds (ps := ["self", "n"]) fun _ _ _ _ _ _ us hl => match us, hl with | [_, _], _ => rfl⟩
    e3 := ⟨⟨⟨_, _, _, _, _, _, _, _, _, _, _, _, _, _, _, o3, v3⟩, (Q 3 (by decide)).sa, (Q 3 (by decide)).xf.exC, (Q 3 (by decide)).t, (Q 3 (by decide)).k⟩, PySem.W.mg_of X G m3, _, _, i3, u3, okE3 (fun_mk (st := sE3) l103 c103 k103) ⟨⟨_, _, _, _, _, _, _, _, _, _, _, _, _, _, _, o3, v3⟩, (Q 3 (by decide)).sa, (Q 3 (by decide)).xf.exC, (Q 3 (by decide)).t, (Q 3 (by decide)).k⟩ ((Q 3 (by decide)).nN "n" (by decide +kernel)), (fun_mk (st := sE3) l103 c103 k103).binds (ps := ["self", "n"]) fun _ _ _ _ _ _ us hl => match us, hl with | [_, _], _ => rfl⟩
    e4 := ⟨⟨⟨_, _, _, _, _, _, _, _, _, _, _, _, _, _, _, o4, v4⟩, (Q 4 (by decide)).sa, (Q 4 (by decide)).xf.exC, (Q 4 (by decide)).t, (Q 4 (by decide)).k⟩, PySem.W.mg_of X G m4, _, _, i4, u4, okE4 (fun_mk (st := sE4) l104 c104 k104) ⟨⟨_, _, _, _, _, _, _, _, _, _, _, _, _, _, _, o4, v4⟩, (Q 4 (by decide)).sa, (Q 4 (by decide)).xf.exC, (Q 4 (by decide)).t, (Q 4 (by decide)).k⟩ ((Q 4 (by decide)).nN "number" (by decide +kernel)), (fun_mk (st := sE4) l104 c104 k104).binds (ps := ["self", "number"]) fun _ _ _ _ _ _ us hl => match us, hl with | [_, _], _ => rfl⟩
    e5 := ⟨x5, PySem.W.mg_of X G m5, (Q 5 (by decide)).k, (Q 5 (by decide)).xf.exC, (Q 5 (by decide)).t⟩
    e6 := ⟨⟨⟨_, _, _, _, _, _, _, _, _, _, _, _, _, _, _, o6, v6⟩, (Q 6 (by decide)).sa, (Q 6 (by decide)).xf.exC, (Q 6 (by decide)).t, (Q 6 (by decide)).k⟩, PySem.W.mg_of X G m6, _, _, i6, u6, okE6 (fun_mk (st := sE6) l106 c106 k106) ⟨⟨_, _, _, _, _, _, _, _, _, _, _, _, _, _, _, o6, v6⟩, (Q 6 (by decide)).sa, (Q 6 (by decide)).xf.exC, (Q 6 (by decide)).t, (Q 6 (by decide)).k⟩ ((Q 6 (by decide)).nN "index" (by decide +kernel)), (fun_mk (st := sE6) l106 c106 k106).binds (ps := ["self", "index"]) fun _ _ _ _ _ _ us hl => match us, hl with | [_, _], _ => rfl⟩
    e7 := ⟨⟨⟨_, _, _, _, _, _, _, _, _, _, _, _, _, _, _, o7, v7⟩, (Q 7 (by decide)).sa, (Q 7 (by decide)).xf.exC, (Q 7 (by decide)).t, (Q 7 (by decide)).k⟩, PySem.W.mg_of X G m7, _, _, i7, u7, okE7 (fun_mk (st := sE7) l107 c107 k107) ⟨⟨_, _, _, _, _, _, _, _, _, _, _, _, _, _, _, o7, v7⟩, (Q 7 (by decide)).sa, (Q 7 (by decide)).xf.exC, (Q 7 (by decide)).t, (Q 7 (by decide)).k⟩ ((Q 7 (by decide)).nN "k" (by decide +kernel)), (fun_mk (st := sE7) l107 c107 k107).binds (ps := ["self", "k"]) fun _ _ _ _ _ _ us hl => match us, hl with | [_, _], _ => rfl⟩
    e8 := ⟨⟨⟨_, _, _, _, _, _, _, _, _, _, _, _, _, _, _, o8, v8⟩, (Q 8 (by decide)).sa, (Q 8 (by decide)).xf.exC, (Q 8 (by decide)).t, (Q 8 (by decide)).k⟩, PySem.W.mg_of X G m8, _, _, i8, u8, okE8 (fun_mk (st := sE8) l108 c108 k108) ⟨⟨_, _, _, _, _, _, _, _, _, _, _, _, _, _, _, o8, v8⟩, (Q 8 (by decide)).sa, (Q 8 (by decide)).xf.exC, (Q 8 (by decide)).t, (Q 8 (by decide)).k⟩ ((Q 8 (by decide)).nN "most" (by decide +kernel)), (fun_mk (st := sE8) l108 c108 k108).binds (ps := ["self", "most"]) fun _ _ _ _ _ _ us hl => match us, hl with | [_, _], _ => rfl⟩
    e9 := ⟨⟨⟨_, _, _, _, _, _, _, _, _, _, _, _, _, _, _, o9, v9⟩, (Q 9 (by decide)).sa, (Q 9 (by decide)).xf.exC, (Q 9 (by decide)).t, (Q 9 (by decide)).k⟩, PySem.W.mg_of X G m9, _, _, i9, u9, okE9 (fun_mk (st := sE9) l109 c109 k109) ⟨⟨_, _, _, _, _, _, _, _, _, _, _, _, _, _, _, o9, v9⟩, (Q 9 (by decide)).sa, (Q 9 (by decide)).xf.exC, (Q 9 (by decide)).t, (Q 9 (by decide)).k⟩ ((Q 9 (by decide)).nN "most" (by decide +kernel)), (fun_mk (st := sE9) l109 c109 k109).binds (ps := ["self", "most"]) fun _ _ _ _ _ _ us hl => match us, hl with | [_, _], _ => rfl⟩
    e10 := ⟨⟨⟨_, _, _, _, _, _, _, _, _, _, _, _, _, _, _, o10, v10⟩, (Q 10 (by decide)).sa, (Q 10 (by decide)).xf.exC, (Q 10 (by decide)).t, (Q 10 (by decide)).k⟩, PySem.W.mg_of X G m10, _, _, i10, u10, okE10 (fun_mk (st := sE10) l110 c110 k110) ⟨⟨_, _, _, _, _, _, _, _, _, _, _, _, _, _, _, o10, v10⟩, (Q 10 (by decide)).sa, (Q 10 (by decide)).xf.exC, (Q 10 (by decide)).t, (Q 10 (by decide)).k⟩ ((Q 10 (by decide)).nN "most" (by decide +kernel)), (fun_mk (st := sE10) l110 c110 k110).binds (ps := ["self", "most"]) fun _ _ _ _ _ _ us hl => match us, hl with | [_, _], _ => rfl⟩
    e11 := ⟨⟨⟨_, _, _, _, _, _, _, _, _, _, _, _, _, _, _, o11, v11⟩, (Q 11 (by decide)).sa, (Q 11 (by decide)).xf.exC, (Q 11 (by decide)).t, (Q 11 (by decide)).k⟩, PySem.W.mg_of X G m11, _, _, i11, u11, okE11 (fun_mk (st := sE11) l111 c111 k111) ⟨⟨_, _, _, _, _, _, _, _, _, _, _, _, _, _, _, o11, v11⟩, (Q 11 (by decide)).sa, (Q 11 (by decide)).xf.exC, (Q 11 (by decide)).t, (Q 11 (by decide)).k⟩ ((Q 11 (by decide)).nN "value" (by decide +kernel)), (fun_mk (st := sE11) l111 c111 k111).binds (ps := ["self", "value"]) fun _ _ _ _ _ _ us hl => match us, hl with | [_, _], _ => rfl⟩
    e12 := ⟨⟨⟨_, _, _, _, _, _, _, _, _, _, _, _, _, _, _, o12, v12⟩, (Q 12 (by decide)).sa, (Q 12 (by decide)).xf.exC, (Q 12 (by decide)).t, (Q 12 (by decide)).k⟩, PySem.W.mg_of X G m12, _, _, i12, u12, okE12 (fun_mk (st := sE12) l112 c112 k112) ⟨⟨_, _, _, _, _, _, _, _, _, _, _, _, _, _, _, o12, v12⟩, (Q 12 (by decide)).sa, (Q 12 (by decide)).xf.exC, (Q 12 (by decide)).t, (Q 12 (by decide)).k⟩ ((Q 12 (by decide)).nN "k" (by decide +kernel)), (fun_mk (st := sE12) l112 c112 k112).binds (ps := ["self", "k"]) fun _ _ _ _ _ _ us hl => match us, hl with | [_, _], _ => rfl⟩
    e13 := ⟨⟨⟨_, _, _, _, _, _, _, _, _, _, _, _, _, _, _, o13, v13⟩, (Q 13 (by decide)).sa, (Q 13 (by decide)).xf.exC, (Q 13 (by decide)).t, (Q 13 (by decide)).k⟩, PySem.W.mg_of X G m13, _, _, i13, u13, okE13 (fun_mk (st := sE13) l113 c113 k113) ⟨⟨_, _, _, _, _, _, _, _, _, _, _, _, _, _, _, o13, v13⟩, (Q 13 (by decide)).sa, (Q 13 (by decide)).xf.exC, (Q 13 (by decide)).t, (Q 13 (by decide)).k⟩ ((Q 13 (by decide)).nN "n" (by decide +kernel)), (fun_mk (st := sE13) l113 c113 k113).binds (ps := ["self", "n"]) fun _ _ _ _ _ _ us hl => match us, hl with | [_, _], _ => rfl⟩
    e14 := ⟨x14, PySem.W.mg_of X G m14, (Q 14 (by decide)).k, (Q 14 (by decide)).xf.exC, (Q 14 (by decide)).t⟩
    e15 := ⟨⟨⟨_, _, _, _, _, _, _, _, _, _, _, _, _, _, _, o15, v15⟩, (Q 15 (by decide)).sa, (Q 15 (by decide)).xf.exC, (Q 15 (by decide)).t, (Q 15 (by decide)).k⟩, PySem.W.mg_of X G m15, _, _, i15, u15, okE15 (fun_mk (st := sE15) l115 c115 k115) ⟨⟨_, _, _, _, _, _, _, _, _, _, _, _, _, _, _, o15, v15⟩, (Q 15 (by decide)).sa, (Q 15 (by decide)).xf.exC, (Q 15 (by decide)).t, (Q 15 (by decide)).k⟩ ((Q 15 (by decide)).nN "index" (by decide +kernel)), (fun_mk (st := sE15) l115 c115 k115).binds (ps := ["self", "index"]) fun _ _ _ _ _ _ us hl => match us, hl with | [_, _], _ => rfl⟩
    e16 := ⟨x16, PySem.W.mg_of X G m16, (Q 16 (by decide)).k, (Q 16 (by decide)).xf.exC, (Q 16 (by decide)).t⟩
    e17 := ⟨x17, PySem.W.mg_of X G m17, (Q 17 (by decide)).k, (Q 17 (by decide)).xf.exC, (Q 17 (by decide)).t⟩
    e18 := ⟨x18, PySem.W.mg_of X G m18, (Q 18 (by decide)).k, (Q 18 (by decide)).xf.exC, (Q 18 (by decide)).t⟩
    e19 := ⟨⟨⟨_, _, _, _, _, _, _, _, _, _, _, _, _, _, _, o19, v19⟩, (Q 19 (by decide)).sa, (Q 19 (by decide)).xf.exC, (Q 19 (by decide)).t, (Q 19 (by decide)).k⟩, PySem.W.mg_of X G m19, _, _, i19, u19, okE19 (fun_mk (st := sE19) l119 c119 k119) ⟨⟨_, _, _, _, _, _, _, _, _, _, _, _, _, _, _, o19, v19⟩, (Q 19 (by decide)).sa, (Q 19 (by decide)).xf.exC, (Q 19 (by decide)).t, (Q 19 (by decide)).k⟩ ((Q 19 (by decide)).nN "index" (by decide +kernel)), (fun_mk (st := sE19) l119 c119 k119).binds (ps := ["self", "index"]) fun _ _ _ _ _ _ us hl => match us, hl with | [_, _], _ => rfl⟩
    e20 := ⟨⟨⟨_, _, _, _, _, _, _, _, _, _, _, _, _, _, _, o20, v20⟩, (Q 20 (by decide)).sa, (Q 20 (by decide)).xf.exC, (Q 20 (by decide)).t, (Q 20 (by decide)).k⟩, PySem.W.mg_of X G m20, _, _, i20, u20, okE20 (fun_mk (st := sE20) l120 c120 k120) ⟨⟨_, _, _, _, _, _, _, _, _, _, _, _, _, _, _, o20, v20⟩, (Q 20 (by decide)).sa, (Q 20 (by decide)).xf.exC, (Q 20 (by decide)).t, (Q 20 (by decide)).k⟩ ((Q 20 (by decide)).nN "have" (by decide +kernel)) ((Q 20 (by decide)).nN "want" (by decide +kernel)), (fun_mk (st := sE20) l120 c120 k120).binds (ps := ["self", "have", "want"]) fun _ _ _ _ _ _ us hl => match us, hl with | [_, _, _], _ => rfl⟩
    e21 := ⟨⟨⟨_, _, _, _, _, _, _, _, _, _, _, _, _, _, _, o21, v21⟩, (Q 21 (by decide)).sa, (Q 21 (by decide)).xf.exC, (Q 21 (by decide)).t, (Q 21 (by decide)).k⟩, PySem.W.mg_of X G m21, _, _, i21, u21, okE21 (fun_mk (st := sE21) l121 c121 k121) ⟨⟨_, _, _, _, _, _, _, _, _, _, _, _, _, _, _, o21, v21⟩, (Q 21 (by decide)).sa, (Q 21 (by decide)).xf.exC, (Q 21 (by decide)).t, (Q 21 (by decide)).k⟩ ((Q 21 (by decide)).nN "n" (by decide +kernel)), (fun_mk (st := sE21) l121 c121 k121).binds (ps := ["self", "n"]) fun _ _ _ _ _ _ us hl => match us, hl with | [_, _], _ => rfl⟩
    e22 := ⟨x22, PySem.W.mg_of X G m22, (Q 22 (by decide)).k, (Q 22 (by decide)).xf.exC, (Q 22 (by decide)).t⟩
    e23 := ⟨⟨⟨_, _, _, _, _, _, _, _, _, _, _, _, _, _, _, o23, v23⟩, (Q 23 (by decide)).sa, (Q 23 (by decide)).xf.exC, (Q 23 (by decide)).t, (Q 23 (by decide)).k⟩, PySem.W.mg_of X G m23, _, _, i23, u23, okE23 (fun_mk (st := sE23) l123 c123 k123) ⟨⟨_, _, _, _, _, _, _, _, _, _, _, _, _, _, _, o23, v23⟩, (Q 23 (by decide)).sa, (Q 23 (by decide)).xf.exC, (Q 23 (by decide)).t, (Q 23 (by decide)).k⟩ ((Q 23 (by decide)).nN "n" (by decide +kernel)), (fun_mk (st := sE23) l123 c123 k123).binds (ps := ["self", "n"]) fun _ _ _ _ _ _ us hl => match us, hl with | [_, _], _ => rfl⟩
    e24 := ⟨⟨⟨_, _, _, _, _, _, _, _, _, _, _, _, _, _, _, o24, v24⟩, (Q 24 (by decide)).sa, (Q 24 (by decide)).xf.exC, (Q 24 (by decide)).t, (Q 24 (by decide)).k⟩, PySem.W.mg_of X G m24, _, _, i24, u24, okE24 (fun_mk (st := sE24) l124 c124 k124) ⟨⟨_, _, _, _, _, _, _, _, _, _, _, _, _, _, _, o24, v24⟩, (Q 24 (by decide)).sa, (Q 24 (by decide)).xf.exC, (Q 24 (by decide)).t, (Q 24 (by decide)).k⟩ ((Q 24 (by decide)).nN "what" (by decide +kernel)) ((Q 24 (by decide)).nN "many" (by decide +kernel)) ((Q 24 (by decide)).nN "most" (by decide +kernel)), (fun_mk (st := sE24) l124 c124 k124).binds (ps := ["self", "what", "many", "most"]) fun _ _ _ _ _ _ us hl => match us, hl with | [_, _, _, _], _ => rfl⟩
    e25 := ⟨⟨⟨_, _, _, _, _, _, _, _, _, _, _, _, _, _, _, o25, v25⟩, (Q 25 (by decide)).sa, (Q 25 (by decide)).xf.exC, (Q 25 (by decide)).t, (Q 25 (by decide)).k⟩, PySem.W.mg_of X G m25, _, _, i25, u25, okE25 (fun_mk (st := sE25) l125 c125 k125) ⟨⟨_, _, _, _, _, _, _, _, _, _, _, _, _, _, _, o25, v25⟩, (Q 25 (by decide)).sa, (Q 25 (by decide)).xf.exC, (Q 25 (by decide)).t, (Q 25 (by decide)).k⟩ ((Q 25 (by decide)).nN "at" (by decide +kernel)), (fun_mk (st := sE25) l125 c125 k125).binds (ps := ["self", "at"]) fun _ _ _ _ _ _ us hl => match us, hl with | [_, _], _ => rfl⟩
    e26 := ⟨⟨⟨_, _, _, _, _, _, _, _, _, _, _, _, _, _, _, o26, v26⟩, (Q 26 (by decide)).sa, (Q 26 (by decide)).xf.exC, (Q 26 (by decide)).t, (Q 26 (by decide)).k⟩, PySem.W.mg_of X G m26, _, _, i26, u26, okE26 (fun_mk (st := sE26) l126 c126 k126) ⟨⟨_, _, _, _, _, _, _, _, _, _, _, _, _, _, _, o26, v26⟩, (Q 26 (by decide)).sa, (Q 26 (by decide)).xf.exC, (Q 26 (by decide)).t, (Q 26 (by decide)).k⟩ ((Q 26 (by decide)).nN "name" (by decide +kernel)), (fun_mk (st := sE26) l126 c126 k126).binds (ps := ["self", "name"]) fun _ _ _ _ _ _ us hl => match us, hl with | [_, _], _ => rfl⟩
    e27 := ⟨⟨⟨_, _, _, _, _, _, _, _, _, _, _, _, _, _, _, o27, v27⟩, (Q 27 (by decide)).sa, (Q 27 (by decide)).xf.exC, (Q 27 (by decide)).t, (Q 27 (by decide)).k⟩, PySem.W.mg_of X G m27, _, _, i27, u27, okE27 (fun_mk (st := sE27) l127 c127 k127) ⟨⟨_, _, _, _, _, _, _, _, _, _, _, _, _, _, _, o27, v27⟩, (Q 27 (by decide)).sa, (Q 27 (by decide)).xf.exC, (Q 27 (by decide)).t, (Q 27 (by decide)).k⟩ ((Q 27 (by decide)).nN "name" (by decide +kernel)), (fun_mk (st := sE27) l127 c127 k127).binds (ps := ["self", "name"]) fun _ _ _ _ _ _ us hl => match us, hl with | [_, _], _ => rfl⟩
    e28 := ⟨⟨⟨_, _, _, _, _, _, _, _, _, _, _, _, _, _, _, o28, v28⟩, (Q 28 (by decide)).sa, (Q 28 (by decide)).xf.exC, (Q 28 (by decide)).t, (Q 28 (by decide)).k⟩, PySem.W.mg_of X G m28, _, _, i28, u28, okE28 (fun_mk (st := sE28) l128 c128 k128) ⟨⟨_, _, _, _, _, _, _, _, _, _, _, _, _, _, _, o28, v28⟩, (Q 28 (by decide)).sa, (Q 28 (by decide)).xf.exC, (Q 28 (by decide)).t, (Q 28 (by decide)).k⟩ ((Q 28 (by decide)).nN "name" (by decide +kernel)), (fun_mk (st := sE28) l128 c128 k128).binds (ps := ["self", "name"]) fun _ _ _ _ _ _ us hl => match us, hl with | [_, _], _ => rfl⟩
    e29 := ⟨⟨⟨_, _, _, _, _, _, _, _, _, _, _, _, _, _, _, o29, v29⟩, (Q 29 (by decide)).sa, (Q 29 (by decide)).xf.exC, (Q 29 (by decide)).t, (Q 29 (by decide)).k⟩, PySem.W.mg_of X G m29, _, _, i29, u29, okE29 (fun_mk (st := sE29) l129 c129 k129) ⟨⟨_, _, _, _, _, _, _, _, _, _, _, _, _, _, _, o29, v29⟩, (Q 29 (by decide)).sa, (Q 29 (by decide)).xf.exC, (Q 29 (by decide)).t, (Q 29 (by decide)).k⟩ ((Q 29 (by decide)).nN "name" (by decide +kernel)) ((Q 29 (by decide)).nN "why" (by decide +kernel)), (fun_mk (st := sE29) l129 c129 k129).binds (ps := ["self", "name", "why"]) fun _ _ _ _ _ _ us hl => match us, hl with | [_, _, _], _ => rfl⟩
    e30 := ⟨⟨⟨_, _, _, _, _, _, _, _, _, _, _, _, _, _, _, o30, v30⟩, (Q 30 (by decide)).sa, (Q 30 (by decide)).xf.exC, (Q 30 (by decide)).t, (Q 30 (by decide)).k⟩, PySem.W.mg_of X G m30, _, _, i30, u30, okE30 (fun_mk (st := sE30) l130 c130 k130) ⟨⟨_, _, _, _, _, _, _, _, _, _, _, _, _, _, _, o30, v30⟩, (Q 30 (by decide)).sa, (Q 30 (by decide)).xf.exC, (Q 30 (by decide)).t, (Q 30 (by decide)).k⟩ ((Q 30 (by decide)).nN "name" (by decide +kernel)) ((Q 30 (by decide)).nN "n" (by decide +kernel)), (fun_mk (st := sE30) l130 c130 k130).binds (ps := ["self", "name", "n"]) fun _ _ _ _ _ _ us hl => match us, hl with | [_, _, _], _ => rfl⟩
    e31 := ⟨⟨⟨_, _, _, _, _, _, _, _, _, _, _, _, _, _, _, o31, v31⟩, (Q 31 (by decide)).sa, (Q 31 (by decide)).xf.exC, (Q 31 (by decide)).t, (Q 31 (by decide)).k⟩, PySem.W.mg_of X G m31, _, _, i31, u31, okE31 (fun_mk (st := sE31) l131 c131 k131) ⟨⟨_, _, _, _, _, _, _, _, _, _, _, _, _, _, _, o31, v31⟩, (Q 31 (by decide)).sa, (Q 31 (by decide)).xf.exC, (Q 31 (by decide)).t, (Q 31 (by decide)).k⟩ ((Q 31 (by decide)).nN "name" (by decide +kernel)) ((Q 31 (by decide)).nN "by" (by decide +kernel)), (fun_mk (st := sE31) l131 c131 k131).binds (ps := ["self", "name", "by"]) fun _ _ _ _ _ _ us hl => match us, hl with | [_, _, _], _ => rfl⟩
    e32 := ⟨x32, PySem.W.mg_of X G m32, (Q 32 (by decide)).k, (Q 32 (by decide)).xf.exC, (Q 32 (by decide)).t⟩
    e33 := ⟨⟨⟨_, _, _, _, _, _, _, _, _, _, _, _, _, _, _, o33, v33⟩, (Q 33 (by decide)).sa, (Q 33 (by decide)).xf.exC, (Q 33 (by decide)).t, (Q 33 (by decide)).k⟩, PySem.W.mg_of X G m33, _, _, i33, u33, okE33 (fun_mk (st := sE33) l133 c133 k133) ⟨⟨_, _, _, _, _, _, _, _, _, _, _, _, _, _, _, o33, v33⟩, (Q 33 (by decide)).sa, (Q 33 (by decide)).xf.exC, (Q 33 (by decide)).t, (Q 33 (by decide)).k⟩ ((Q 33 (by decide)).nN "line" (by decide +kernel)) ((Q 33 (by decide)).nN "why" (by decide +kernel)), (fun_mk (st := sE33) l133 c133 k133).binds (ps := ["self", "line", "why"]) fun _ _ _ _ _ _ us hl => match us, hl with | [_, _, _], _ => rfl⟩
    xf := fun k hk => (Q k hk).xf
    xc := fun k hk => ⟨(Q k hk).xf.ga, (Q k hk).xf.gg, (Q k hk).xf.exC, (Q k hk).xf.hdC, (Q k hk).ha, hn, ht, (Q k hk).hm⟩
    nN := fun k hk => (Q k hk).nN
    is := fun k j hk hj => kit_sub (Q j hj).j (Q j hj).t (S k j hk hj) fun e => by
      have h1 := S k j hk hj
      have h2 := S k k hk hk
      rw [← e, h2] at h1
      rw [← Option.some.inj h1]
      exact decide_eq_true rfl
    em := fun k hk => exm_by bE jE tE (Q k hk).e
    gE := PySem.W.mg_of X G mE
    vE := fun k hk => kit_val (Q k hk).v }
  have dPen := df_pen (P := P) (w := w) (base := base) (at_mk X G a0 l0 c0 k0) T.toTxtP
  have dDraw := df_draw (P := P) (w := w) (base := base) (at_mk X G a1 l1 c1 k1) T.toTxtP
  have dPick := df_pick (P := P) (w := w) (base := base) (at_mk X G a2 l2 c2 k2) T.toTxtP dDraw
  have dVal := df_value (P := P) (w := w) (base := base) (at_mk X G a8 l8 c8 k8) dPick
  have dT2 := dx_scThr2 (PySem.W.mg_of X G a4) (fun_mk (st := sThr2) l4 c4 k4) Er
  have dT := dx_scThr (PySem.W.mg_of X G a3) (fun_mk (st := sThr) l3 c3 k3) Er dT2
  have dK := dz_kinds (PySem.W.mg_of X G a5) (fun_mk (st := sKinds) l5 c5 k5) Er T
  have dF := dz_fields (PySem.W.mg_of X G a6) (fun_mk (st := sFields) l6 c6 k6) Er
  have dC := df_caught (at_mk X G a7 l7 c7 k7) Er T dT dK dF
  exact ok_law (fun_mk (st := sLaw) l9 c9 k9) T dPen dDraw dVal dC
theorem walk {l : PySem.W.OpenLaw} {q : Program} {loose : List Str} {XP : (Str → Option Value) → Heap → Prop} {YP : World → Heap → Prop} {d : DefRec} {K : Params → PySem.W.Frag} (hn : l.most = some 63) (hdf : d.params.defaults = [])
    (hY : ∀ (w : World) (h : Heap), YP w h → (K w.params).In h)
    (F : ∀ (w : World) (mg : Str → Option Value) (fa : Addr) (h : Heap), (K w.params).In h → h.Ns mainGlobals mg → mg d.name = some (.ref fa) →
      ∃ fd : FuncData, (∀ (s : Shared) (u : Value), BindsTo s fd ⟨[u], []⟩ [("script", u)]) ∧ ∀ base : Heap, (K w.params).In base → base.Ns mainGlobals mg → FnOk l.prog w (K w.params) mg base CX0 7 fa fd ["script"] (spLaw (K w.params))) :
    PySem.W.WalkO q loose XP YP l.row.toRowW d [] (fun f vs => PySem.call f vs) :=
  L2.walk_of (n := 63) (k := 7) (x := "script") (CX := fun _ => CX0) (sp := fun w => spLaw (K w.params)) hn (by decide) hdf ⟨rfl, by decide, by decide⟩ hY F (fun _ _ a ns hl _ hS => ⟨a, ns, rfl, hS, hl, fun _ => rfl⟩) fun _ _ _ _ _ z => z
end Ef
set_option Elab.async false
set_option linter.all false
open PySem PySem.W PyProof.Rows in
set_option maxRecDepth 100000 in
set_option maxHeartbeats 0 in
theorem PySem.Challenge.cw_everyfloor_k00_errors_made_from_their_fi_holds : PySem.Challenge.rw_everyfloor_k00_errors_made_from_their_fi.Holds := by
  w_on; o_law; k_headL; (case hw => w_witness2)
  k_fill
  refine Ef.walk (l := PySem.Challenge.rw_everyfloor_k00_errors_made_from_their_fi) rfl rfl (fun w h Y => PySem.W.kIn_of Y) ?F
  case F =>
    intro w mg fa h KX G hmg
    refine' Ef.all_mk KX G hmg ?a0 ?l0 ?c0 ?k0 ?a1 ?l1 ?c1 ?k1 ?a2 ?l2 ?c2 ?k2 ?a3 ?l3 ?c3 ?k3 ?a4 ?l4 ?c4 ?k4 ?a5 ?l5 ?c5 ?k5 ?a6 ?l6 ?c6 ?k6 ?a7 ?l7 ?c7 ?k7 ?a8 ?l8 ?c8 ?k8 ?a9 ?l9 ?c9 ?k9 ?m0 ?o0 ?v0 ?i0 ?u0 ?l100 ?c100 ?k100 ?m1 ?o1 ?v1 ?i1 ?u1 ?l101 ?c101 ?k101 ?m2 ?o2 ?v2 ?i2 ?u2 ?l102 ?c102 ?k102 ?m3 ?o3 ?v3 ?i3 ?u3 ?l103 ?c103 ?k103 ?m4 ?o4 ?v4 ?i4 ?u4 ?l104 ?c104 ?k104 ?m5 ?x5 ?m6 ?o6 ?v6 ?i6 ?u6 ?l106 ?c106 ?k106 ?m7 ?o7 ?v7 ?i7 ?u7 ?l107 ?c107 ?k107 ?m8 ?o8 ?v8 ?i8 ?u8 ?l108 ?c108 ?k108 ?m9 ?o9 ?v9 ?i9 ?u9 ?l109 ?c109 ?k109 ?m10 ?o10 ?v10 ?i10 ?u10 ?l110 ?c110 ?k110 ?m11 ?o11 ?v11 ?i11 ?u11 ?l111 ?c111 ?k111 ?m12 ?o12 ?v12 ?i12 ?u12 ?l112 ?c112 ?k112 ?m13 ?o13 ?v13 ?i13 ?u13 ?l113 ?c113 ?k113 ?m14 ?x14 ?m15 ?o15 ?v15 ?i15 ?u15 ?l115 ?c115 ?k115 ?m16 ?x16 ?m17 ?x17 ?m18 ?x18 ?m19 ?o19 ?v19 ?i19 ?u19 ?l119 ?c119 ?k119 ?m20 ?o20 ?v20 ?i20 ?u20 ?l120 ?c120 ?k120 ?m21 ?o21 ?v21 ?i21 ?u21 ?l121 ?c121 ?k121 ?m22 ?x22 ?m23 ?o23 ?v23 ?i23 ?u23 ?l123 ?c123 ?k123 ?m24 ?o24 ?v24 ?i24 ?u24 ?l124 ?c124 ?k124 ?m25 ?o25 ?v25 ?i25 ?u25 ?l125 ?c125 ?k125 ?m26 ?o26 ?v26 ?i26 ?u26 ?l126 ?c126 ?k126 ?m27 ?o27 ?v27 ?i27 ?u27 ?l127 ?c127 ?k127 ?m28 ?o28 ?v28 ?i28 ?u28 ?l128 ?c128 ?k128 ?m29 ?o29 ?v29 ?i29 ?u29 ?l129 ?c129 ?k129 ?m30 ?o30 ?v30 ?i30 ?u30 ?l130 ?c130 ?k130 ?m31 ?o31 ?v31 ?i31 ?u31 ?l131 ?c131 ?k131 ?m32 ?x32 ?m33 ?o33 ?v33 ?i33 ?u33 ?l133 ?c133 ?k133 ?mE ?jE ?tE ?bE ?hn ?ht ?chk ?chk2 ?z0 ?z1 ?z2 ?z3 ?z4 ?z5 ?z6
    (case a0 => k_is)
    (case l0 => k_is)
    (case c0 => k_is)
    (case k0 => k_is)
    (case a1 => k_is)
    (case l1 => k_is)
    (case c1 => k_is)
    (case k1 => k_is)
    (case a2 => k_is)
    (case l2 => k_is)
    (case c2 => k_is)
    (case k2 => k_is)
    (case a3 => k_is)
    (case l3 => k_is)
    (case c3 => k_is)
    (case k3 => k_is)
    (case a4 => k_is)
    (case l4 => k_is)
    (case c4 => k_is)
    (case k4 => k_is)
    (case a5 => k_is)
    (case l5 => k_is)
    (case c5 => k_is)
    (case k5 => k_is)
    (case a6 => k_is)
    (case l6 => k_is)
    (case c6 => k_is)
    (case k6 => k_is)
    (case a7 => k_is)
    (case l7 => k_is)
    (case c7 => k_is)
    (case k7 => k_is)
    (case a8 => k_is)
    (case l8 => k_is)
    (case c8 => k_is)
    (case k8 => k_is)
    (case a9 => k_is)
    (case l9 => k_is)
    (case c9 => k_is)
    (case k9 => k_is)
    (case m0 => k_is)
    (case o0 => k_is)
    (case v0 => decide +kernel)
    (case i0 => k_is)
    (case u0 => k_is)
    (case l100 => k_is)
    (case c100 => k_is)
    (case k100 => k_is)
    (case m1 => k_is)
    (case o1 => k_is)
    (case v1 => decide +kernel)
    (case i1 => k_is)
    (case u1 => k_is)
    (case l101 => k_is)
    (case c101 => k_is)
    (case k101 => k_is)
    (case m2 => k_is)
    (case o2 => k_is)
    (case v2 => decide +kernel)
    (case i2 => k_is)
    (case u2 => k_is)
    (case l102 => k_is)
    (case c102 => k_is)
    (case k102 => k_is)
    (case m3 => k_is)
    (case o3 => k_is)
    (case v3 => decide +kernel)
    (case i3 => k_is)
    (case u3 => k_is)
    (case l103 => k_is)
    (case c103 => k_is)
    (case k103 => k_is)
    (case m4 => k_is)
    (case o4 => k_is)
    (case v4 => decide +kernel)
    (case i4 => k_is)
    (case u4 => k_is)
    (case l104 => k_is)
    (case c104 => k_is)
    (case k104 => k_is)
    (case m5 => k_is)
    (case x5 => first | k_is | k_exc | decide +kernel | rfl)
    (case m6 => k_is)
    (case o6 => k_is)
    (case v6 => decide +kernel)
    (case i6 => k_is)
    (case u6 => k_is)
    (case l106 => k_is)
    (case c106 => k_is)
    (case k106 => k_is)
    (case m7 => k_is)
    (case o7 => k_is)
    (case v7 => decide +kernel)
    (case i7 => k_is)
    (case u7 => k_is)
    (case l107 => k_is)
    (case c107 => k_is)
    (case k107 => k_is)
    (case m8 => k_is)
    (case o8 => k_is)
    (case v8 => decide +kernel)
    (case i8 => k_is)
    (case u8 => k_is)
    (case l108 => k_is)
    (case c108 => k_is)
    (case k108 => k_is)
    (case m9 => k_is)
    (case o9 => k_is)
    (case v9 => decide +kernel)
    (case i9 => k_is)
    (case u9 => k_is)
    (case l109 => k_is)
    (case c109 => k_is)
    (case k109 => k_is)
    (case m10 => k_is)
    (case o10 => k_is)
    (case v10 => decide +kernel)
    (case i10 => k_is)
    (case u10 => k_is)
    (case l110 => k_is)
    (case c110 => k_is)
    (case k110 => k_is)
    (case m11 => k_is)
    (case o11 => k_is)
    (case v11 => decide +kernel)
    (case i11 => k_is)
    (case u11 => k_is)
    (case l111 => k_is)
    (case c111 => k_is)
    (case k111 => k_is)
    (case m12 => k_is)
    (case o12 => k_is)
    (case v12 => decide +kernel)
    (case i12 => k_is)
    (case u12 => k_is)
    (case l112 => k_is)
    (case c112 => k_is)
    (case k112 => k_is)
    (case m13 => k_is)
    (case o13 => k_is)
    (case v13 => decide +kernel)
    (case i13 => k_is)
    (case u13 => k_is)
    (case l113 => k_is)
    (case c113 => k_is)
    (case k113 => k_is)
    (case m14 => k_is)
    (case x14 => first | k_is | k_exc | decide +kernel | rfl)
    (case m15 => k_is)
    (case o15 => k_is)
    (case v15 => decide +kernel)
    (case i15 => k_is)
    (case u15 => k_is)
    (case l115 => k_is)
    (case c115 => k_is)
    (case k115 => k_is)
    (case m16 => k_is)
    (case x16 => first | k_is | k_exc | decide +kernel | rfl)
    (case m17 => k_is)
    (case x17 => first | k_is | k_exc | decide +kernel | rfl)
    (case m18 => k_is)
    (case x18 => first | k_is | k_exc | decide +kernel | rfl)
    (case m19 => k_is)
    (case o19 => k_is)
    (case v19 => decide +kernel)
    (case i19 => k_is)
    (case u19 => k_is)
    (case l119 => k_is)
    (case c119 => k_is)
    (case k119 => k_is)
    (case m20 => k_is)
    (case o20 => k_is)
    (case v20 => decide +kernel)
    (case i20 => k_is)
    (case u20 => k_is)
    (case l120 => k_is)
    (case c120 => k_is)
    (case k120 => k_is)
    (case m21 => k_is)
    (case o21 => k_is)
    (case v21 => decide +kernel)
    (case i21 => k_is)
    (case u21 => k_is)
    (case l121 => k_is)
    (case c121 => k_is)
    (case k121 => k_is)
    (case m22 => k_is)
    (case x22 => first | k_is | k_exc | decide +kernel | rfl)
    (case m23 => k_is)
    (case o23 => k_is)
    (case v23 => decide +kernel)
    (case i23 => k_is)
    (case u23 => k_is)
    (case l123 => k_is)
    (case c123 => k_is)
    (case k123 => k_is)
    (case m24 => k_is)
    (case o24 => k_is)
    (case v24 => decide +kernel)
    (case i24 => k_is)
    (case u24 => k_is)
    (case l124 => k_is)
    (case c124 => k_is)
    (case k124 => k_is)
    (case m25 => k_is)
    (case o25 => k_is)
    (case v25 => decide +kernel)
    (case i25 => k_is)
    (case u25 => k_is)
    (case l125 => k_is)
    (case c125 => k_is)
    (case k125 => k_is)
    (case m26 => k_is)
    (case o26 => k_is)
    (case v26 => decide +kernel)
    (case i26 => k_is)
    (case u26 => k_is)
    (case l126 => k_is)
    (case c126 => k_is)
    (case k126 => k_is)
    (case m27 => k_is)
    (case o27 => k_is)
    (case v27 => decide +kernel)
    (case i27 => k_is)
    (case u27 => k_is)
    (case l127 => k_is)
    (case c127 => k_is)
    (case k127 => k_is)
    (case m28 => k_is)
    (case o28 => k_is)
    (case v28 => decide +kernel)
    (case i28 => k_is)
    (case u28 => k_is)
    (case l128 => k_is)
    (case c128 => k_is)
    (case k128 => k_is)
    (case m29 => k_is)
    (case o29 => k_is)
    (case v29 => decide +kernel)
    (case i29 => k_is)
    (case u29 => k_is)
    (case l129 => k_is)
    (case c129 => k_is)
    (case k129 => k_is)
    (case m30 => k_is)
    (case o30 => k_is)
    (case v30 => decide +kernel)
    (case i30 => k_is)
    (case u30 => k_is)
    (case l130 => k_is)
    (case c130 => k_is)
    (case k130 => k_is)
    (case m31 => k_is)
    (case o31 => k_is)
    (case v31 => decide +kernel)
    (case i31 => k_is)
    (case u31 => k_is)
    (case l131 => k_is)
    (case c131 => k_is)
    (case k131 => k_is)
    (case m32 => k_is)
    (case x32 => first | k_is | k_exc | decide +kernel | rfl)
    (case m33 => k_is)
    (case o33 => k_is)
    (case v33 => decide +kernel)
    (case i33 => k_is)
    (case u33 => k_is)
    (case l133 => k_is)
    (case c133 => k_is)
    (case k133 => k_is)
    (case mE => k_is)
    (case jE => k_is)
    (case tE => k_is)
    (case bE => k_is)
    (case hn => k_is)
    (case ht => k_is)
    (case chk => kernel_rfl)
    (case chk2 => kernel_rfl)
    (case z0 => k_is)
    (case z1 => k_is)
    (case z2 => k_is)
    (case z3 => k_is)
    (case z4 => k_is)
    (case z5 => k_is)
    (case z6 => k_is)
#print axioms PySem.Challenge.cw_everyfloor_k00_errors_made_from_their_fi_holds
