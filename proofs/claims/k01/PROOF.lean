import PyProof.Rows.All
import Wide.All
import OpenK.AllK
import Wide.FinOn
import HandS.ForMost
import PySem.Challenge.RW_everyfloor_k01_pieces_in_their_least_for
import KE.GoesEnum
import HandS.Style
import HandS.TupAny
import KE.KCallOwn
import HandS.ExcOwn
import HandS.ForExc
import HandS.TryMany
import HandS.IsInst
import HandS.Gcd
import HandS.ExcInit
import HandS.ExcField
import HandS.Property
import HandS.Conv
import HandS.Wide
import HandS.Rev
import HandS.More
import HandS.ClsMeth
import HandS.OwnEq
import HandS.Defaults
import HandS.Lambda
import HandS.EndTab
set_option Elab.async false
set_option linter.all false
set_option maxRecDepth 100000
set_option maxHeartbeats 4000000
namespace Ef
open PySem PySem.Spec PyProof.Rows L2
def top (i : Nat) : Stmt := PySem.Challenge.pw_everyfloor_k01_pieces_in_their_least_for.main.body.getD i (.Pass ⟨0, 0, 0, 0⟩)
abbrev sPen : Stmt := top 28
abbrev sDraw : Stmt := top 29
abbrev sPick : Stmt := top 30
/-! ### the pen -/
def penD (l : Addr) (a b : Int) : List (Key × V) := [(.inr "cells", .ref l), (.inr "at", .int a), (.inr "left", .int b)]
theorem pen_cells (l : Addr) (a b : Int) : valV (penD l a b) (Sum.inr "cells") = some (.ref l) := by with_unfolding_all rfl
theorem pen_at (l : Addr) (a b : Int) : valV (penD l a b) (Sum.inr "at") = some (.int a) := by with_unfolding_all rfl
theorem pen_left (l : Addr) (a b : Int) : valV (penD l a b) (Sum.inr "left") = some (.int b) := by with_unfolding_all rfl
theorem put_at (l : Addr) (a b c : Int) : putK (penD l a b) (Sum.inr "at") (.int c) = penD l c b := by with_unfolding_all rfl
theorem put_left (l : Addr) (a b c : Int) : putK (penD l a b) (Sum.inr "left") (.int c) = penD l a c := by with_unfolding_all rfl
/-- at p stands the pen: its list of ints at l, its place a, what is left b -/
structure Pen (H : Hp) (p l : Addr) (ns : List Int) (a b : Int) : Prop where
  hd : H p = some (.dK (penD l a b))
  hl : H l = some (.lst (ns.map V.int))
  len : ns.length ≤ 63
  a0 : 0 ≤ a
  b0 : 0 ≤ b
/-- all that is tracked but p is as it was -/
def Kp (p : Addr) (H H' : Hp) : Prop := ∀ x o, x ≠ p → H x = some o → H' x = some o
theorem Kp.refl (p : Addr) (H : Hp) : Kp p H H := fun _ _ _ h => h
theorem Kp.trans {p : Addr} {H H1 H2 : Hp} (a : Kp p H H1) (b : Kp p H1 H2) : Kp p H H2 := fun x o n h => b x o n (a x o n h)
theorem Kp.put {p : Addr} {H : Hp} (o : HO) : Kp p H (upd H p o) := fun x u n h => by rw [upd_ne n]; exact h
theorem Kp.new {p q : Addr} {H : Hp} (o : HO) (hq : H q = none) : Kp p H (upd H q o) := fun x u n h => by rw [upd_ne (ne_of_none h hq)]; exact h
/-! ### data -/
theorem dp_ints {K : PySem.W.Frag} {H : Hp} : ∀ ns : List Int, DpAll K H (ns.map V.int) (ns.map PyData.int)
  | [] => .nil
  | n :: ns => .cons (.int n) (dp_ints ns)
theorem dp_bls {K : PySem.W.Frag} {H : Hp} : ∀ bs : List Bool, DpAll K H (bs.map V.bl) (bs.map PyData.bool)
  | [] => .nil
  | n :: ns => .cons (.bl n) (dp_bls ns)
theorem can_ints : ∀ ns : List Int, PyData.canLayAll0 (ns.map PyData.int) = true ∧ PyData.depthAll (ns.map PyData.int) = 0
  | [] => ⟨rfl, rfl⟩
  | n :: ns => by
    obtain ⟨h1, h2⟩ := can_ints ns
    constructor
    · show (PyData.canLay0 (.int n) && PyData.canLayAll0 (ns.map PyData.int)) = true
      rw [h1]; rfl
    · show max (PyData.depth (.int n)) (PyData.depthAll (ns.map PyData.int)) = 0
      rw [h2]; rfl
theorem can_bls : ∀ ns : List Bool, PyData.canLayAll0 (ns.map PyData.bool) = true ∧ PyData.depthAll (ns.map PyData.bool) = 0
  | [] => ⟨rfl, rfl⟩
  | n :: ns => by
    obtain ⟨h1, h2⟩ := can_bls ns
    constructor
    · show (PyData.canLay0 (.bool n) && PyData.canLayAll0 (ns.map PyData.bool)) = true
      rw [h1]; rfl
    · show max (PyData.depth (.bool n)) (PyData.depthAll (ns.map PyData.bool)) = 0
      rw [h2]; rfl
theorem sh_list {ds : List PyData} (h1 : PyData.canLayAll0 ds = true) (h2 : PyData.depthAll ds = 0) : SeqAt.shaped (.list ds) = true ∧ SeqAt.shaped (.tuple ds) = true := by
  constructor
  · show (PyData.canLayAll0 ds && decide (PyData.depthAll ds + 1 ≤ 64)) = true
    rw [h1, h2]; rfl
  · show (PyData.canLayAll0 ds && decide (PyData.depthAll ds + 1 ≤ 64)) = true
    rw [h1, h2]; rfl
theorem eqv_nil (ns : List Int) : PyData.eqv (.list (ns.map PyData.int)) (.list []) = ns.isEmpty := by
  cases ns with
  | nil => rfl
  | cons n ns => rfl
theorem eqv_bls : ∀ as bs : List Bool, PyData.eqvAll (as.map PyData.bool) (bs.map PyData.bool) = decide (as = bs)
  | [], [] => rfl
  | [], _ :: _ => rfl
  | _ :: _, [] => rfl
  | a :: as, b :: bs => by
    show (PyData.eqv (.bool a) (.bool b) && PyData.eqvAll (as.map PyData.bool) (bs.map PyData.bool)) = _
    rw [eqv_bls as bs]
    show ((a == b) && decide (as = bs)) = decide (a :: as = b :: bs)
    by_cases h1 : a = b <;> by_cases h2 : as = bs <;> simp [h1, h2]
end Ef
set_option Elab.async false
set_option linter.all false
set_option maxRecDepth 100000
set_option maxHeartbeats 4000000
namespace Ef
open PySem PySem.Spec PyProof.Rows L2
structure TxtP (mg : Str → Option Value) : Prop where
  int : mg "int" = none
  len : mg "len" = none
  list : mg "list" = none
/-- what a draw promises -/
def spDraw : Sp := fun vs H Q _ => ∃ (p l : Addr) (ns : List Int) (a b m : Int), vs = [.ref p, .int m] ∧ Pen H p l ns a b ∧ a ≤ 1073741824 ∧ 1 ≤ m ∧ m < 1073741824 ∧
  ∀ (d a' b' : Int) (H' : Hp), 0 ≤ d → d < m → a' ≤ a + 1 → Pen H' p l ns a' b' → Kp p H H' → Q (.int d) H'
theorem scDraw : FnScope ["pen", "many", "digit", "at", "cell", "mixed"] ["pen", "many"] (defScope sDraw) := ⟨rfl, rfl, rfl, by decide +kernel, rfl, by decide +kernel, by decide +kernel⟩
section
variable {P : Program} {w : World} {K : PySem.W.Frag} {mg : Str → Option Value} {base : Heap}
theorem Pen.ne {H : Hp} {p l : Addr} {ns : List Int} {a b : Int} (h : Pen H p l ns a b) : l ≠ p := ne_of h.hl h.hd (by intro q; cases q)
theorem Pen.put {H : Hp} {p l : Addr} {ns : List Int} {a b : Int} (h : Pen H p l ns a b) {a' b' : Int} (ha : 0 ≤ a') (hb : 0 ≤ b') : Pen (upd H p (.dK (penD l a' b'))) p l ns a' b' :=
  ⟨upd_same, by rw [upd_ne h.ne]; exact h.hl, h.len, ha, hb⟩
theorem Pen.kp {H H' : Hp} {p l : Addr} {ns : List Int} {a b : Int} (h : Pen H p l ns a b) (k : Kp p H H') (hp : H' p = H p) : Pen H' p l ns a b := ⟨hp.trans h.hd, k _ _ h.ne h.hl, h.len, h.a0, h.b0⟩
theorem emB (x k : Int) (h : 0 < k) (h2 : k < 2 ^ 64) : -(2 ^ 64) < x % k ∧ x % k < 2 ^ 64 := by
  have h1 := Int.emod_nonneg x (show k ≠ 0 by omega)
  have h3 := Int.emod_lt_of_pos x h
  omega
theorem Pen.gl {H : Hp} {p l : Addr} {ns : List Int} {a b : Int} (h : Pen H p l ns a b) : DGet H p (.str "left") (some (.int b)) := by
  have z := DGet.k (k := Sum.inr "left") h.hd
  rw [pen_left] at z
  exact z
theorem Pen.ga {H : Hp} {p l : Addr} {ns : List Int} {a b : Int} (h : Pen H p l ns a b) : DGet H p (.str "at") (some (.int a)) := by
  have z := DGet.k (k := Sum.inr "at") h.hd
  rw [pen_at] at z
  exact z
theorem Pen.gc {H : Hp} {p l : Addr} {ns : List Int} {a b : Int} (h : Pen H p l ns a b) : DGet H p (.str "cells") (some (.ref l)) := by
  have z := DGet.k (k := Sum.inr "cells") h.hd
  rw [pen_cells] at z
  exact z
theorem Pen.pl {H : Hp} {p l : Addr} {ns : List Int} {a b c : Int} (h : Pen H p l ns a b) : DPut H p (.str "left") (.int c) (upd H p (.dK (penD l a c))) := by
  have z := DPut.k (k := Sum.inr "left") (v := .int c) h.hd (by show 3 < sizeLine; decide)
  rw [put_left] at z
  exact z
theorem Pen.pa {H : Hp} {p l : Addr} {ns : List Int} {a b c : Int} (h : Pen H p l ns a b) : DPut H p (.str "at") (.int c) (upd H p (.dK (penD l c b))) := by
  have z := DPut.k (k := Sum.inr "at") (v := .int c) h.hd (by show 3 < sizeLine; decide)
  rw [put_at] at z
  exact z
theorem ok_draw {f : Addr} {fd : FuncData} (F : Fun K "_law_draw" "_law_draw" sDraw f fd) (T : TxtP mg) : FnOk P w K mg base CX0 1 f fd ["pen", "many"] spDraw := by
  refine F.ok scDraw (fun vs H Q E h => ?_) (fun cdv A outer s H vs Q E hr h => ?_)
  · obtain ⟨p, l, ns, a, b, m, rfl, _⟩ := h
    rfl
  · obtain ⟨p, l, ns, a, b, m, rfl, hP, ha, hm1, hm2, q⟩ := h
    have hu := hu_of hr
    refine ⟨_, (pss_cons (ps_if (pt_cmpR op_ge (pe_dget hu (pv 0) pe_str (fun _ _ => rfl)) (pv 1) (nomark _)) (pss_cons (ps_set (i := 2) scDraw.nd rfl (.inl rfl) (pe_op op_mod (pe_callTy call_int1 (by rfl) T.int (by decide +kernel) (pa_cons (pe_dget hu (pv 0) pe_str (fun _ _ => rfl)) pa_nil)) (pv 1)))
      (pss_cons (ps_dput hu (pv 0) pe_str (pe_op op_fdiv (pe_dget hu (pv 0) pe_str (fun _ _ => rfl)) (pv 1)) rfl)
      (pss_one (ps_ret (pv 2))))) pss_nil)
      (pss_cons (ps_set (i := 3) scDraw.nd rfl (.inl rfl) (pe_dget hu (pv 0) pe_str (fun _ _ => rfl)))
      (pss_cons (ps_dput hu (pv 0) pe_str (pe_op op_add (pv 3) pe_int) rfl)
      (pss_cons (ps_set (i := 4) scDraw.nd rfl (.inl rfl) (pe_op op_add (pe_op op_mul pe_int (pv 3)) pe_int))
      (pss_cons (ps_if (pt_cmpR (op_neD hr.units) (pe_dget hu (pv 0) pe_str (fun _ _ => rfl)) (pe_lst pa_nil) (nomark _)) (pss_one (ps_set (i := 4) scDraw.nd rfl (.inl rfl) (pe_ix ix_list (pe_dget hu (pv 0) pe_str (fun _ _ => rfl)) (pe_op op_mod (pe_callTy call_int1 (by rfl) T.int (by decide +kernel) (pa_cons (pv 3) pa_nil)) (pe_callB call_len_seq (by rfl) T.len PySem.boot_len (pa_cons (pe_dget hu (pv 0) pe_str (fun _ _ => rfl)) pa_nil))) (fun _ _ => rfl)))) pss_nil)
      (pss_cons (ps_if (pw_and (pt_cmpR op_lt (pv 3) (pe_callB call_len_seq (by rfl) T.len PySem.boot_len (pa_cons (pe_dget hu (pv 0) pe_str (fun _ _ => rfl)) pa_nil)) (nomark _)) (pw_and1 (pt_cmpR op_ge (pv 4) (pe_op op_pow pe_int pe_int) (nomark _)))).pt (pss_cons (ps_dput hu (pv 0) pe_str (pe_op op_fdiv (pe_op op_sub (pv 4) (pe_op op_pow pe_int pe_int)) (pv 1)) rfl)
      (pss_one (ps_ret (pe_op op_mod (pe_callTy call_int1 (by rfl) T.int (by decide +kernel) (pa_cons (pe_op op_sub (pv 4) (pe_op op_pow pe_int pe_int)) pa_nil)) (pv 1))))) pss_nil)
      (pss_cons (ps_set (i := 5) scDraw.nd rfl (.inl rfl) (pe_op op_add (pe_op op_add (pe_op op_add (pe_op op_mul (pe_op op_mod (pe_callTy call_int1 (by rfl) T.int (by decide +kernel) (pa_cons (pv 4) pa_nil)) pe_int) pe_int) (pe_op op_mul (pe_op op_mul pe_int (pv 3)) (pv 3))) (pe_op op_mul pe_int (pv 3))) pe_int))
      (pss_cons (ps_set (i := 5) scDraw.nd rfl (.inl rfl) (pe_op op_mod (pe_callTy call_int1 (by rfl) T.int (by decide +kernel) (pa_cons (pv 5) pa_nil)) pe_int))
      (pss_cons (ps_set (i := 5) scDraw.nd rfl (.inl rfl) (pe_op op_mod (pe_callTy call_int1 (by rfl) T.int (by decide +kernel) (pa_cons (pe_op op_mul (pv 5) (pe_op op_add (pv 5) pe_int)) pa_nil)) pe_int))
      (pss_one (ps_ret (pe_op op_mod (pe_callTy call_int1 (by rfl) T.int (by decide +kernel) (pa_cons (pe_op op_fdiv (pe_op op_mod (pe_callTy call_int1 (by rfl) T.int (by decide +kernel) (pa_cons (pe_op op_mul (pv 5) (pv 5)) pa_nil)) pe_int) pe_int) pa_nil)) (pv 1))))))))))))), ?_⟩
    -- if pen['left'] >= many
    refine ⟨_, rfl, p, _, rfl, hP.gl, _, rfl, _, _, rfl, rfl, _, rfl, ?_⟩
    refine ite2 (fun hb => ?_) (fun hb => ?_)
    · -- digit; pen['left']; return
      refine ⟨_, rfl, p, _, rfl, hP.gl, .inl ⟨_, rfl, ?_⟩⟩
      refine ⟨_, rfl, _, _, rfl, rfl, by omega, ?_⟩
      refine ⟨_, rfl, p, _, rfl, hP.gl, _, rfl, _, _, rfl, rfl, ⟨by omega, hm2⟩, _, rfl, p, _, rfl, hP.pl, ?_⟩
      refine ⟨_, rfl, ?_⟩
      exact q _ _ _ _ (Int.emod_nonneg _ (by omega)) (Int.emod_lt_of_pos _ (by omega)) (by omega) (hP.put hP.a0 (Int.ediv_nonneg hP.b0 (by omega))) (Kp.put _)
    · -- at = pen['at']; pen['at'] = at + 1
      refine ⟨_, rfl, p, _, rfl, hP.ga, ?_⟩
      refine ⟨_, rfl, _, _, rfl, rfl, _, rfl, p, _, rfl, hP.pa, ?_⟩
      have hP1 := hP.put (a' := a + 1) (b' := b) (by have := hP.a0; omega) hP.b0
      have a0 := hP.a0
      have b0 := hP.b0
      have k1 : Kp p H (upd H p (.dK (penD l (a + 1) b))) := Kp.put _
      have aE : ∀ {x : Int}, x = a → -(2 ^ 64) < x ∧ x < 2 ^ 64 := fun e => by subst e; constructor <;> omega
      -- cell = 37 * at + 11
      refine ⟨_, rfl, _, _, rfl, rfl, .inl ⟨by decide, by decide⟩, _, _, rfl, rfl, ?_⟩
      -- if pen['cells'] != []
      refine ⟨_, rfl, p, _, rfl, hP1.gc, Nat.zero_le _, fun t ht => ?_⟩
      have hP2 : Pen (upd (upd H p (.dK (penD l (a + 1) b))) t (.lst [])) p l ns (a + 1) b := hP1.kp (Kp.new _ ht) (upd_ne (ne_of_none hP1.hd ht))
      have k2 := k1.trans (Kp.new (.lst []) ht)
      have hT : SqL K (upd (upd H p (.dK (penD l (a + 1) b))) t (.lst [])) t [] := .inl (.inl upd_same)
      refine ⟨_, _, .lst (.inl (.inl hP2.hl)) (dp_ints ns), .lst hT .nil, (sh_list (can_ints ns).1 (can_ints ns).2).1, (sh_list rfl rfl).1, _, rfl, ?_⟩
      generalize upd (upd H p (.dK (penD l (a + 1) b))) t (.lst []) = H2 at hP2 k2 hT ⊢
      rw [eqv_nil]
      have hm0 : (0 : Int) < m := by omega
      refine ite2 ?g1 ?g2
      case' g1 =>
        intro he
        have hn : 0 < ns.length := by
          cases ns with
          | nil => exact absurd he (by decide)
          | cons n ns => exact Nat.succ_pos _
        have hlt : (a % (ns.length : Int)).toNat < ns.length := by
          have h1 := Int.emod_nonneg a (show (ns.length : Int) ≠ 0 by omega)
          have h2 := Int.emod_lt_of_pos a (show (0 : Int) < (ns.length : Int) by omega)
          omega
        refine ⟨_, rfl, p, _, rfl, hP2.gc, _, rfl, .inl ⟨_, rfl, _, rfl, p, _, rfl, hP2.gc, _, _, rfl, .inl (.inl (.inl hP2.hl)), _, _, rfl, rfl, by rw [List.length_map]; omega, l, _, _, .int ns[(a % (ns.length : Int)).toNat], rfl, rfl, .inl (.inl hP2.hl), ?_, ?_⟩⟩
        · rw [List.length_map]
          exact at_of (Int.toNat_of_nonneg (Int.emod_nonneg a (show (ns.length : Int) ≠ 0 by omega))).symm (by rw [List.getElem?_map, List.getElem?_eq_getElem hlt]; rfl)
        generalize ns[(a % (ns.length : Int)).toNat] = c
      case' g2 =>
        intro he
        generalize 37 * a + 11 = c
      all_goals
        refine ⟨_, rfl, _, rfl, p, _, rfl, hP2.gc, _, _, rfl, .inl (.inl (.inl hP2.hl)), _, _, rfl, rfl, _, rfl, ?_⟩
        refine ite2 ?_ ?_
      all_goals intro h1
      all_goals try
        (refine ⟨_, rfl, _, _, rfl, rfl, ⟨by decide, by decide, by decide⟩, _, _, rfl, rfl, _, rfl, ?_⟩
         refine ite2 ?_ ?_ <;> intro h2)
      all_goals try
        (refine ⟨_, rfl, _, _, rfl, rfl, ⟨by decide, by decide, by decide⟩, _, _, rfl, rfl, _, rfl, _, _, rfl, rfl, ⟨hm0, hm2⟩, _, rfl, p, _, rfl, hP2.pl, ?_⟩
         refine ⟨_, rfl, _, _, rfl, rfl, ⟨by decide, by decide, by decide⟩, _, _, rfl, rfl, .inl ⟨_, rfl, _, rfl, _, _, rfl, rfl, hm0, ?_⟩⟩
         exact q _ _ _ _ (Int.emod_nonneg _ (Int.ne_of_gt hm0)) (Int.emod_lt_of_pos _ hm0) (Int.le_refl _) (hP2.put hP2.a0 (Int.ediv_nonneg (Int.sub_nonneg_of_le (of_decide_eq_true h2)) (Int.le_of_lt hm0))) (k2.trans (Kp.put _)))
      all_goals try refine iteF ?_
      all_goals
        refine ⟨_, rfl, .inl ⟨_, rfl, _, _, rfl, rfl, (by show (0 : Int) < _; decide), _, _, rfl, rfl, .inr ⟨by decide, by decide⟩, _, rfl, _, _, rfl, rfl, .inl ⟨by decide, by decide⟩, _, rfl, _, _, rfl, rfl, .inr (aE rfl), _, _, rfl, rfl, _, rfl, _, _, rfl, rfl, .inl ⟨by decide, by decide⟩, _, _, rfl, rfl, _, _, rfl, rfl, ?_⟩⟩
        refine ⟨_, rfl, .inl ⟨_, rfl, _, _, rfl, rfl, (by show (0 : Int) < _; decide), ?_⟩⟩
        refine ⟨_, rfl, _, rfl, _, _, rfl, rfl, _, _, rfl, rfl, .inl (emB _ _ (by decide) (by decide)), .inl ⟨_, rfl, _, _, rfl, rfl, (by show (0 : Int) < _; decide), ?_⟩⟩
        refine ⟨_, rfl, _, rfl, _, _, rfl, rfl, .inl (emB _ _ (by decide) (by decide)), .inl ⟨_, rfl, _, _, rfl, rfl, (by show (0 : Int) < _; decide), _, _, rfl, rfl, ⟨by decide, by decide⟩, .inl ⟨_, rfl, _, rfl, _, _, rfl, rfl, hm0, ?_⟩⟩⟩
        exact q _ _ _ _ (Int.emod_nonneg _ (Int.ne_of_gt hm0)) (Int.emod_lt_of_pos _ hm0) (Int.le_refl _) hP2 k2
end
end Ef
set_option Elab.async false
set_option linter.all false
set_option maxRecDepth 100000
set_option maxHeartbeats 4000000
namespace Ef
open PySem PySem.Spec PyProof.Rows L2
/-- a def of the text, by its name -/
structure Df (P : Program) (w : World) (K : PySem.W.Frag) (mg : Str → Option Value) (base : Heap) (k : Nat) (x : Str) (ps : List Str) (sp : Sp) : Prop where
  ex : ∃ f fd, mg x = some (.ref f) ∧ PySem.W.keepIn K (.ref f) = true ∧ Binds K fd ps [] ∧ FnOk P w K mg base CX0 k f fd ps sp
theorem Df.call {X : Cx} {k : Nat} {x : Str} {ps : List Str} {sp : Sp} {e : Expr} {es : List Expr} {t : TA} {p pos : Pos} (D : Df X.prog X.w X.K X.mg X.base k x ps sp) (hr : Room k X.A) (ha : PA X (e :: es) t) (hg : Gl X x := by rfl)
    (hdb : (x == ("__debug__" : Str)) = false := by decide) (he : starEach (e :: es) X.env = (false, eval e X.env) :: starEach es X.env := by rfl) (hpl : (backTo pos (starEach es X.env)).any (·.1) = false := by rfl) :
    PE X (.Call (.Name x p) (e :: es) [] pos) (tCall sp [] E0 t) := by
  obtain ⟨f, fd, hm, hk, hb, F⟩ := D.ex
  exact pe_call F hr hg hm hk hb .nil pass0 ha hdb he hpl
/-- where the text's def stands behind the top -/
structure At (K : PySem.W.Frag) (mg : Str → Option Value) (x : Str) (st : Stmt) : Prop where
  ex : ∃ f fd, mg x = some (.ref f) ∧ Fun K x x st f fd
section
variable {P : Program} {w : World} {K : PySem.W.Frag} {mg : Str → Option Value} {base : Heap}
theorem Kp.of_same {p : Addr} {H H' : Hp} (h : Same H H') : Kp p H H' := fun x o _ e => h x o e
theorem Kp.rd {p : Addr} {H H' : Hp} {q : Addr} {u : HO} (k : Kp p H H') (n : q ≠ p) (h : Rd H q u) : Rd H' q u := by
  rcases h with h | ⟨o, h⟩
  · exact .inl (k _ _ n h)
  · exact .inr ⟨o, k _ _ n h⟩
theorem Kp.sql {p : Addr} {H H' : Hp} {q : Addr} {xs : List V} (k : Kp p H H') (n : q ≠ p) (h : SqL K H q xs) : SqL K H' q xs := by
  rcases h with h | h
  · exact .inl (k.rd n h)
  · exact .inr h
theorem Kp.sqt {p : Addr} {H H' : Hp} {q : Addr} {xs : List V} (k : Kp p H H') (n : q ≠ p) (h : SqT K H q xs) : SqT K H' q xs := by
  rcases h with h | h
  · exact .inl (k.rd n h)
  · exact .inr h
theorem Kp.free {p : Addr} {H H' : Hp} (k : Kp p H H') {q : Addr} (n : q ≠ p) (h : H' q = none) : H q = none := by
  cases e : H q with
  | none => rfl
  | some o => rw [k q o n e] at h; cases h
theorem Kp.mut {p q : Addr} {H H' : Hp} {o : HO} (k : Kp p H H') (h : H q = none) : Kp p H (upd H' q o) := fun x u n e => by
  rw [upd_ne (ne_of_none e h)]
  exact k x u n e
theorem small1000' {n : Nat} (h : n ≤ 100000) : n < sizeLine := Nat.lt_of_le_of_lt h (by decide)
theorem df_draw (A : At K mg "_law_draw" sDraw) (T : TxtP mg) : Df P w K mg base 1 "_law_draw" ["pen", "many"] spDraw := by
  obtain ⟨f, fd, hm, F⟩ := A.ex
  exact ⟨f, fd, hm, F.kp, F.binds (fun _ _ _ _ _ _ us hl => match us, hl with | [_, _], _ => rfl), ok_draw F T⟩
/-! ### _law_pen -/
def spPen (K : PySem.W.Frag) : Sp := fun vs H Q _ => ∃ (a : Addr) (ns : List Int), vs = [.ref a] ∧ SqL K H a (ns.map V.int) ∧ ns.length ≤ 63 ∧ ∀ (p l : Addr) (H' : Hp), H p = none → Same H H' → Pen H' p l ns 0 0 → Q (.ref p) H'
theorem scPen : FnScope ["script"] ["script"] (defScope sPen) := ⟨rfl, rfl, rfl, by decide +kernel, rfl, by decide +kernel, by decide +kernel⟩
theorem cut63 (xs : List V) (h : xs.length ≤ 63) : cutV xs none (some 63) = xs := by
  unfold cutV
  rw [HT.sIx_none, show HT.sIx xs.length xs.length (some 63) = min 63 xs.length from HT.sIx_nat xs.length xs.length 63, Nat.min_eq_right h]
  simp
theorem df_pen (A : At K mg "_law_pen" sPen) (T : TxtP mg) : Df P w K mg base 1 "_law_pen" ["script"] (spPen K) := by
  obtain ⟨f, fd, hm, F⟩ := A.ex
  refine ⟨f, fd, hm, F.kp, F.binds (fun _ _ _ _ _ _ us hl => match us, hl with | [_], _ => rfl), F.ok scPen (fun vs H Q E h => ?_) (fun cdv A outer s H vs Q E hr h => ?_)⟩
  · obtain ⟨a, ns, rfl, _⟩ := h
    rfl
  · obtain ⟨a, ns, rfl, hS, hlen, q⟩ := h
    refine ⟨_, (pss_one (ps_ret (pe_disp (pps_cons pe_str (pe_callTy call_list_of (by rfl) T.list (by decide +kernel) (pa_cons (pe_slice sl_list (pv 0) po_none (po_some pe_int)) pa_nil)) (pps_cons pe_str pe_int (pps_cons pe_str pe_int pps_nil))) (by rfl) (by rfl) (fun z => by cases z) (by decide)))), ?_⟩
    intro p hp
    have s1 : Same H (upd H p (.dK [])) := fun b o e => by rw [upd_ne (ne_of_none e hp)]; exact e
    refine ⟨_, rfl, 63, rfl, a, _, rfl, s1.seq hS, fun c hc => ?_⟩
    rw [cut63 _ (by rw [List.length_map]; exact hlen)]
    have s2 : Same H (upd (upd H p (.dK [])) c (.lst (ns.map V.int))) := s1.trans fun b o e => by rw [upd_ne (ne_of_none e hc)]; exact e
    refine ⟨c, _, rfl, .inl (.inl (.inl upd_same)), fun l hl => ?_⟩
    have s3 : Same H (upd (upd (upd H p (.dK [])) c (.lst (ns.map V.int))) l (.lst (ns.map V.int))) := s2.trans fun b o e => by rw [upd_ne (ne_of_none e hl)]; exact e
    have hpc : p ≠ c := fun z => by rw [← z, upd_same] at hc; cases hc
    have hpl : p ≠ l := fun z => by rw [← z, upd_ne hpc, upd_same] at hl; cases hl
    refine ⟨by rw [upd_ne hpl, upd_ne hpc, upd_same], penD l 0 0, rfl, by show 3 ≤ 15; decide, ?_⟩
    refine q p l _ hp (fun b o e => ?_) ⟨upd_same, by rw [upd_ne hpl.symm, upd_same], hlen, Int.le_refl 0, Int.le_refl 0⟩
    rw [upd_ne (ne_of_none e hp)]
    exact s3 _ _ e
/-! ### _law_pick -/
def spPick (K : PySem.W.Frag) : Sp := fun vs H Q _ => ∃ (p l q : Addr) (ns : List Int) (a b : Int) (xs : List V), vs = [.ref p, .ref q] ∧ Pen H p l ns a b ∧ a ≤ 1073741824 ∧ SqL K H q xs ∧ q ≠ p ∧ 1 ≤ xs.length ∧ xs.length ≤ 100000 ∧
  ∀ (j : Nat) (v : V) (a' b' : Int) (H' : Hp), xs[j]? = some v → a' ≤ a + 1 → Pen H' p l ns a' b' → Kp p H H' → Q v H'
theorem scPick : FnScope ["pen", "some"] ["pen", "some"] (defScope sPick) := ⟨rfl, rfl, rfl, by decide +kernel, rfl, by decide +kernel, by decide +kernel⟩
theorem df_pick (A : At K mg "_law_pick" sPick) (T : TxtP mg) (Ddraw : Df P w K mg base 1 "_law_draw" ["pen", "many"] spDraw) : Df P w K mg base 2 "_law_pick" ["pen", "some"] (spPick K) := by
  obtain ⟨f, fd, hm, F⟩ := A.ex
  refine ⟨f, fd, hm, F.kp, F.binds (fun _ _ _ _ _ _ us hl => match us, hl with | [_, _], _ => rfl), F.ok scPick (fun vs H Q E h => ?_) (fun cdv A outer s H vs Q E hr h => ?_)⟩
  · obtain ⟨p, l, q, ns, a, b, xs, rfl, _⟩ := h
    rfl
  · obtain ⟨p, l, q, ns, a, b, xs, rfl, hP, ha, hS, hqp, h1, h2, k⟩ := h
    refine ⟨_, (pss_one (ps_ret (pe_ix ix_list (pv 1) (Ddraw.call (hr.mono (by decide)) (pa_cons (pv 0) (pa_cons (pe_callB call_len_seq (by rfl) T.len PySem.boot_len (pa_cons (pv 1) pa_nil)) pa_nil))) (fun _ _ => rfl)))), ?_⟩
    refine ⟨_, rfl, _, rfl, _, rfl, _, _, rfl, .inl hS, p, l, ns, a, b, _, rfl, hP, ha, by omega, by omega, fun d a' b' H' d0 d1 ha' hP' hK => ?_⟩
    have hd : d.toNat < xs.length := by omega
    exact ⟨q, _, _, _, rfl, rfl, hK.sql hqp hS, at_of (Int.toNat_of_nonneg d0).symm (List.getElem?_eq_getElem hd), k _ _ _ _ _ (List.getElem?_eq_getElem hd) ha' hP' hK⟩
end
end Ef
set_option Elab.async false
set_option linter.all false
set_option maxRecDepth 100000
set_option maxHeartbeats 2000000
/-! for i, x in enumerate(t), t a tuple -/
namespace Ef
open PySem PySem.Spec PyProof.Rows L2
def IteT (K : PySem.W.Frag) (a : Addr) : It :=
  ⟨fun i H => ∃ (xs : List V) (x : V), SqT K H a xs ∧ xs[i]? = some x, fun i H v H' => ∃ T x, v = .ref T ∧ H T = none ∧ H' = upd H T (.tup [.int (i : Nat), x]) ∧ ∀ xs, SqT K H a xs → xs[i]? = some x, fun i H => ∃ xs : List V, SqT K H a xs ∧ xs.length ≤ i⟩
/-- at vals end -/
theorem draws_end {prog : Program} {w : World} {A : Around} (hh : A.handled = none) (it t : Addr) (items : Array Value) (n : Nat) (hn : items.size ≤ n) :
    Draws prog w A it [it, t] n (fun _ _ => True) (fun i h => i = n ∧ h.IsTupleIter it t n ∧ h.IsTuple t items) where
  live := fun _ _ sta => let ⟨o, ho, _⟩ := sta.2.1; ⟨o, ho⟩
  frame := fun _ _ _ sta hk => ⟨sta.1, sta.2.1.at fun o e => hk it (by simp) o e, sta.2.2.at fun o e => hk t (by simp) o e⟩
  item := fun i s Q E hi sta hQ => absurd sta.1 (Nat.ne_of_lt hi)
  done := fun s Q E sta hE => wpAny_nextOf_tuple_end hh sta.2.1 sta.2.2 (by simp; omega) hE
theorem turn_enumT {P : Program} {w : World} {K : PySem.W.Frag} {elts : List Expr} {kk : Nat} {tpos : Pos} (a e it : Addr) :
    Turn P w K (.Tuple elts kk tpos) (IteT K a) [e, it] e (fun i h => (∃ was, IsEnum h e it (0 + ((i : Nat) : Int)) was) ∧ h.IsTupleIter it a i ∧ e ≠ it ∧ a ≠ it ∧ a ≠ e) where
  mem := by simp
  obj := fun i h sta b hb => by
    obtain ⟨⟨was, hEn⟩, ⟨o, ho, hc, hd⟩, _⟩ := sta
    have eOr : b = e ∨ b = it := by simpa using hb
    rcases eOr with z | z
    · rw [z]; exact ⟨_, hEn, fun v q => nomatch q⟩
    · rw [z]; exact ⟨o, ho, fun v q => by rw [hd] at q; cases q⟩
  keep := fun i h h' sta k => let ⟨⟨was, hEn⟩, hi, eNi⟩ := sta; ⟨⟨was, k e (by simp) _ hEn⟩, hi.at fun o q => k it (by simp) o q, eNi⟩
  item := by
    intro X hP hw hK hc i pins s σ H E I hFp sta hGo
    subst hP hw hK
    obtain ⟨⟨was, hEn⟩, hIt, eNi, aNi, aNe⟩ := sta
    obtain ⟨xs, x, hSq, hx⟩ := hGo
    obtain ⟨vals, rVs, p, zLen⟩ := I.tuple hSq
    obtain ⟨u, hu, ru⟩ := rVs.get hx
    have eIn : e < s.heap.objs.size := Heap.lt_size hEn
    have iIn : it < s.heap.objs.size := by obtain ⟨_, q, _⟩ := hIt; exact Heap.lt_size q
    have hlt : i < vals.toArray.size := by
      rcases Nat.lt_or_ge i vals.length with q | q
      · simpa using q
      · rw [List.getElem?_eq_none q] at hu; cases hu
    refine wpAny_pyNext_enum_itemC (Draws.tuple (A := X.A.in1) (I.ok.hd hc) it a aNi vals.toArray) hEn ⟨hIt, p⟩ hlt eNi (by simp [eNi, Ne.symm aNe]) fun y h' tk hy ho hit' hT zNew hk => ?_
    refine ⟨_, rfl, wpAny_letOwnedTupleGo_enum (s := { s with heap := h', toks := tk + 1 }) ho fun h'' he' sBut => ?_⟩
    have hT2 : h''.get? s.heap.objs.size = some { cls := .type "tuple", data := .seq #[.int (0 + ((i : Nat) : Int)) tk, y] } := (sBut.2 _ (Nat.ne_of_gt eIn)).trans hT
    have ey : y = u := by
      have z : vals[i]? = some y := by simpa using hy
      exact Option.some.inj (z.symm.trans hu)
    have e0 : (0 + ((i : Nat) : Int)) = (i : Int) := Int.zero_add _
    rw [e0] at hT2
    have fresh1 : ObjOk X.prog X.w (upd H s.heap.objs.size (.tup [.int (i : Nat), x])) h'' s.heap.objs.size (.tup [.int (i : Nat), x]) :=
      ⟨by show 2 ≤ sizeLine; decide, [.int i tk, y], .cons ⟨_, rfl⟩ (.cons (ey ▸ ru) .nil), ⟨_, hT2, rfl, _, rfl⟩⟩
    have J1 : Inv X pins σ (upd H s.heap.objs.size (.tup [.int (i : Nat), x])) { s with heap := h'', toks := tk + 1 } :=
      I.turnedNew (ch := [e, it]) (fun b ob hb q => (sBut.2 b (fun z => hb (by simp [z]))).trans (hk b ob (fun z => hb (by simp [z])) (fun z => hb (by simp [z])) q)) hFp (Nat.le_refl _) fresh1
    refine ⟨.ref s.heap.objs.size, _, J1, rfl, ⟨_, x, rfl, I.hok.fresh (Nat.le_refl _), rfl, fun ys hy => by rw [I.tuple_inj hy hSq]; exact hx⟩, ⟨⟨y, ?_⟩, hit'.1.at fun o q => (sBut.2 it (Ne.symm eNi)).trans q, eNi, aNi, aNe⟩, fun b hb => ?_⟩
    · have e1 : (0 + ((i + 1 : Nat) : Int)) = 0 + (i : Int) + 1 := by omega
      rw [e1]; exact he'
    · have bIn : b < s.heap.objs.size := by
        have eOr : b = e ∨ b = it := by simpa using hb
        rcases eOr with z | z
        · rw [z]; exact eIn
        · rw [z]; exact iIn
      rw [upd_ne (Nat.ne_of_lt bIn)]
      exact (hFp b hb).1
  done := by
    intro X hP hw hK hc i pins s σ H E I hFp sta hGo
    subst hP hw hK
    obtain ⟨⟨was, hEn⟩, hIt, eNi, aNi, aNe⟩ := sta
    obtain ⟨xs, hSq, hx⟩ := hGo
    obtain ⟨vals, rVs, p, zLen⟩ := I.tuple hSq
    obtain ⟨g0, g1, g2, g3, g4, g5⟩ := hFp it (by simp)
    have hl := rVs.length
    exact wpAny_pyNext_enum_endD (draws_end (A := X.A.in1) (I.ok.hd hc) it a vals.toArray i (by simp; omega)) hEn ⟨rfl, hIt, p⟩ fun h' eb => ⟨rfl, I.turned (t' := s.toks) (fun b o hb q => eb b o hb q) g0 g1 g3 g4 g5⟩
  self := fun A i s Q E sta h => let ⟨⟨_, hEn⟩, _⟩ := sta; wpAny_pyIter_enum hEn h
def iEnumT (K : PySem.W.Frag) (ta : TA) : TI := fun σ H R => ta σ H fun vs H1 => ∃ a xs, vs = [.ref a] ∧ SqT K H1 a xs ∧ R (IteT K a) H1
/-- a list or a tuple -/
def iEnumS (K : PySem.W.Frag) (ta : TA) : TI := fun σ H R => ta σ H fun vs H1 => ∃ a xs, vs = [.ref a] ∧ ((SqL K H1 a xs ∧ R (Ite K a) H1) ∨ (SqT K H1 a xs ∧ R (IteT K a) H1))
/-- enumerate(t): vals two fresh1 cells -/
theorem call_enumerate_tuple {prog : Program} {w : World} {A : Around} {E : Value → Shared → Prop} {s : Shared} {l : Addr} {items : Array Value} {Q : Value → Shared → Prop} (hL : s.heap.IsTuple l items)
    (h : ∀ h', IsEnum h' (s.heap.objs.size + 1) s.heap.objs.size (0 + ((0 : Nat) : Int)) .none → h'.IsTupleIter s.heap.objs.size l 0 → h'.objs.size = s.heap.objs.size + 2 →
      (∀ b o, s.heap.get? b = some o → h'.get? b = some o) → Q (.ref (s.heap.objs.size + 1)) { s with heap := h' }) :
    wpAny (model prog w) A (call (.type "enumerate") [.ref l]) Q E s := by
  have B := begins_tuple l items
  have M : Meets (Builtin.«enumerate.__new__» ⟨[.type "enumerate", .ref l], []⟩) (fun _ R s => s.heap.IsTuple l items ∧
      R (.ok (.ret (.ref (s.heap.push { cls := .type "tuple_iterator", data := .fields #[.ref l, .int 0 0] }).objs.size)))
        { s with heap := (s.heap.push { cls := .type "tuple_iterator", data := .fields #[.ref l, .int 0 0] }).push { cls := .type "enumerate", data := .fields #[.none, .bool false, .ref s.heap.objs.size, rawInt 0, .none, .none] } }) :=
    .of_wp fun prog w A R s h => by
      obtain ⟨heap0, g, d, tk, os⟩ := s
      obtain ⟨h1, h⟩ := h
      have subE := sub_enumerate
      have q1 : ∀ {A' : Around} {E : Value → Shared → Prop} {Q : Value → Shared → Prop}, Q (.ref heap0.objs.size) ⟨heap0.push { cls := .type "tuple_iterator", data := .fields #[.ref l, .int 0 0] }, g, d, tk, os⟩ → wpAny (model prog w) A' (pyIter (.ref l)) Q E ⟨heap0, g, d, tk, os⟩ :=
        fun q => B.iter prog w _ _ ⟨heap0, g, d, tk, os⟩ _ h1 q
      obtain ⟨oT, hoT, hcT, nT, hdT⟩ := id h1
      wp_walk using q1, AutoSeq1.wpAny_loadPart' hoT
      refine wpAny_stack_any fun sta => wpAny_pure ?_
      split
      · rename_i c _ _ _ _ _
        cases (c == Value.type "enumerate")
        · wp_walk using q1, AutoSeq1.wpAny_loadPart' hoT
          exact ⟨_, rfl, h⟩
        · wp_walk using q1, AutoSeq1.wpAny_loadPart' hoT
          exact ⟨_, rfl, h⟩
      · wp_walk using q1, AutoSeq1.wpAny_loadPart' hoT
        exact ⟨_, rfl, h⟩
  refine callType_new F.called_enumerate (by decide) (F.typeCall_enumerate_1 _) (F.newCall_enumerate_1 _) (fun obj => F.args_object_init_2 obj _) F.entry_enumerate_new M ⟨hL, ?_⟩
  have zLen : (s.heap.push { cls := .type "tuple_iterator", data := .fields #[.ref l, .int 0 0] }).objs.size = s.heap.objs.size + 1 := Heap.size_push ..
  show _ ∧ _
  rw [zLen]
  have hEn : IsEnum ((s.heap.push { cls := .type "tuple_iterator", data := .fields #[.ref l, .int 0 0] }).push
      { cls := .type "enumerate", data := .fields #[.none, .bool false, .ref s.heap.objs.size, rawInt 0, .none, .none] }) (s.heap.objs.size + 1) s.heap.objs.size 0 .none := by
    have := Heap.get?_push_size (s.heap.push { cls := .type "tuple_iterator", data := .fields #[.ref l, .int 0 0] })
      (o := { cls := .type "enumerate", data := .fields #[.none, .bool false, .ref s.heap.objs.size, rawInt 0, .none, .none] }) rfl
    rw [zLen] at this; exact this
  refine ⟨⟨_, hEn, rfl⟩, h _ hEn ⟨_, Heap.get?_push_of_some _ (Heap.get?_push_size _ rfl), rfl, rfl⟩ (by rw [Heap.size_push, zLen]) fun b o x => Heap.get?_push_of_some _ (Heap.get?_push_of_some _ x)⟩
theorem pi_enumS {X : Cx} {e : Expr} {ta : TA} {p pos tpos : Pos} {elts : List Expr} {kk : Nat} (hGo : Gl X "enumerate") (hm : X.mg "enumerate" = none) (ha : PA X [e] ta) (hs : starEach [e] X.env = [(false, eval e X.env)] := by rfl) :
    PI X (.Tuple elts kk tpos) (.Call (.Name "enumerate" p) [e] [] pos) (iEnumS X.K ta) := by
  refine ⟨fun pins s σ H R I h => ?_⟩
  refine Call_ (ld_blt I hGo hm boot_enumerate (PyProof.Rows.callWith_type1 (thn (ha.run pos pins s σ H _ I h) fun us s1 ⟨vs, H1, J1, r1, q1⟩ => ?_) hs rfl))
  obtain ⟨a, xs, ex, q⟩ := q1
  subst ex
  cases r1 with
  | cons r rr =>
    cases rr
    cases r
    have far : ∀ b, b ∈ [s1.heap.objs.size + 1, s1.heap.objs.size] → s1.heap.objs.size ≤ b := fun b hb => by
      have eOr : b = s1.heap.objs.size + 1 ∨ b = s1.heap.objs.size := by simpa using hb
      rcases eOr with z | z
      · rw [z]; exact Nat.le_add_right _ _
      · rw [z]; exact Nat.le_refl _
    rcases q with ⟨hSq, q⟩ | ⟨hSq, q⟩
    · obtain ⟨vals, rVs, pSeq, zLen⟩ := J1.list hSq
      refine call_enumerate_list pSeq.isList fun h' hEn hIt zNew hk => wpAny_pyIter_enum hEn ?_
      have J2 : Inv X pins σ H1 { s1 with heap := h' } := J1.kept (t' := s1.toks) hk
      exact ⟨s1.heap.objs.size + 1, [s1.heap.objs.size + 1, s1.heap.objs.size], _, _, H1, rfl, J2, turn_enum a (s1.heap.objs.size + 1) s1.heap.objs.size, ⟨⟨.none, hEn⟩, hIt, Nat.succ_ne_self _⟩, fun b hb => J1.fpOk (far b hb) (J1.hok.fresh (far b hb)), q⟩
    · obtain ⟨vals, rVs, pSeq, zLen⟩ := J1.tuple hSq
      have hal : a < s1.heap.objs.size := by obtain ⟨o, ho, _⟩ := (show s1.heap.IsTuple a vals.toArray from pSeq); exact Heap.lt_size ho
      refine call_enumerate_tuple (show s1.heap.IsTuple a vals.toArray from pSeq) fun h' hEn hIt zNew hk => wpAny_pyIter_enum hEn ?_
      have J2 : Inv X pins σ H1 { s1 with heap := h' } := J1.kept (t' := s1.toks) hk
      exact ⟨s1.heap.objs.size + 1, [s1.heap.objs.size + 1, s1.heap.objs.size], _, _, H1, rfl, J2, turn_enumT a (s1.heap.objs.size + 1) s1.heap.objs.size, ⟨⟨.none, hEn⟩, hIt, Nat.succ_ne_self _, Nat.ne_of_lt hal, Nat.ne_of_lt (Nat.lt_succ_of_lt hal)⟩, fun b hb => J1.fpOk (far b hb) (J1.hok.fresh (far b hb)), q⟩
end Ef
set_option Elab.async false
set_option linter.all false
set_option maxRecDepth 100000
set_option maxHeartbeats 2000000
/-! t[::-1] of a tuple; o(..) by the class's own __call__ -/
namespace Ef
open PySem PySem.Spec PyProof.Rows L2
theorem pick_back (its : Array Value) : (List.filterMap (fun k : Nat => its[((its.size : Int) - 1 + (k : Int) * (-1)).toNat]?) (List.range its.size)).toArray = its.toList.reverse.toArray := by
  congr 1
  have e : ∀ (l : List Nat), (∀ k ∈ l, k < its.size) → List.filterMap (fun k : Nat => its[((its.size : Int) - 1 + (k : Int) * (-1)).toNat]?) l = List.filterMap (fun x : Nat => its[x]?) (l.map fun k => its.size - 1 - k) := by
    intro l hl
    induction l with
    | nil => rfl
    | cons k l ih =>
      have := hl k (List.mem_cons_self)
      have q : ((its.size : Int) - 1 + (k : Int) * (-1)).toNat = its.size - 1 - k := by omega
      rw [List.map_cons, List.filterMap_cons, List.filterMap_cons, q, ih fun k hk => hl k (List.mem_cons_of_mem _ hk)]
  rw [e _ (fun k hk => List.mem_range.mp hk), PySem.W.krv_range, List.filterMap_reverse] 
  congr 1
  exact PySem.W.krv_all its
theorem places_back (n : Nat) : Builtin.Slice.slicePlaces ((n : Int) - 1) (-1) (-1) = n := by
  unfold Builtin.Slice.slicePlaces
  rw [if_neg (by decide)]
  split
  · have : ((n : Int) - 1 - -1 - 1) / -(-1 : Int) = (n : Int) - 1 := by
      rw [Int.neg_neg, Int.ediv_one]; omega
    rw [this]; omega
  · omega
theorem sliceApplied_back {prog : Program} {w : World} {A : Around} {E : Value → Shared → Prop} {s : Shared} {sl : Addr} {vl vu vs : Value} {n : Nat} {Q : Int × Int × Nat → Shared → Prop} (hs : s.heap.IsSliceOf sl vl vu vs) (pl : IsPart vl none) (pu : IsPart vu none) (ps : IsPart vs (some (-1)))
    (h : Q ((n : Int) - 1, -1, n) s) : wpAny (model prog w) A (Builtin.Slice.sliceApplied (.ref sl) (pure ↑n)) Q E s := by
  obtain ⟨os, hos, hcs, hds⟩ := id hs
  unfold Builtin.Slice.sliceApplied
  refine wpAny_bind ?_
  unfold Builtin.Slice.sliceFields
  refine wpAny_bind (wpAny_field hos hds rfl (wpAny_bind (wpAny_field hos hds rfl (wpAny_bind (wpAny_field hos hds rfl (wpAny_pure ?_))))))
  refine wpAny_bind (HT.slicePart_ ps ?_)
  dsimp only [Option.getD]
  rw [if_neg (by decide)]
  refine wpAny_bind (HT.slicePart_ pl (wpAny_bind (HT.slicePart_ pu (wpAny_bind (wpAny_pure ?_)))))
  have e : Builtin.Slice.sliceAdjust none none (-1) (n : Int) = ((n : Int) - 1, -1) := by
    unfold Builtin.Slice.sliceAdjust
    simp
  rw [e]
  dsimp only
  rw [places_back]
  exact wpAny_pure h
theorem getItem_tuple_back {prog : Program} {w : World} {A : Around} {E : Value → Shared → Prop} {s : Shared} {t sl : Addr} {items : Array Value} {vl vu vs : Value} {Q : Value → Shared → Prop} (ht : IsTup s.heap t items) (hs : s.heap.IsSliceOf sl vl vu vs) (pl : IsPart vl none) (pu : IsPart vu none) (ps : IsPart vs (some (-1)))
    (h : Q (.ref s.heap.objs.size) { s with heap := s.heap.push { cls := .type "tuple", data := .seq items.toList.reverse.toArray } }) (hsz : items.size ≤ sizeLine) : wpAny (model prog w) A (getItem (.ref t) (.ref sl)) Q E s := by
  obtain ⟨os, hos, hcs, hds⟩ := id hs
  have hTs : s.TypeIs (.ref sl) "slice" := ⟨os, hos, hcs⟩
  unfold getItem
  refine wpAny_holding (wpAny_bind (wpAny_sequenceKey (IsTup.typeIs ht) (by decide) (wpAny_bind (wpAny_callSpecial?_slot (IsTup.typeIs ht) slot_tuple_getitem (wpAny_call_entry slot_tuple_getitem (IsTup.typeIs ht) entry_tuple_getitem ?_ (args_tuple_getitem _ _))))))
  unfold Builtin.«tuple.__getitem__»
  show wpAny _ _ (Builtin.Tuple.tupleItemsOf (.ref t) >>= fun xs => _) _ _ _
  refine wpAny_bind (tupleItemsOf_ ht (wpAny_bind (wpAny_typeOf hTs ?_)))
  rw [if_pos (by decide)]
  refine wpAny_bind (sliceApplied_back (n := items.size) hs pl pu ps ?_)
  dsimp only
  rw [if_neg (by simp)]
  rw [pick_back]
  unfold Builtin.Tuple.tupleExact
  refine wpAny_bind (wpAny_newObj_type (wpAny_pure ⟨_, rfl, wpAny_pure h⟩) ?_)
  show items.toList.reverse.toArray.size ≤ sizeLine
  simpa using hsz
def tRevT (K : PySem.W.Frag) (te : TE) : TE := fun σ H Q => te σ H fun x H1 => ∃ a xs, x = .ref a ∧ SqT K H1 a xs ∧ ∀ p, H1 p = none → Q (.ref p) (upd H1 p (.tup xs.reverse))
theorem pe_revT {X : Cx} {e : Expr} {te : TE} {k : Nat} {p1 p2 p3 pos : Pos} (he : PE X e te) : PE X (e.Subscript (Expr.Slice none none (some (Expr.UnaryOp UnaryOp.USub (Expr.Constant (Const.int 1) k p1) p2)) p3) pos) (tRevT X.K te) := by
  refine ⟨fun pins s σ H Q I h => ?_⟩
  refine Subscript_ (thn (he.run pins s σ H _ I h) fun v s1 ⟨x, H1, I1, r1, a, xs, ex, hx, q⟩ => ?_)
  subst ex
  cases r1
  have hst := po_some (pe_un (X := X) (pos := p2) un_neg (pe_int (X := X) (i := 1) (j := k) (pos := p1)))
  refine wpAny_Slice (thn (po_none.run pins s1 σ H1 (fun o H2 => o = none ∧ H2 = H1) I1 ⟨rfl, rfl⟩) fun vl s2 ⟨l, H2, I2, pl, el, e2⟩ => ?_)
  subst el e2
  refine thn (po_none.run pins s2 σ _ (fun o H3 => o = none ∧ H3 = _) I2 ⟨rfl, rfl⟩) fun vu s3 ⟨u, H3, I3, pu, eu, e3⟩ => ?_
  subst eu e3
  refine thn (hst.run pins s3 σ _ (fun o H4 => o = some (-1) ∧ H4 = _) I3 ⟨1, rfl, -1, rfl, rfl, rfl⟩) fun vs s4 ⟨o, H4, I4, ps, eo, e4⟩ => ?_
  subst eo e4
  have I5 := I4.kept (t' := s4.toks) (fun b ob q => Heap.get?_push_of_some { cls := Value.type "slice", data := Data.fields #[vl, vu, vs] } q)
  obtain ⟨its, r, ht, hz⟩ := I5.tuple hx
  have hlen := r.length
  refine tail_any (IsTup.typeIs ht) slot_tuple_getitem.lookup (getItem_tuple_back ht (Heap.IsSliceOf.new s4.heap vl vu vs) pl pu ps ?_ ?_) (Eq.refl (subscripted _ false (Value.ref a) (Value.ref s4.heap.objs.size)))
  · refine ⟨.ref _, upd _ _ (.tup xs.reverse), Inv.laid I5 (fun b ob q => Heap.get?_push_of_some _ q) (Nat.le_refl _) ?_, rfl, q _ (I5.hok.fresh (Nat.le_refl _))⟩
    exact ⟨by rw [List.length_reverse]; exact hz, its.reverse, Vals.reverse r, ⟨_, Heap.get?_push_size _ rfl, rfl, 0, rfl⟩⟩
  · rw [List.size_toArray, ← hlen]; exact hz
end Ef
set_option Elab.async false
set_option linter.all false
set_option maxRecDepth 100000
set_option maxHeartbeats 2000000
namespace Ef
open PySem PySem.Spec PyProof.Rows L2
theorem callWith_inst {M : Model} {A : Around} {E : Value → Shared → Prop} {s : Shared} {pos : Pos} {x C : Addr} {ox : Obj} {first : List Value} {Q : Value → Shared → Prop} {args : List (Bool × Sem Value)} {keywords : List (Option Str × Sem Value)}
    (hplain : ((args.any fun x => x.fst) || keywords.any fun x => x.fst.isNone) = false) (hd : ox.data = Data.plain)
    (h : wpAny M A (evalArgs (.ref x) true args keywords) (fun a s₁ => (∃ od, PySem.W.InstAt s₁.heap x ox C od) ∧ wpAny M A (call (.ref x) (first ++ a.pos) a.kw) Q E s₁) E s) : wpAny M A (callWith pos (.ref x) first args keywords) Q E s := by
  unfold callWith
  refine wpAny_bind (wpAny_holding (wpAny_mono h (fun a s₁ h₁ => ?_) fun _ _ y => y))
  obtain ⟨⟨od, J⟩, h1⟩ := h₁
  refine wpAny_bind (wpAny_standAt ?_)
  have L := PySem.W.kco_keeper (M := M) J hd
  simp only [hplain]
  refine wpAny_bind (L.here ?_)
  have tail : ∀ {t : Sem Value}, wpAny M A t Q E s₁ → wpAny M A (t >>= fun r => do holding [r] point; pure r) Q E s₁ := fun {t} ht => wpAny_bind (wpAny_mono ht (fun r s₂ hr => wpAny_bind (wpAny_holding (wpAny_point (wpAny_pure hr)))) fun _ _ y => y)
  exact tail (wpAny_operateT h1)
/-- o(e, ..), o a local name that holds an instance of the class at C -/
def tCallI (C : Addr) (i : Nat) (sp : Sp) (E : L2.St → XK) (t : TA) : TE := fun σ H Q => ∃ a dx fs, σ[i]? = some (some (.ref a)) ∧ H a = some (.ins C dx fs) ∧ t σ H fun vs H1 => (∃ fs', H1 a = some (.ins C dx fs')) ∧ sp (.ref a :: vs) H1 Q (E σ)
theorem pe_callI {X : Cx} {CX : CXT} {k i : Nat} {C f : Addr} {fd : FuncData} {ps : List Str} {sp : Sp} {E : L2.St → XK} {x : Str} {p pos : Pos} {e : Expr} {es : List Expr} {t : TA}
    (hf : PySem.W.findIn X.K (.ref C) "__call__" = some (some (.ref f))) (hi : PySem.W.isFn X.K (.ref f) = true) (hn : PySem.W.fnIn X.K f = true)
    (F : FnOk X.prog X.w X.K X.mg X.base CX k f fd ps sp) (hr : Room k X.A) (hb : Binds X.K fd ps []) (hx : ∀ σ, PassesAt CX X σ (E σ)) (ha : PA X (e :: es) t)
    (hN : X.N[i]? = some x := by rfl) (hv : Vis X.env.scope x := by first | exact Or.inl rfl | exact Or.inr (Or.inl rfl) | exact Or.inr (Or.inr rfl))
    (hdb : (x == ("__debug__" : Str)) = false := by decide) (hcd : (x == ("__classdict__" : Str)) = false := by decide)
    (hst : starEach (e :: es) X.env = (false, eval e X.env) :: starEach es X.env := by rfl) (hpl : (backTo pos (starEach es X.env)).any (·.1) = false := by rfl) : PE X (.Call (.Name x p) (e :: es) [] pos) (tCallI C i sp E t) := by
  refine ⟨fun pins s σ H Q I h => ?_⟩
  obtain ⟨a, dx, fs, hs, ea, ht⟩ := h
  have hx' := pe_var (X := X) (pos := p) hN hv hdb hcd
  refine wpAny_Call_Name_kw (thn (hx'.run pins s σ H (fun v H1 => v = .ref a ∧ H1 = H) I ⟨.ref a, hs, rfl, rfl⟩) fun u s1 ⟨v, H1, I1, r1, q1⟩ => ?_)
  obtain ⟨rfl, rfl⟩ := q1
  cases r1
  show wpAny _ _ (callWith pos (.ref a) [] (backTo pos (starEach (e :: es) X.env)) []) _ _ _
  have w1 := thn (ha.run pos pins s1 σ _ _ I1 ht) (Q' := fun us s2 => (∃ od, PySem.W.InstAt s2.heap a (PySem.W.instObj C dx) C od) ∧ wpAny (model X.prog X.w) X.A (call (.ref a) ([] ++ us)) (EP X pins σ Q) X.xe s2) fun us s2 ⟨vs, H2, I2, r, ⟨fs', ea2⟩, q⟩ => by
    obtain ⟨mA2, OM2, _⟩ := ins_get I2.hok ea2
    obtain ⟨od2, J2, _⟩ := OM2.look
    refine ⟨⟨_, J2⟩, wpAny_call (PySem.W.kco_code I2.kIn J2 rfl hf hi hn ?_)⟩
    have hl : (.ref a :: us : List Value).length = ps.length := by rw [← F.len _ _ _ _ q]; exact congrArg (· + 1) r.length.symm
    have b := hb s2 (.ref a :: us) I2.kIn (by rw [List.append_nil]; exact hl)
    rw [List.append_nil] at b
    refine codeAny_mono (F.run X.A X.stack s2 H2 { pos := .ref a :: us } (.ref a :: us) (.ref a :: vs) Q (E σ) hr I2.env0 b (.cons rfl r) q) fun res s' hq => ?_
    cases res with
    | error er => exact hx σ pins H2 s2 er s' I2 hq
    | ok fl =>
      cases fl with
      | ret u => exact I2.after hq
      | next => exact False.elim hq
      | brk => exact False.elim hq
      | cont => exact False.elim hq
  rw [hst] at w1 ⊢
  refine callWith_inst (by simp only [backTo, List.any_cons] at hpl ⊢; simpa using hpl) rfl (PySem.Calls.evalArgs_plain w1)
end Ef
set_option Elab.async false
set_option linter.all false
set_option maxRecDepth 100000
set_option maxHeartbeats 2000000
/-! try with several clauses, each with a name -/
namespace Ef
open PySem PySem.Spec PyProof.Rows L2
abbrev AsC := Value × Nat × (Addr → Value → Option Addr → TS)
/-- the ends of a named clause: its name is gone behind it -/
def EndsAs (i : Nat) (D : Ends) : Ends := { nx := fun σ' H' => D.nx (σ'.set i none) H', rt := D.rt, bk := fun σ' H' => D.bk (σ'.set i none) H', ct := fun σ' H' => D.ct (σ'.set i none) H' }
def wAsL (K : PySem.W.Frag) (Wout : WX) (D : Ends) : List AsC → WX
  | [] => Wout
  | (c, i, ts) :: r => fun cls d σ H => ∃ b, PySem.W.exmOne K cls c = some b ∧ (b = true → ∀ a, H a = none → ts a cls d (EndsAs i D) (σ.set i (some (.ref a))) H) ∧ (b = false → wAsL K Wout D r cls d σ H)
inductive HdsAs (X : Cx) : List ExceptHandler → List AsC → Prop
  | nil : HdsAs X [] []
  | cons {x n : Str} {c : Value} {i : Nat} {ts : Addr → Value → Option Addr → TS} {b₀ : Stmt} {suite : List Stmt} {np pos' : Pos} {hds : List ExceptHandler} {l : List AsC}
      (hi : X.N[i]? = some n) (hln : X.env.kindOf n = some NameKind.local) (hc : Names X x c)
      (hsu : ∀ (a : Addr) (oe : Obj) (cls : Value) (d : Option Addr) (pn : List (Addr × Obj)), Zc cls d oe → (∃ vs, oe.data = Data.fields vs) → PSs (X.suite a ((a, oe) :: pn)) (b₀ :: suite) (ts a cls d))
      (r : HdsAs X hds l) : HdsAs X (ExceptHandler.ExceptHandler (some (Expr.Name x np)) (some n) (b₀ :: suite) pos' :: hds) ((c, i, ts) :: l)
/-- what stands when a clause is looked for -/
structure LandAs (X : Cx) (pins : List (Addr × Obj)) (σ : L2.St) (H : Hp) (sI : Shared) (B : Heap) (a : Addr) (cls : Value) (d : Option Addr) (s : Shared) : Prop where
  J : Inv X pins σ H sI
  nb : ∀ (b : Addr) (o : Obj), sI.heap.get? b = some o → ¬b ∈ frs X.stack → B.get? b = some o
  up : sI.heap.UpToSlots s.heap
  fl : PySem.HandSPX.FlyingZ B (X.env :: X.outer) a (Zc cls d) s.heap
  na : H a = none
  os : s.os = sI.os
  ag : PyProof.Rows.AllBare s.gens
theorem handle_as {X : Cx} {pins : List (Addr × Obj)} {σ : L2.St} {H : Hp} {sI : Shared} {B : Heap} {a : Addr} {cls : Value} {d : Option Addr} {D : Ends} {Wout : WX} (hs : X.stack = X.env :: X.outer) (hf : X.env.frame = some X.env.locals) (hN : X.N.Nodup) (tk : Takes X Wout) :
    ∀ {hds : List ExceptHandler} {l : List AsC}, HdsAs X hds l → ∀ {s : Shared}, LandAs X pins σ H sI B a cls d s → wAsL X.K Wout D l cls d σ H →
      wpAny (model X.prog X.w) X.A (handleBy (.ref a) X.env hds) (SP X pins D) X.xe s := by
  intro hds l hh
  induction hh with
  | nil =>
    intro s L h
    have k := id L.fl
    obtain ⟨k1, k2, k3, oe, vs, T, oT, ts', he, hz, hd, h1, hr⟩ := k
    refine wpAny_handleBy_nil ?_
    refine wpAny_bind (wpAny_field he hd h1 ?_)
    rw [if_neg (by simp)]
    refine wpAny_bind ?_
    rw [hf]
    refine PySem.HandSPX.setFlight_upZ L.fl fun h4 hh4 up4 => wpAny_throw (tk _ _ ⟨a, B, sI, pins, σ, H, cls, d, rfl, L.J, L.nb, Heap.UpToSlots.trans L.up up4, Or.inr (Or.inr (by rw [hs]; exact hh4)), L.na, L.os, L.ag, h⟩)
  | @cons x n c i ts b₀ suite np pos' hds l hi hln hc hsu r ih =>
    intro s L h
    have ok := L.J.ok
    have hloc : L2.Loc X.env.scope n := Or.inl hln
    have J3 := Inv.landed L.J L.nb L.fl.1 L.up L.os L.ag
    obtain ⟨oe3, vs3, he3, hz3, hd3⟩ := L.fl.there
    have notFr : ∀ {h' : Heap} {oe : Obj} {vs : Array Value}, h'.FunFrames B (X.env :: X.outer) → h'.get? a = some oe → oe.data = Data.fields vs → a ∉ List.filterMap (fun (x : Env) => x.frame) (X.env :: X.outer) := fun ff e dd hm => by
      obtain ⟨_, o', e', hnf⟩ := Heap.FunFrames.mem ff hm
      rw [e] at e'
      cases e'
      exact hnf _ dd
    have nfr := notFr L.fl.2.2.1 he3 hd3
    have nL : a ≠ X.env.locals := fun z => nfr (List.mem_filterMap.mpr ⟨X.env, List.mem_cons_self, by rw [hf, z]⟩)
    have nF : a ∉ X.fs := fun hm => by
      obtain ⟨e, he, q⟩ := List.mem_filterMap.mp hm
      exact nfr (List.mem_filterMap.mpr ⟨e, List.mem_cons_of_mem _ he, q⟩)
    have S3 := Inv.suite J3 he3 hd3 L.na nL nF
    obtain ⟨b, hb1, hyes, hno⟩ := h
    refine wpAny_handleBy_cons (codeAny_handlers_test ?_) (fun q => nomatch q)
    have LM : PySem.W.Looks (model X.prog X.w) s.heap (excMatches (.ref a) c) b := PySem.W.exm_one J3.kIn (fun A Q E s k q => wpAny_typeOf_ref (k a oe3 he3) (by rw [hz3.1]; exact q)) hb1
    have test : ∀ {Q E}, Q c s → wpAny (model X.prog X.w) (X.suite a ((a, oe3) :: (X.pn ++ pins))).A (eval (.Name x np) X.env) Q E s := fun {Q E} q => by
      obtain ⟨hg, hdbg, hm | ⟨hm, hv, hnn⟩⟩ := hc
      · exact ld_glob S3 hg hm q hdbg
      · exact ld_blt S3 hg hm hv q hnn hdbg
    refine test (LM.here ?_)
    cases b with
    | false => exact ih L (hno rfl)
    | true =>
      refine codeAny_handlers_suite_as (PySem.HandSPX.lands_againZ L.fl fun h4 fl4 up4 => ?_)
      have J4 := Inv.landed (s' := { s with heap := h4 }) L.J L.nb fl4.1 (Heap.UpToSlots.trans L.up up4) L.os L.ag
      obtain ⟨oe4, vs4, he4, hz4, hd4⟩ := fl4.there
      have S4 := Inv.suite J4 he4 hd4 L.na nL nF
      refine store_ok (X := X.suite a ((a, oe4) :: (X.pn ++ pins))) (pins := []) (v := .ref a) S4 hN hi hloc rfl (fun s5 S5 => wpAny_mono ((hsu a oe4 cls d (X.pn ++ pins) hz4 ⟨vs4, hd4⟩).run [] s5 (σ.set i (some (.ref a))) H (EndsAs i D) S5 (hyes rfl a L.na)) (fun f s6 hsp => ?_) fun _ _ z => False.elim z) (Or.inr hln)
      have end_ : ∀ {σ6 : L2.St} {H6 : Hp} {Q : Unit → Shared → Prop}, Inv (X.suite a ((a, oe4) :: (X.pn ++ pins))) [] σ6 H6 s6 → (∀ s7, Inv X pins (σ6.set i none) H6 s7 → Q () s7) → wpAny (model X.prog X.w) X.A (do bindName X.env n Value.none; unbindBehindTheSuite X.env n pos') Q X.xe s6 := fun S6 hq => gone_ok (Inv.unsuite S6 ok) hN hi hln hq
      cases f with
      | next => obtain ⟨σ6, H6, S6, q6⟩ := hsp; exact end_ S6 fun s7 J7 => ⟨_, _, J7, q6⟩
      | brk => obtain ⟨σ6, H6, S6, q6⟩ := hsp; exact end_ S6 fun s7 J7 => ⟨_, _, J7, q6⟩
      | cont => obtain ⟨σ6, H6, S6, q6⟩ := hsp; exact end_ S6 fun s7 J7 => ⟨_, _, J7, q6⟩
      | ret u => obtain ⟨v6, σ6, H6, S6, r6, q6⟩ := hsp; exact end_ S6 fun s7 J7 => ⟨v6, _, _, J7, r6, q6⟩
theorem ps_try_asL {X : Cx} {h₀ : ExceptHandler} {hds : List ExceptHandler} {l : List AsC} {body : List Stmt} {pos : Pos} {tb : WX → TS} {Wout : WX} (hs : X.stack = X.env :: X.outer) (hf : X.env.frame = some X.env.locals) (hN : X.N.Nodup) (tk : Takes X Wout)
    (hb : ∀ (W : WX) (pn : List (Addr × Obj)) (xe : Value → Shared → Prop), Takes (X.tr pn xe) W → PassesOwn (model X.prog X.w) X.A X.env xe → PSs (X.tr pn xe) body (tb W)) (hh : HdsAs X (h₀ :: hds) l) :
    PS X (.Try body (h₀ :: hds) [] [] pos) fun D σ H => tb (wAsL X.K Wout D l) D σ H := by
  refine ⟨fun pins s σ H D I h => ?_⟩
  have ok := I.ok
  have hfr : X.A.frames = some (X.env :: X.outer) := by rw [ok.frames, hs]
  refine wpAny_Try_except (wpAny_mono ((hb (wAsL X.K Wout D l) (X.pn ++ pins) _ (fun u s' xx => ?_) PassesOwn.looking).run [] s σ H D (Inv.toTry I _) h) (fun f s1 hsp => ?_) fun e s1 he => he)
  · obtain ⟨a, B, sI, pins', σ', H', cls, d, rfl, J', nb, up, sky, na, os, ag, hw⟩ := xx
    have J := Inv.ofTry J' ok
    have sky' : Sky B (X.env :: X.outer) a (Zc cls d) X.env.locals s'.heap := by rw [← hs]; exact sky
    exact Sky.land Zc.steady hfr hf sky' fun h3 fl3 up3 => handle_as hs hf hN tk hh ⟨J, nb, Heap.UpToSlots.trans up up3, fl3, na, os, ag⟩ hw
  · cases f with
    | next => obtain ⟨σ', H', J', q⟩ := hsp; exact wpAny_execs_nil ⟨σ', H', Inv.ofTry J' ok, q⟩
    | brk => obtain ⟨σ', H', J', q⟩ := hsp; exact ⟨σ', H', Inv.ofTry J' ok, q⟩
    | cont => obtain ⟨σ', H', J', q⟩ := hsp; exact ⟨σ', H', Inv.ofTry J' ok, q⟩
    | ret u => obtain ⟨v, σ', H', J', r, q⟩ := hsp; exact ⟨v, σ', H', Inv.ofTry J' ok, r, q⟩
end Ef
set_option Elab.async false
set_option linter.all false
/-! rows of whole numbers: values, differences, divisors -/
namespace Ef
/-- the value of a row -/
def evalR : List Int → Int → Int
  | [], _ => 0
  | c :: r, n => evalR r n * n + c
/-- of a degree below d -/
def PD : Nat → (Int → Int) → Prop
  | 0, f => ∀ n, f n = 0
  | d + 1, f => PD d fun n => f (n + 1) - f n
theorem PD.congr {d : Nat} {f g : Int → Int} (h : PD d f) (e : ∀ n, f n = g n) : PD d g := by
  have : f = g := funext e
  rw [← this]; exact h
theorem PD.add : ∀ {d : Nat} {f g : Int → Int}, PD d f → PD d g → PD d fun n => f n + g n
  | 0, f, g, hf, hg => fun n => by
    have h1 := hf n
    have h2 := hg n
    show f n + g n = 0
    rw [h1, h2]; rfl
  | d + 1, f, g, hf, hg => PD.congr (d := d) (PD.add (d := d) hf hg) fun n => by
    show (f (n + 1) - f n) + (g (n + 1) - g n) = (f (n + 1) + g (n + 1)) - (f n + g n)
    omega
theorem PD.up : ∀ {d : Nat} {f : Int → Int}, PD d f → PD (d + 1) f
  | 0, f, h => fun n => by
    have h1 := h n
    have h2 := h (n + 1)
    show f (n + 1) - f n = 0
    rw [h1, h2]; rfl
  | d + 1, f, h => PD.up (d := d) (f := fun n => f (n + 1) - f n) h
theorem PD.shift : ∀ {d : Nat} {f : Int → Int}, PD d f → PD d fun n => f (n + 1)
  | 0, f, h => fun n => h (n + 1)
  | d + 1, f, h => PD.shift (d := d) (f := fun n => f (n + 1) - f n) h
theorem PD.mulx : ∀ {d : Nat} {f : Int → Int}, PD d f → PD (d + 1) fun n => f n * n
  | 0, f, h => fun n => by
    have h1 := h n
    have h2 := h (n + 1)
    show f (n + 1) * (n + 1) - f n * n = 0
    rw [h1, h2, Int.zero_mul, Int.zero_mul]; rfl
  | d + 1, f, h => by
    have h1 := PD.mulx (d := d) (f := fun n => f (n + 1) - f n) h
    have h2 : PD (d + 1) fun n => f (n + 1) := PD.shift (d := d + 1) h
    show PD (d + 1) fun n => f (n + 1) * (n + 1) - f n * n
    refine PD.congr (d := d + 1) (PD.add h1 h2) fun n => ?_
    show (f (n + 1) - f n) * n + f (n + 1) = f (n + 1) * (n + 1) - f n * n
    rw [Int.sub_mul, Int.mul_add, Int.mul_one]
    omega
theorem PD.const (c : Int) : ∀ d : Nat, PD (d + 1) fun _ => c
  | 0 => fun n => Int.sub_self c
  | d + 1 => PD.up (PD.const c d)
theorem pd_row : ∀ r : List Int, PD r.length (evalR r)
  | [] => fun n => rfl
  | c :: r => PD.congr (d := r.length + 1) (PD.add (PD.mulx (pd_row r)) (PD.const c r.length)) fun n => rfl
theorem PD.dvd {u : Int} : ∀ {d : Nat} {f : Int → Int}, PD d f → (∀ k : Nat, k < d → u ∣ f k) → ∀ n, u ∣ f n
  | 0, f, h, _, n => by rw [h n]; exact Int.dvd_zero u
  | d + 1, f, h, hk, n => by
    have hd : ∀ n, u ∣ f (n + 1) - f n := PD.dvd (d := d) (f := fun n => f (n + 1) - f n) h fun k hk' => by
      have h1 := hk (k + 1) (by omega)
      have h2 := hk k (by omega)
      exact Int.dvd_sub h1 h2
    have h0 : u ∣ f 0 := hk 0 (by omega)
    have hp : ∀ k : Nat, u ∣ f k := fun k => by
      induction k with
      | zero => exact h0
      | succ k ih =>
        have := Int.dvd_add (hd k) ih
        rw [Int.sub_add_cancel] at this
        exact this
    have hn : ∀ k : Nat, u ∣ f (-(k : Int)) := fun k => by
      induction k with
      | zero => exact h0
      | succ k ih =>
        have h1 := hd (-((k + 1 : Nat) : Int))
        have e : -((k + 1 : Nat) : Int) + 1 = -(k : Int) := by omega
        rw [e] at h1
        have := Int.dvd_sub ih h1
        rw [Int.sub_sub_self] at this
        exact this
    rcases Int.le_total 0 n with z | z
    · have := hp n.toNat
      rw [Int.toNat_of_nonneg z] at this
      exact this
    · have := hn (-n).toNat
      rw [Int.toNat_of_nonneg (by omega), Int.neg_neg] at this
      exact this
/-- divisible at as many n in a row as the row has members: divisible everywhere -/
theorem row_dvd {r : List Int} {u : Int} (h : ∀ k : Nat, k < r.length → u ∣ evalR r k) (n : Int) : u ∣ evalR r n := (pd_row r).dvd h n
theorem eval_take : ∀ (r : List Int) (k : Nat) (n : Int), (∀ j, k ≤ j → j < r.length → r[j]? = some 0) → evalR (r.take k) n = evalR r n
  | [], k, n, _ => by rw [List.take_nil]
  | c :: r, 0, n, h => by
    have h0 : c = 0 := by
      have := h 0 (Nat.le_refl 0) (Nat.succ_pos _)
      simpa using this
    have ih := eval_take r 0 n fun j _ hj => by
      have := h (j + 1) (Nat.zero_le _) (Nat.succ_lt_succ hj)
      simpa using this
    show (0 : Int) = evalR r n * n + c
    rw [← ih, h0]
    show (0 : Int) = 0 * n + 0
    rw [Int.zero_mul]; rfl
  | c :: r, k + 1, n, h => by
    have ih := eval_take r k n fun j hk hj => by
      have := h (j + 1) (Nat.succ_le_succ hk) (Nat.succ_lt_succ hj)
      simpa using this
    show evalR (r.take k) n * n + c = evalR r n * n + c
    rw [ih]
theorem eval_map : ∀ (r : List Int) (g n : Int), (∀ c ∈ r, g ∣ c) → evalR r n = g * evalR (r.map fun c => c / g) n
  | [], g, n, _ => (Int.mul_zero g).symm
  | c :: r, g, n, h => by
    have ih := eval_map r g n fun c hc => h c (List.mem_cons_of_mem _ hc)
    show evalR r n * n + c = g * (evalR (r.map fun c => c / g) n * n + c / g)
    rw [Int.mul_add, Int.mul_ediv_cancel' (h c List.mem_cons_self), ih, Int.mul_assoc]
/-- the greatest common divisor of a number and a row -/
def gcdR (f : Nat) (t : List Int) : Nat := t.foldl (fun g c => Nat.gcd g c.natAbs) f
theorem gcdR_dvd : ∀ (t : List Int) (f : Nat), gcdR f t ∣ f ∧ ∀ c ∈ t, (gcdR f t : Int) ∣ c
  | [], f => ⟨Nat.dvd_refl f, fun c hc => by cases hc⟩
  | c :: t, f => by
    obtain ⟨h1, h2⟩ := gcdR_dvd t (Nat.gcd f c.natAbs)
    refine ⟨Nat.dvd_trans h1 (Nat.gcd_dvd_left _ _), fun x hx => ?_⟩
    rcases List.mem_cons.mp hx with rfl | hx
    · exact Int.ofNat_dvd_left.mpr (Nat.dvd_trans h1 (Nat.gcd_dvd_right _ _))
    · exact h2 x hx
theorem dvd_gcdR : ∀ (t : List Int) (f d : Nat), d ∣ f → (∀ c ∈ t, (d : Int) ∣ c) → d ∣ gcdR f t
  | [], f, d, h, _ => h
  | c :: t, f, d, h, hc => dvd_gcdR t (Nat.gcd f c.natAbs) d (Nat.dvd_gcd h (Int.ofNat_dvd_left.mp (hc c List.mem_cons_self))) fun x hx => hc x (List.mem_cons_of_mem _ hx)
theorem gcdR_one : ∀ t : List Int, gcdR 1 t = 1
  | [] => rfl
  | c :: t => by
    show gcdR (Nat.gcd 1 c.natAbs) t = 1
    rw [Nat.gcd_one_left]; exact gcdR_one t
theorem gcdR_pos {t : List Int} {f : Nat} (h : 0 < f) : 0 < gcdR f t := Nat.pos_of_dvd_of_pos (gcdR_dvd t f).1 h
theorem gcdR_take_succ {t : List Int} {f i : Nat} {c : Int} (h : t[i]? = some c) : gcdR f (t.take (i + 1)) = Nat.gcd (gcdR f (t.take i)) c.natAbs := by
  unfold gcdR
  rw [List.take_succ, h, Option.toList_some, List.foldl_append]
  rfl
/-- one lowest form -/
theorem gcdR_low {t : List Int} {f : Nat} (h : 0 < f) : gcdR (f / gcdR f t) (t.map fun c => c / (gcdR f t : Int)) = 1 := by
  have hg := gcdR_pos (t := t) h
  obtain ⟨h1, h2⟩ := gcdR_dvd t f
  obtain ⟨d1, d2⟩ := gcdR_dvd (t.map fun c => c / (gcdR f t : Int)) (f / gcdR f t)
  generalize hgd : gcdR (f / gcdR f t) (t.map fun c => c / (gcdR f t : Int)) = d at d1 d2 ⊢
  have k1 : d * gcdR f t ∣ f := by
    have := Nat.mul_dvd_mul_right d1 (gcdR f t)
    rw [Nat.div_mul_cancel h1] at this
    exact this
  have k2 : ∀ c ∈ t, ((d * gcdR f t : Nat) : Int) ∣ c := fun c hc => by
    have z := d2 (c / (gcdR f t : Int)) (List.mem_map_of_mem hc)
    have z2 := Int.mul_dvd_mul_right (gcdR f t : Int) z
    rw [Int.ediv_mul_cancel (h2 c hc)] at z2
    rw [Int.natCast_mul]
    exact z2
  have k3 := dvd_gcdR t f _ k1 k2
  have k4 := Nat.le_of_dvd hg k3
  rcases Nat.lt_or_ge d 2 with z | z
  · rcases Nat.eq_zero_or_pos d with rfl | z0
    · rw [Nat.zero_mul] at k3
      have := Nat.eq_zero_of_zero_dvd k3
      omega
    · omega
  · have := Nat.mul_le_mul_right (gcdR f t) z
    omega
/-- the row without the zeros at its end -/
def TrimOk (r t : List Int) : Prop := ∃ k, k ≤ r.length ∧ t = r.take k ∧ (∀ j, k ≤ j → j < r.length → r[j]? = some 0) ∧ (k = 0 ∨ ∃ c, r[k - 1]? = some c ∧ c ≠ 0)
/-- the least form p over u of the row r over un -/
structure Low (r : List Int) (un : Nat) (p : List Int) (u : Nat) : Prop where
  ex : ∃ (k g : Nat), 0 < g ∧ k ≤ r.length ∧ p = (r.take k).map (fun c => c / (g : Int)) ∧ (∀ c ∈ r.take k, (g : Int) ∣ c) ∧ un = g * u ∧ gcdR u p = 1 ∧ (∀ j, k ≤ j → j < r.length → r[j]? = some 0) ∧ (k = 0 ∨ ∃ c, r[k - 1]? = some c ∧ c ≠ 0)
  u1 : 0 < u
theorem Low.of_trim {r t : List Int} {un : Nat} (h : TrimOk r t) (h0 : 0 < un) : Low r un (t.map fun c => c / (gcdR un t : Int)) (un / gcdR un t) := by
  obtain ⟨k, hk, rfl, hz, hl⟩ := h
  have hg := gcdR_pos (t := r.take k) h0
  obtain ⟨h1, h2⟩ := gcdR_dvd (r.take k) un
  refine ⟨⟨k, gcdR un (r.take k), hg, hk, rfl, h2, (Nat.mul_div_cancel' h1).symm, gcdR_low h0, hz, hl⟩, Nat.div_pos (Nat.le_of_dvd h0 h1) hg⟩
theorem Low.eval {r p : List Int} {un u : Nat} (h : Low r un p u) (n : Int) : ∃ g : Int, 0 < g ∧ (un : Int) = g * u ∧ evalR r n = g * evalR p n := by
  obtain ⟨k, g, hg, hk, rfl, hd, hu, _, hz, _⟩ := h.ex
  refine ⟨g, by omega, by rw [hu, Int.natCast_mul], ?_⟩
  rw [← eval_take r k n hz, eval_map _ (g : Int) n hd]
theorem Low.mod {r p : List Int} {un u : Nat} (h : Low r un p u) (n : Int) : evalR r n % (un : Int) = 0 ↔ evalR p n % (u : Int) = 0 := by
  obtain ⟨g, hg, e1, e2⟩ := h.eval n
  rw [e1, e2, Int.mul_emod_mul_of_pos _ _ hg]
  constructor
  · intro z
    rcases Int.mul_eq_zero.mp z with z | z
    · omega
    · exact z
  · intro z
    rw [z, Int.mul_zero]
theorem Low.div {r p : List Int} {un u : Nat} (h : Low r un p u) (n : Int) : evalR r n / (un : Int) = evalR p n / (u : Int) := by
  obtain ⟨g, hg, e1, e2⟩ := h.eval n
  rw [e1, e2, Int.mul_ediv_mul_of_pos _ _ hg]
theorem Low.len {r p : List Int} {un u : Nat} (h : Low r un p u) : p.length ≤ r.length := by
  obtain ⟨k, g, hg, hk, rfl, _⟩ := h.ex
  rw [List.length_map, List.length_take]
  omega
/-- whole everywhere -/
theorem Low.whole {r p : List Int} {un u : Nat} (h : Low r un p u) : (∀ k : Nat, k < p.length → evalR p k % (u : Int) = 0) ↔ ∀ n : Int, -1 ≤ n → n < (r.length : Int) + 2 → evalR r n % (un : Int) = 0 := by
  constructor
  · intro hk n _ _
    exact (h.mod n).mpr (Int.emod_eq_zero_of_dvd (row_dvd (fun k hk' => Int.dvd_of_emod_eq_zero (hk k hk')) n))
  · intro hn k hk
    have := h.len
    exact (h.mod k).mp (hn k (by omega) (by omega))
/-- of at most b bits -/
def Bd (b : Nat) (x : Int) : Prop := x.natAbs < 2 ^ b
theorem Bd.up {a b : Nat} {x : Int} (h : Bd a x) (e : a ≤ b) : Bd b x := Nat.lt_of_lt_of_le h (Nat.pow_le_pow_right (by decide) e)
theorem Bd.step {a b c w : Nat} {x y z : Int} (hx : Bd a x) (hy : Bd b y) (hz : Bd c z) (h1 : a + b + 1 ≤ w) (h2 : c + 1 ≤ w) : Bd w (x * y + z) := by
  unfold Bd at *
  have e1 : (x * y + z).natAbs ≤ x.natAbs * y.natAbs + z.natAbs := by
    have := Int.natAbs_add_le (x * y) z
    rw [Int.natAbs_mul] at this
    exact this
  have e2 : x.natAbs * y.natAbs ≤ 2 ^ a * 2 ^ b := Nat.mul_le_mul (Nat.le_of_lt hx) (Nat.le_of_lt hy)
  rw [← Nat.pow_add] at e2
  have e3 : 2 ^ (a + b) ≤ 2 ^ (w - 1) := Nat.pow_le_pow_right (by decide) (by omega)
  have e4 : 2 ^ c ≤ 2 ^ (w - 1) := Nat.pow_le_pow_right (by decide) (by omega)
  have e5 : 2 ^ w = 2 ^ (w - 1) + 2 ^ (w - 1) := by
    rw [← Nat.two_mul, ← Nat.pow_succ', Nat.succ_eq_add_one, Nat.sub_add_cancel (by omega)]
  omega
theorem Bd.zero (b : Nat) : Bd b 0 := Nat.pow_pos (by decide)
theorem bd_eval {n : Int} {b : Nat} (hn : Bd b n) : ∀ r : List Int, (∀ c ∈ r, Bd b c) → Bd ((b + 1) * r.length) (evalR r n)
  | [], _ => Bd.zero _
  | c :: r, h => by
    have ih := bd_eval hn r fun c hc => h c (List.mem_cons_of_mem _ hc)
    have := Bd.step ih hn (h c List.mem_cons_self) (w := (b + 1) * (r.length + 1)) (by rw [Nat.mul_succ]; omega) (by rw [Nat.mul_succ]; omega)
    exact this
theorem Bd.div {b : Nat} {x g : Int} (h : Bd b x) (hg : 0 < g) : Bd b (x / g) := by
  unfold Bd at *
  rcases Int.le_total 0 x with z | z
  · have h1 := Int.ediv_nonneg z (Int.le_of_lt hg)
    have h2 : x / g ≤ x := Int.ediv_le_self g z
    omega
  · have h1 : x / g ≤ 0 := Int.ediv_nonpos_of_nonpos_of_neg z hg
    have h2 : x ≤ x / g := by
      rw [Int.le_ediv_iff_mul_le hg]
      have := Int.mul_le_mul_of_nonpos_left (c := 1) (b := g) (a := x) z (by omega)
      omega
    omega
end Ef
set_option Elab.async false
set_option linter.all false
set_option maxRecDepth 100000
set_option maxHeartbeats 4000000
namespace Ef
open PySem PySem.Spec PyProof.Rows L2
abbrev sIsInt : Stmt := top 10
abbrev sFrom : Stmt := top 11
structure TxtW (mg : Str → Option Value) : Prop extends TxtP mg where
  isinstance : mg "isinstance" = none
  bool : mg "bool" = none
  enumerate : mg "enumerate" = none
  reversed : mg "reversed" = none
  range : mg "range" = none
  tuple : mg "tuple" = none
/-- no int: a value of another built-in kind, or a truth -/
def NotInt (K : PySem.W.Frag) (H : Hp) (v : V) : Prop := ∃ (n : String) (b1 b2 : Bool), TyX K H v (.type n) ∧ kitB n "int" = some b1 ∧ kitB n "bool" = some b2 ∧ (b1 && !b2) = false
section
variable {P : Program} {w : World} {K : PySem.W.Frag} {mg : Str → Option Value} {base : Heap}
def spIsInt (K : PySem.W.Frag) : Sp := fun vs H Q _ => ∃ (v : V) (n : String) (b1 b2 : Bool), vs = [v] ∧ TyX K H v (.type n) ∧ kitB n "int" = some b1 ∧ kitB n "bool" = some b2 ∧ Q (.bl (b1 && !b2)) H
theorem scIsInt : FnScope ["value"] ["value"] (defScope sIsInt) := ⟨rfl, rfl, rfl, by decide +kernel, rfl, by decide +kernel, by decide +kernel⟩
theorem df_isint (A : At K mg "is_int" sIsInt) (T : TxtW mg) : Df P w K mg base 1 "is_int" ["value"] (spIsInt K) := by
  obtain ⟨f, fd, hm, F⟩ := A.ex
  refine ⟨f, fd, hm, F.kp, F.binds (fun _ _ _ _ _ _ us hl => match us, hl with | [_], _ => rfl), F.ok scIsInt (fun vs H Q E h => ?_) (fun cdv A outer s H vs Q E hr h => ?_)⟩
  · obtain ⟨v, n, b1, b2, rfl, _⟩ := h
    rfl
  · obtain ⟨v, n, b1, b2, rfl, ht, h1, h2, q⟩ := h
    refine ⟨_, (pss_one (ps_ret (pe_and (pe_callB call_isi (by rfl) T.isinstance (by decide +kernel) (pa_cons (pv 0) (pa_cons (pe_bltn (v := .ty "int") (by rfl) T.int (by decide +kernel) rfl) pa_nil))) (pe_one (pe_not (pe_callB call_isi (by rfl) T.isinstance (by decide +kernel) (pa_cons (pv 0) (pa_cons (pe_bltn (v := .ty "bool") (by rfl) T.bool (by decide +kernel) rfl) pa_nil)))))))), ?_⟩
    refine ⟨v, rfl, _, _, _, _, _, rfl, .ty "int", ht, kit_ty h1, b1, rfl, ?_⟩
    cases b1 with
    | true =>
      refine iteT ⟨v, rfl, _, _, _, _, _, rfl, .ty "bool", ht, kit_ty h2, b2, rfl, ?_⟩
      exact q
    | false => exact iteF q
def spFrom (K : PySem.W.Frag) : Sp := fun vs H Q _ => ∃ (v : V) (low : Int), vs = [v, .int low] ∧ ((∃ i, v = .int i ∧ Q (.bl (decide (low ≤ i))) H) ∨ (NotInt K H v ∧ Q (.bl false) H))
theorem scFrom : FnScope ["value", "low"] ["value", "low"] (defScope sFrom) := ⟨rfl, rfl, rfl, by decide +kernel, rfl, by decide +kernel, by decide +kernel⟩
theorem df_from (A : At K mg "is_int_from" sFrom) (Disint : Df P w K mg base 1 "is_int" ["value"] (spIsInt K)) : Df P w K mg base 2 "is_int_from" ["value", "low"] (spFrom K) := by
  obtain ⟨f, fd, hm, F⟩ := A.ex
  refine ⟨f, fd, hm, F.kp, F.binds (fun _ _ _ _ _ _ us hl => match us, hl with | [_, _], _ => rfl), F.ok scFrom (fun vs H Q E h => ?_) (fun cdv A outer s H vs Q E hr h => ?_)⟩
  · obtain ⟨v, low, rfl, _⟩ := h
    rfl
  · obtain ⟨v, low, rfl, h⟩ := h
    refine ⟨_, (pss_one (ps_ret (pe_and (Disint.call (hr.mono (by decide)) (pa_cons (pv 0) pa_nil)) (pe_one (pe_cmpR op_ge (pv 0) (pv 1) (nomark _)))))), ?_⟩
    rcases h with ⟨i, rfl, q⟩ | ⟨⟨n, b1, b2, ht, h1, h2, hb⟩, q⟩
    · refine ⟨_, rfl, _, "int", true, false, rfl, .base (.int i), by decide +kernel, by decide +kernel, _, rfl, ?_⟩
      exact iteT ⟨_, rfl, _, rfl, _, _, rfl, rfl, q⟩
    · refine ⟨_, rfl, _, n, b1, b2, rfl, ht, h1, h2, _, rfl, ?_⟩
      rw [hb]
      exact iteF q
end
end Ef
set_option Elab.async false
set_option linter.all false
set_option maxRecDepth 100000
set_option maxHeartbeats 2000000
/-! in, not, bool(..) by a class's own methods; a class that a local name holds, called -/
namespace Ef
open PySem PySem.Spec PyProof.Rows L2
/-- the class at C has its own method m: the def at f, which keeps sp -/
structure Own (P : Program) (w : World) (K : PySem.W.Frag) (mg : Str → Option Value) (base : Heap) (k : Nat) (C : Addr) (m : Str) (ps : List Str) (sp : Sp) : Prop where
  ex : ∃ f fd, PySem.W.findIn K (.ref C) m = some (some (.ref f)) ∧ PySem.W.isFn K (.ref f) = true ∧ PySem.W.typeIn K (.ref f) = some (.type "function") ∧ PySem.W.keepIn K (.ref f) = true ∧ Binds K fd ps [] ∧ FnOk P w K mg base CX0 k f fd ps sp
section
variable {X : Cx} {pins : List (Addr × Obj)} {σ : L2.St} {H : Hp} {s : Shared} {Q : VK} {k : Nat} {C a dx : Addr} {fs : List (Str × V)} {m : Str} {ps : List Str} {sp : Sp} {A : Around} {E' : Value → Shared → Prop}
/-- the call of a def from below the body that runs -/
theorem run_low {f : Addr} {fd : FuncData} {us : List Value} {vs : List V} (F : FnOk X.prog X.w X.K X.mg X.base CX0 k f fd ps sp) (hr : Room k A) (hfr : A.frames = X.A.frames) (hb : Binds X.K fd ps []) (I : Inv X pins σ H s) (r : Vals vs us) (h : sp vs H Q E0) :
    wpAny (model X.prog X.w) A (call (.ref f) us) (EP X pins σ Q) E' s := by
  have e0 : Env0 X.prog X.w X.K X.mg X.base A X.stack s H := by
    have e := I.env0
    exact ⟨hfr.trans e.frames, e.mod, e.bs, e.bsz, e.funs, e.frf, e.hok, e.bare⟩
  have hl : (us ++ []).length = ps.length := by rw [List.append_nil, ← r.length]; exact F.len _ _ _ _ h
  have hbt := hb s us I.kIn hl
  rw [List.append_nil] at hbt
  refine wpAny_call (codeAny_mono (F.run A X.stack s H ⟨us, []⟩ us vs Q E0 hr e0 hbt r h) fun res s' hq => ?_)
  cases res with
  | error e => exact False.elim hq
  | ok fl =>
    cases fl with
    | ret u => exact I.after hq
    | next => exact False.elim hq
    | brk => exact False.elim hq
    | cont => exact False.elim hq
/-- callSpecial? of such a method -/
theorem own_special {args : List Value} {vs : List V} {R : Option Value → Shared → Prop} (O : Own X.prog X.w X.K X.mg X.base k C m ps sp) (hr : Room k A) (hfr : A.frames = X.A.frames) (I : Inv X pins σ H s) (ea : H a = some (.ins C dx fs)) (r : Vals vs args)
    (h : sp (.ref a :: vs) H Q E0) (hR : ∀ u s', EP X pins σ Q u s' → R (some u) s') : wpAny (model X.prog X.w) A (callSpecial? (.ref a) m args) R E' s := by
  obtain ⟨f, fd, hf, hi, ht, hk, hb, F⟩ := O.ex
  obtain ⟨mA, OM, _⟩ := ins_get I.hok ea
  obtain ⟨od, J, _⟩ := OM.look
  refine PySem.W.special_fn I.kIn J hf ht ?_
  exact wpAny_mono (run_low (us := .ref a :: args) (vs := .ref a :: vs) F hr hfr hb I (.cons rfl r) h) (fun u s' z => hR u s' z) fun _ _ z => z
theorem own_unless {args : List Value} {vs : List V} {refuse : Sem Value} {R : Option Value → Shared → Prop} (O : Own X.prog X.w X.K X.mg X.base k C m ps sp) (hr : Room k A) (hfr : A.frames = X.A.frames) (I : Inv X pins σ H s) (ea : H a = some (.ins C dx fs)) (r : Vals vs args)
    (h : sp (.ref a :: vs) H Q E0) (hR : ∀ u s', EP X pins σ Q u s' → R (some u) s') : wpAny (model X.prog X.w) A (callSpecialUnlessNone? (.ref a) m args refuse) R E' s := by
  obtain ⟨f, fd, hf, hi, ht, hk, hb, F⟩ := O.ex
  obtain ⟨mA, OM, _⟩ := ins_get I.hok ea
  obtain ⟨od, J, _⟩ := OM.look
  unfold callSpecialUnlessNone? specialOf
  refine wpAny_bind (wpAny_bind (J.type.here ((PySem.W.looks_findIn I.kIn hf).here ?_)))
  refine wpAny_holding (wpAny_bind ((PySem.W.bind_fn I.kIn _ ht).here ?_))
  show wpAny _ _ (if (Value.ref f == Value.none) = true then _ else _) _ _ _
  rw [if_neg (show ¬ ((Value.ref f == Value.none) = true) from Bool.false_ne_true)]
  refine wpAny_bind (wpAny_mono (run_low (us := .ref a :: args) (vs := .ref a :: vs) F hr hfr hb I (.cons rfl r) h) (fun u s' z => wpAny_pure (hR u s' z)) fun _ _ z => z)
/-- x in o, x not in o, by o's own __contains__ -/
def rOwnIn (C : Addr) (sp : Sp) (neg : Bool) : R2 := fun x y H Q => ∃ (a dx : Addr) (fs : List (Str × V)), y = .ref a ∧ H a = some (.ins C dx fs) ∧ sp [.ref a, x] H (fun v H' => ∃ b, v = .bl b ∧ Q (.bl (if neg = true then !b else b)) H') E0
theorem contains_own {x : V} {u : Value} {R : Bool → Shared → Prop} {Qb : Bool → Hp → Prop} (O : Own X.prog X.w X.K X.mg X.base k C "__contains__" ps sp) (hr : Room k A) (hfr : A.frames = X.A.frames) (I : Inv X pins σ H s) (ea : H a = some (.ins C dx fs)) (r : RelV x u)
    (h : sp [.ref a, x] H (fun v H' => ∃ b, v = .bl b ∧ Qb b H') E0) (hR : ∀ b H' s', Inv X pins σ H' s' → Qb b H' → R b s') : wpAny (model X.prog X.w) A (contains (.ref a) u) R E' s := by
  obtain ⟨f, fd, hf, _⟩ := id O.ex
  obtain ⟨mA, OM, _⟩ := ins_get I.hok ea
  obtain ⟨od, J, _⟩ := OM.look
  unfold contains
  refine wpAny_holding ?_
  have e1 : stdlibNamesSay? (.ref a) u = none := by cases u <;> rfl
  rw [e1]
  dsimp only
  refine wpAny_bind ?_
  unfold specialOf
  refine wpAny_bind (J.type.here ((PySem.W.looks_findIn I.kIn hf).here ?_))
  show wpAny _ _ (if (some (Value.ref f) == some Value.none) = true then _ else _) _ _ _
  rw [if_neg (show ¬ ((some (Value.ref f) == some Value.none) = true) from Bool.false_ne_true)]
  refine wpAny_bind (own_unless (vs := [x]) O hr hfr I ea (.cons r .nil) h fun w' s' hz => ?_)
  obtain ⟨v, H', I', rv, b, rfl, q⟩ := hz
  cases rv
  exact wpAny_truthy_bool (hR b H' s' I' q)
theorem op_in_own (O : Own X.prog X.w X.K X.mg X.base k C "__contains__" ps sp) (hr : Room k X.A) : OpR X (compareOp .In) (rOwnIn C sp false) := by
  intro pins s σ H x y v u Q I rx ry h
  obtain ⟨a, dx, fs, rfl, ea, q⟩ := h
  cases ry
  show wpAny _ _ (contains (.ref a) v >>= fun z => pure (Value.bool z)) _ _ _
  exact wpAny_bind (contains_own O hr rfl I ea rx q fun b H' s' I' z => wpAny_pure ⟨.bl b, H', I', rfl, z⟩)
theorem op_notin_own (O : Own X.prog X.w X.K X.mg X.base k C "__contains__" ps sp) (hr : Room k X.A) : OpR X (compareOp .NotIn) (rOwnIn C sp true) := by
  intro pins s σ H x y v u Q I rx ry h
  obtain ⟨a, dx, fs, rfl, ea, q⟩ := h
  cases ry
  show wpAny _ _ (contains (.ref a) v >>= fun z => pure (Value.bool (!z))) _ _ _
  exact wpAny_bind (contains_own O hr rfl I ea rx q fun b H' s' I' z => wpAny_pure ⟨.bl (!b), H', I', rfl, z⟩)
/-- truth by an own __bool__ -/
theorem truthy_own {R : Bool → Shared → Prop} {Qb : Bool → Hp → Prop} (O : Own X.prog X.w X.K X.mg X.base k C "__bool__" ps sp) (hr : Room k A) (hfr : A.frames = X.A.frames) (I : Inv X pins σ H s) (ea : H a = some (.ins C dx fs))
    (h : sp [.ref a] H (fun v H' => ∃ b, v = .bl b ∧ Qb b H') E0) (hR : ∀ b H' s', Inv X pins σ H' s' → Qb b H' → R b s') : wpAny (model X.prog X.w) A (truthy (.ref a)) R E' s := by
  unfold truthy
  refine wpAny_bind (own_special (vs := []) (args := []) O hr hfr I ea .nil h fun w' s' hz => ?_)
  obtain ⟨v, H', I', rv, b, rfl, q⟩ := hz
  cases rv
  exact wpAny_pure (hR b H' s' I' q)
def rOwnTr (C : Addr) (sp : Sp) : V → Hp → (Bool → Hp → Prop) → Prop := fun x H Q => ∃ (a dx : Addr) (fs : List (Str × V)), x = .ref a ∧ H a = some (.ins C dx fs) ∧ sp [.ref a] H (fun v H' => ∃ b, v = .bl b ∧ Q b H') E0
/-- not o -/
theorem un_not_own (O : Own X.prog X.w X.K X.mg X.base k C "__bool__" ps sp) (hr : Room k X.A) : UnR X (unaryOp .Not) (fun x H Q => rOwnTr C sp x H fun b H' => Q (.bl (!b)) H') := by
  intro pins s σ H x v Q I rx h
  obtain ⟨a, dx, fs, rfl, ea, q⟩ := h
  cases rx
  unfold unaryOp
  refine wpAny_holding ?_
  show wpAny _ _ (truthy (.ref a) >>= fun z => pure (Value.bool (!z))) _ _ _
  exact wpAny_bind (truthy_own O hr rfl I ea q fun b H' s' I' z => wpAny_pure ⟨.bl (!b), H', I', rfl, z⟩)
theorem mono_truthy {M : Model} {E1 : Value → Shared → Prop} {x : Value} {R R' : Bool → Shared → Prop} (h : wpAny M A (truthy x) R E1 s) (hR : ∀ b s', R b s' → R' b s') : wpAny M A (truthy x) R' E1 s := wpAny_mono h (fun b s' z => hR b s' z) fun _ _ z => z
theorem bool_new_in (prog : Program) (w : World) (a : Addr) : MeetsIn prog w (Builtin.«bool.__new__» ⟨[.type "bool", .ref a], []⟩)
    (fun A R s => wpAny (model prog w) A.in1 (truthy (.ref a)) (fun b s' => R (.ok (.ret (.bool b))) s') (fun e s' => R (.error e) s') s) :=
  MeetsIn.of_wp fun A R s hs => by
    have f1 := F.conv_sub_bool
    repeat (any_goals (first | (with_reducible refine mono_truthy hs fun b s' hz => ?_) | wp_step))
    all_goals first | exact ⟨_, rfl, by assumption⟩ | skip
/-- bool(o) -/
theorem call_bool_own (O : Own X.prog X.w X.K X.mg X.base k C "__bool__" ps sp) (hr : Room (k + 2) X.A) : CallR X (.type "bool") (fun xs H Q => ∃ x, xs = [x] ∧ rOwnTr C sp x H fun b H' => Q (.bl b) H') := by
  intro pins s σ H xs us Q I r h
  obtain ⟨x, rfl, a, dx, fs, rfl, ea, q⟩ := h
  obtain rfl := Vals.ref1 r
  refine callType_newIn F.called_bool F.newNe_bool (F.typeCall_bool_1 _) (F.newCall_bool_1 _) (fun obj => F.args_object_init_2 obj _) F.entry_bool_new (bool_new_in X.prog X.w a) ?_
  exact truthy_own O hr.in1.in1 rfl I ea q fun b H' s' I' z => ⟨rfl, .bl b, H', I', rfl, z⟩
/-- C(e, ..) by a local name that holds the class -/
def tMakeL (i : Nat) (C : Addr) (sp : Sp) (t : TA) : TE := fun σ H Q => σ[i]? = some (some (.ref C)) ∧ tMake C sp [] E0 t σ H Q
theorem pe_makeL {f : Addr} {fd : FuncData} {i : Nat} {x : Str} {p pos : Pos} {e : Expr} {es : List Expr} {t : TA} (M : Mk X.K C f) (F : FnOk X.prog X.w X.K X.mg X.base CX0 k f fd ps sp) (hr : Room (k + 1) X.A) (hb : Binds X.K fd ps []) (ha : PA X (e :: es) t)
    (hN : X.N[i]? = some x := by rfl) (hv : Vis X.env.scope x := by first | exact Or.inl rfl | exact Or.inr (Or.inl rfl) | exact Or.inr (Or.inr rfl))
    (hdb : (x == ("__debug__" : Str)) = false := by decide) (hcd : (x == ("__classdict__" : Str)) = false := by decide)
    (hst : starEach (e :: es) X.env = (false, eval e X.env) :: starEach es X.env := by rfl) (hpl : (backTo pos (starEach es X.env)).any (·.1) = false := by rfl) : PE X (.Call (.Name x p) (e :: es) [] pos) (tMakeL i C sp t) := by
  refine ⟨fun pins s σ H Q I h => ?_⟩
  obtain ⟨hs, ht⟩ := h
  have hx := pe_var (X := X) (pos := p) hN hv hdb hcd
  refine wpAny_Call_Name_kw (thn (hx.run pins s σ H (fun v H1 => v = .ref C ∧ H1 = H) I ⟨.ref C, hs, rfl, rfl⟩) fun u s1 ⟨v, H1, I1, r1, q1⟩ => ?_)
  obtain ⟨rfl, rfl⟩ := q1
  cases r1
  exact PySem.W.callWith_K (h₀ := X.base) I.ok.mod.kin M.kp (thn (ha.run pos pins s1 σ _ _ I1 ht) fun us s2 ⟨vs, H2, I2, r, q⟩ => ⟨I2.kIn, run_make M F hr hb .nil pass0 I2 r q⟩) hst hpl
end
end Ef
set_option Elab.async false
set_option linter.all false
set_option maxRecDepth 100000
set_option maxHeartbeats 2000000
/-! comparisons by a class's own methods -/
namespace Ef
open PySem PySem.Spec PyProof.Rows L2
section
variable {X : Cx} {pins : List (Addr × Obj)} {σ : L2.St} {H : Hp} {s : Shared} {Q : VK} {k : Nat} {C a dx : Addr} {fs : List (Str × V)} {m : Str} {ps : List Str} {sp : Sp} {A : Around} {E' : Value → Shared → Prop}
/-- a slot of the class that holds a def: its call as a special one -/
theorem own_ifBound {args : List Value} {vs : List V} {R : Option Value → Shared → Prop} (O : Own X.prog X.w X.K X.mg X.base k C m ps sp) (hr : Room k A) (hfr : A.frames = X.A.frames) (I : Inv X pins σ H s) (ea : H a = some (.ins C dx fs)) (r : Vals vs args)
    (h : sp (.ref a :: vs) H Q E0) (hR : ∀ u s', EP X pins σ Q u s' → R (some u) s') : wpAny (model X.prog X.w) A (callSpecialIfBound? (.ref a) m args) R E' s := by
  obtain ⟨f, fd, hf, hi, ht, hk, hb, F⟩ := O.ex
  obtain ⟨mA, OM, _⟩ := ins_get I.hok ea
  obtain ⟨od, J, _⟩ := OM.look
  exact PySem.W.ifBound_K I.kIn J hf hi (wpAny_mono (run_low (us := .ref a :: args) (vs := .ref a :: vs) F hr hfr hb I (.cons rfl r) h) (fun u s' z => hR u s' z) fun _ _ z => z)
/-- what stands on the other side: of the same class, or a value of a built-in type -/
def Side (K : PySem.W.Frag) (C : Addr) (H : Hp) (y : V) : Prop := (∃ b dx fs, y = .ref b ∧ H b = some (.ins C dx fs)) ∨ (∃ b xs, y = .ref b ∧ H b = some (.lst xs))
/-- its type, and whether that is below the class -/
theorem side_type {y : V} {u : Value} {M : Model} (I : Inv X pins σ H s) (r : RelV y u) (h : Side X.K C H y) (hsub : PySem.W.subIn X.K (.type "list") (.ref C) = some false) : ∃ t : Value, PySem.W.Looks M s.heap (typeOf u) t ∧ ((t = .ref C) ∨ ((t != .ref C) = true ∧ PySem.W.Looks M s.heap (isSubtype t (.ref C)) false)) := by
  rcases h with ⟨b, dx, fs, rfl, e⟩ | ⟨b, xs, rfl, e⟩
  · cases r
    obtain ⟨mA, OM, _⟩ := ins_get I.hok e
    obtain ⟨od, J, _⟩ := OM.look
    exact ⟨.ref C, J.type, .inl rfl⟩
  · cases r
    obtain ⟨its, _, ht, _⟩ := I.list (.inl (.inl e))
    obtain ⟨o, ho, hc, _⟩ := ht.isList
    exact ⟨.type "list", fun A Q E s k q => wpAny_typeOf_ref (k b o ho) (by rw [hc]; exact q), .inr ⟨rfl, PySem.W.looks_subIn I.kIn hsub⟩⟩
def rOwnCmp (C : Addr) (sp : Sp) (K : PySem.W.Frag) (neg : Bool) : R2 := fun x y H Q => ∃ (a dx : Addr) (fs : List (Str × V)), x = .ref a ∧ H a = some (.ins C dx fs) ∧ Side K C H y ∧ sp [.ref a, y] H (fun v H' => ∃ b, v = .bl b ∧ Q (.bl (if neg = true then !b else b)) H') E0
/-- a op y by the left one's own method -/
theorem rich_own {op : CmpOp} {sym : String} {f r : Str} {y : V} {u : Value} {R : Value → Shared → Prop} {Qb : Bool → Hp → Prop} (hop : cmpInfo op = (sym, f, r)) (O : Own X.prog X.w X.K X.mg X.base k C f ps sp) (hr : Room k A) (hfr : A.frames = X.A.frames) (hsub : PySem.W.subIn X.K (.type "list") (.ref C) = some false)
    (I : Inv X pins σ H s) (ea : H a = some (.ins C dx fs)) (ry : RelV y u) (hs : Side X.K C H y) (h : sp [.ref a, y] H (fun v H' => ∃ b, v = .bl b ∧ Qb b H') E0) (hR : ∀ b H' s', Inv X pins σ H' s' → Qb b H' → R (.bool b) s') :
    wpAny (model X.prog X.w) A (richCompare op (.ref a) u) R E' s := by
  obtain ⟨mA, OM, _⟩ := ins_get I.hok ea
  obtain ⟨od, J, _⟩ := OM.look
  obtain ⟨t, Lt, ht⟩ := side_type (M := model X.prog X.w) I ry hs hsub
  have fin : wpAny (model X.prog X.w) A (tryCompare (.ref a) f u) (fun o s' => ∃ b H', o = some (.bool b) ∧ Inv X pins σ H' s' ∧ Qb b H') E' s := by
    unfold tryCompare
    refine wpAny_bind (own_ifBound (vs := [y]) O hr hfr I ea (.cons ry .nil) h fun w' s' hz => ?_)
    obtain ⟨v, H', I', rv, b, rfl, q⟩ := hz
    cases rv
    exact wpAny_pure ⟨b, H', rfl, I', q⟩
  unfold richCompare
  refine wpAny_holding (wpAny_bind (wpAny_cRoomFor (by have := hr.un; omega) ?_))
  rw [oneThing_ref]
  dsimp only
  rw [hop]
  dsimp only
  refine wpAny_bind (J.type.here (wpAny_bind (Lt.here ?_)))
  rcases ht with rfl | ⟨hne, Ls⟩
  · rw [if_neg (by simp)]
    refine wpAny_bind (wpAny_pure ?_)
    rw [if_neg (by decide)]
    refine wpAny_bind (wpAny_mono fin (fun o s' ⟨b, H', e, I', q⟩ => ?_) fun _ _ z => z)
    subst e
    exact wpAny_pure (hR b H' s' I' q)
  · have hne' : (Value.ref C != t) = true := by
      rw [bne_iff_ne] at hne ⊢
      exact fun z => hne z.symm
    rw [if_pos hne']
    refine wpAny_bind (Ls.here ?_)
    rw [if_neg (by decide)]
    refine wpAny_bind (wpAny_mono fin (fun o s' ⟨b, H', e, I', q⟩ => ?_) fun _ _ z => z)
    subst e
    exact wpAny_pure (hR b H' s' I' q)
/-- a op b by the left one's own method -/
theorem op_own {op : CmpOp} {sym : String} {f r : Str} (hop : cmpInfo op = (sym, f, r)) (hc : compareOp op = richCompare op) (O : Own X.prog X.w X.K X.mg X.base k C f ps sp) (hr : Room k X.A) (hsub : PySem.W.subIn X.K (.type "list") (.ref C) = some false) : OpR X (compareOp op) (rOwnCmp C sp X.K false) := by
  intro pins s σ H x y v u Q I rx ry h
  obtain ⟨a, dx, fs, rfl, ea, hs, q⟩ := h
  cases rx
  rw [hc]
  exact rich_own hop O hr rfl hsub I ea ry hs q fun b H' s' I' z => ⟨.bl b, H', I', rfl, z⟩
/-- a != b by the left one's own __eq__, where the class has no own __ne__ -/
theorem try_ne {y : V} {u : Value} {Qb : Bool → Hp → Prop} (O : Own X.prog X.w X.K X.mg X.base k C "__eq__" ps sp) (hr : Room (k + 1) A) (hfr : A.frames = X.A.frames) (hne : PySem.W.findIn X.K (.ref C) "__ne__" = some (some (.builtin "object.__ne__"))) (hmro : PySem.W.mroIn X.K C (.type "object") = some true)
    (I : Inv X pins σ H s) (ea : H a = some (.ins C dx fs)) (ry : RelV y u) (h : sp [.ref a, y] H (fun v H' => ∃ b, v = .bl b ∧ Qb b H') E0) :
    wpAny (model X.prog X.w) A (tryCompare (.ref a) "__ne__" u) (fun o s' => ∃ b H', o = some (.bool (!b)) ∧ Inv X pins σ H' s' ∧ Qb b H') E' s := by
  obtain ⟨mA, OM, _⟩ := ins_get I.hok ea
  obtain ⟨od, J, _⟩ := OM.look
  have body : wpAny (model X.prog X.w) A.in1 (Builtin.«object.__ne__» ⟨[.ref a, u], []⟩) (fun fin s' => ∃ b H', fin = Fin.done (Flow.ret (.bool (!b))) ∧ Inv X pins σ H' s' ∧ Qb b H') E' s := by
    unfold Builtin.«object.__ne__»
    refine wpAny_bind ?_
    unfold slotArgs
    refine wpAny_ite_false rfl (wpAny_ite_false rfl (wpAny_pure ?_))
    refine wpAny_bind (wpAny_cRoomFor (by have := hr.in1.un; omega) ?_)
    refine wpAny_bind (own_ifBound (vs := [y]) O hr.in1 (hfr) I ea (.cons ry .nil) h fun w' s' hz => ?_)
    obtain ⟨v, H', I', rv, b, rfl, q⟩ := hz
    cases rv
    refine wpAny_bind (wpAny_truthy_bool ?_)
    exact wpAny_pure ⟨b, H', rfl, I', q⟩
  have cl : wpAny (model X.prog X.w) A (call (.builtin "object.__ne__") [.ref a, u]) (fun v s' => ∃ b H', v = .bool (!b) ∧ Inv X pins σ H' s' ∧ Qb b H') E' s := by
    refine wpAny_call (codeAny_call_builtin F.cmp_object.ne.plain F.cmpEntry_ne (PySem.W.check_slot F.cmpKind_ne F.cmpSplit_ne (PySem.W.Looks.andThen J.type (PySem.W.looks_mroIn I.kIn hmro)) (F.cmpArgs_ne (.ref a) u) (wpAny_mono body (fun fin s' ⟨b, H', e, I', q⟩ => ?_) fun _ _ z => z)))
    subst e
    exact ⟨b, H', rfl, I', q⟩
  unfold tryCompare callSpecialIfBound? bindSpecialIfBound?
  refine wpAny_bind (wpAny_holding (wpAny_bind (wpAny_bind (wpAny_bind (J.type.here ((PySem.W.looks_findIn I.kIn hne).here ?_))))))
  have fin : wpAny (model X.prog X.w) A (do let r ← call (.builtin "object.__ne__") [.ref a, u]; pure (some r)) (fun o s' => wpAny (model X.prog X.w) A (match o with | some Value.notImplemented => pure none | none => pure none | some v => pure (some v)) (fun o s' => ∃ b H', o = some (.bool (!b)) ∧ Inv X pins σ H' s' ∧ Qb b H') E' s') E' s := by
    refine wpAny_bind (wpAny_mono cl (fun v s' ⟨b, H', e, I', q⟩ => wpAny_pure ?_) fun _ _ z => z)
    subst e
    exact wpAny_pure ⟨b, H', rfl, I', q⟩
  refine wpAny_bind (wpAny_askSetting (wpAny_ite ?_))
  split
  · exact wpAny_bind (wpAny_of_eq (F.cmp_object.ne.bind (.ref a)) (wpAny_pure fin))
  · exact wpAny_tryCatch (wpAny_bind (wpAny_of_eq (F.cmp_object.ne.bind (.ref a)) (wpAny_pure fin)))
theorem op_ne_own (O : Own X.prog X.w X.K X.mg X.base k C "__eq__" ps sp) (hr : Room (k + 1) X.A) (hsub : PySem.W.subIn X.K (.type "list") (.ref C) = some false) (hne : PySem.W.findIn X.K (.ref C) "__ne__" = some (some (.builtin "object.__ne__"))) (hmro : PySem.W.mroIn X.K C (.type "object") = some true) : OpR X (compareOp .NotEq) (rOwnCmp C sp X.K true) := by
  intro pins s σ H x y v u Q I rx ry h
  obtain ⟨a, dx, fs, rfl, ea, hs, q⟩ := h
  cases rx
  show wpAny _ _ (richCompare .NotEq (.ref a) u) _ _ _
  obtain ⟨mA, OM, _⟩ := ins_get I.hok ea
  obtain ⟨od, J, _⟩ := OM.look
  obtain ⟨t, Lt, ht⟩ := side_type (M := model X.prog X.w) I ry hs hsub
  have fin := try_ne (E' := X.xe) O hr rfl hne hmro I ea ry q
  unfold richCompare
  refine wpAny_holding (wpAny_bind (wpAny_cRoomFor (by have := hr.un; omega) ?_))
  rw [oneThing_ref]
  dsimp only [cmpInfo]
  refine wpAny_bind (J.type.here (wpAny_bind (Lt.here ?_)))
  rcases ht with rfl | ⟨hne, Ls⟩
  · rw [if_neg (by simp)]
    refine wpAny_bind (wpAny_pure ?_)
    rw [if_neg (by decide)]
    refine wpAny_bind (wpAny_mono fin (fun o s' ⟨b, H', e, I', q⟩ => ?_) fun _ _ z => z)
    subst e
    exact wpAny_pure ⟨.bl (!b), H', I', rfl, q⟩
  · have hne' : (Value.ref C != t) = true := by
      rw [bne_iff_ne] at hne ⊢
      exact fun z => hne z.symm
    rw [if_pos hne']
    refine wpAny_bind (Ls.here ?_)
    rw [if_neg (by decide)]
    refine wpAny_bind (wpAny_mono fin (fun o s' ⟨b, H', e, I', q⟩ => ?_) fun _ _ z => z)
    subst e
    exact wpAny_pure ⟨.bl (!b), H', I', rfl, q⟩
end
end Ef
set_option Elab.async false
set_option linter.all false
set_option maxRecDepth 100000
set_option maxHeartbeats 4000000
namespace Ef
open PySem PySem.Spec PyProof.Rows L2
abbrev sTrim : Stmt := top 14
abbrev sCom : Stmt := top 15
abbrev sCheck : Stmt := top 24
structure TxtQ (mg : Str → Option Value) : Prop extends TxtW mg where
  gcd : mg "gcd" = some (.builtin "math.gcd")
theorem Same.tup {K : PySem.W.Frag} {H H' : Hp} {a : Addr} {xs : List V} (e : Same H H') (h : SqT K H a xs) : SqT K H' a xs := by
  rcases h with (h | ⟨o, h⟩) | h
  · exact .inl (.inl (e _ _ h))
  · exact .inl (.inr ⟨o, e _ _ h⟩)
  · exact .inr h
theorem same_new {H : Hp} {p : Addr} {o : HO} (h : H p = none) : Same H (upd H p o) := fun b x e => by rw [upd_ne (ne_of_none e h)]; exact e
theorem same_mut {H0 H : Hp} {p : Addr} {o : HO} (h : Same H0 H) (hp : H0 p = none) : Same H0 (upd H p o) := fun b x e => by rw [upd_ne (ne_of_none e hp)]; exact h b x e
theorem dint (a b : Int) : decide (V.int a = V.int b) = decide (a = b) := by
  by_cases h : a = b
  · rw [decide_eq_true h, decide_eq_true (by rw [h])]
  · rw [decide_eq_false h, decide_eq_false (fun z => h (V.int.inj z))]
/-- a list or a tuple -/
def Seqs (K : PySem.W.Frag) (H : Hp) (a : Addr) (xs : List V) : Prop := SqL K H a xs ∨ SqT K H a xs
theorem Seqs.same {K : PySem.W.Frag} {H H' : Hp} {a : Addr} {xs : List V} (h : Seqs K H a xs) (e : Same H H') : Seqs K H' a xs := h.elim (fun h => .inl (e.seq h)) fun h => .inr (Same.tup e h)
theorem get_int {r : List Int} {k : Nat} (h : k < r.length) : ∃ c, r[k]? = some c ∧ (r.map V.int)[k]? = some (.int c) := ⟨r[k], List.getElem?_eq_getElem h, by rw [List.getElem?_map, List.getElem?_eq_getElem h]; rfl⟩
theorem atI_of {xs : List V} {i : Int} {j : Nat} {v : V} (e : i = (j : Int)) (h : xs[j]? = some v) : atI xs i = some v := at_of e h
theorem cut_hi (xs : List V) (k : Nat) (hk : k ≤ xs.length) : cutV xs none (some (k : Int)) = xs.take k := by
  unfold cutV
  rw [HT.sIx_none, HT.sIx_nat, Nat.min_eq_left hk, List.drop_zero, Nat.sub_zero]
theorem sl_seqs {K : PySem.W.Frag} {H : Hp} {a : Addr} {xs : List V} {lo hi : Option Int} {Q : VK} (h : Seqs K H a xs) (q : ∀ p H', Same H H' → Seqs K H' p (cutV xs lo hi) → Q (.ref p) H') : rSlL K (.ref a) lo hi H Q ∨ rSlA K (.ref a) lo hi H Q := by
  rcases h with h | h
  · exact .inl ⟨a, _, rfl, h, fun p hp => q p _ (same_new hp) (.inl (.inl (.inl upd_same)))⟩
  · refine .inr ⟨a, _, rfl, h, fun hw => ?_, fun hw p hp => q p _ (same_new hp) (.inr (.inl (.inl upd_same)))⟩
    refine q a H (Same.refl H) ?_
    have e2 : cutV xs lo hi = xs := by
      unfold cutV
      rw [hw.1, hw.2, List.drop_zero, Nat.sub_zero, List.take_length]
    rw [e2]
    exact .inr h
theorem ix_seqs {K : PySem.W.Frag} {H : Hp} {a : Addr} {xs : List V} {i : Int} {v : V} {Q : VK} (h : Seqs K H a xs) (e : atI xs i = some v) (q : Q v H) : rIx K (.ref a) (.int i) H Q := by
  rcases h with h | h
  · exact .inl ⟨a, _, _, _, rfl, rfl, h, e, q⟩
  · exact .inr (.inl ⟨a, _, _, _, rfl, rfl, h, e, q⟩)
section
variable {P : Program} {w : World} {K : PySem.W.Frag} {mg : Str → Option Value} {base : Heap}
/-! ### trimmed -/
def spTrim (K : PySem.W.Frag) : Sp := fun vs H Q _ => ∃ (a : Addr) (r : List Int), vs = [.ref a] ∧ Seqs K H a (r.map V.int) ∧ r.length ≤ 100 ∧ ∀ H' l t, Same H H' → H' l = some (.lst (t.map V.int)) → TrimOk r t → Q (.ref l) H'
theorem scTrim : FnScope ["row", "size"] ["row"] (defScope sTrim) := ⟨rfl, rfl, rfl, by decide +kernel, rfl, by decide +kernel, by decide +kernel⟩
theorem df_trim (A : At K mg "trimmed" sTrim) (T : TxtW mg) : Df P w K mg base 1 "trimmed" ["row"] (spTrim K) := by
  obtain ⟨f, fd, hm, F⟩ := A.ex
  refine ⟨f, fd, hm, F.kp, F.binds (fun _ _ _ _ _ _ us hl => match us, hl with | [_], _ => rfl), F.ok scTrim (fun vs H Q E h => ?_) (fun cdv A outer s H vs Q E hr h => ?_)⟩
  · obtain ⟨a, r, rfl, _⟩ := h
    rfl
  · obtain ⟨a, r, rfl, hS, hl, q⟩ := h
    refine ⟨_, (pss_cons (ps_set (i := 1) scTrim.nd rfl (.inl rfl) (pe_callB call_len_seq (by rfl) T.len PySem.boot_len (pa_cons (pv 0) pa_nil)))
      (pss_cons (ps_while PassesOwn.never (pw_and (pt_cmpR op_gt (pv 1) pe_int (nomark _)) (pw_and1 (pt_cmpR op_eq (pe_ix ix_seq (pv 0) (pe_op op_sub (pv 1) pe_int) (fun _ _ => rfl)) pe_int (nomark _)))).pt
      (pss_one (ps_set (i := 1) scTrim.nd rfl (.inl rfl) (pe_op op_sub (pv 1) pe_int))))
      (pss_one (ps_ret (pe_callTy call_list_of (by rfl) T.list (by decide +kernel) (pa_cons (pe_slice (sl_list.or sl_tupA) (pv 0) po_none (po_some (pv 1))) pa_nil)))))), ?_⟩
    refine ⟨_, rfl, a, _, rfl, hS, ?_⟩
    refine ⟨fun m σ H' => H' = H ∧ m ≤ r.length ∧ σ = [some (.ref a), some (.int (m : Int))] ∧ ∀ j, m ≤ j → j < r.length → r[j]? = some 0, ⟨r.length, rfl, Nat.le_refl _, by rw [List.length_map]; rfl, fun j h1 h2 => absurd h2 (by omega)⟩, fun m σ H' hW => ?_⟩
    obtain ⟨rfl, hm2, rfl, hz⟩ := hW
    have fin : ∀ (hk : m = 0 ∨ ∃ c, r[m - 1]? = some c ∧ c ≠ 0) (xs : List V), xs = (r.take m).map V.int → ∀ H1, Same H' H1 → ∀ l, H1 l = none → Q (.ref l) (upd H1 l (.lst xs)) := fun hk xs ex H1 s1 l hl' =>
      q _ l (r.take m) (s1.trans (same_new hl')) (by rw [upd_same, ex]) ⟨m, hm2, rfl, hz, hk⟩
    have ecut : cutV (r.map V.int) none (some (m : Int)) = (r.take m).map V.int := by rw [cut_hi _ m (by rw [List.length_map]; exact hm2), List.map_take]
    refine ⟨_, rfl, _, _, rfl, rfl, _, rfl, ?_⟩
    cases m with
    | zero =>
      refine iteF ?_
      refine ⟨_, rfl, _, rfl, _, rfl, sl_seqs hS fun p H1 s1 hp => ?_⟩
      exact ⟨p, _, rfl, hp, fin (.inl rfl) _ ecut H1 s1⟩
    | succ k =>
      rw [decide_eq_true (show (0 : Int) < ((k + 1 : Nat) : Int) by omega)]
      obtain ⟨c, hc, hc2⟩ := get_int (r := r) (k := k) (by omega)
      refine iteT ⟨_, rfl, _, rfl, _, _, rfl, rfl, ix_seqs hS (atI_of (j := k) (by omega) hc2) ⟨rfl, _, rfl, ?_⟩⟩
      rw [dint]
      refine ite2 (fun hb => ?_) (fun hb => ?_)
      · have hc0 := of_decide_eq_true hb
        subst hc0
        refine ⟨fun σ H2 => H2 = H' ∧ σ = [some (.ref a), some (.int (k : Int))], fun σ' H2 ⟨e1, e2⟩ => ⟨k, Nat.lt_succ_self k, e1, by omega, e2, fun j h1 h2 => ?_⟩, _, rfl, _, _, rfl, rfl, rfl, by show [some (V.ref a), some (V.int (((k + 1 : Nat) : Int) - 1))] = _; rw [show ((k + 1 : Nat) : Int) - 1 = (k : Int) by omega]⟩
        rcases Nat.lt_or_ge j (k + 1) with z | z
        · have e : j = k := by omega
          rw [e]; exact hc
        · exact hz j z h2
      · refine ⟨_, rfl, _, rfl, _, rfl, sl_seqs hS fun p H1 s1 hp => ?_⟩
        exact ⟨p, _, rfl, hp, fin (.inr ⟨c, hc, fun z => hb (decide_eq_true z)⟩) _ ecut H1 s1⟩
/-! ### common_divisor -/
def spCom (K : PySem.W.Frag) : Sp := fun vs H Q _ => ∃ (a : Addr) (t : List Int) (f : Nat), vs = [.int f, .ref a] ∧ SqL K H a (t.map V.int) ∧ Q (.int (gcdR f t : Nat)) H
theorem scCom : FnScope ["first", "row", "shared", "number"] ["first", "row"] (defScope sCom) := ⟨rfl, rfl, rfl, by decide +kernel, rfl, by decide +kernel, by decide +kernel⟩
theorem df_com (A : At K mg "common_divisor" sCom) (T : TxtQ mg) : Df P w K mg base 1 "common_divisor" ["first", "row"] (spCom K) := by
  obtain ⟨f, fd, hm, F⟩ := A.ex
  refine ⟨f, fd, hm, F.kp, F.binds (fun _ _ _ _ _ _ us hl => match us, hl with | [_, _], _ => rfl), F.ok scCom (fun vs H Q E h => ?_) (fun cdv A outer s H vs Q E hr h => ?_)⟩
  · obtain ⟨a, t, f, rfl, _⟩ := h
    rfl
  · obtain ⟨a, t, f, rfl, hS, q⟩ := h
    refine ⟨_, (pss_cons (ps_set (i := 2) scCom.nd rfl (.inl rfl) (pv 0))
      (pss_cons (ps_for PassesOwn.never rfl (pi_list (pv 1)) (pg_name (i := 3) scCom.nd rfl (.inl rfl))
      (pss_cons (ps_if (pt_cmpR op_eq (pv 2) pe_int (nomark _)) (pss_one (ps_ret pe_int)) pss_nil)
      (pss_one (ps_set (i := 2) scCom.nd rfl (.inl rfl) (pe_callBfun cr_gcd (by rfl) T.gcd (pa_cons (pv 2) (pa_cons (pv 3) pa_nil)))))))
      (pss_one (ps_ret (pv 2))))), ?_⟩
    refine ⟨_, rfl, _, rfl, a, rfl, ⟨_, hS⟩, for_list (K := K) (a := a) (xs := t.map V.int) (fun i σ H' => H' = H ∧ ∃ y : Option V, σ = [some (.int f), some (.ref a), some (.int (gcdR f (t.take i) : Nat)), y])
      ⟨rfl, none, rfl⟩ (fun i σ H' _ ⟨e, _⟩ => e ▸ hS) ?_ ?_⟩
    · rintro i x σ H' hi ⟨rfl, y, rfl⟩
      rw [List.getElem?_map] at hi
      obtain ⟨c, hc, rfl⟩ := Option.map_eq_some_iff.mp hi
      refine ⟨_, rfl, rfl, _, rfl, ?_⟩
      rw [dint]
      refine ite2 (fun hb => ?_) (fun hb => ?_)
      · have h1 : gcdR f (t.take i) = 1 := by have := of_decide_eq_true hb; omega
        have h2 : gcdR f t = 1 := by
          have e : gcdR f t = gcdR (gcdR f (t.take i)) (t.drop i) := by
            unfold gcdR
            rw [← List.foldl_append, List.take_append_drop]
          rw [e, h1, gcdR_one]
        rw [h2] at q
        exact q
      · exact ⟨_, rfl, _, rfl, _, _, rfl, rfl, some (.int c), by rw [gcdR_take_succ hc]; rfl⟩
    · rintro σ H' ⟨rfl, y, rfl⟩
      rw [List.length_map, List.take_length]
      exact ⟨_, rfl, q⟩
/-! ### errors with one field -/
/-- the error class x at C with one field f -/
structure ErrF (K : PySem.W.Frag) (mg : Str → Option Value) (x fl : Str) (C fI : Addr) : Prop where
  oex : OexC K C
  mgC : mg x = some (.ref C)
  iC : PySem.W.findIn K (.ref C) "__init__" = some (some (.ref fI))
  tI : PySem.W.typeIn K (.ref fI) = some (.type "function")
  nN : PySem.W.findIn K (.ref C) fl = some none
  xf : XfC K C
def spErr (K : PySem.W.Frag) (C : Addr) (fl : Str) : Sp := fun vs H Q _ => ∃ (a : Addr) (v : V), vs = [.ref a, v] ∧ H a = some (exo a C none) ∧ ∀ dx, H dx = none → dx ≠ a → Q .non (upd (upd H dx (exd dx [(fl, v)])) a (exo a C (some dx)))
/-- an error made and flying -/
theorem mk_err {C : Addr} {fl : Str} {H : Hp} {v : V} {R : XK} (h : ∀ d H', Same H H' → H d = none → H' d = some (.xd [(fl, v)]) → R (.ref C) (some d) H') :
    [v].length ≤ 1000 ∧ ∀ a, H a = none → spErr K C fl (.ref a :: ([v] ++ [])) (upd H a (exo a C none)) (fun v H2 => v = .non ∧ ∃ (d : Addr) (fs : List (Str × V)), H2 a = some (exo a C (some d)) ∧ H2 d = some (exd d fs) ∧ H d = none ∧ R (.ref C) (some d) (upd (del H2 a) d (.xd fs))) (fun _ _ _ => False) := by
  refine ⟨by show 1 ≤ 1000; decide, fun a ha => ⟨a, v, rfl, upd_same, fun dx h1 h2 => ⟨rfl, dx, _, upd_same, by rw [upd_ne h2, upd_same], ?_, ?_⟩⟩⟩
  · rw [upd_ne h2] at h1; exact h1
  · have hdx : H dx = none := by rw [upd_ne h2] at h1; exact h1
    refine h dx _ (fun b o e => ?_) hdx upd_same
    have nb : b ≠ dx := ne_of_none e hdx
    have na : b ≠ a := ne_of_none e ha
    rw [upd_ne nb]
    unfold del
    rw [if_neg na, upd_ne na, upd_ne nb, upd_ne na]
    exact e
theorem NotInt.same {H H' : Hp} {v : V} (h : NotInt K H v) (e : Same H H') : NotInt K H' v := by
  obtain ⟨n, b1, b2, ht, h1, h2, h3⟩ := h
  refine ⟨n, b1, b2, ?_, h1, h2, h3⟩
  cases ht with
  | base hb =>
    cases hb with
    | non => exact .base .non
    | bl x => exact .base (.bl x)
    | int x => exact .base (.int x)
    | str x => exact .base (.str x)
    | flt x => exact .base (.flt x)
    | lst h => exact .base (.lst (e _ _ h))
    | frz h => exact .base (.frz (e _ _ h))
    | tup h => exact .base (.tup (e _ _ h))
    | dK h => exact .base (.dK (e _ _ h))
    | dT h => exact .base (.dT (e _ _ h))
  | byt b => exact .byt b
  | set h => exact .set (e _ _ h)
  | kList h h' => exact .kList h h'
  | kTuple h h' => exact .kTuple h h'
  | kDict h h' => exact .kDict h h'
  | fTuple h => exact .fTuple (e _ _ h)
  | fDict h => exact .fDict (e _ _ h)
/-! ### _check_row -/
def spCheck (K : PySem.W.Frag) (CR : Addr) : Sp := fun vs H Q E => ∃ (a : Addr) (xs : List V), vs = [.ref a] ∧ Seqs K H a xs ∧ xs.length ≤ 1000 ∧
  ((∃ r : List Int, xs = r.map V.int ∧ ∀ H', Same H H' → Q .non H') ∨ (∃ (r : List Int) (v : V) (ys : List V), xs = r.map V.int ++ v :: ys ∧ NotInt K H v ∧ ∀ d H', Same H H' → H d = none → H' d = some (.xd [("index", .int (r.length : Int))]) → E (.ref CR) (some d) H'))
theorem scCheck : FnScope ["row", "index", "number"] ["row"] (defScope sCheck) := ⟨rfl, rfl, rfl, by decide +kernel, rfl, by decide +kernel, by decide +kernel⟩
/-- the first members are whole numbers -/
theorem check_step {K : PySem.W.Frag} {H H3 : Hp} {CR : Addr} {xs : List V} {i : Nat} {x : V} {Q : VK} {E : XK} (hx : xs[i]? = some x) (sm : Same H H3)
    (q : (∃ r : List Int, xs = r.map V.int ∧ ∀ H', Same H H' → Q .non H') ∨ (∃ (r : List Int) (v : V) (ys : List V), xs = r.map V.int ++ v :: ys ∧ NotInt K H v ∧ ∀ d H', Same H H' → H d = none → H' d = some (.xd [("index", .int (r.length : Int))]) → E (.ref CR) (some d) H'))
    (hi : ∀ (r : List Int) (v : V) (ys : List V), xs = r.map V.int ++ v :: ys → NotInt K H v → i ≤ r.length) :
    (∃ c, x = .int c ∧ ∀ (r : List Int) (v : V) (ys : List V), xs = r.map V.int ++ v :: ys → NotInt K H v → i + 1 ≤ r.length) ∨ (NotInt K H x ∧ ∀ d H', Same H H' → H d = none → H' d = some (.xd [("index", .int (i : Int))]) → E (.ref CR) (some d) H') := by
  rcases q with ⟨r, rfl, q⟩ | ⟨r, v, ys, rfl, hN, q⟩
  · rw [List.getElem?_map] at hx
    obtain ⟨c, hc, rfl⟩ := Option.map_eq_some_iff.mp hx
    refine .inl ⟨c, rfl, fun r2 v ys e hN => ?_⟩
    have h1 := hi r2 v ys e hN
    rcases Nat.lt_or_ge i r2.length with z | z
    · exact z
    · have ei : i = r2.length := by omega
      have e2 : (r.map V.int)[i]? = some v := by rw [e, ei, List.getElem?_append_right (by rw [List.length_map]; exact Nat.le_refl _), List.length_map, Nat.sub_self]; rfl
      rw [List.getElem?_map, hc] at e2
      injection e2 with e2
      obtain ⟨n, b1, b2, ht, k1, k2, k3⟩ := hN
      rw [← e2] at ht
      cases ht with
      | base hb =>
        cases hb
        have h1 : kitB "int" "int" = some true := by decide +kernel
        have h2 : kitB "int" "bool" = some false := by decide +kernel
        rw [h1] at k1; rw [h2] at k2
        injection k1 with k1; injection k2 with k2
        rw [← k1, ← k2] at k3
        cases k3
  · have h1 := hi r v ys rfl hN
    rcases Nat.lt_or_ge i r.length with z | z
    · rw [List.getElem?_append_left (by rw [List.length_map]; exact z), List.getElem?_map] at hx
      obtain ⟨c, hc, rfl⟩ := Option.map_eq_some_iff.mp hx
      refine .inl ⟨c, rfl, fun r2 v2 ys2 e hN2 => ?_⟩
      have h2 := hi r2 v2 ys2 e hN2
      rcases Nat.lt_or_ge i r2.length with w | w
      · exact w
      · have ei : i = r2.length := by omega
        have e2 : (r.map V.int ++ v :: ys)[i]? = some v2 := by rw [e, ei, List.getElem?_append_right (by rw [List.length_map]; exact Nat.le_refl _), List.length_map, Nat.sub_self]; rfl
        rw [List.getElem?_append_left (by rw [List.length_map]; exact z), List.getElem?_map, hc] at e2
        injection e2 with e2
        obtain ⟨n, b1, b2, ht, k1, k2, k3⟩ := hN2
        rw [← e2] at ht
        cases ht with
        | base hb =>
          cases hb
          have h1 : kitB "int" "int" = some true := by decide +kernel
          have h2 : kitB "int" "bool" = some false := by decide +kernel
          rw [h1] at k1; rw [h2] at k2
          injection k1 with k1; injection k2 with k2
          rw [← k1, ← k2] at k3
          cases k3
    · have ei : i = r.length := by omega
      subst ei
      rw [List.getElem?_append_right (by rw [List.length_map]; exact Nat.le_refl _), List.length_map, Nat.sub_self] at hx
      injection hx with hx
      rw [← hx]
      exact .inr ⟨hN, q⟩
end
end Ef
set_option Elab.async false
set_option linter.all false
/-! x is not True, for any x -/
namespace Ef
open PySem PySem.Spec PyProof.Rows L2
/-- no truth value -/
def NoBl : V → Prop
  | .int _ => True
  | .non => True
  | .str _ => True
  | .ref _ => True
  | _ => False
def rNotX : R2 := fun x y H Q => ∃ b : Bool, y = .bl b ∧ ((∃ a : Bool, x = .bl a ∧ Q (.bl (!decide (a = b))) H) ∨ (NoBl x ∧ Q (.bl true) H))
theorem op_notX {X : Cx} : OpR X (compareOp .IsNot) rNotX := by
  intro pins s σ H x y v u Q I rx ry h
  obtain ⟨b, rfl, ⟨a, rfl, q⟩ | ⟨hn, q⟩⟩ := h
  · exact op_notBl pins s σ H _ _ v u Q I rx ry ⟨a, b, rfl, rfl, q⟩
  · cases ry
    have fin : isSame v (.bool b) = pure false → wpAny (model X.prog X.w) X.A (compareOp .IsNot v (.bool b)) (EP X pins σ Q) X.xe s := fun e => by
      show wpAny _ _ (isSame v (.bool b) >>= fun z => pure (Value.bool !z)) _ _ _
      rw [e]
      exact wpAny_bind (wpAny_pure (wpAny_pure ⟨.bl true, H, I, rfl, q⟩))
    cases x with
    | int i =>
      obtain ⟨t, rfl⟩ := rx
      exact fin rfl
    | non => cases rx; exact fin rfl
    | str x =>
      obtain ⟨t, rfl⟩ := rx
      exact fin rfl
    | ref a => cases rx; exact fin rfl
    | _ => exact hn.elim
end Ef
set_option Elab.async false
set_option linter.all false
/-! x is not True, for any x at all -/
namespace Ef
open PySem PySem.Spec PyProof.Rows L2
def rNotA : R2 := fun x y H Q => ∃ b : Bool, y = .bl b ∧ ((∃ a : Bool, x = .bl a ∧ Q (.bl (!decide (a = b))) H) ∨ ((∀ c, x ≠ .bl c) ∧ Q (.bl true) H))
theorem op_notA {X : Cx} : OpR X (compareOp .IsNot) rNotA := by
  intro pins s σ H x y v u Q I rx ry h
  obtain ⟨b, rfl, ⟨a, rfl, q⟩ | ⟨hn, q⟩⟩ := h
  · exact op_notBl pins s σ H _ _ v u Q I rx ry ⟨a, b, rfl, rfl, q⟩
  · cases ry
    have fin : isSame v (.bool b) = pure false → wpAny (model X.prog X.w) X.A (compareOp .IsNot v (.bool b)) (EP X pins σ Q) X.xe s := fun e => by
      show wpAny _ _ (isSame v (.bool b) >>= fun z => pure (Value.bool !z)) _ _ _
      rw [e]
      exact wpAny_bind (wpAny_pure (wpAny_pure ⟨.bl true, H, I, rfl, q⟩))
    cases x with
    | bl c => exact absurd rfl (hn c)
    | int i =>
      obtain ⟨t, rfl⟩ := rx
      exact fin rfl
    | non => cases rx; exact fin rfl
    | str x =>
      obtain ⟨t, rfl⟩ := rx
      exact fin rfl
    | ref a => cases rx; exact fin rfl
    | byt x => obtain ⟨t, rfl⟩ := rx; exact fin rfl
    | flt x => obtain ⟨t, rfl⟩ := rx; exact fin rfl
    | ty x => cases rx; exact fin rfl
theorem NoBl.all {v : V} (h : NoBl v) : ∀ c, v ≠ .bl c := fun c e => by subst e; exact h
end Ef
set_option Elab.async false
set_option linter.all false
/-! x is True, for any x at all; what is no integer -/
namespace Ef
open PySem PySem.Spec PyProof.Rows L2
def rIsA : R2 := fun x y H Q => ∃ b : Bool, y = .bl b ∧ ((∃ a : Bool, x = .bl a ∧ Q (.bl (decide (a = b))) H) ∨ ((∀ c, x ≠ .bl c) ∧ Q (.bl false) H))
theorem op_isA {X : Cx} : OpR X (compareOp .Is) rIsA := by
  intro pins s σ H x y v u Q I rx ry h
  obtain ⟨b, rfl, ⟨a, rfl, q⟩ | ⟨hn, q⟩⟩ := h
  · exact op_isBl pins s σ H _ _ v u Q I rx ry ⟨a, b, rfl, rfl, q⟩
  · cases ry
    have fin : isSame v (.bool b) = pure false → wpAny (model X.prog X.w) X.A (compareOp .Is v (.bool b)) (EP X pins σ Q) X.xe s := fun e => by
      show wpAny _ _ (isSame v (.bool b) >>= fun z => pure (Value.bool z)) _ _ _
      rw [e]
      exact wpAny_bind (wpAny_pure (wpAny_pure ⟨.bl false, H, I, rfl, q⟩))
    cases x with
    | bl c => exact absurd rfl (hn c)
    | int i =>
      obtain ⟨t, rfl⟩ := rx
      exact fin rfl
    | non => cases rx; exact fin rfl
    | str x =>
      obtain ⟨t, rfl⟩ := rx
      exact fin rfl
    | ref a => cases rx; exact fin rfl
    | byt x => obtain ⟨t, rfl⟩ := rx; exact fin rfl
    | flt x => obtain ⟨t, rfl⟩ := rx; exact fin rfl
    | ty x => cases rx; exact fin rfl
theorem ty_cases {K : PySem.W.Frag} {H : Hp} {v : V} {n : String} {b1 b2 : Bool} (t : TyX K H v (.type n)) (k1 : kitB n "int" = some b1) (k2 : kitB n "bool" = some b2) (hb : (b1 && !b2) = false) :
    (∃ c, v = .bl c) ∨ (b1 = false ∧ ∀ c, v ≠ .bl c) := by
  cases b1 with
  | false =>
    by_cases h : ∃ c, v = .bl c
    · exact .inl h
    · exact .inr ⟨rfl, fun c e => h ⟨c, e⟩⟩
  | true =>
    cases b2 with
    | false => cases hb
    | true =>
      have no : ∀ {m : String}, kitB m "bool" = some false → m = n → False := fun h e => by
        rw [e, k2] at h; cases h
      cases t with
      | base b =>
        cases b with
        | bl c => exact .inl ⟨c, rfl⟩
        | non => exact (no (by decide +kernel) rfl).elim
        | int i => exact (no (by decide +kernel) rfl).elim
        | str x => exact (no (by decide +kernel) rfl).elim
        | flt x => exact (no (by decide +kernel) rfl).elim
        | lst e => exact (no (by decide +kernel) rfl).elim
        | frz e => exact (no (by decide +kernel) rfl).elim
        | tup e => exact (no (by decide +kernel) rfl).elim
        | dK e => exact (no (by decide +kernel) rfl).elim
        | dT e => exact (no (by decide +kernel) rfl).elim
      | byt b => exact (no (by decide +kernel) rfl).elim
      | set e => exact (no (by decide +kernel) rfl).elim
      | kList e c => exact (no (by decide +kernel) rfl).elim
      | kTuple e c => exact (no (by decide +kernel) rfl).elim
      | kDict e c => exact (no (by decide +kernel) rfl).elim
      | fTuple e => exact (no (by decide +kernel) rfl).elim
      | fDict e => exact (no (by decide +kernel) rfl).elim
theorem kit_int : kitB "int" "int" = some true := by decide +kernel
theorem kit_boolint : kitB "bool" "int" = some true := by decide +kernel
end Ef
set_option Elab.async false
set_option linter.all false
set_option maxRecDepth 100000
set_option maxHeartbeats 4000000
namespace Ef
open PySem PySem.Spec PyProof.Rows L2
abbrev sErrR : Stmt := inClass (top 4) 0
abbrev sErrU : Stmt := inClass (top 5) 0
section
variable {P : Program} {w : World} {K : PySem.W.Frag} {mg : Str → Option Value} {base : Heap}
theorem scErrR : FnScope ["self", "index"] ["self", "index"] (defScope sErrR) := ⟨rfl, rfl, rfl, by decide +kernel, rfl, by decide +kernel, by decide +kernel⟩
theorem scErrU : FnScope ["self", "under"] ["self", "under"] (defScope sErrU) := ⟨rfl, rfl, rfl, by decide +kernel, rfl, by decide +kernel, by decide +kernel⟩
theorem ok_errR {f C fI : Addr} {fd : FuncData} (F : Fun K "__init__" "BadRow.__init__" sErrR f fd) (T : ErrF K mg "BadRow" "index" C fI) : FnOk P w K mg base CX0 1 f fd ["self", "index"] (spErr K C "index") := by
  refine F.ok scErrR (fun vs H Q E h => ?_) (fun cdv A outer s H vs Q E hr h => ?_)
  · obtain ⟨a, v, rfl, _⟩ := h
    rfl
  · obtain ⟨a, v, rfl, ha, q⟩ := h
    refine ⟨_, (pss_one (ps_ost (pv 0) (pv 1))), ?_⟩
    exact ⟨_, rfl, _, rfl, a, C, rfl, T.oex, T.nN, .inl ⟨ha, fun dx h1 h2 => q dx h1 h2⟩⟩
theorem ok_errU {f C fI : Addr} {fd : FuncData} (F : Fun K "__init__" "BadUnder.__init__" sErrU f fd) (T : ErrF K mg "BadUnder" "under" C fI) : FnOk P w K mg base CX0 1 f fd ["self", "under"] (spErr K C "under") := by
  refine F.ok scErrU (fun vs H Q E h => ?_) (fun cdv A outer s H vs Q E hr h => ?_)
  · obtain ⟨a, v, rfl, _⟩ := h
    rfl
  · obtain ⟨a, v, rfl, ha, q⟩ := h
    refine ⟨_, (pss_one (ps_ost (pv 0) (pv 1))), ?_⟩
    exact ⟨_, rfl, _, rfl, a, C, rfl, T.oex, T.nN, .inl ⟨ha, fun dx h1 h2 => q dx h1 h2⟩⟩
/-- a def that may raise, by its name -/
structure DfX (P : Program) (w : World) (K : PySem.W.Frag) (mg : Str → Option Value) (base : Heap) (k : Nat) (x : Str) (ps : List Str) (sp : Sp) (f : Addr) (fd : FuncData) : Prop where
  at_ : mg x = some (.ref f)
  kp : PySem.W.keepIn K (.ref f) = true
  b : Binds K fd ps []
  F : FnOk P w K mg base (CX P w) k f fd ps sp
theorem dx_check {f CR fR : Addr} {fd fdR : FuncData} (hm : mg "_check_row" = some (.ref f)) (F : Fun K "_check_row" "_check_row" sCheck f fd) (T : TxtW mg) (ER : ErrF K mg "BadRow" "index" CR fR) (FR : FnOk P w K mg base CX0 1 fR fdR ["self", "index"] (spErr K CR "index")) (bR : Binds K fdR ["self", "index"] [])
    (Disint : Df P w K mg base 1 "is_int" ["value"] (spIsInt K)) : DfX P w K mg base 3 "_check_row" ["row"] (spCheck K CR) f fd := by
  refine ⟨hm, F.kp, F.binds (fun _ _ _ _ _ _ us hl => match us, hl with | [_], _ => rfl), F.okX scCheck (fun vs H Q E h => ?_) (fun cdv A outer s H vs Q E hr h => ?_)⟩
  · obtain ⟨a, xs, rfl, _⟩ := h
    rfl
  · obtain ⟨a, xs, rfl, hB, hl, q⟩ := h
    refine ⟨_, (pss_one (ps_for (passes_of rfl) rfl (pi_enumS (by rfl) T.enumerate (pa_cons (pv 0) pa_nil)) (pg_tup (by rfl) (pgs_cons (pg_name (i := 1) scCheck.nd rfl (.inl rfl)) (pgs_cons (pg_name (i := 2) scCheck.nd rfl (.inl rfl)) pgs_nil)))
      (pss_one (ps_if (pw_or (pt_not (pt_val (pe_callB call_isi (by rfl) T.isinstance (by decide +kernel) (pa_cons (pv 2) (pa_cons (pe_bltn (v := .ty "int") (by rfl) T.int (by decide +kernel) rfl) pa_nil))))) (pw_or (pt_cmpR op_isA (pv 2) pe_bl (nomark _)) (pw_or1 (pt_cmpR op_isA (pv 2) pe_bl (nomark _))))).pt (pss_one (ps_raise rfl (takes_of rfl rfl rfl rfl) (pmk_oex ER.oex ER.iC ER.tI FR (hr.mono (by decide)) bR .nil pass0 (by rfl) ER.mgC (pa_cons (pv 1) pa_nil)))) pss_nil)))), ?_⟩
    have hend : ∀ H', Same H H' → (∀ (r : List Int) (v : V) (ys : List V), xs = r.map V.int ++ v :: ys → NotInt K H v → xs.length ≤ r.length) → Q .non H' := fun H' sm hi => by
      rcases q with ⟨r, _, q⟩ | ⟨r, v, ys, e, hN, _⟩
      · exact q H' sm
      · have := hi r v ys e hN
        rw [e, List.length_append, List.length_map, List.length_cons] at this
        omega
    refine ⟨_, rfl, a, xs, rfl, ?_⟩
    rcases hB with hB | hB
    case' inl =>
      refine .inl ⟨hB, ?_⟩
      refine ⟨fun i m σ H3 => ∃ y2 y3, σ = [some (.ref a), y2, y3] ∧ i + m = xs.length ∧ Same H H3 ∧ ∀ (r : List Int) (v : V) (ys : List V), xs = r.map V.int ++ v :: ys → NotInt K H v → i ≤ r.length, ⟨xs.length, none, none, rfl, by omega, Same.refl H, fun _ _ _ _ _ => Nat.zero_le _⟩, fun i m σ H3 hW => ?_⟩
      have hsame : ∀ H3, Same H H3 → SqL K H3 a xs := fun H3 sm => sm.seq hB
    case' inr =>
      refine .inr ⟨hB, ?_⟩
      refine ⟨fun i m σ H3 => ∃ y2 y3, σ = [some (.ref a), y2, y3] ∧ i + m = xs.length ∧ Same H H3 ∧ ∀ (r : List Int) (v : V) (ys : List V), xs = r.map V.int ++ v :: ys → NotInt K H v → i ≤ r.length, ⟨xs.length, none, none, rfl, by omega, Same.refl H, fun _ _ _ _ _ => Nat.zero_le _⟩, fun i m σ H3 hW => ?_⟩
      have hsame : ∀ H3, Same H H3 → SqT K H3 a xs := fun H3 sm => Same.tup sm hB
    all_goals
      obtain ⟨y2, y3, rfl, em, sm, hI⟩ := hW
      by_cases hi : i < xs.length
      · obtain ⟨x, hx⟩ : ∃ x, xs[i]? = some x := ⟨xs[i], List.getElem?_eq_getElem hi⟩
        refine .inr ⟨⟨_, _, hsame _ sm, hx⟩, fun σ' H' => ∃ y2 y3, σ' = [some (.ref a), y2, y3] ∧ Same H H' ∧ ∀ (r : List Int) (v : V) (ys : List V), xs = r.map V.int ++ v :: ys → NotInt K H v → i + 1 ≤ r.length, fun σ' H' hN => ?_, fun y H' hy => ?_⟩
        · obtain ⟨z2, z3, e, sm', hI'⟩ := hN
          exact ⟨m - 1, by omega, z2, z3, e, by omega, sm', hI'⟩
        · obtain ⟨T, x1, rfl, nT, rfl, f1⟩ := hy
          have ex1 := Option.some.inj ((f1 _ (hsame _ sm)).symm.trans hx)
          subst ex1
          have sT : Same H (upd H3 T (.tup [.int (i : Nat), x1])) := sm.trans fun b o e => by rw [upd_ne (ne_of_none e nT)]; exact e
          refine ⟨T, _, rfl, .inl (.inl upd_same), rfl, _, _, rfl, _, _, rfl, rfl, ?_⟩
          generalize upd H3 T (.tup [.int (i : Nat), x1]) = H5 at sT ⊢
          rcases check_step hx sm q hI with ⟨c, rfl, hI'⟩ | ⟨hN, qE⟩
          · refine ⟨_, rfl, _, _, _, _, _, rfl, .ty "int", .base (.int c), kit_ty kit_int, true, rfl, iteF ?_⟩
            refine ⟨_, rfl, _, rfl, .inr ⟨fun c e => (nomatch e), _, rfl, iteF ?_⟩⟩
            exact ⟨_, rfl, _, rfl, .inr ⟨fun c e => (nomatch e), _, rfl, iteF ⟨_, _, rfl, sT, hI'⟩⟩⟩
          · have qF : E (.ref CR) = E (.ref CR) := rfl
            have flying : ∀ d H', Same H5 H' → H5 d = none → H' d = some (.xd [("index", .int (i : Int))]) → E (.ref CR) (some d) H' := fun d H' s2 hd hx => qE d H' (sT.trans s2) (sT.free hd) hx
            obtain ⟨nm, b1, b2, ht, k1, k2, hb⟩ := hN.same sT
            rcases ty_cases ht k1 k2 hb with ⟨c, rfl⟩ | ⟨rfl, hnb⟩
            · refine ⟨_, rfl, _, _, _, _, _, rfl, .ty "int", .base (.bl c), kit_ty kit_boolint, true, rfl, iteF ?_⟩
              refine ⟨_, rfl, _, rfl, .inl ⟨c, rfl, _, rfl, ?_⟩⟩
              cases c with
              | true => exact iteT ⟨_, rfl, mk_err (v := .int (i : Int)) (R := E) flying⟩
              | false => exact iteF ⟨_, rfl, _, rfl, .inl ⟨false, rfl, _, rfl, iteT ⟨_, rfl, mk_err (v := .int (i : Int)) (R := E) flying⟩⟩⟩
            · refine ⟨_, rfl, _, _, _, _, _, rfl, .ty "int", ht, kit_ty k1, false, rfl, iteT ?_⟩
              exact ⟨_, rfl, mk_err (v := .int (i : Int)) (R := E) flying⟩
      · exact .inl ⟨⟨_, hsame _ sm, by omega⟩, hend _ sm fun r v ys e hN => by have := hI r v ys e hN; omega⟩
end
end Ef
set_option Elab.async false
set_option linter.all false
set_option maxRecDepth 100000
set_option maxHeartbeats 4000000
namespace Ef
open PySem PySem.Spec PyProof.Rows L2
abbrev sInit : Stmt := inClass (top 22) 0
abbrev sEq : Stmt := inClass (top 22) 6
/-- the attributes -/
def pf (ra : Addr) (u : Int) : List (Str × V) := putF "under" (.int u) (putF "row" (.ref ra) [])
/-- at p a piece of the row r over u -/
def PAt (K : PySem.W.Frag) (C : Addr) (H : Hp) (p : Addr) (r : List Int) (u : Nat) : Prop := ∃ dx ra : Addr, H p = some (.ins C dx (pf ra u)) ∧ SqT K H ra (r.map V.int)
theorem PAt.same {K : PySem.W.Frag} {C : Addr} {H H' : Hp} {p : Addr} {r : List Int} {u : Nat} (h : PAt K C H p r u) (e : Same H H') : PAt K C H' p r u := by
  obtain ⟨dx, ra, h1, h2⟩ := h
  exact ⟨dx, ra, e _ _ h1, Same.tup e h2⟩
/-- the class, what the text has of it -/
structure ClsP (K : PySem.W.Frag) (mg : Str → Option Value) (C : Addr) : Prop where
  cl : Cls K C
  mgC : mg "Piece" = some (.ref C)
  nR : NoAttr K C "row"
  nU : NoAttr K C "under"
theorem sqt_upd {K : PySem.W.Frag} {H : Hp} {a p C dx : Addr} {fs : List (Str × V)} {xs : List V} {o : HO} (h : SqT K H a xs) (hp : H p = some (.ins C dx fs)) : SqT K (upd H p o) a xs := by
  rcases h with (h | ⟨z, h⟩) | h
  · exact .inl (.inl (by rw [upd_ne (ne_of h hp (by intro q; cases q))]; exact h))
  · exact .inl (.inr ⟨z, by rw [upd_ne (ne_of h hp (by intro q; cases q))]; exact h⟩)
  · exact .inr h
theorem lk_ne {f g : Str} {v : V} {fs : List (Str × V)} (h : ¬ g = f) : (putF f v fs).lookup g = fs.lookup g := by rw [lookup_putF, if_neg h]
theorem lk_eq {f : Str} {v : V} {fs : List (Str × V)} : (putF f v fs).lookup f = some v := by rw [lookup_putF, if_pos rfl]
theorem pf_under {ra : Addr} {u : Int} : (pf ra u).lookup ("under" : Str) = some (.int u) := lk_eq
theorem pf_row {ra : Addr} {u : Int} : (pf ra u).lookup ("row" : Str) = some (.ref ra) := (lk_ne (by decide +kernel)).trans lk_eq
section
variable {P : Program} {w : World} {K : PySem.W.Frag} {mg : Str → Option Value} {base : Heap}
/-- no integer from 1 on -/
def BadUn (K : PySem.W.Frag) (H : Hp) (v : V) : Prop := (NotInt K H v ∧ v ≠ .bl false) ∨ ∃ i : Int, v = .int i ∧ i < 1
def spInit (K : PySem.W.Frag) (C CR CU : Addr) : Sp := fun vs H Q E => ∃ (H0 : Hp) (p dx a : Addr) (xs : List V) (v : V), vs = [.ref p, .ref a, v] ∧ Same H0 H ∧ H0 p = none ∧ H p = some (.ins C dx []) ∧ Seqs K H0 a xs ∧ xs.length ≤ 100 ∧
  ((∃ (r : List Int) (z : V) (ys : List V), xs = r.map V.int ++ z :: ys ∧ NotInt K H0 z ∧ ∀ d H', Same H0 H' → H0 d = none → H' d = some (.xd [("index", .int (r.length : Int))]) → E (.ref CR) (some d) H') ∨
   (∃ r : List Int, xs = r.map V.int ∧ ((∃ un : Nat, v = .int (un : Int) ∧ 0 < un ∧ Bd 400 (un : Int) ∧ ∀ (pr : List Int) (u : Nat) (H' : Hp), Low r un pr u → Same H0 H' → PAt K C H' p pr u → Q .non H') ∨
     (BadUn K H0 v ∧ ∀ d H', Same H0 H' → H0 d = none → H' d = some (.xd [("under", v)]) → E (.ref CU) (some d) H'))))
theorem scInit : FnScope ["self", "row", "under", "numbers", "shared", "number"] ["self", "row", "under"] (defScope sInit) := ⟨rfl, rfl, rfl, by decide +kernel, rfl, by decide +kernel, by decide +kernel⟩
theorem binds_init {f : Addr} {fd : FuncData} (F : FunD K "__init__" "Piece.__init__" (defArgs sInit) (defBody sInit) (defScope sInit) [V.int 1] [] f fd) : Binds K fd ["self", "row", "under"] [] := by
  have z : ∃ ds, Vals (List.drop 1 [V.int 1]) ds ∧ Binds K fd ["self", "row", "under"] ds := by
    refine F.binds1 (ps := ["self", "row", "under"]) 3 1 (fun z => by cases z) rfl (fun T kV doc pm an cdv ct us its hu hi => ?_)
    match us, hu, its, hi with
    | [_, _, _], _, [_], _ => exact ⟨_, rfl, rfl⟩
  obtain ⟨ds, hv, hb⟩ := z
  cases hv
  exact hb
theorem binds_init1 {f : Addr} {fd : FuncData} (F : FunD K "__init__" "Piece.__init__" (defArgs sInit) (defBody sInit) (defScope sInit) [V.int 1] [] f fd) : ∃ ds, Vals [.int 1] ds ∧ Binds K fd ["self", "row", "under"] ds := by
  refine F.binds1 (ps := ["self", "row", "under"]) 2 0 (fun z => by cases z) rfl (fun T kV doc pm an cdv ct us its hu hi => ?_)
  match us, hu, its, hi with
  | [_, _], _, [_], _ => exact ⟨_, rfl, rfl⟩
theorem ok_init {f C CR CU fU fk : Addr} {fd fdU fdk : FuncData} (F : FunD K "__init__" "Piece.__init__" (defArgs sInit) (defBody sInit) (defScope sInit) [V.int 1] [] f fd) (T : TxtQ mg) (CW : ClsP K mg C)
    (EU : ErrF K mg "BadUnder" "under" CU fU) (FU : FnOk P w K mg base CX0 1 fU fdU ["self", "under"] (spErr K CU "under")) (bU : Binds K fdU ["self", "under"] []) (CKR : DfX P w K mg base 3 "_check_row" ["row"] (spCheck K CR) fk fdk)
    (Disintfrom : Df P w K mg base 2 "is_int_from" ["value", "low"] (spFrom K)) (Dtrimmed : Df P w K mg base 1 "trimmed" ["row"] (spTrim K)) (Dcommondivisor : Df P w K mg base 1 "common_divisor" ["first", "row"] (spCom K)) :
    FnOk P w K mg base (CX P w) 4 f fd ["self", "row", "under"] (spInit K C CR CU) := by
  refine FunD.ok F scInit (fun vs H Q E h => ?_) (fun cdv A outer s H vs Q E hr h => ?_)
  · obtain ⟨H0, p, dx, a, xs, v, rfl, _⟩ := h
    rfl
  · obtain ⟨H0, p, dx, a, xs, v, rfl, s0, p0, hp, hS, hl, q⟩ := h
    refine ⟨_, (pss_cons (ps_expr (pe_callS CKR.F (hr.mono (by decide)) (by rfl) CKR.at_ CKR.kp CKR.b (fun σ => passAt (takes_of rfl rfl rfl rfl) σ) (pa_cons (pv 1) pa_nil)))
      (pss_cons (ps_if (pw_or (pt_not (pt_val (pe_callB call_isi (by rfl) T.isinstance (by decide +kernel) (pa_cons (pv 2) (pa_cons (pe_bltn (v := .ty "int") (by rfl) T.int (by decide +kernel) rfl) pa_nil))))) (pw_or (pt_cmpR op_isA (pv 2) pe_bl (nomark _)) (pw_or1 (pt_cmpR op_lt (pv 2) pe_int (nomark _))))).pt (pss_one (ps_raise rfl (takes_of rfl rfl rfl rfl) (pmk_oex EU.oex EU.iC EU.tI FU (hr.mono (by decide)) bU .nil pass0 (by rfl) EU.mgC (pa_cons (pv 2) pa_nil)))) pss_nil)
      (pss_cons (ps_set (i := 3) scInit.nd rfl (.inl rfl) (Dtrimmed.call (hr.mono (by decide)) (pa_cons (pv 1) pa_nil)))
      (pss_cons (ps_set (i := 4) scInit.nd rfl (.inr rfl) (pe_ifExp (pt_cmpR op_gt (pv 2) pe_int (nomark _)) (Dcommondivisor.call (hr.mono (by decide)) (pa_cons (pv 2) (pa_cons (pv 3) pa_nil))) pe_int))
      (pss_cons (ps_fld (pv 0) (pe_callTy call_tuple_of (by rfl) T.tuple (by decide +kernel) (pa_cons (pe_ifExp (pt_cmpR op_eq (pv 4) pe_int (nomark _)) (pv 3) (pe_lc (own := [("number", 5)]) (g := gName 5) (by rfl) scInit.nd (pi_list (pv 3)) (blkOk_by (own := [("number", 5)]) (N := ["self", "row", "under", "numbers", "shared", "number"]) (sc := defScope sInit) (by decide +kernel)) (fun _ _ _ _ _ => pg_name (i := 5) scInit.nd rfl (Or.inl rfl)) (fun _ _ _ _ _ => pts_nil) (fun _ _ _ _ _ => (pe_op op_fdivW (pv 5) (pv 4))))) pa_nil)) rfl)
      (pss_one (ps_fld (pv 0) (pe_op op_fdivW (pv 2) (pv 4)) rfl))))))), ?_⟩
    refine ⟨_, rfl, a, xs, rfl, hS.same s0, by omega, ?_⟩
    rcases q with ⟨r, z, ys, e, hN, q⟩ | ⟨r, rfl, q⟩
    · exact .inr ⟨r, z, ys, e, hN.same s0, fun d H' s1 hd hx => q d H' (s0.trans s1) (s0.free hd) hx⟩
    refine .inl ⟨r, rfl, fun H1 s1 => ?_⟩
    have s01 := s0.trans s1
    rw [List.length_map] at hl
    rcases q with ⟨un, rfl, hu, hub, q⟩ | ⟨hB, q⟩
    case' inr =>
      rcases hB with ⟨hN, hf⟩ | ⟨i, rfl, hi⟩
      · have flying : ∀ d H', Same H1 H' → H1 d = none → H' d = some (.xd [("under", v)]) → E (.ref CU) (some d) H' := fun d H' s2 hd hx => q d H' (s01.trans s2) (s01.free hd) hx
        obtain ⟨nm, b1, b2, ht, k1, k2, hb⟩ := hN.same s01
        rcases ty_cases ht k1 k2 hb with ⟨c, rfl⟩ | ⟨rfl, hnb⟩
        · cases c with
          | false => exact absurd rfl hf
          | true =>
            refine ⟨_, rfl, _, _, _, _, _, rfl, .ty "int", .base (.bl true), kit_ty kit_boolint, true, rfl, iteF ?_⟩
            exact ⟨_, rfl, _, rfl, .inl ⟨true, rfl, _, rfl, iteT ⟨_, rfl, mk_err (v := .bl true) (R := E) flying⟩⟩⟩
        · refine ⟨_, rfl, _, _, _, _, _, rfl, .ty "int", ht, kit_ty k1, false, rfl, iteT ?_⟩
          exact ⟨_, rfl, mk_err (v := v) (R := E) flying⟩
      · refine ⟨_, rfl, _, _, _, _, _, rfl, .ty "int", .base (.int i), kit_ty kit_int, true, rfl, iteF ?_⟩
        refine ⟨_, rfl, _, rfl, .inr ⟨fun c e => (nomatch e), _, rfl, iteF ?_⟩⟩
        refine ⟨_, rfl, _, _, rfl, rfl, _, rfl, ?_⟩
        rw [decide_eq_true hi]
        refine iteT ?_
        exact ⟨_, rfl, mk_err (v := .int i) (R := E) fun d H' s2 hd hx => q d H' (s01.trans s2) (s01.free hd) hx⟩
    refine ⟨_, rfl, _, _, _, _, _, rfl, .ty "int", .base (.int (un : Int)), kit_ty kit_int, true, rfl, iteF ?_⟩
    refine ⟨_, rfl, _, rfl, .inr ⟨fun c e => (nomatch e), _, rfl, iteF ?_⟩⟩
    refine ⟨_, rfl, _, _, rfl, rfl, _, rfl, ?_⟩
    rw [decide_eq_false (show ¬ (un : Int) < 1 by omega)]
    refine iteF ?_
    refine ⟨_, rfl, a, r, rfl, hS.same s01, hl, fun H2 l t s2 h2 ht => ?_⟩
    have s02 := s01.trans s2
    have hg := gcdR_pos (t := t) hu
    obtain ⟨gd1, gd2⟩ := gcdR_dvd t un
    have hgb : Bd 400 ((gcdR un t : Nat) : Int) := by
      have h1 := Nat.le_of_dvd hu gd1
      unfold Bd at *
      rw [Int.natAbs_natCast] at *
      exact Nat.lt_of_le_of_lt h1 hub
    have hLow := Low.of_trim ht hu
    have h1g : un = 1 → gcdR un t = 1 := fun e => by rw [e]; exact gcdR_one t
    have hp2 : H2 p = some (.ins C dx []) := s2 _ _ (s1 _ _ hp)
    have htl : t.length ≤ 100 := by
      obtain ⟨k, hk, rfl, _⟩ := ht
      rw [List.length_take]; omega
    have fin : ∀ (ra : Addr) (H4 : Hp) (g : Nat), gcdR un t = g → Same H2 H4 → SqT K H4 ra ((t.map fun c => c / (g : Int)).map V.int) →
        Q .non (upd H4 p (.ins C dx (putF "under" (.int ((un / g : Nat) : Int)) (putF "row" (.ref ra) [])))) := fun ra H4 g hgg s4 e4 => by
      subst hgg
      exact q _ _ _ hLow (same_mut (s02.trans s4) p0) ⟨dx, ra, upd_same, sqt_upd e4 (s4 _ _ hp2)⟩
    have one : ∀ (ra : Addr), H2 ra = none → SqT K (upd H2 ra (.tup (t.map V.int))) ra ((t.map fun c => c / ((1 : Nat) : Int)).map V.int) := fun ra hra => by
      rw [show (t.map fun c => c / ((1 : Nat) : Int)) = t from (List.map_congr_left fun c _ => Int.ediv_one c).trans (List.map_id _)]
      exact .inl (.inl upd_same)
    -- shared
    refine ⟨_, rfl, _, _, rfl, rfl, _, rfl, ?_⟩
    refine ite2 (fun hb => ?_) (fun hb => ?_)
    · refine ⟨_, rfl, _, rfl, l, t, un, rfl, .inl (.inl h2), ?_⟩
      generalize hgg : gcdR un t = g at hg hgb ⊢
      have hgi : (0 : Int) < (g : Int) := by omega
      -- self.row
      refine ⟨_, rfl, rfl, _, rfl, ?_⟩
      by_cases hg1 : g = 1
      · subst hg1
        refine iteT ⟨_, rfl, l, _, rfl, .inl ⟨.inl (.inl h2), fun ra hra => ?_⟩⟩
        have s4 := same_new (o := .tup (t.map V.int)) hra
        have e4 := one ra hra
        generalize upd H2 ra (.tup (t.map V.int)) = H4 at s4 e4 ⊢
        refine ⟨_, rfl, p, C, dx, _, rfl, s4 _ _ hp2, CW.cl, CW.nR, (by show 0 < 1000; decide), ?_⟩
        refine ⟨_, rfl, _, rfl, _, _, rfl, rfl, wide_div hgi hgb (by decide) (by decide), _, rfl, p, C, dx, _, rfl, upd_same, CW.cl, CW.nU, (by show 1 < 1000; decide), ?_⟩
        rw [upd_upd]
        exact fin ra H4 1 hgg s4 e4
      rw [decide_eq_false (show ¬ V.int (g : Int) = V.int 1 from fun z => hg1 (by injection z with z; omega))]
      refine iteF ⟨_, rfl, l, rfl, ⟨_, .inl (.inl h2)⟩, fun D hD => ?_⟩
      refine lc_list (K := K) (a := l) (xs := t.map V.int) (fun i H' => Same H2 H' ∧ H' D = some (.lst (((t.take i).map fun c => c / (g : Int)).map V.int))) ⟨same_new hD, upd_same⟩ (fun i H' _ hh => .inl (.inl (hh.1 _ _ h2))) ?_ ?_
      · rintro i x H' hi ⟨sx, hx⟩
        rw [List.getElem?_map] at hi
        obtain ⟨c, hc, rfl⟩ := Option.map_eq_some_iff.mp hi
        refine ⟨rfl, _, rfl, _, rfl, _, _, rfl, rfl, wide_div hgi hgb (by decide) (by decide), _, hx, ?_, same_mut sx hD, ?_⟩
        · rw [List.length_map, List.length_map, List.length_take]
          exact Nat.lt_of_le_of_lt (show min i t.length ≤ 100 by omega) (by decide)
        · rw [upd_same, List.take_succ, hc, Option.toList_some, List.map_append, List.map_append]
          rfl
      · rintro H3 ⟨s3, h3⟩
        rw [List.length_map, List.take_length] at h3
        refine ⟨D, _, rfl, .inl ⟨.inl (.inl h3), fun ra hra => ?_⟩⟩
        have s4 := s3.trans (same_new (o := .tup ((t.map fun c => c / (g : Int)).map V.int)) hra)
        have e4 : SqT K (upd H3 ra (.tup ((t.map fun c => c / (g : Int)).map V.int))) ra ((t.map fun c => c / (g : Int)).map V.int) := .inl (.inl upd_same)
        generalize upd H3 ra (.tup ((t.map fun c => c / (g : Int)).map V.int)) = H4 at s4 e4 ⊢
        refine ⟨_, rfl, p, C, dx, _, rfl, s4 _ _ hp2, CW.cl, CW.nR, (by show 0 < 1000; decide), ?_⟩
        -- self.under
        refine ⟨_, rfl, _, rfl, _, _, rfl, rfl, wide_div hgi hgb (by decide) (by decide), _, rfl, p, C, dx, _, rfl, upd_same, CW.cl, CW.nU, (by show 1 < 1000; decide), ?_⟩
        rw [upd_upd]
        exact fin ra H4 g hgg s4 e4
    · have hu1 : un = 1 := by
        have : ¬ (1 : Int) < (un : Int) := fun z => hb (decide_eq_true z)
        omega
      refine ⟨_, rfl, rfl, _, rfl, iteT ⟨_, rfl, l, _, rfl, .inl ⟨.inl (.inl h2), fun ra hra => ?_⟩⟩⟩
      have s4 := same_new (o := .tup (t.map V.int)) hra
      have e4 := one ra hra
      generalize upd H2 ra (.tup (t.map V.int)) = H4 at s4 e4 ⊢
      refine ⟨_, rfl, p, C, dx, _, rfl, s4 _ _ hp2, CW.cl, CW.nR, (by show 0 < 1000; decide), ?_⟩
      refine ⟨_, rfl, _, rfl, _, _, rfl, rfl, wide_div (b := 400) (by decide) (show Bd 400 1 from by unfold Bd; decide) (by decide) (by decide), _, rfl, p, C, dx, _, rfl, upd_same, CW.cl, CW.nU, (by show 1 < 1000; decide), ?_⟩
      rw [upd_upd]
      exact fin ra H4 1 (h1g hu1) s4 e4
/-! ### == -/
def spEq (K : PySem.W.Frag) (C : Addr) : Sp := fun vs H Q _ => ∃ (p : Addr) (y : V) (r1 : List Int) (u1 : Nat), vs = [.ref p, y] ∧ PAt K C H p r1 u1 ∧ r1.length ≤ 1000 ∧
  ((∃ (b : Addr) (r2 : List Int) (u2 : Nat), y = .ref b ∧ PAt K C H b r2 u2 ∧ r2.length ≤ 1000 ∧ Q (.bl (decide (r1 = r2 ∧ u1 = u2))) H) ∨ (∃ (b : Addr) (xs : List V), y = .ref b ∧ H b = some (.lst xs) ∧ Q (.bl false) H))
theorem scEq : FnScope ["self", "other"] ["self", "other"] (defScope sEq) := ⟨rfl, rfl, rfl, by decide +kernel, rfl, by decide +kernel, by decide +kernel⟩
structure ClsQ (K : PySem.W.Frag) (mg : Str → Option Value) (C : Addr) : Prop extends ClsP K mg C where
  cc : PySem.W.findIn K (.ref C) "__class__" = some (some (.builtin "object.__class__"))
  cg : PySem.W.specialIn K (.builtin "object.__class__") "__get__" = some (some (.builtin "getset_descriptor.__get__"))
  ct : PySem.W.takesIn K (.builtin "object.__class__") = some true
  co : PySem.W.mroIn K C (.type "object") = some true
  sl : PySem.W.subIn K (.type "list") (.ref C) = some false
theorem eqv_ints : ∀ as bs : List Int, PyData.eqvAll (as.map PyData.int) (bs.map PyData.int) = decide (as = bs)
  | [], [] => rfl
  | [], _ :: _ => rfl
  | _ :: _, [] => rfl
  | a :: as, b :: bs => by
    show (PyData.eqv (.int a) (.int b) && PyData.eqvAll (as.map PyData.int) (bs.map PyData.int)) = _
    rw [eqv_ints as bs]
    show (decide (a = b) && decide (as = bs)) = decide (a :: as = b :: bs)
    by_cases h1 : a = b <;> by_cases h2 : as = bs <;> simp [h1, h2]
theorem ok_eq {f C : Addr} {fd : FuncData} (F : Fun K "__eq__" "Piece.__eq__" sEq f fd) (T : TxtQ mg) (CW : ClsQ K mg C) (hli : PySem.W.kitOne K (.type "list") (.ref C) = some false) : FnOk P w K mg base CX0 1 f fd ["self", "other"] (spEq K C) := by
  refine F.ok scEq (fun vs H Q E h => ?_) (fun cdv A outer s H vs Q E hr h => ?_)
  · obtain ⟨p, y, r1, u1, rfl, _⟩ := h
    rfl
  · obtain ⟨p, y, r1, u1, rfl, ⟨dx, ra, h1, h2⟩, hl1, q⟩ := h
    refine ⟨_, (pss_one (ps_ret (pe_and (pe_callB call_isi (by rfl) T.isinstance (by decide +kernel) (pa_cons (pv 1) (pa_cons (pe_glob (v := .ref C) (by rfl) CW.mgC rfl) pa_nil))) (pe_and (pe_cmpR (op_eqD hr.units) (pe_fld (pv 0) rfl) (pe_fld (pv 1) rfl) (nomark _)) (pe_one (pe_cmpR op_eq (pe_fld (pv 0) rfl) (pe_fld (pv 1) rfl) (nomark _))))))), ?_⟩
    rcases q with ⟨b, r2, u2, rfl, ⟨dx2, ra2, k1, k2⟩, hl2, q⟩ | ⟨b, xs, rfl, hb, q⟩
    · refine ⟨_, rfl, _, _, _, _, true, rfl, .own C, .base (.ins k1 CW.cl CW.cc CW.cg CW.ct CW.co), if_pos (by simp), ?_⟩
      refine ⟨_, rfl, iteT ?_⟩
      refine ⟨_, rfl, p, C, dx, _, _, rfl, h1, CW.cl, CW.nR, pf_row, _, rfl, b, C, dx2, _, _, rfl, k1, CW.cl, CW.nR, pf_row, _, _, .tup h2 (dp_ints r1), .tup k2 (dp_ints r2), (sh_list (can_ints r1).1 (can_ints r1).2).2, (sh_list (can_ints r2).1 (can_ints r2).2).2, _, rfl, ?_⟩
      rw [show PyData.eqv (.tuple (r1.map PyData.int)) (.tuple (r2.map PyData.int)) = decide (r1 = r2) from eqv_ints r1 r2]
      by_cases hr : r1 = r2
      · rw [decide_eq_true hr]
        refine iteT ⟨_, rfl, p, C, dx, _, _, rfl, h1, CW.cl, CW.nU, pf_under, _, rfl, b, C, dx2, _, _, rfl, k1, CW.cl, CW.nU, pf_under, rfl, ?_⟩
        have e : decide (V.int (u1 : Int) = V.int (u2 : Int)) = decide (r1 = r2 ∧ u1 = u2) := by
          rw [dint]
          by_cases hu : u1 = u2
          · rw [decide_eq_true (show (u1 : Int) = (u2 : Int) by rw [hu]), decide_eq_true (show r1 = r2 ∧ u1 = u2 from ⟨hr, hu⟩)]
          · rw [decide_eq_false (show ¬ (u1 : Int) = (u2 : Int) by omega), decide_eq_false (show ¬ (r1 = r2 ∧ u1 = u2) from fun z => hu z.2)]
        dsimp only
        rw [e]
        exact q
      · rw [decide_eq_false hr]
        rw [decide_eq_false (fun z => hr z.1)] at q
        exact iteF q
    · refine ⟨_, rfl, _, _, _, _, false, rfl, .own C, .base (.lst hb), hli, ?_⟩
      exact ⟨_, rfl, iteF q⟩
end
end Ef
set_option Elab.async false
set_option linter.all false
set_option maxRecDepth 100000
set_option maxHeartbeats 4000000
namespace Ef
open PySem PySem.Spec PyProof.Rows L2
abbrev sGcd : Stmt := top 31
abbrev sEntry : Stmt := top 32
abbrev sFrac : Stmt := top 33
structure TxtJ (mg : Str → Option Value) : Prop extends TxtQ mg where
  abs : mg "abs" = none
  max : mg "max" = none
theorem Bd.add {a b w : Nat} {x y : Int} (hx : Bd a x) (hy : Bd b y) (h1 : a + 1 ≤ w) (h2 : b + 1 ≤ w) : Bd w (x + y) := by
  unfold Bd at *
  have e1 := Int.natAbs_add_le x y
  have e3 : 2 ^ a ≤ 2 ^ (w - 1) := Nat.pow_le_pow_right (by decide) (by omega)
  have e4 : 2 ^ b ≤ 2 ^ (w - 1) := Nat.pow_le_pow_right (by decide) (by omega)
  have e5 : 2 ^ w = 2 ^ (w - 1) + 2 ^ (w - 1) := by
    rw [← Nat.two_mul, ← Nat.pow_succ', Nat.succ_eq_add_one, Nat.sub_add_cancel (by omega)]
  omega
section
variable {P : Program} {w : World} {K : PySem.W.Frag} {mg : Str → Option Value} {base : Heap}
def spGcd : Sp := fun vs H Q _ => ∃ (a b : Int), vs = [.int a, .int b] ∧ Q (.int (Nat.gcd a.natAbs b.natAbs : Nat)) H
theorem scGcd : FnScope ["a", "b"] ["a", "b"] (defScope sGcd) := ⟨rfl, rfl, rfl, by decide +kernel, rfl, by decide +kernel, by decide +kernel⟩
theorem abs_nat (a : Int) : (if a < 0 then -a else a) = (a.natAbs : Int) := by
  split <;> omega
theorem df_gcd (A : At K mg "_law_gcd" sGcd) (T : TxtJ mg) : Df P w K mg base 1 "_law_gcd" ["a", "b"] spGcd := by
  obtain ⟨f, fd, hm, F⟩ := A.ex
  refine ⟨f, fd, hm, F.kp, F.binds (fun _ _ _ _ _ _ us hl => match us, hl with | [_, _], _ => rfl), F.ok scGcd (fun vs H Q E h => ?_) (fun cdv A outer s H vs Q E hr h => ?_)⟩
  · obtain ⟨a, b, rfl, _⟩ := h
    rfl
  · obtain ⟨a, b, rfl, q⟩ := h
    refine ⟨_, (pss_cons (ps_par (i := 0) (j := 1) (by rfl) scGcd.nd rfl rfl (by decide) rfl rfl (pa_cons (pe_callB call_abs (by rfl) T.abs (by decide +kernel) (pa_cons (pv 0) pa_nil)) (pa_cons (pe_callB call_abs (by rfl) T.abs (by decide +kernel) (pa_cons (pv 1) pa_nil)) pa_nil)) (by rfl))
      (pss_cons (ps_while PassesOwn.never (pt_cmpR op_ne (pv 1) pe_int (nomark _))
      (pss_one (ps_par (i := 0) (j := 1) (by rfl) scGcd.nd rfl rfl (by decide) rfl rfl (pa_cons (pv 1) (pa_cons (pe_op op_mod (pv 0) (pv 1)) pa_nil)) (by rfl))))
      (pss_one (ps_ret (pv 0))))), ?_⟩
    refine ⟨_, rfl, _, rfl, _, rfl, _, rfl, _, _, rfl, ?_⟩
    rw [abs_nat, abs_nat]
    refine ⟨fun m σ H' => ∃ x y : Nat, H' = H ∧ σ = [some (.int (x : Int)), some (.int (y : Int))] ∧ m = y ∧ Nat.gcd x y = Nat.gcd a.natAbs b.natAbs, ⟨_, _, _, rfl, rfl, rfl, rfl⟩, fun m σ H' hW => ?_⟩
    obtain ⟨x, y, rfl, rfl, rfl, hg⟩ := hW
    refine ⟨_, rfl, rfl, _, rfl, ?_⟩
    rw [dint]
    cases m with
    | zero =>
      refine iteF ?_
      rw [Nat.gcd_zero_right] at hg
      rw [← hg] at q
      exact ⟨_, rfl, q⟩
    | succ y =>
      rw [decide_eq_false (show ¬ (((y + 1 : Nat) : Int) = 0) by omega)]
      refine iteT ⟨fun σ H2 => ∃ z : Nat, H2 = H' ∧ σ = [some (.int ((y + 1 : Nat) : Int)), some (.int (z : Int))] ∧ z < y + 1 ∧ Nat.gcd (y + 1) z = Nat.gcd a.natAbs b.natAbs, fun σ' H2 ⟨z, e1, e2, e3, e4⟩ => ⟨z, e3, y + 1, z, e1, e2, rfl, e4⟩, ?_⟩
      refine ⟨_, rfl, _, rfl, _, rfl, _, _, rfl, rfl, by omega, _, _, rfl, x % (y + 1), rfl, ?_, Nat.mod_lt _ (Nat.succ_pos y), ?_⟩
      · rfl
      · rw [← hg, Nat.gcd_comm, ← Nat.gcd_rec, Nat.gcd_comm]
/-! ### _law_entry, _law_far -/
def spEntry : Sp := fun vs H Q _ => ∃ (p l : Addr) (ns : List Int) (a b : Int), vs = [.ref p] ∧ Pen H p l ns a b ∧ a ≤ 1000000000 ∧ ∀ (c a' b' : Int) (H' : Hp), Bd 201 c → a' ≤ a + 3 → Pen H' p l ns a' b' → Kp p H H' → Q (.int c) H'
theorem scEntry : FnScope ["pen", "way"] ["pen"] (defScope sEntry) := ⟨rfl, rfl, rfl, by decide +kernel, rfl, by decide +kernel, by decide +kernel⟩
theorem bd_small {x : Int} {b : Nat} (h1 : -(2 ^ 20) < x) (h2 : x < 2 ^ 20) (hb : 20 ≤ b) : Bd b x := Bd.up (a := 20) (by unfold Bd; omega) hb
theorem Pen.newlst {H : Hp} {p l : Addr} {ns : List Int} {a b : Int} (h : Pen H p l ns a b) {q : Addr} {o : HO} (hq : H q = none) : Pen (upd H q o) p l ns a b := h.kp (Kp.new _ hq) (upd_ne (ne_of_none h.hd hq))
theorem df_entry (A : At K mg "_law_entry" sEntry) (Ddraw : Df P w K mg base 1 "_law_draw" ["pen", "many"] spDraw) (Dpick : Df P w K mg base 2 "_law_pick" ["pen", "some"] (spPick K)) : Df P w K mg base 3 "_law_entry" ["pen"] spEntry := by
  obtain ⟨f, fd, hm, F⟩ := A.ex
  refine ⟨f, fd, hm, F.kp, F.binds (fun _ _ _ _ _ _ us hl => match us, hl with | [_], _ => rfl), F.ok scEntry (fun vs H Q E h => ?_) (fun cdv A outer s H vs Q E hr h => ?_)⟩
  · obtain ⟨p, l, ns, a, b, rfl, _⟩ := h
    rfl
  · obtain ⟨p, l, ns, a, b, rfl, hP, ha, q⟩ := h
    refine ⟨_, (pss_cons (ps_set (i := 1) scEntry.nd rfl (.inl rfl) (Ddraw.call (hr.mono (by decide)) (pa_cons (pv 0) (pa_cons pe_int pa_nil))))
      (pss_cons (ps_if (pt_cmpR op_eq (pv 1) pe_int (nomark _)) (pss_one (ps_ret pe_int)) pss_nil)
      (pss_cons (ps_if (pt_cmpR op_lt (pv 1) pe_int (nomark _)) (pss_one (ps_ret (pe_op op_sub (Ddraw.call (hr.mono (by decide)) (pa_cons (pv 0) (pa_cons pe_int pa_nil))) pe_int))) pss_nil)
      (pss_one (ps_ret (pe_op op_add (Dpick.call (hr.mono (by decide)) (pa_cons (pv 0) (pa_cons (pe_lst (pa_cons (pe_op op_add (pe_op op_pow pe_int pe_int) pe_int) (pa_cons (pe_op op_sub (pe_un un_neg (pe_op op_pow pe_int pe_int)) pe_int) (pa_cons (pe_op op_pow pe_int pe_int) (pa_cons (pe_un un_neg (pe_op op_pow pe_int pe_int)) pa_nil))))) pa_nil))) (Ddraw.call (hr.mono (by decide)) (pa_cons (pv 0) (pa_cons pe_int pa_nil))))))))), ?_⟩
    refine ⟨_, rfl, p, l, ns, a, b, _, rfl, hP, by omega, by decide, by decide, fun d1 a1 b1 H1 d10 d11 ha1 hP1 hK1 => ?_⟩
    refine ⟨_, rfl, rfl, _, rfl, ?_⟩
    refine ite2 (fun _ => q _ _ _ _ (Bd.zero _) (by omega) hP1 hK1) (fun _ => ?_)
    refine ⟨_, rfl, _, _, rfl, rfl, _, rfl, ?_⟩
    refine ite2 (fun _ => ?_) (fun _ => ?_)
    · refine ⟨_, rfl, p, l, ns, a1, b1, _, rfl, hP1, by omega, by decide, by decide, fun d2 a2 b2 H2 d20 d21 ha2 hP2 hK2 => ?_⟩
      exact ⟨_, _, rfl, rfl, q _ _ _ _ (bd_small (by omega) (by omega) (by decide)) (by omega) hP2 (hK1.trans hK2)⟩
    · refine ⟨_, rfl, ?_⟩
      refine ⟨_, _, rfl, rfl, ⟨by decide, by decide, by decide⟩, _, _, rfl, rfl, ?_⟩
      refine ⟨_, _, rfl, rfl, ⟨by decide, by decide, by decide⟩, _, rfl, _, _, rfl, rfl, ?_⟩
      refine ⟨_, _, rfl, rfl, ⟨by decide, by decide, by decide⟩, ?_⟩
      refine ⟨_, _, rfl, rfl, ⟨by decide, by decide, by decide⟩, _, rfl, ?_⟩
      refine ⟨by show 4 ≤ sizeLine; decide, fun t ht => ?_⟩
      refine ⟨p, l, t, ns, a1, b1, _, rfl, hP1.newlst ht, by omega, .inl (.inl upd_same), fun z => ?_, by show 1 ≤ 4; decide, by show 4 ≤ 100000; decide, ?_⟩
      · rw [z, hP1.hd] at ht; cases ht
      · intro j v a2 b2 H2 hj ha2 hP2 hK2
        have hx : ∃ x : Int, v = .int x ∧ Bd 200 x := by
          have hm := List.mem_of_getElem? hj
          simp only [List.mem_cons, List.not_mem_nil, or_false] at hm
          rcases hm with rfl | rfl | rfl | rfl
          · exact ⟨_, rfl, by unfold Bd; decide +kernel⟩
          · exact ⟨_, rfl, by unfold Bd; decide +kernel⟩
          · exact ⟨_, rfl, by unfold Bd; decide +kernel⟩
          · exact ⟨_, rfl, by unfold Bd; decide +kernel⟩
        obtain ⟨x, rfl, hx⟩ := hx
        refine ⟨_, rfl, p, l, ns, a2, b2, _, rfl, hP2, by omega, by decide, by decide, fun d3 a3 b3 H3 d30 d31 ha3 hP3 hK3 => ?_⟩
        exact ⟨_, _, rfl, rfl, q _ _ _ _ (Bd.add hx (bd_small (b := 20) (by omega) (by omega) (by decide)) (by decide) (by decide)) (by omega) hP3 (hK1.trans (((Kp.new _ ht).trans hK2).trans hK3))⟩
end
/-- a drawn fraction: the tuple of its row and its divisor -/
structure Frac (H : Hp) (t l : Addr) (r : List Int) (un : Nat) : Prop where
  ht : H t = some (.tup [.ref l, .int un])
  hl : H l = some (.lst (r.map V.int))
  len : r.length ≤ 6
  bd : ∀ c ∈ r, Bd 225 c
  u1 : 0 < un
  ub : Bd 220 (un : Int)
def spFrac : Sp := fun vs H Q _ => ∃ (p l : Addr) (ns : List Int) (a b : Int), vs = [.ref p, .int 5] ∧ Pen H p l ns a b ∧ a ≤ 900000000 ∧
  ∀ (t rl : Addr) (r : List Int) (un : Nat) (a' b' : Int) (H' : Hp), Frac H' t rl r un → a' ≤ a + 100 → Pen H' p l ns a' b' → Kp p H H' → Q (.ref t) H'
theorem scFrac : FnScope ["pen", "most", "row", "k"] ["pen", "most"] (defScope sFrac) := ⟨rfl, rfl, rfl, by decide +kernel, rfl, by decide +kernel, by decide +kernel⟩
theorem Low.last {r p : List Int} {un u : Nat} (h : Low r un p u) (h0 : 0 < p.length) : p.getLastD 0 ≠ 0 := by
  obtain ⟨k, g, hg, hk, rfl, hd, hu, _, hz, hl⟩ := h.ex
  rw [List.length_map, List.length_take] at h0
  rcases hl with rfl | ⟨c, hc, hc0⟩
  · omega
  · have hkl : k - 1 < r.length := by omega
    have e : (r.take k)[k - 1]? = some c := by rw [List.getElem?_take, if_pos (by omega)]; exact hc
    have hm := hd c (List.mem_of_getElem? e)
    have e2 : ((r.take k).map fun c => c / (g : Int)).getLastD 0 = c / (g : Int) := by
      rw [List.getLastD_eq_getLast?, List.getLast?_eq_getElem?, List.length_map, List.length_take, Nat.min_eq_left hk, List.getElem?_map, e]
      rfl
    rw [e2]
    intro z
    have := Int.mul_ediv_cancel' hm
    rw [z, Int.mul_zero] at this
    exact hc0 this.symm
theorem Low.at {r p : List Int} {un u : Nat} (h : Low r un p u) {j : Nat} {c : Int} (hj : r[j]? = some c) : ∃ x, (p ++ List.replicate (r.length - p.length) 0)[j]? = some x ∧ x * (un : Int) = c * (u : Int) := by
  obtain ⟨k, g, hg, hk, rfl, hd, hu, _, hz, hl⟩ := h.ex
  have hlen : ((r.take k).map fun c => c / (g : Int)).length = k := by rw [List.length_map, List.length_take]; omega
  have hjl : j < r.length := by
    rcases Nat.lt_or_ge j r.length with z | z
    · exact z
    · rw [List.getElem?_eq_none z] at hj; cases hj
  rcases Nat.lt_or_ge j k with z | z
  · have e : (r.take k)[j]? = some c := by rw [List.getElem?_take, if_pos z]; exact hj
    refine ⟨c / (g : Int), ?_, ?_⟩
    · rw [List.getElem?_append_left (by rw [hlen]; exact z), List.getElem?_map, e]
      rfl
    · rw [hu, Int.natCast_mul, ← Int.mul_assoc, Int.ediv_mul_cancel (hd c (List.mem_of_getElem? e))]
  · refine ⟨0, ?_, ?_⟩
    · rw [List.getElem?_append_right (by rw [hlen]; exact z), hlen, List.getElem?_replicate, if_pos (by omega)]
    · have := hz j z hjl
      rw [hj] at this
      injection this with this
      rw [this, Int.zero_mul, Int.zero_mul]
theorem Low.gcd {r p : List Int} {un u : Nat} (h : Low r un p u) : gcdR u p = 1 := by
  obtain ⟨k, g, hg, hk, hp, hd, hu, h1, _⟩ := h.ex
  exact h1
theorem Low.bd {r p : List Int} {un u b : Nat} (h : Low r un p u) (hb : ∀ c ∈ r, Bd b c) : ∀ c ∈ p, Bd b c := fun c hc => by
  obtain ⟨k, g, hg, hk, rfl, _⟩ := h.ex
  obtain ⟨x, hx, rfl⟩ := List.mem_map.mp hc
  exact (hb x (List.mem_of_mem_take hx)).div (by omega)
theorem Low.ub {r p : List Int} {un u b : Nat} (h : Low r un p u) (hb : Bd b (un : Int)) : Bd b (u : Int) := by
  obtain ⟨k, g, hg, hk, _, _, hu, _⟩ := h.ex
  have : u ≤ un := by rw [hu]; exact Nat.le_mul_of_pos_left u hg
  unfold Bd at *
  rw [Int.natAbs_natCast] at *
  omega
theorem sqt_ty {K : PySem.W.Frag} {H : Hp} {a : Addr} {xs : List V} (h : SqT K H a xs) : TyX K H (.ref a) (.type "tuple") := by
  rcases h with (h | ⟨o, h⟩) | ⟨o, its, n, h1, h2, _⟩
  · exact .base (.tup h)
  · exact .fTuple h
  · exact .kTuple h1 h2
abbrev sIsp : Stmt := top 34
theorem at_last {r : List Int} (h : 0 < r.length) : atI (r.map V.int) (-1) = some (.int (r.getLastD 0)) := by
  unfold atI ixN
  rw [if_neg (by decide), if_pos (by rw [List.length_map]; omega), List.length_map]
  show (r.map V.int)[((-1 : Int) + (r.length : Int)).toNat]? = _
  rw [show ((-1 : Int) + (r.length : Int)).toNat = r.length - 1 by omega, List.getElem?_map]
  have e : r[r.length - 1]? = some (r.getLastD 0) := by
    rw [← List.getLast?_eq_getElem?, List.getLastD_eq_getLast?]
    cases r with
    | nil => exact absurd h (Nat.lt_irrefl 0)
    | cons c r => rw [List.getLast?_cons]; rfl
  rw [e]
  rfl
section
variable {P : Program} {w : World} {K : PySem.W.Frag} {mg : Str → Option Value} {base : Heap}
theorem df_frac (A : At K mg "_law_fraction" sFrac) (T : TxtJ mg) (Ddraw : Df P w K mg base 1 "_law_draw" ["pen", "many"] spDraw) (Dpick : Df P w K mg base 2 "_law_pick" ["pen", "some"] (spPick K)) (Dentry : Df P w K mg base 3 "_law_entry" ["pen"] spEntry) : Df P w K mg base 4 "_law_fraction" ["pen", "most"] spFrac := by
  obtain ⟨f, fd, hm, F⟩ := A.ex
  refine ⟨f, fd, hm, F.kp, F.binds (fun _ _ _ _ _ _ us hl => match us, hl with | [_, _], _ => rfl), F.ok scFrac (fun vs H Q E h => ?_) (fun cdv A outer s H vs Q E hr h => ?_)⟩
  · obtain ⟨p, l, ns, a, b, rfl, _⟩ := h
    rfl
  · obtain ⟨p, l, ns, a, b, rfl, hP, ha, q⟩ := h
    refine ⟨_, (pss_cons (ps_setLc (i := 2) (own := [("k", 3)]) (g := gName 3) (by rfl) scFrac.nd rfl rfl (sw_true rfl rfl rfl (by decide +kernel)) (pi_range1 (by rfl) T.range (pa_cons (Ddraw.call (hr.mono (by decide)) (pa_cons (pv 0) (pa_cons (pe_op op_add (pv 1) pe_int) pa_nil))) pa_nil)) (blkOk_by (own := [("k", 3)]) (N := ["pen", "most", "row", "k"]) (sc := defScope sFrac) (by decide +kernel)) (fun _ _ _ _ _ => pg_name (i := 3) scFrac.nd rfl (Or.inl rfl)) (fun _ _ _ _ _ => pts_nil) (fun _ _ _ _ _ => (Dentry.call (hr.mono (by decide)) (pa_cons (pv 0) pa_nil))))
      (pss_one (ps_ret (pe_tup (pa_cons (pv 2) (pa_cons (Dpick.call (hr.mono (by decide)) (pa_cons (pv 0) (pa_cons (pe_lst (pa_cons pe_int (pa_cons pe_int (pa_cons pe_int (pa_cons pe_int (pa_cons pe_int (pa_cons pe_int (pa_cons pe_int (pa_cons (pe_op op_pow pe_int pe_int) pa_nil))))))))) pa_nil))) pa_nil)))))), ?_⟩
    refine ⟨_, rfl, _, rfl, _, _, rfl, rfl, p, l, ns, a, b, _, rfl, hP, by omega, by decide, by decide, fun d1 a1 b1 H1 d10 d11 ha1 hP1 hK1 => ?_⟩
    refine ⟨d1, rfl, by omega, by omega, fun D hD => ?_⟩
    have hDH : H D = none := by
      refine hK1.free (fun z => ?_) hD
      rw [z, hP1.hd] at hD; cases hD
    have hDp : D ≠ p := fun z => by rw [z, hP.hd] at hDH; cases hDH
    refine lc_range (lo := 0) (n := d1.toNat) (fun i H' => ∃ (acc : List Int) (a' b' : Int), H' D = some (.lst (acc.map V.int)) ∧ acc.length = i ∧ (∀ c ∈ acc, Bd 201 c) ∧ Pen H' p l ns a' b' ∧ a' ≤ a + 1 + 3 * i ∧ Kp p H H')
      ⟨[], a1, b1, upd_same, rfl, fun c hc => (by cases hc), hP1.newlst hD, by omega, hK1.trans (Kp.new _ hD)⟩ ?_ ?_
    · rintro i H4 hi ⟨acc, a', b', hA, hl, hb, hP4, ha4, hK4⟩
      refine ⟨rfl, _, rfl, p, l, ns, a', b', rfl, hP4, by omega, fun c a5 b5 H5 hc ha5 hP5 hK5 => ?_⟩
      refine ⟨_, hK5 _ _ hDp hA, by rw [List.length_map]; exact small1000' (by omega), acc ++ [c], a5, b5, by rw [upd_same, List.map_append]; rfl, by rw [List.length_append, hl]; rfl, fun x hx => ?_, ?_, by omega, (hK4.trans hK5).mut hDH⟩
      · rcases List.mem_append.mp hx with z | z
        · exact hb x z
        · rw [List.mem_singleton.mp z]; exact hc
      · exact ⟨by rw [upd_ne (Ne.symm hDp)]; exact hP5.hd, by rw [upd_ne (fun z => by rw [← z, hP.hl] at hDH; cases hDH)]; exact hP5.hl, hP5.len, hP5.a0, hP5.b0⟩
    · rintro H4 ⟨acc, a', b', hA, hl, hb, hP4, ha4, hK4⟩
      refine ⟨_, rfl, _, rfl, ?_⟩
      refine ⟨_, _, rfl, rfl, ⟨by decide, by decide, by decide⟩, by show 8 ≤ sizeLine; decide, fun t ht => ?_⟩
      refine ⟨p, l, t, ns, a', b', _, rfl, hP4.newlst ht, by omega, .inl (.inl upd_same), fun z => ?_, by show 1 ≤ 8; decide, by show 8 ≤ 100000; decide, ?_⟩
      · rw [z, hP4.hd] at ht; cases ht
      · intro j v a5 b5 H5 hj ha5 hP5 hK5
        have hx : ∃ un : Nat, v = .int (un : Int) ∧ 0 < un ∧ Bd 220 (un : Int) := by
          have hm := List.mem_of_getElem? hj
          simp only [List.mem_cons, List.not_mem_nil, or_false] at hm
          rcases hm with rfl | rfl | rfl | rfl | rfl | rfl | rfl | rfl
          · exact ⟨1, rfl, by decide, by unfold Bd; decide +kernel⟩
          · exact ⟨1, rfl, by decide, by unfold Bd; decide +kernel⟩
          · exact ⟨2, rfl, by decide, by unfold Bd; decide +kernel⟩
          · exact ⟨3, rfl, by decide, by unfold Bd; decide +kernel⟩
          · exact ⟨4, rfl, by decide, by unfold Bd; decide +kernel⟩
          · exact ⟨6, rfl, by decide, by unfold Bd; decide +kernel⟩
          · exact ⟨12, rfl, by decide, by unfold Bd; decide +kernel⟩
          · exact ⟨10 ^ 20, rfl, by decide, by unfold Bd; decide +kernel⟩
        obtain ⟨un, rfl, hu, hub⟩ := hx
        refine ⟨by show 2 ≤ sizeLine; decide, fun tt htt => ?_⟩
        have hA5 := hK5 _ _ hDp (show (upd H4 t _) D = _ from by rw [upd_ne (ne_of_none hA ht)]; exact hA)
        exact q tt D acc un a5 b5 _ ⟨upd_same, by rw [upd_ne (ne_of_none hA5 htt)]; exact hA5, by omega, fun c hc => (hb c hc).up (by decide), hu, hub⟩ (by omega) (hP5.newlst htt) ((hK4.trans ((Kp.new _ ht).trans hK5)).trans (Kp.new _ htt))
theorem flat_rep (k : Nat) : (List.replicate k [V.int 0]).flatten = (List.replicate k (0 : Int)).map V.int := by
  induction k with
  | zero => rfl
  | succ k ih => rw [List.replicate_succ, List.flatten_cons, ih, List.replicate_succ]; rfl
def spIsp (K : PySem.W.Frag) (C : Addr) : Sp := fun vs H Q _ => ∃ (p a : Addr) (r pr : List Int) (un u : Nat), vs = [.ref p, .ref a, .int un] ∧ PAt K C H p pr u ∧ SqL K H a (r.map V.int) ∧ Low r un pr u ∧ r.length ≤ 6 ∧ (∀ c ∈ r, Bd 225 c) ∧ Bd 225 (un : Int) ∧ ∀ H', Same H H' → Q (.bl true) H'
theorem scIsp : FnScope ["piece", "row", "under", "divisor", "entry", "told", "k"] ["piece", "row", "under"] (defScope sIsp) := ⟨rfl, rfl, rfl, by decide +kernel, rfl, by decide +kernel, by decide +kernel⟩
theorem df_isp {C : Addr} (A : At K mg "_law_is_piece" sIsp) (T : TxtJ mg) (CW : ClsQ K mg C) (hall : mg "all" = none) (Dgcd : Df P w K mg base 1 "_law_gcd" ["a", "b"] spGcd) : Df P w K mg base 2 "_law_is_piece" ["piece", "row", "under"] (spIsp K C) := by
  obtain ⟨f, fd, hm, F⟩ := A.ex
  refine ⟨f, fd, hm, F.kp, F.binds (fun _ _ _ _ _ _ us hl => match us, hl with | [_, _, _], _ => rfl), F.ok scIsp (fun vs H Q E h => ?_) (fun cdv A outer s H vs Q E hr h => ?_)⟩
  · obtain ⟨p, a, r, pr, un, u, rfl, _⟩ := h
    rfl
  · obtain ⟨p, a, r, pr, un, u, rfl, ⟨dx, ra, h1, h2⟩, hS, hL, hl, hb, hub, q⟩ := h
    refine ⟨_, (pss_cons (ps_if (pw_or (pt_not (pt_val (pe_callB call_isi (by rfl) T.isinstance (by decide +kernel) (pa_cons (pv 0) (pa_cons (pe_glob (v := .ref C) (by rfl) CW.mgC rfl) pa_nil))))) (pw_or (pt_not (pt_val (pe_callB call_isi (by rfl) T.isinstance (by decide +kernel) (pa_cons (pe_fld (pv 0) rfl) (pa_cons (pe_bltn (v := .ty "tuple") (by rfl) T.tuple (by decide +kernel) rfl) pa_nil))))) (pw_or1 (pt_cmpR op_lt (pe_fld (pv 0) rfl) pe_int (nomark _))))).pt (pss_one (ps_ret pe_bl)) pss_nil)
      (pss_cons (ps_set (i := 3) scIsp.nd rfl (.inl rfl) (pe_fld (pv 0) rfl))
      (pss_cons (ps_for PassesOwn.never rfl (pi_tup (pe_fld (pv 0) rfl)) (pg_name (i := 4) scIsp.nd rfl (.inl rfl))
      (pss_one (ps_set (i := 3) scIsp.nd rfl (.inl rfl) (Dgcd.call (hr.mono (by decide)) (pa_cons (pv 3) (pa_cons (pv 4) pa_nil))))))
      (pss_cons (ps_if (pw_or (pt_cmpR op_ne (pv 3) pe_int (nomark _)) (pw_or (pw_and (pt_cmpR op_gt (pe_callB call_len_seq (by rfl) T.len PySem.boot_len (pa_cons (pe_fld (pv 0) rfl) pa_nil)) pe_int (nomark _)) (pw_and1 (pt_cmpR op_eq (pe_ix ix_tup (pe_fld (pv 0) rfl) (pe_un un_neg pe_int) (fun _ _ => rfl)) pe_int (nomark _)))).pt (pw_or1 (pt_cmpR op_gt (pe_callB call_len_seq (by rfl) T.len PySem.boot_len (pa_cons (pe_fld (pv 0) rfl) pa_nil)) (pe_callB call_len_seq (by rfl) T.len PySem.boot_len (pa_cons (pv 1) pa_nil)) (nomark _))))).pt (pss_one (ps_ret pe_bl)) pss_nil)
      (pss_cons (ps_set (i := 5) scIsp.nd rfl (.inr rfl) (pe_op op_cat (pe_callTy call_list_of (by rfl) T.list (by decide +kernel) (pa_cons (pe_fld (pv 0) rfl) pa_nil)) (pe_op op_rep (pe_lst (pa_cons pe_int pa_nil)) (pe_op op_sub (pe_callB call_len_seq (by rfl) T.len PySem.boot_len (pa_cons (pv 1) pa_nil)) (pe_callB call_len_seq (by rfl) T.len PySem.boot_len (pa_cons (pe_fld (pv 0) rfl) pa_nil))))))
      (pss_one (ps_ret (pe_callB (cr_all rfl) (by rfl) hall (by decide +kernel) (pa_cons (pe_lc (own := [("k", 6)]) (g := gName 6) (by rfl) scIsp.nd (pi_range1 (by rfl) T.range (pa_cons (pe_callB call_len_seq (by rfl) T.len PySem.boot_len (pa_cons (pv 1) pa_nil)) pa_nil)) (blkOk_by (own := [("k", 6)]) (N := ["piece", "row", "under", "divisor", "entry", "told", "k"]) (sc := defScope sIsp) (by decide +kernel)) (fun _ _ _ _ _ => pg_name (i := 6) scIsp.nd rfl (Or.inl rfl)) (fun _ _ _ _ _ => pts_nil) (fun _ _ _ _ _ => (pe_cmpR op_eq (pe_op op_mulW (pe_ix (show IxR _ (rIx K) from ix_seq) (pv 5) (pv 6) (fun _ _ => rfl)) (pv 2)) (pe_op op_mulW (pe_ix (show IxR _ (rIx K) from ix_seq) (pv 1) (pv 6) (fun _ _ => rfl)) (show PE _ _ (tFld K (tVar 0) "under") from pe_fld (pv 0) (by rfl))) (nomark _)))) pa_nil))))))))), ?_⟩
    refine ⟨_, rfl, _, _, _, _, true, rfl, .own C, .base (.ins h1 CW.cl CW.cc CW.cg CW.ct CW.co), if_pos (by simp), ?_⟩
    refine ⟨_, rfl, iteF ?_⟩
    refine ⟨_, rfl, p, C, dx, _, _, rfl, h1, CW.cl, CW.nR, pf_row, _, _, _, _, true, rfl, .ty "tuple", sqt_ty h2, kit_ty (by decide +kernel), ?_⟩
    refine ⟨_, rfl, iteF ?_⟩
    refine ⟨_, rfl, p, C, dx, _, _, rfl, h1, CW.cl, CW.nU, pf_under, _, _, rfl, rfl, _, rfl, ?_⟩
    have hu := hL.u1
    rw [decide_eq_false (show ¬ (u : Int) < 1 by omega)]
    refine iteF ?_
    -- divisor
    refine ⟨_, rfl, p, C, dx, _, _, rfl, h1, CW.cl, CW.nU, pf_under, ?_⟩
    refine ⟨_, rfl, p, C, dx, _, _, rfl, h1, CW.cl, CW.nR, pf_row, ra, rfl, ⟨_, h2⟩, for_tup (K := K) (a := ra) (xs := pr.map V.int) (fun i σ H' => H' = H ∧ ∃ y : Option V, σ = [some (.ref p), some (.ref a), some (.int un), some (.int (gcdR u (pr.take i) : Nat)), y, none, none])
      ⟨rfl, none, rfl⟩ (fun i σ H' _ ⟨e, _⟩ => e ▸ h2) ?_ ?_⟩
    · rintro i x σ H' hi ⟨rfl, y, rfl⟩
      rw [List.getElem?_map] at hi
      obtain ⟨c, hc, rfl⟩ := Option.map_eq_some_iff.mp hi
      exact ⟨_, rfl, _, rfl, _, _, rfl, rfl, some (.int c), by rw [gcdR_take_succ hc]; rfl⟩
    rintro σ H' ⟨rfl, y, rfl⟩
    rw [List.length_map, List.take_length, hL.gcd]
    refine ⟨_, rfl, rfl, _, rfl, ?_⟩
    refine iteF ?_
    have hlen := hL.len
    refine ⟨_, rfl, p, C, dx, _, _, rfl, h1, CW.cl, CW.nR, pf_row, ra, _, rfl, .inr h2, _, _, rfl, rfl, _, rfl, ?_⟩
    rw [List.length_map]
    rcases Nat.eq_zero_or_pos pr.length with z | z
    case' inl =>
      rw [decide_eq_false (show ¬ (0 : Int) < (pr.length : Int) by omega)]
      refine iteF ?_
    case' inr =>
      rw [decide_eq_true (show (0 : Int) < (pr.length : Int) by omega)]
      refine iteT ⟨_, rfl, p, C, dx, _, _, rfl, h1, CW.cl, CW.nR, pf_row, _, rfl, ra, _, _, _, rfl, rfl, h2, at_last z, rfl, _, rfl, ?_⟩
      rw [dint, decide_eq_false (hL.last z)]
      refine iteF ?_
    all_goals
      refine ⟨_, rfl, p, C, dx, _, _, rfl, h1, CW.cl, CW.nR, pf_row, ra, _, rfl, .inr h2, _, rfl, a, _, rfl, .inl hS, _, _, rfl, rfl, _, rfl, ?_⟩
      rw [List.length_map, List.length_map, decide_eq_false (show ¬ (r.length : Int) < (pr.length : Int) by omega)]
      refine iteF ?_
      -- told
      refine ⟨_, rfl, p, C, dx, _, _, rfl, h1, CW.cl, CW.nR, pf_row, ra, _, rfl, .inr h2, fun t0 ht0 => ?_⟩
      have s0 := same_new (o := .lst (pr.map V.int)) ht0
      have e0 : (upd H' t0 (.lst (pr.map V.int))) t0 = some (.lst (pr.map V.int)) := upd_same
      generalize upd H' t0 (.lst (pr.map V.int)) = H0 at s0 e0 ⊢
      refine ⟨by show 1 ≤ sizeLine; decide, fun t3 ht3 => ?_⟩
      have s3 := s0.trans (same_new (o := .lst [.int 0]) ht3)
      have e3 : (upd H0 t3 (.lst [.int 0])) t3 = some (.lst [.int 0]) := upd_same
      have e03 := same_new (o := .lst [.int 0]) ht3 _ _ e0
      generalize upd H0 t3 (.lst [.int 0]) = H3 at s3 e3 e03 ⊢
      refine ⟨_, rfl, a, _, rfl, .inl (s3.seq hS), _, rfl, p, C, dx, _, _, rfl, s3 _ _ h1, CW.cl, CW.nR, pf_row, ra, _, rfl, .inr (Same.tup s3 h2), _, _, rfl, rfl, t3, _, _, rfl, rfl, e3, ?_⟩
      rw [List.length_map, List.length_map]
      have ek2 : ((r.length : Int) - (pr.length : Int)).toNat = r.length - pr.length := by omega
      rw [ek2]
      refine ⟨by omega, by omega, by show 1 * _ ≤ _; exact Nat.le_trans (show _ ≤ 100000 by omega) (by decide), fun t4 ht4 => ?_⟩
      have s4 := s3.trans (same_new (o := .lst (List.replicate (r.length - pr.length) [V.int 0]).flatten) ht4)
      have e04 := same_new (o := .lst (List.replicate (r.length - pr.length) [V.int 0]).flatten) ht4 _ _ e03
      have e4 : (upd H3 t4 (.lst (List.replicate (r.length - pr.length) [V.int 0]).flatten)) t4 = some (.lst ((List.replicate (r.length - pr.length) (0 : Int)).map V.int)) := by rw [upd_same, ← flat_rep]
      generalize upd H3 t4 (.lst (List.replicate (r.length - pr.length) [V.int 0]).flatten) = H4 at s4 e4 e04 ⊢
      refine ⟨t0, t4, _, _, rfl, rfl, e04, e4, by rw [List.length_map, List.length_map, List.length_replicate]; exact Nat.le_trans (show _ ≤ 100000 by omega) (by decide), fun t5 ht5 => ?_⟩
      rw [← List.map_append]
      have s5 := s4.trans (same_new (o := .lst ((pr ++ List.replicate (r.length - pr.length) 0).map V.int)) ht5)
      have e5 : (upd H4 t5 (.lst ((pr ++ List.replicate (r.length - pr.length) 0).map V.int))) t5 = some (.lst ((pr ++ List.replicate (r.length - pr.length) 0).map V.int)) := upd_same
      generalize upd H4 t5 (.lst ((pr ++ List.replicate (r.length - pr.length) 0).map V.int)) = H5 at s5 e5 ⊢
      -- all
      refine ⟨_, rfl, a, _, rfl, .inl (s5.seq hS), _, rfl, by rw [List.length_map]; omega, by rw [List.length_map]; omega, fun D hD => ?_⟩
      rw [List.length_map]
      refine lc_range (lo := 0) (n := r.length) (fun i Hx => Same H5 Hx ∧ Hx D = some (.lst ((List.replicate i true).map V.bl))) ⟨same_new hD, upd_same⟩ ?_ ?_
      · rintro i Hx hi ⟨sx, hx⟩
        obtain ⟨c, hc, gc⟩ := get_int (r := r) (k := i) hi
        obtain ⟨x, hx1, hx2⟩ := hL.at hc
        have gx : ((pr ++ List.replicate (r.length - pr.length) 0).map V.int)[i]? = some (.int x) := by rw [List.getElem?_map, hx1]; rfl
        have ei : (0 + (i : Nat) : Int) = ((i : Nat) : Int) := Int.zero_add _
        have bx : Bd 225 x := by
          rcases List.mem_append.mp (List.mem_of_getElem? hx1) with k | k
          · exact hL.bd hb x k
          · rw [(List.mem_replicate.mp k).2]; exact Bd.zero _
        refine ⟨rfl, _, rfl, _, rfl, .inl ⟨t5, _, _, _, rfl, rfl, .inl (.inl (sx _ _ e5)), atI_of ei gx, _, rfl, _, _, rfl, rfl, wide_mul bx hub (by decide) (by decide) (by decide), ?_⟩⟩
        refine ⟨_, rfl, _, rfl, .inl ⟨a, _, _, _, rfl, rfl, (s5.trans sx).seq hS, atI_of ei gc, _, rfl, p, C, dx, _, _, rfl, (s5.trans sx) _ _ h1, CW.cl, CW.nU, pf_under, _, _, rfl, rfl, wide_mul (hb c (List.mem_of_getElem? hc)) (hL.ub hub) (by decide) (by decide) (by decide), rfl, ?_⟩⟩
        dsimp only
        rw [dint, hx2, decide_eq_true rfl]
        refine ⟨_, hx, by rw [List.length_map, List.length_replicate]; exact small1000' (by omega), same_mut sx hD, ?_⟩
        rw [upd_same, List.replicate_succ', List.map_append]
        rfl
      · rintro H6 ⟨s6, h6⟩
        refine ⟨D, _, rfl, .inl (.inl h6), ?_⟩
        have : (List.replicate r.length true).all id = true := by
          rw [List.all_eq_true]
          intro b hb
          rw [(List.mem_replicate.mp hb).2]; rfl
        rw [this]
        exact q H6 (s5.trans s6)
end
end Ef
set_option Elab.async false
set_option linter.all false
/-! one least form -/
namespace Ef
theorem gcdR_mul (d : Nat) : ∀ (t : List Int) (f : Nat), gcdR (d * f) (t.map fun c => (d : Int) * c) = d * gcdR f t
  | [], f => rfl
  | c :: t, f => by
    show gcdR (Nat.gcd (d * f) ((d : Int) * c).natAbs) (t.map fun c => (d : Int) * c) = d * gcdR (Nat.gcd f c.natAbs) t
    rw [Int.natAbs_mul, Int.natAbs_natCast, Nat.gcd_mul_left]
    exact gcdR_mul d t _
/-- the member, or 0 -/
theorem Low.cross {r p : List Int} {un u : Nat} (h : Low r un p u) (j : Nat) : p.getD j 0 * (un : Int) = r.getD j 0 * (u : Int) := by
  obtain ⟨k, g, hg, hk, rfl, hd, hu, _, hz, hl⟩ := h.ex
  rcases Nat.lt_or_ge j k with z | z
  · have hjl : j < r.length := by omega
    have e : (r.take k)[j]? = some r[j] := by rw [List.getElem?_take, if_pos z, List.getElem?_eq_getElem hjl]
    have e1 : ((r.take k).map fun c => c / (g : Int)).getD j 0 = r[j] / (g : Int) := by rw [List.getD_eq_getElem?_getD, List.getElem?_map, e]; rfl
    have e2 : r.getD j 0 = r[j] := by rw [List.getD_eq_getElem?_getD, List.getElem?_eq_getElem hjl]; rfl
    rw [e1, e2, hu, Int.natCast_mul, ← Int.mul_assoc, Int.ediv_mul_cancel (hd _ (List.mem_of_getElem? e))]
  · have e1 : ((r.take k).map fun c => c / (g : Int)).getD j 0 = 0 := by
      rw [List.getD_eq_getElem?_getD, List.getElem?_eq_none (by rw [List.length_map, List.length_take]; omega)]; rfl
    have e2 : r.getD j 0 = 0 := by
      rcases Nat.lt_or_ge j r.length with w | w
      · rw [List.getD_eq_getElem?_getD, hz j z w]; rfl
      · rw [List.getD_eq_getElem?_getD, List.getElem?_eq_none w]; rfl
    rw [e1, e2, Int.zero_mul, Int.zero_mul]
theorem Low.un0 {r p : List Int} {un u : Nat} (h : Low r un p u) : 0 < un := by
  obtain ⟨k, g, hg, hk, _, _, hu, _⟩ := h.ex
  rw [hu]; exact Nat.mul_pos hg h.u1
theorem Low.gcd1 {r p : List Int} {un u : Nat} (h : Low r un p u) : gcdR u p = 1 := by
  obtain ⟨k, g, hg, hk, hp, hd, hu, h1, _⟩ := h.ex
  exact h1
/-- no 0 at the end -/
theorem Low.end_ {r p : List Int} {un u : Nat} (h : Low r un p u) (j : Nat) (hj : j + 1 = p.length) : p.getD j 0 ≠ 0 := by
  obtain ⟨k, g, hg, hk, rfl, hd, hu, _, hz, hl⟩ := h.ex
  rw [List.length_map, List.length_take] at hj
  rcases hl with rfl | ⟨c, hc, hc0⟩
  · omega
  · have ej : j = k - 1 := by omega
    have e : (r.take k)[j]? = some c := by rw [List.getElem?_take, if_pos (by omega), ej]; exact hc
    have e1 : ((r.take k).map fun c => c / (g : Int)).getD j 0 = c / (g : Int) := by rw [List.getD_eq_getElem?_getD, List.getElem?_map, e]; rfl
    rw [e1]
    intro z
    have := Int.mul_ediv_cancel' (hd c (List.mem_of_getElem? e))
    rw [z, Int.mul_zero] at this
    exact hc0 this.symm
theorem dvd_of_cross {p q : List Int} {u v : Nat} (h1 : gcdR u p = 1) (hc : ∀ j, p.getD j 0 * (v : Int) = q.getD j 0 * (u : Int)) : u ∣ v := by
  have h := gcdR_mul v p u
  rw [h1, Nat.mul_one] at h
  rw [← h]
  refine dvd_gcdR _ _ _ (Nat.dvd_mul_left u v) fun c hcm => ?_
  obtain ⟨x, hx, rfl⟩ := List.mem_map.mp hcm
  obtain ⟨j, hj, rfl⟩ := List.getElem_of_mem hx
  have e := hc j
  have e2 : p.getD j 0 = p[j] := by rw [List.getD_eq_getElem?_getD, List.getElem?_eq_getElem hj]; rfl
  rw [e2] at e
  rw [Int.mul_comm, e]
  exact Int.dvd_mul_left _ _
theorem ext_getD : ∀ {p q : List Int}, (∀ j, p.getD j 0 = q.getD j 0) → (∀ j, j + 1 = p.length → p.getD j 0 ≠ 0) → (∀ j, j + 1 = q.length → q.getD j 0 ≠ 0) → p = q := by
  intro p q h hp hq
  have hlen : ∀ {p q : List Int}, (∀ j, p.getD j 0 = q.getD j 0) → (∀ j, j + 1 = p.length → p.getD j 0 ≠ 0) → p.length ≤ q.length := by
    intro p q h hp
    rcases Nat.lt_or_ge q.length p.length with z | z
    · have h1 := hp (p.length - 1) (by omega)
      rw [h (p.length - 1)] at h1
      rw [List.getD_eq_getElem?_getD, List.getElem?_eq_none (by omega)] at h1
      exact absurd rfl h1
    · exact z
  have l1 := hlen h hp
  have l2 := hlen (fun j => (h j).symm) hq
  refine List.ext_getElem (by omega) fun j h1 h2 => ?_
  have := h j
  rw [List.getD_eq_getElem?_getD, List.getD_eq_getElem?_getD, List.getElem?_eq_getElem h1, List.getElem?_eq_getElem h2] at this
  exact this
/-- two rows that are one over their divisors have one least form -/
theorem Low.unique {r s p q : List Int} {un vn u v : Nat} (h1 : Low r un p u) (h2 : Low s vn q v) (e : ∀ j, r.getD j 0 * (vn : Int) = s.getD j 0 * (un : Int)) : p = q ∧ u = v := by
  have z1 := h1.un0
  have z2 := h2.un0
  have hc : ∀ j, p.getD j 0 * (v : Int) = q.getD j 0 * (u : Int) := fun j => by
    have a := h1.cross j
    have b := h2.cross j
    have c := e j
    have k : p.getD j 0 * (v : Int) * ((un : Int) * (vn : Int)) = q.getD j 0 * (u : Int) * ((un : Int) * (vn : Int)) := by
      have s1 : p.getD j 0 * (v : Int) * ((un : Int) * (vn : Int)) = (p.getD j 0 * (un : Int)) * (v : Int) * (vn : Int) := by
        simp only [Int.mul_assoc, Int.mul_comm, Int.mul_left_comm]
      have s2 : q.getD j 0 * (u : Int) * ((un : Int) * (vn : Int)) = (q.getD j 0 * (vn : Int)) * (u : Int) * (un : Int) := by
        simp only [Int.mul_assoc, Int.mul_comm, Int.mul_left_comm]
      rw [s1, s2, a, b]
      have s3 : r.getD j 0 * (u : Int) * (v : Int) * (vn : Int) = (r.getD j 0 * (vn : Int)) * ((u : Int) * (v : Int)) := by
        simp only [Int.mul_assoc, Int.mul_comm, Int.mul_left_comm]
      have s4 : s.getD j 0 * (v : Int) * (u : Int) * (un : Int) = (s.getD j 0 * (un : Int)) * ((u : Int) * (v : Int)) := by
        simp only [Int.mul_assoc, Int.mul_comm, Int.mul_left_comm]
      rw [s3, s4, c]
    have nz : ((un : Int) * (vn : Int)) ≠ 0 := by
      have := Int.mul_pos (show (0 : Int) < (un : Int) by omega) (show (0 : Int) < (vn : Int) by omega)
      omega
    exact Int.eq_of_mul_eq_mul_right nz k
  have d1 := dvd_of_cross h1.gcd1 hc
  have d2 := dvd_of_cross h2.gcd1 fun j => (hc j).symm
  have euv := Nat.dvd_antisymm d1 d2
  subst euv
  have nz : (u : Int) ≠ 0 := by have := h1.u1; omega
  exact ⟨ext_getD (fun j => Int.eq_of_mul_eq_mul_right nz (hc j)) h1.end_ h2.end_, rfl⟩
/-- one least form: one row over its divisor -/
theorem Low.back {r s p : List Int} {un vn u : Nat} (h1 : Low r un p u) (h2 : Low s vn p u) (j : Nat) : r.getD j 0 * (vn : Int) = s.getD j 0 * (un : Int) := by
  have a := h1.cross j
  have b := h2.cross j
  have nz : (u : Int) ≠ 0 := by have := h1.u1; omega
  refine Int.eq_of_mul_eq_mul_right nz ?_
  have s1 : r.getD j 0 * (vn : Int) * (u : Int) = (r.getD j 0 * (u : Int)) * (vn : Int) := by simp only [Int.mul_assoc, Int.mul_comm, Int.mul_left_comm]
  have s2 : s.getD j 0 * (un : Int) * (u : Int) = (s.getD j 0 * (u : Int)) * (un : Int) := by simp only [Int.mul_assoc, Int.mul_comm, Int.mul_left_comm]
  rw [s1, s2, ← a, ← b]
  simp only [Int.mul_assoc, Int.mul_comm, Int.mul_left_comm]
end Ef
set_option Elab.async false
set_option linter.all false
set_option maxRecDepth 100000
set_option maxHeartbeats 4000000
namespace Ef
open PySem PySem.Spec PyProof.Rows L2
abbrev sFault : Stmt := top 35
structure ErrM (K : PySem.W.Frag) (CR CU : Addr) : Prop where
  rr : PySem.W.exmOne K (.ref CR) (.ref CR) = some true
  ur : PySem.W.exmOne K (.ref CU) (.ref CR) = some false
  uu : PySem.W.exmOne K (.ref CU) (.ref CU) = some true
/-- what is told of an error -/
def EF (CR CU : Addr) (Q : VK) : XK := fun cls d H' => (cls = .ref CR ∧ ∃ (v : V) (dd : Addr), d = some dd ∧ H' dd = some (.xd [("index", v)]) ∧ ∀ t H2, Same H' H2 → H2 t = some (.tup [.str "row", v]) → Q (.ref t) H2) ∨
  (cls = .ref CU ∧ ∃ (v : V) (dd : Addr), d = some dd ∧ H' dd = some (.xd [("under", v)]) ∧ ∀ t H2, Same H' H2 → H2 t = some (.tup [.str "under", v]) → Q (.ref t) H2)
def TFault (CR CU : Addr) : (XK → Hp → VK → Prop) → Hp → VK → Prop := fun tl H Q => tl (EF CR CU Q) H fun _ H' => Q .non H'
theorem scFault : FnScope ["ask", "e"] ["ask"] (defScope sFault) := ⟨rfl, rfl, rfl, by decide +kernel, rfl, by decide +kernel, by decide +kernel⟩
theorem fault_gives {X : Cx} {g CR CU fR fU : Addr} {cdg : Value} {q : Str} (ER : ErrF X.K X.mg "BadRow" "index" CR fR) (EU : ErrF X.K X.mg "BadUnder" "under" CU fU) (EM : ErrM X.K CR CU) :
    LamX.GivesTo X ["ask", "e"] "_law_fault" (defScope sFault) g cdg (defBody sFault) "ask" q (TFault CR CU) := by
  intro f c' s H Q tl act hc h
  refine ⟨_, (pss_cons (ps_try_asL (tb := fun W D σ H1 => ∃ Ech : XK, (∀ (cls : Value) (d : Option Addr) (σ' : L2.St) (H' : Hp), σ'.length = 2 → Ech cls d H' → W cls d σ' H') ∧ σ[0]? = some (some (.ref f)) ∧ H1 c' = some (LamX.CodeO c' q) ∧ tl Ech H1 fun _ H2 => D.nx σ H2) rfl rfl scFault.nd takes0
      (fun W pn xe tk _ => ⟨fun pins s' σ H' D I h' => ?_⟩)
      (.cons (i := 1) rfl rfl ⟨rfl, by decide, .inl ER.mgC⟩ (fun a oe cls d pn hz hf => pss_one (ps_ret (pe_tup (pa_cons pe_str (pa_cons (pe_xf ER.xf ER.nN hz hf (pv 1)) pa_nil)))))
      (.cons (i := 1) rfl rfl ⟨rfl, by decide, .inl EU.mgC⟩ (fun a oe cls d pn hz hf => pss_one (ps_ret (pe_tup (pa_cons pe_str (pa_cons (pe_xf EU.xf EU.nN hz hf (pv 1)) pa_nil)))))
      .nil)))
      (pss_one (ps_ret pe_non))), ?_⟩
  · obtain ⟨Ech, hW, h1, h2, h3⟩ := h'
    have tk' : Takes ((cxOf C8.CX0 X.prog X.w X.K X.mg X.base ["ask", "e"] "_law_fault" (defScope sFault) g cdg X.A X.stack s H C8.E0).tr pn xe) (fun cls d σ' H' => σ'.length = 2 → W cls d σ' H') := by
      intro u s2 hx
      obtain ⟨a, B, sI, pins', σ', H2, cls, d, e1, J, nb, up, sky, na, os, ag, hw⟩ := hx
      exact tk u s2 ⟨a, B, sI, pins', σ', H2, cls, d, e1, J, nb, up, sky, na, os, ag, hw J.len⟩
    exact (pss_one (ps_expr (act _ pn xe Ech _ _ tk' fun cls d σ' H' hE hl => hW cls d σ' H' hl hE))).run pins s' σ H' D I ⟨h1, h2, h3⟩
  · refine ⟨EF CR CU Q, fun cls d σ' H' hlen hE => ?_, rfl, hc, h⟩
    match σ', hlen with
    | [z0, z1], _ =>
      rcases hE with ⟨rfl, v, dd, rfl, hx, q⟩ | ⟨rfl, v, dd, rfl, hx, q⟩
      · refine ⟨true, EM.rr, fun _ a ha => ?_, fun z => Bool.noConfusion z⟩
        refine ⟨_, rfl, rfl, rfl, dd, _, v, rfl, hx, rfl, by show 2 ≤ sizeLine; decide, fun t ht => ?_⟩
        exact q t _ (same_new ht) upd_same
      · refine ⟨false, EM.ur, fun z => Bool.noConfusion z, fun _ => ⟨true, EM.uu, fun _ a ha => ?_, fun z => Bool.noConfusion z⟩⟩
        refine ⟨_, rfl, rfl, rfl, dd, _, v, rfl, hx, rfl, by show 2 ≤ sizeLine; decide, fun t ht => ?_⟩
        exact q t _ (same_new ht) upd_same
end Ef
set_option Elab.async false
set_option linter.all false
set_option maxRecDepth 100000
set_option maxHeartbeats 8000000
namespace Ef
open PySem PySem.Spec PyProof.Rows L2
abbrev sLaw : Stmt := top 36
structure TxtL (mg : Str → Option Value) : Prop extends TxtJ mg where
  min : mg "min" = none
theorem passF {X : Cx} : Passes (CX X.prog X.w) X (fun _ _ _ => False) := fun pins σ H s e s' I h => by
  obtain ⟨a, B, H', cls, d, _, _, _, _, _, _, _, hE⟩ := h
  exact hE.elim
theorem passX {X : Cx} {A : Around} {outer : List Env} {s : Shared} {H : Hp} {E : XK} {scope : Scope} {f c' : Addr} : Passes (CX X.prog X.w) (LamX.lamCx X A outer s H E scope f c') E :=
  fun pins σ H1 s1 e s' I h => passes_call (X := LamX.lamCx X A outer s H E scope f c') (takes_of rfl rfl rfl rfl) (fun _ _ _ _ h => h) pins σ H1 s1 e s' I h
theorem same_inst {H : Hp} {x dx C : Addr} {fs : List (Str × V)} (nx : H x = none) (nd : H dx = none) : Same H (upd (upd H dx (.own x)) x (.ins C dx fs)) := fun b o e => by
  rw [upd_ne (ne_of_none e nx), upd_ne (ne_of_none e nd)]
  exact e
theorem tabs_same {T : List (Addr × Str)} {H H' : Hp} (t : LamX.Tabs T H) (e : Same H H') : LamX.Tabs T H' := fun p hp => (t p hp).ext e
theorem tab_kp {H H' : Hp} {P p l : Addr} {q : Str} {ns : List Int} {a b : Int} (t : LamX.TabS H P q) (k : Kp p H H') (hp : Pen H p l ns a b) : LamX.TabS H' P q := by
  obtain ⟨ps, h1, h2, h3⟩ := t
  refine ⟨ps, k _ _ (ne_of h1 hp.hd (by intro q; cases q)) h1, h2, fun pos cv hc => ?_⟩
  obtain ⟨c, e1, e2⟩ := h3 pos cv hc
  exact ⟨c, e1, k _ _ (ne_of e2 hp.hd (by intro q; cases q)) e2⟩
theorem tabs_kp {T : List (Addr × Str)} {H H' : Hp} {p l : Addr} {ns : List Int} {a b : Int} (t : LamX.Tabs T H) (k : Kp p H H') (hp : Pen H p l ns a b) : LamX.Tabs T H' := fun x hx => tab_kp (t x hx) k hp
theorem sqt_kp {K : PySem.W.Frag} {H H' : Hp} {a p : Addr} {xs : List V} {d : List (Key × V)} (h : SqT K H a xs) (k : Kp p H H') (hp : H p = some (.dK d)) : SqT K H' a xs := by
  rcases h with (h | ⟨z, h⟩) | h
  · exact .inl (.inl (k _ _ (ne_of h hp (by intro q; cases q)) h))
  · exact .inl (.inr ⟨z, k _ _ (ne_of h hp (by intro q; cases q)) h⟩)
  · exact .inr h
theorem PAt.kp {K : PySem.W.Frag} {C : Addr} {H H' : Hp} {p q : Addr} {r : List Int} {u : Nat} {d : List (Key × V)} (h : PAt K C H q r u) (k : Kp p H H') (hp : H p = some (.dK d)) : PAt K C H' q r u := by
  obtain ⟨dx, ra, h1, h2⟩ := h
  exact ⟨dx, ra, k _ _ (ne_of h1 hp (by intro q; cases q)) h1, sqt_kp h2 k hp⟩
theorem PAt.lst {K : PySem.W.Frag} {C : Addr} {H : Hp} {q l : Addr} {r : List Int} {u : Nat} {ys : List V} {o : HO} (h : PAt K C H q r u) (hl : H l = some (.lst ys)) : PAt K C (upd H l o) q r u := by
  obtain ⟨dx, ra, h1, h2⟩ := h
  refine ⟨dx, ra, by rw [upd_ne (ne_of h1 hl (by intro q; cases q))]; exact h1, ?_⟩
  rcases h2 with (h | ⟨z, h⟩) | h
  · exact .inl (.inl (by rw [upd_ne (ne_of h hl (by intro q; cases q))]; exact h))
  · exact .inl (.inr ⟨z, by rw [upd_ne (ne_of h hl (by intro q; cases q))]; exact h⟩)
  · exact .inr h
theorem Pen.same {H H' : Hp} {p l : Addr} {ns : List Int} {a b : Int} (h : Pen H p l ns a b) (e : Same H H') : Pen H' p l ns a b := ⟨e _ _ h.hd, e _ _ h.hl, h.len, h.a0, h.b0⟩
/-- [entry * number for entry in row] -/
theorem lc_scale {K : PySem.W.Frag} {a D : Addr} {r : List Int} {x : Int} {H1 : Hp} {σ : L2.St} {Qd : Hp → Prop} {g : TG} {te : TE} {vs : List Nat} (ha : H1 a = some (.lst (r.map V.int))) (hD : H1 D = none) (hl : r.length ≤ 100)
    (hs : ∀ (c : Int) (H : Hp) (R : VK), c ∈ r → (R (.int (c * x)) H) → g (.int c) (wipe σ vs) H fun σ2 H2 => wipe σ2 vs = wipe σ vs ∧ te σ2 H2 R)
    (hd : ∀ H', Same H1 H' → H' D = some (.lst ((r.map fun c => c * x).map V.int)) → Qd H') :
    ∃ W : Nat → Nat → Hp → Prop, (∃ m, W 0 m (upd H1 D (.lst []))) ∧ ∀ i m H, W i m H → ((Itl K a).stop i H ∧ Qd H) ∨ ((Itl K a).go i H ∧ ∃ Nx : Hp → Prop, (∀ H', Nx H' → ∃ m', m' < m ∧ W (i + 1) m' H') ∧ ∀ y H', (Itl K a).yld i H y H' → g y (wipe σ vs) H' fun σ2 H2 => wipe σ2 vs = wipe σ vs ∧ tYes σ2 H2 fun b H3 => if b = true then te σ2 H3 fun z H4 => ∃ acc, H4 D = some (.lst acc) ∧ acc.length < sizeLine ∧ Nx (upd H4 D (.lst (acc ++ [z]))) else Nx H3) := by
  refine lc_list (K := K) (a := a) (xs := r.map V.int) (tt := tYes) (fun i H' => Same H1 H' ∧ H' D = some (.lst (((r.take i).map fun c => c * x).map V.int))) ⟨same_new hD, upd_same⟩ (fun i H' _ hh => .inl (.inl (hh.1 _ _ ha))) ?_ ?_
  · rintro i y H' hi ⟨sx, hx⟩
    rw [List.getElem?_map] at hi
    obtain ⟨c, hc, rfl⟩ := Option.map_eq_some_iff.mp hi
    refine hs c H' _ (List.mem_of_getElem? hc) ⟨_, hx, ?_, same_mut sx hD, ?_⟩
    · rw [List.length_map, List.length_map, List.length_take]
      exact Nat.lt_of_le_of_lt (show min i r.length ≤ 100 by omega) (by decide)
    · rw [upd_same, List.take_succ, hc, Option.toList_some, List.map_append, List.map_append]
      rfl
  · rintro H3 ⟨s3, h3⟩
    rw [List.length_map, List.take_length] at h3
    exact hd H3 s3 h3
theorem scale_bd {r : List Int} {x : Int} {a b w : Nat} (h : ∀ c ∈ r, Bd a c) (hx : Bd b x) (e : a + b ≤ w) : ∀ c ∈ r.map (fun c => c * x), Bd w c := fun c hc => by
  obtain ⟨y, hy, rfl⟩ := List.mem_map.mp hc
  refine Bd.up (a := a + b) ?_ e
  have h1 := h y hy
  unfold Bd at *
  rw [Int.natAbs_mul, Nat.pow_add]
  exact Nat.mul_lt_mul'' h1 hx
theorem eqv_int (i : Int) : PyData.eqv (.int i) (.int i) = true := by
  show decide (i = i) = true
  exact decide_eq_true rfl
theorem sh_pair (r : List Int) (u : Int) : SeqAt.shaped (.tuple [.tuple (r.map PyData.int), .int u]) = true := by
  obtain ⟨h1, h2⟩ := can_ints r
  show ((PyData.canLayAll0 (r.map PyData.int) && (PyData.canLay0 (.int u) && true)) && decide (max (PyData.depthAll (r.map PyData.int) + 1) (max (PyData.depth (.int u)) 0) + 1 ≤ 64)) = true
  rw [h1, h2]
  rfl
theorem eqv_pair (r : List Int) (u : Int) : PyData.eqv (.tuple [.tuple (r.map PyData.int), .int u]) (.tuple [.tuple (r.map PyData.int), .int u]) = true := by
  show (PyData.eqvAll (r.map PyData.int) (r.map PyData.int) && (PyData.eqv (.int u) (.int u) && true)) = true
  rw [eqv_ints, eqv_int, decide_eq_true rfl]
  rfl
theorem sh_tag (t : Str) (d : PyData) (h1 : PyData.canLay0 (.str t) = true) (h2 : PyData.depth (.str t) = 0) (h3 : PyData.canLay0 d = true) (h4 : PyData.depth d ≤ 5) : SeqAt.shaped (.tuple [.str t, d]) = true := by
  show ((PyData.canLay0 (.str t) && (PyData.canLay0 d && true)) && decide (max (PyData.depth (.str t)) (max (PyData.depth d) 0) + 1 ≤ 64)) = true
  rw [h1, h2, h3]
  exact decide_eq_true (by omega)
/-- one member changed, or one more -/
def othL (r : List Int) (k : Nat) (e : Int) : List Int := r.take k ++ [e] ++ r.drop (k + 1)
theorem oth_get {r : List Int} {k : Nat} {e : Int} (h : k ≤ r.length) : (othL r k e)[k]? = some e := by
  unfold othL
  rw [List.append_assoc, List.getElem?_append_right (by rw [List.length_take]; omega), List.length_take, Nat.min_eq_left h, Nat.sub_self]
  rfl
theorem take1 (xs : List Int) (k : Nat) : (xs.drop k).take 1 = (xs[k]?).toList := by
  rcases Nat.lt_or_ge k xs.length with z | z
  · rw [List.drop_eq_getElem_cons z, List.getElem?_eq_getElem z]; rfl
  · rw [List.drop_eq_nil_of_le z, List.getElem?_eq_none z]; rfl
theorem oth_eq {r : List Int} {k : Nat} {e : Int} (h : r[k]? = some e) : othL r k e = r := by
  have hk : k < r.length := by
    rcases Nat.lt_or_ge k r.length with z | z
    · exact z
    · rw [List.getElem?_eq_none z] at h; cases h
  rw [List.getElem?_eq_getElem hk] at h
  injection h with h
  unfold othL
  rw [List.append_assoc, ← h]
  have := List.take_append_drop k r
  rw [List.drop_eq_getElem_cons hk] at this
  exact this
theorem oth_len {r : List Int} {k : Nat} {e : Int} : (othL r k e).length ≤ r.length + 1 := by
  unfold othL
  rw [List.length_append, List.length_append, List.length_take, List.length_drop]
  show min k r.length + 1 + (r.length - (k + 1)) ≤ r.length + 1
  omega
theorem oth_one {r p q : List Int} {un u v k : Nat} {e : Int} (h1 : Low r un p u) (h2 : Low (othL r k e) un q v) (hk : k ≤ r.length) (he : 1 ≤ e) : decide (q = p ∧ v = u) = decide ((r.drop k).take 1 = ((othL r k e).drop k).take 1) := by
  rw [take1, take1, oth_get hk]
  have hiff : (q = p ∧ v = u) ↔ ((r[k]?).toList = (some e).toList) := by
    constructor
    · rintro ⟨rfl, rfl⟩
      have hb := Low.back h1 h2 k
      have nz : (un : Int) ≠ 0 := by have := h1.un0; omega
      have hb2 := Int.eq_of_mul_eq_mul_right nz hb
      have e2 : (othL r k e).getD k 0 = e := by rw [List.getD_eq_getElem?_getD, oth_get hk]; rfl
      rw [e2] at hb2
      rcases Nat.lt_or_ge k r.length with z | z
      · rw [List.getD_eq_getElem?_getD, List.getElem?_eq_getElem z] at hb2
        rw [List.getElem?_eq_getElem z]
        show [r[k]] = [e]
        rw [← hb2]; rfl
      · rw [List.getD_eq_getElem?_getD, List.getElem?_eq_none z] at hb2
        have : (0 : Int) = e := hb2
        omega
    · intro h
      have hr : r[k]? = some e := by
        cases hx : r[k]? with
        | none => rw [hx] at h; cases h
        | some c =>
          rw [hx] at h
          injection h with h
          rw [h]
      have hoe := oth_eq hr
      rw [hoe] at h2
      obtain ⟨e1, e2⟩ := h1.unique h2 fun j => rfl
      exact ⟨e1.symm, e2.symm⟩
  by_cases hz : q = p ∧ v = u
  · rw [decide_eq_true hz, decide_eq_true (hiff.mp hz)]
  · rw [decide_eq_false hz, decide_eq_false (fun w => hz (hiff.mpr w))]
theorem cut_from (xs : List V) (k : Nat) (hk : k ≤ xs.length + 1) : cutV xs (some (k : Int)) none = xs.drop k := by
  unfold cutV
  rw [HT.sIx_none, HT.sIx_nat]
  rcases Nat.lt_or_ge k xs.length with z | z
  · rw [Nat.min_eq_left (by omega), List.take_of_length_le (by rw [List.length_drop]; omega)]
  · rw [Nat.min_eq_right z, List.drop_length, List.drop_eq_nil_of_le z, List.take_nil]
theorem cut_one (xs : List V) (k : Nat) (hk : k ≤ xs.length) : cutV xs (some (k : Int)) (some ((k + 1 : Nat) : Int)) = (xs.drop k).take 1 := by
  unfold cutV
  rw [HT.sIx_nat, HT.sIx_nat, Nat.min_eq_left hk]
  rcases Nat.lt_or_ge k xs.length with z | z
  · rw [Nat.min_eq_left (by omega), show k + 1 - k = 1 by omega]
  · rw [List.drop_eq_nil_of_le z, List.take_nil, List.take_nil]
/-- an under that is refused, told as data -/
def OddW (K : PySem.W.Frag) (H : Hp) (v : V) : Prop := BadUn K H v ∧ ∃ d, Dp K H v d ∧ SeqAt.shaped (.tuple [.str "under", d]) = true ∧ PyData.eqv (.tuple [.str "under", d]) (.tuple [.str "under", d]) = true
theorem ext_of {H H' : Hp} (h : LamX.ExtN H H') {b : Addr} {o : HO} (e : H b = some o) (n : ∀ ps : Array Value, o ≠ .tbl ps) : H' b = some o := h b o e n
theorem Pen.ext {H H' : Hp} {p l : Addr} {ns : List Int} {a b : Int} (h : Pen H p l ns a b) (e : LamX.ExtN H H') : Pen H' p l ns a b := ⟨ext_of e h.hd (fun _ z => by cases z), ext_of e h.hl (fun _ z => by cases z), h.len, h.a0, h.b0⟩
/-- where _law_fault stands -/
structure FaultAt (K : PySem.W.Frag) (mg : Str → Option Value) (g : Addr) (oc : Value) (od an : Option Addr) (kV doc pm cdv ct : Value) (osl : Array (Option Value)) : Prop where
  mg_ : mg "_law_fault" = some (.ref g)
  kp : PySem.W.keepIn K (.ref g) = true
  lk : K.lookup g = some ⟨oc, od, .func (PySem.W.fnOf "_law_fault" "_law_fault" (defArgs sFault) (defBody sFault) (defScope sFault) .none kV doc pm an cdv ct), osl⟩
  cd : PySem.W.codeIn K cdv "_law_fault" = true
  b : Binds K (PySem.W.fnOf "_law_fault" "_law_fault" (defArgs sFault) (defBody sFault) (defScope sFault) .none kV doc pm an cdv ct) ["ask"] []
section
variable {P : Program} {w : World} {K : PySem.W.Frag} {mg : Str → Option Value} {base : Heap}
def spLaw (K : PySem.W.Frag) (PT : Addr) : Sp := fun vs H Q _ => ∃ (a : Addr) (ns : List Int), vs = [.ref a] ∧ SqL K H a (ns.map V.int) ∧ ns.length ≤ 63 ∧ LamX.Tabs [(PT, ("law.<locals>.<lambda>" : Str))] H ∧ ∀ H', Q (.bl true) H'
theorem scLaw : FnScope ["script", "pen", "turn", "row", "under", "handed", "piece", "factor", "twin", "at", "other", "odd", "bad", "wrong", "entry"] ["script"] (defScope sLaw) := ⟨rfl, rfl, rfl, by decide +kernel, rfl, by decide +kernel, by decide +kernel⟩
theorem ok_law {f C CR CU fR fU fI g cL PT : Addr} {fdI : FuncData} {ds : List Value} {oc oc2 kV doc pm ct kV2 doc2 pm2 cdv2 ct2 : Value} {od an od2 an2 : Option Addr} {osl osl2 : Array (Option Value)}
    (lk : K.lookup f = some ⟨oc, od, .func (PySem.W.fnOf "law" "law" (defArgs sLaw) (defBody sLaw) (defScope sLaw) .none kV doc pm an (.ref cL) ct), osl⟩) (hcd : PySem.W.codeIn K (.ref cL) "law" = true)
    (T : TxtL mg) (CW : ClsQ K mg C) (M : Mk K C fI) (FI : FnOk P w K mg base (CX P w) 4 fI fdI ["self", "row", "under"] (spInit K C CR CU)) (bI : Binds K fdI ["self", "row", "under"] []) (bI1 : Binds K fdI ["self", "row", "under"] ds) (hd1 : Vals [.int 1] ds)
    (OE : Own P w K mg base 1 C "__eq__" ["self", "other"] (spEq K C)) (hne : PySem.W.findIn K (.ref C) "__ne__" = some (some (.builtin "object.__ne__")))
    (FT : FaultAt K mg g oc2 od2 an2 kV2 doc2 pm2 cdv2 ct2 osl2) (ER : ErrF K mg "BadRow" "index" CR fR) (EU : ErrF K mg "BadUnder" "under" CU fU) (EM : ErrM K CR CU) (TB : LamX.TabB base mg cL PT)
    (Dpen : Df P w K mg base 1 "_law_pen" ["script"] (spPen K)) (Ddraw : Df P w K mg base 1 "_law_draw" ["pen", "many"] spDraw) (Dpick : Df P w K mg base 2 "_law_pick" ["pen", "some"] (spPick K))
    (Dfraction : Df P w K mg base 4 "_law_fraction" ["pen", "most"] spFrac) (Dispiece : Df P w K mg base 2 "_law_is_piece" ["piece", "row", "under"] (spIsp K C)) :
    FnOk P w K mg base CX0 9 f (PySem.W.fnOf "law" "law" (defArgs sLaw) (defBody sLaw) (defScope sLaw) .none kV doc pm an (.ref cL) ct) ["script"] (spLaw K PT) := by
  refine fn_of lk hcd scLaw (fun vs H Q E h => ?_) (fun A outer s H vs Q E hr h => ?_)
  · obtain ⟨a, ns, rfl, _⟩ := h
    rfl
  · obtain ⟨a, ns, rfl, hS, hlen, hTab, q⟩ := h
    refine ⟨_, PSs.nox (pss_cons (ps_set (i := 1) scLaw.nd rfl (.inl rfl) (Dpen.call (hr.mono (by decide)) (pa_cons (pv 0) pa_nil)))
      (pss_cons (ps_for PassesOwn.never rfl (pi_range1 (by rfl) T.range (pa_cons (pe_op op_add pe_int (pe_callB (call_min2 rfl) (by rfl) T.min (by decide +kernel) (pa_cons pe_int (pa_cons (pe_callB call_len_seq (by rfl) T.len PySem.boot_len (pa_cons (pv 0) pa_nil)) pa_nil)))) pa_nil)) (pg_name (i := 2) scLaw.nd rfl (.inl rfl))
      (pss_cons (ps_asg (Dfraction.call (hr.mono (by decide)) (pa_cons (pv 1) (pa_cons pe_int pa_nil))) (pg_tup (by rfl) (pgs_cons (pg_name (i := 3) scLaw.nd rfl (.inr rfl)) (pgs_cons (pg_name (i := 4) scLaw.nd rfl (.inr rfl)) pgs_nil))))
      (pss_cons (ps_set (i := 5) scLaw.nd rfl (.inl rfl) (pe_callTy call_list_of (by rfl) T.list (by decide +kernel) (pa_cons (pv 3) pa_nil)))
      (pss_cons (ps_set (i := 6) scLaw.nd rfl (.inl rfl) (pe_make M FI (hr.mono (by decide)) (by rfl) CW.mgC bI .nil passF (pa_cons (pv 5) (pa_cons (pv 4) pa_nil))))
      (pss_cons (ps_expr (pe_bm PySem.F.plainAttrs_list PySem.F.slot_list_append PySem.F.type_list_append mt_append (pv 5) (pa_cons pe_int pa_nil)))
      (pss_cons (ps_if (pt_not (pt_val (Dispiece.call (hr.mono (by decide)) (pa_cons (pv 6) (pa_cons (pv 3) (pa_cons (pv 4) pa_nil)))))) (pss_one (ps_ret pe_bl)) pss_nil)
      (pss_cons (ps_set (i := 7) scLaw.nd rfl (.inr rfl) (Dpick.call (hr.mono (by decide)) (pa_cons (pv 1) (pa_cons (pe_lst (pa_cons pe_int (pa_cons pe_int (pa_cons pe_int (pa_cons (pe_op op_pow pe_int pe_int) (pa_cons pe_int pa_nil)))))) pa_nil))))
      (pss_cons (ps_set (i := 8) scLaw.nd rfl (.inl rfl) (pe_make M FI (hr.mono (by decide)) (by rfl) CW.mgC bI .nil passF (pa_cons (pe_callTy call_tuple_of (by rfl) T.tuple (by decide +kernel) (pa_cons (pe_op op_cat (pe_lc (own := [("entry", 14)]) (g := gName 14) (by rfl) scLaw.nd (pi_list (pv 3)) (blkOk_by (own := [("entry", 14)]) (N := ["script", "pen", "turn", "row", "under", "handed", "piece", "factor", "twin", "at", "other", "odd", "bad", "wrong", "entry"]) (sc := defScope sLaw) (by decide +kernel)) (fun _ _ _ _ _ => pg_name (i := 14) scLaw.nd rfl (Or.inl rfl)) (fun _ _ _ _ _ => pts_nil) (fun _ _ _ _ _ => (pe_op op_mulW (pv 14) (pv 7)))) (pe_op op_rep (pe_lst (pa_cons pe_int pa_nil)) (Ddraw.call (hr.mono (by decide)) (pa_cons (pv 1) (pa_cons pe_int pa_nil))))) pa_nil)) (pa_cons (pe_op op_mulW (pv 4) (pv 7)) pa_nil))))
      (pss_cons (ps_if (pw_or (pt_cmpR (op_ne_own OE (hr.mono (by decide)) CW.sl hne CW.co) (pv 8) (pv 6) (nomark _)) (pw_or (pt_cmpR (op_own rfl rfl OE (hr.mono (by decide)) CW.sl) (pv 6) (pv 3) (nomark _)) (pw_or1 (pt_cmpR (op_neD hr.units) (pe_tup (pa_cons (pe_fld (pv 8) rfl) (pa_cons (pe_fld (pv 8) rfl) pa_nil))) (pe_tup (pa_cons (pe_fld (pv 6) rfl) (pa_cons (pe_fld (pv 6) rfl) pa_nil))) (nomark _))))).pt (pss_one (ps_ret pe_bl)) pss_nil)
      (pss_cons (ps_set (i := 9) scLaw.nd rfl (.inl rfl) (Ddraw.call (hr.mono (by decide)) (pa_cons (pv 1) (pa_cons (pe_op op_add (pe_callB call_len_seq (by rfl) T.len PySem.boot_len (pa_cons (pv 3) pa_nil)) pe_int) pa_nil))))
      (pss_cons (ps_set (i := 10) scLaw.nd rfl (.inl rfl) (pe_op op_cat (pe_op op_cat (pe_slice sl_list (pv 3) po_none (po_some (pv 9))) (pe_lst (pa_cons (pe_op op_add pe_int (Ddraw.call (hr.mono (by decide)) (pa_cons (pv 1) (pa_cons pe_int pa_nil)))) pa_nil))) (pe_slice sl_list (pv 3) (po_some (pe_op op_add (pv 9) pe_int)) po_none)))
      (pss_cons (ps_if (pt_cmpR op_ne (pe_cmpR (op_own rfl rfl OE (hr.mono (by decide)) CW.sl) (pe_make M FI (hr.mono (by decide)) (by rfl) CW.mgC bI .nil passF (pa_cons (pv 10) (pa_cons (pv 4) pa_nil))) (pv 6) (nomark _)) (pe_cmpR (op_eqD hr.units) (pe_slice sl_list (pv 3) (po_some (pv 9)) (po_some (pe_op op_add (pv 9) pe_int))) (pe_slice sl_list (pv 10) (po_some (pv 9)) (po_some (pe_op op_add (pv 9) pe_int))) (nomark _)) (nomark _)) (pss_one (ps_ret pe_bl)) pss_nil)
      (pss_cons (ps_if (pw_or (pt_not (pt_val (Dispiece.call (hr.mono (by decide)) (pa_cons (pe_make M FI (hr.mono (by decide)) (by rfl) CW.mgC bI1 hd1 passF (pa_cons (pv 3) pa_nil)) (pa_cons (pv 3) (pa_cons pe_int pa_nil)))))) (pw_or1 (pt_cmpR (op_ne_own OE (hr.mono (by decide)) CW.sl hne CW.co) (pe_make M FI (hr.mono (by decide)) (by rfl) CW.mgC bI1 hd1 passF (pa_cons (pe_lst pa_nil) pa_nil)) (pe_make M FI (hr.mono (by decide)) (by rfl) CW.mgC bI .nil passF (pa_cons (pe_lst (pa_cons pe_int (pa_cons pe_int pa_nil))) (pa_cons pe_int pa_nil))) (nomark _)))).pt (pss_one (ps_ret pe_bl)) pss_nil)
      (pss_cons (ps_set (i := 11) scLaw.nd rfl (.inl rfl) (Dpick.call (hr.mono (by decide)) (pa_cons (pv 1) (pa_cons (pe_lst (pa_cons pe_bl (pa_cons pe_bl (pa_cons pe_non (pa_cons pe_str (pa_cons (pe_tup (pa_cons pe_int pa_nil)) (pa_cons (pe_lst (pa_cons pe_int pa_nil)) pa_nil))))))) pa_nil))))
      (pss_cons (ps_set (i := 12) scLaw.nd rfl (.inr rfl) (pe_op op_cat (pe_op op_cat (pe_op op_cat (pe_slice sl_list (pv 3) po_none (po_some (pv 9))) (pe_lst (pa_cons (pv 11) pa_nil))) (pe_slice sl_list (pv 3) (po_some (pv 9)) po_none)) (Dpick.call (hr.mono (by decide)) (pa_cons (pv 1) (pa_cons (pe_lst (pa_cons (pe_lst pa_nil) (pa_cons (pe_lst (pa_cons pe_non pa_nil)) pa_nil))) pa_nil)))))
      (pss_cons (ps_set (i := 13) scLaw.nd rfl (.inr rfl) (Dpick.call (hr.mono (by decide)) (pa_cons (pv 1) (pa_cons (pe_lst (pa_cons pe_int (pa_cons (pe_un un_neg pe_int) (pa_cons (pe_un un_neg (pe_op op_pow pe_int pe_int)) (pa_cons pe_bl (pa_cons pe_non (pa_cons pe_str (pa_cons (pe_tup (pa_cons pe_int pa_nil)) pa_nil)))))))) pa_nil))))
      (pss_cons (ps_if (pt_cmpR (op_neD hr.units) (LamX.pe_lamcall (k := 5) (by rfl) FT.mg_ FT.kp FT.lk FT.cd FT.b scFault rfl (.inl rfl) (fault_gives ER EU EM) TB rfl (List.mem_singleton.mpr rfl) (fun p hp _ => by rw [List.mem_singleton.mp hp]) (hr.mono (by decide)) (LamX.lamS_by (show LamX.lamSB (defScope sLaw) _ = true by decide +kernel)) rfl (fun _ _ _ _ _ => rfl) (fun A' outer' s' H' E' f' c' hr' => pe_make M FI (hr'.mono (by decide)) (by rfl) CW.mgC bI .nil (passX) (pa_cons (pv 12) (pa_cons (pv 13) pa_nil)))) (pe_tup (pa_cons pe_str (pa_cons (pv 9) pa_nil))) (nomark _)) (pss_one (ps_ret pe_bl)) pss_nil)
      (pss_cons (ps_if (pt_cmpR op_notN (LamX.pe_lamcall (k := 5) (by rfl) FT.mg_ FT.kp FT.lk FT.cd FT.b scFault rfl (.inl rfl) (fault_gives ER EU EM) TB rfl (List.mem_singleton.mpr rfl) (fun p hp _ => by rw [List.mem_singleton.mp hp]) (hr.mono (by decide)) (LamX.lamS_by (show LamX.lamSB (defScope sLaw) _ = true by decide +kernel)) rfl (fun _ _ _ _ _ => rfl) (fun A' outer' s' H' E' f' c' hr' => pe_make M FI (hr'.mono (by decide)) (by rfl) CW.mgC bI .nil (passX) (pa_cons (pv 3) (pa_cons (pv 4) pa_nil)))) pe_non (nomark _)) (pss_one (ps_ret pe_bl)) pss_nil)
      (pss_one (ps_if (pt_cmpR (op_neD hr.units) (LamX.pe_lamcall (k := 5) (by rfl) FT.mg_ FT.kp FT.lk FT.cd FT.b scFault rfl (.inl rfl) (fault_gives ER EU EM) TB rfl (List.mem_singleton.mpr rfl) (fun p hp _ => by rw [List.mem_singleton.mp hp]) (hr.mono (by decide)) (LamX.lamS_by (show LamX.lamSB (defScope sLaw) _ = true by decide +kernel)) rfl (fun _ _ _ _ _ => rfl) (fun A' outer' s' H' E' f' c' hr' => pe_make M FI (hr'.mono (by decide)) (by rfl) CW.mgC bI .nil (passX) (pa_cons (pv 3) (pa_cons (pv 13) pa_nil)))) (pe_tup (pa_cons pe_str (pa_cons (pv 13) pa_nil))) (nomark _)) (pss_one (ps_ret pe_bl)) pss_nil))))))))))))))))))))
      (pss_one (ps_ret pe_bl)))), ?_⟩
    refine ⟨_, rfl, a, ns, rfl, hS, hlen, fun p l H0 hp0 s0 hP0 => ?_⟩
    refine ⟨_, rfl, a, _, rfl, .inl (s0.seq hS), _, _, rfl, _, _, rfl, rfl, ?_⟩
    have hz : ∃ z : Int, (if (((ns.map V.int).length : Nat) : Int) < 5 then (((ns.map V.int).length : Nat) : Int) else 5) = z ∧ 0 ≤ z ∧ z ≤ 5 := by
      refine ⟨_, rfl, ?_, ?_⟩ <;> split <;> omega
    obtain ⟨z, ez, z0, z5⟩ := hz
    rw [ez]
    refine ⟨_, rfl, by omega, by omega, ?_⟩
    have hT0 := tabs_same hTab s0
    refine for_range (lo := 0) (n := (5 + z).toNat) (fun i σ H' => ∃ (a' b' : Int) (y2 y3 y4 y5 y6 y7 y8 y9 y10 y11 y12 y13 y14 : Option V), Pen H' p l ns a' b' ∧ a' ≤ 10000 * i ∧ LamX.Tabs [(PT, ("law.<locals>.<lambda>" : Str))] H' ∧ σ = [some (.ref a), some (.ref p), y2, y3, y4, y5, y6, y7, y8, y9, y10, y11, y12, y13, y14])
      ⟨0, 0, none, none, none, none, none, none, none, none, none, none, none, none, none, hP0, by omega, hT0, rfl⟩ ?_ ?_
    · rintro i σ H1 hi ⟨a1, b1, y2, y3, y4, y5, y6, y7, y8, y9, y10, y11, y12, y13, y14, hP1, ha1, hT1, rfl⟩
      have hi9 : i < 10 := by omega
      refine ⟨_, rfl, p, l, ns, a1, b1, rfl, hP1, by omega, fun tF rl r un a3 b3 H3 hF ha3 hP3 hK3 => ?_⟩
      have hT3 := tabs_kp hT1 hK3 hP1
      refine ⟨tF, _, rfl, .inl (.inl hF.ht), rfl, _, _, rfl, _, _, rfl, rfl, ?_⟩
      have hrlen := hF.len
      have hrb := hF.bd
      have hu1 := hF.u1
      have hub := hF.ub
      -- handed
      refine ⟨_, rfl, rl, _, rfl, .inl (.inl (.inl hF.hl)), fun hd hhd => ?_⟩
      have s4 := same_new (o := .lst (r.map V.int)) hhd
      have e4 : (upd H3 hd (.lst (r.map V.int))) hd = some (.lst (r.map V.int)) := upd_same
      generalize upd H3 hd (.lst (r.map V.int)) = H4 at s4 e4 ⊢
      -- piece
      refine ⟨_, rfl, _, rfl, ?_⟩
      intro x dx nx ndx nex
      refine ⟨H4, x, dx, hd, _, _, rfl, same_inst nx ndx, nx, upd_same, .inl (.inl (.inl e4)), by rw [List.length_map]; omega, .inr ⟨r, rfl, .inl ⟨un, rfl, hu1, hub.up (by decide), fun pr u H5 hL s5 hPA5 => ⟨rfl, ?_⟩⟩⟩⟩
      have e5 := s5 _ _ e4
      have s35 := s4.trans s5
      -- append
      refine ⟨_, rfl, .inl ⟨rfl, _, .inl (.inl e5)⟩, hd, _, _, rfl, rfl, e5, by rw [List.length_map]; exact small1000' (by omega), ?_⟩
      have hPA6 := PAt.lst (o := .lst (r.map V.int ++ [.int 3])) hPA5 e5
      have s36 : Same H3 (upd H5 hd (.lst (r.map V.int ++ [.int 3]))) := same_mut s35 hhd
      generalize upd H5 hd (.lst (r.map V.int ++ [.int 3])) = H6 at s36 hPA6 ⊢
      have hP6 := hP3.same s36
      have hT6 := tabs_same hT3 s36
      have hrl6 := s36 _ _ hF.hl
      -- is_piece
      refine ⟨_, rfl, _, rfl, _, rfl, x, rl, r, pr, un, u, rfl, hPA6, .inl (.inl hrl6), hL, hrlen, hrb, hub.up (by decide), fun H7 s7 => ?_⟩
      refine ⟨_, rfl, iteF ?_⟩
      have hP7 := hP6.same s7
      have hT7 := tabs_same hT6 s7
      have hrl7 := s7 _ _ hrl6
      have hPA7 := hPA6.same s7
      -- factor
      refine ⟨_, rfl, ?_⟩
      refine ⟨_, _, rfl, rfl, ⟨by decide, by decide, by decide⟩, by show 5 ≤ sizeLine; decide, fun t1 ht1 => ?_⟩
      refine ⟨p, l, t1, ns, a3, b3, _, rfl, hP7.newlst ht1, by omega, .inl (.inl upd_same), fun z => ?_, by show 1 ≤ 5; decide, by show 5 ≤ 100000; decide, ?_⟩
      · rw [z, hP7.hd] at ht1; cases ht1
      intro j1 v1 a8 b8 H8 hj1 ha8 hP8 hK8
      have hx1 : ∃ fa : Nat, v1 = .int (fa : Int) ∧ 0 < fa ∧ Bd 70 (fa : Int) := by
        have hm := List.mem_of_getElem? hj1
        simp only [List.mem_cons, List.not_mem_nil, or_false] at hm
        rcases hm with rfl | rfl | rfl | rfl | rfl
        · exact ⟨1, rfl, by decide, by unfold Bd; decide +kernel⟩
        · exact ⟨2, rfl, by decide, by unfold Bd; decide +kernel⟩
        · exact ⟨3, rfl, by decide, by unfold Bd; decide +kernel⟩
        · exact ⟨10 ^ 20, rfl, by decide, by unfold Bd; decide +kernel⟩
        · exact ⟨35, rfl, by decide, by unfold Bd; decide +kernel⟩
      obtain ⟨fa, rfl, hfa, hfb⟩ := hx1
      have s78 := same_new (o := .lst [.int 1, .int 2, .int 3, .int ((10 : Int) ^ (20 : Int).toNat), .int 35]) ht1
      have hK78 : Kp p H7 H8 := (Kp.of_same s78).trans hK8
      have hT8 := tabs_kp hT7 hK78 hP7
      have hrl8 := hK78 _ _ (ne_of hrl7 hP7.hd (by intro q; cases q)) hrl7
      have hPA8 := hPA7.kp hK78 hP7.hd
      -- twin's row
      refine ⟨_, rfl, rl, rfl, ⟨_, .inl (.inl hrl8)⟩, fun D hD => ?_⟩
      refine lc_scale (x := (fa : Int)) hrl8 hD (by omega) (fun c H R hc h => ⟨rfl, _, rfl, _, rfl, _, _, rfl, rfl, wide_mul (hrb c hc) hfb (by decide) (by decide) (by decide), h⟩) fun H9 s9 h9 => ?_
      have hP9 := hP8.same s9
      refine ⟨by show 1 ≤ sizeLine; decide, fun t3 ht3 => ?_⟩
      have s10 := same_new (o := .lst [.int 0]) ht3
      have e10 : (upd H9 t3 (.lst [.int 0])) t3 = some (.lst [.int 0]) := upd_same
      have h10 := s10 _ _ h9
      have hP10 := hP9.same s10
      generalize upd H9 t3 (.lst [.int 0]) = H10 at s10 e10 h10 hP10 ⊢
      refine ⟨_, rfl, p, l, ns, a8, b8, _, rfl, hP10, by omega, by decide, by decide, fun dz a11 b11 H11 dz0 dz1 ha11 hP11 hK11 => ?_⟩
      have e11 := hK11 _ _ (ne_of e10 hP10.hd (by intro q; cases q)) e10
      have h11 := hK11 _ _ (ne_of h10 hP10.hd (by intro q; cases q)) h10
      refine ⟨t3, _, _, rfl, rfl, e11, by omega, by omega, by show 1 * _ ≤ _; exact Nat.le_trans (show _ ≤ 100000 by omega) (by decide), fun t4 ht4 => ?_⟩
      have s12 := same_new (o := .lst (List.replicate dz.toNat [V.int 0]).flatten) ht4
      have e12 : (upd H11 t4 (.lst (List.replicate dz.toNat [V.int 0]).flatten)) t4 = some (.lst ((List.replicate dz.toNat (0 : Int)).map V.int)) := by rw [upd_same, ← flat_rep]
      have h12 := s12 _ _ h11
      have hP12 := hP11.same s12
      generalize upd H11 t4 (.lst (List.replicate dz.toNat [V.int 0]).flatten) = H12 at s12 e12 h12 hP12 ⊢
      refine ⟨D, t4, _, _, rfl, rfl, h12, e12, by rw [List.length_map, List.length_map, List.length_map, List.length_replicate]; exact Nat.le_trans (show _ ≤ 100000 by omega) (by decide), fun t5 ht5 => ?_⟩
      rw [← List.map_append]
      refine ⟨t5, _, rfl, .inl ⟨.inl (.inl upd_same), fun t6 ht6 => ?_⟩⟩
      have s13 := (same_new (o := .lst ((r.map (fun c => c * (fa : Int)) ++ List.replicate dz.toNat 0).map V.int)) ht5).trans (same_new (o := .tup ((r.map (fun c => c * (fa : Int)) ++ List.replicate dz.toNat 0).map V.int)) ht6)
      have e13 : (upd (upd H12 t5 (.lst ((r.map (fun c => c * (fa : Int)) ++ List.replicate dz.toNat 0).map V.int))) t6 (.tup ((r.map (fun c => c * (fa : Int)) ++ List.replicate dz.toNat 0).map V.int))) t6 = some (.tup ((r.map (fun c => c * (fa : Int)) ++ List.replicate dz.toNat 0).map V.int)) := upd_same
      have hK813 : Kp p H8 (upd (upd H12 t5 (.lst ((r.map (fun c => c * (fa : Int)) ++ List.replicate dz.toNat 0).map V.int))) t6 (.tup ((r.map (fun c => c * (fa : Int)) ++ List.replicate dz.toNat 0).map V.int))) := (Kp.of_same (s9.trans s10)).trans (hK11.trans (Kp.of_same (s12.trans s13)))
      have hP13 := hP12.same s13
      generalize upd (upd H12 t5 (.lst ((r.map (fun c => c * (fa : Int)) ++ List.replicate dz.toNat 0).map V.int))) t6 (.tup ((r.map (fun c => c * (fa : Int)) ++ List.replicate dz.toNat 0).map V.int)) = H13 at e13 hK813 hP13 ⊢
      have hT13 := tabs_kp hT8 hK813 hP8
      have hrl13 := hK813 _ _ (ne_of hrl8 hP8.hd (by intro q; cases q)) hrl8
      have hPA13 := hPA8.kp hK813 hP8.hd
      have htw : (r.map (fun c => c * (fa : Int)) ++ List.replicate dz.toNat 0).length ≤ 100 := by rw [List.length_append, List.length_map, List.length_replicate]; omega
      have htg : ∀ j, r.getD j 0 * ((un * fa : Nat) : Int) = (r.map (fun c => c * (fa : Int)) ++ List.replicate dz.toNat 0).getD j 0 * (un : Int) := fun j => by
        rw [Int.natCast_mul, List.getD_eq_getElem?_getD, List.getD_eq_getElem?_getD]
        rcases Nat.lt_or_ge j r.length with w | w
        · rw [List.getElem?_append_left (by rw [List.length_map]; exact w), List.getElem?_map, List.getElem?_eq_getElem w]
          show r[j] * ((un : Int) * (fa : Int)) = r[j] * (fa : Int) * (un : Int)
          rw [Int.mul_assoc, Int.mul_comm (fa : Int)]
        · rw [List.getElem?_eq_none w, List.getElem?_append_right (by rw [List.length_map]; exact w), List.getElem?_replicate]
          split <;> simp
      generalize r.map (fun c => c * (fa : Int)) ++ List.replicate dz.toNat 0 = tw at e13 htw htg ⊢
      -- twin
      refine ⟨_, rfl, _, rfl, _, _, rfl, rfl, wide_mul hub hfb (by decide) (by decide) (by decide), ?_⟩
      intro x2 dx2 nx2 ndx2 nex2
      have hun2 : 0 < un * fa := Nat.mul_pos hu1 hfa
      have hub2 : Bd 400 ((un * fa : Nat) : Int) := by
        unfold Bd at *
        rw [Int.natAbs_natCast] at *
        have := Nat.mul_lt_mul'' hub hfb
        rw [← Nat.pow_add] at this
        exact Nat.lt_of_lt_of_le this (Nat.pow_le_pow_right (by decide) (by decide))
      refine ⟨H13, x2, dx2, t6, _, .int ((un * fa : Nat) : Int), by rw [Int.natCast_mul]; rfl, same_inst nx2 ndx2, nx2, upd_same, .inr (.inl (.inl e13)), by rw [List.length_map]; exact htw, .inr ⟨tw, rfl, .inl ⟨un * fa, rfl, hun2, hub2, fun pr2 u2 H14 hL2 s14 hPB14 => ⟨rfl, ?_⟩⟩⟩⟩
      obtain ⟨rfl, rfl⟩ := hL.unique hL2 htg
      have hP14 := hP13.same s14
      have hT14 := tabs_same hT13 s14
      have hrl14 := s14 _ _ hrl13
      have hPA14 := hPA13.same s14
      have hlp := hL.len
      obtain ⟨dxa, raa, ia14, ta14⟩ := id hPA14
      obtain ⟨dxb, rab, ib14, tb14⟩ := id hPB14
      -- twin != piece
      refine ⟨_, rfl, _, rfl, x2, dxb, _, rfl, ib14, .inl ⟨x, dxa, _, rfl, ia14⟩, x2, .ref x, pr, u, rfl, hPB14, by omega, .inl ⟨x, pr, u, rfl, hPA14, by omega, _, rfl, ?_⟩⟩
      rw [decide_eq_true (show pr = pr ∧ u = u from ⟨rfl, rfl⟩)]
      refine ⟨_, rfl, iteF ?_⟩
      refine ⟨_, rfl, _, rfl, x, dxa, _, rfl, ia14, .inr ⟨rl, _, rfl, hrl14⟩, x, .ref rl, pr, u, rfl, hPA14, by omega, .inr ⟨rl, _, rfl, hrl14, _, rfl, ?_⟩⟩
      refine ⟨_, rfl, iteF ?_⟩
      refine ⟨_, rfl, x2, C, dxb, _, _, rfl, ib14, CW.cl, CW.nR, pf_row, _, rfl, x2, C, dxb, _, _, rfl, ib14, CW.cl, CW.nU, pf_under, by show 2 ≤ sizeLine; decide, fun t8 ht8 => ?_⟩
      have s15 := same_new (o := .tup [.ref rab, .int (u : Int)]) ht8
      have e15 : (upd H14 t8 (.tup [.ref rab, .int (u : Int)])) t8 = some (.tup [.ref rab, .int (u : Int)]) := upd_same
      generalize upd H14 t8 (.tup [.ref rab, .int (u : Int)]) = H15 at s15 e15 ⊢
      refine ⟨_, rfl, x, C, dxa, _, _, rfl, s15 _ _ ia14, CW.cl, CW.nR, pf_row, _, rfl, x, C, dxa, _, _, rfl, s15 _ _ ia14, CW.cl, CW.nU, pf_under, by show 2 ≤ sizeLine; decide, fun t9 ht9 => ?_⟩
      have s16 := s15.trans (same_new (o := .tup [.ref raa, .int (u : Int)]) ht9)
      have e16 : (upd H15 t9 (.tup [.ref raa, .int (u : Int)])) t9 = some (.tup [.ref raa, .int (u : Int)]) := upd_same
      have e15' := same_new (o := .tup [.ref raa, .int (u : Int)]) ht9 _ _ e15
      generalize upd H15 t9 (.tup [.ref raa, .int (u : Int)]) = H16 at s16 e16 e15' ⊢
      refine ⟨_, _, .tup (.inl (.inl e15')) (.cons (.tup (Same.tup s16 tb14) (dp_ints pr)) (.cons (.int _) .nil)), .tup (.inl (.inl e16)) (.cons (.tup (Same.tup s16 ta14) (dp_ints pr)) (.cons (.int _) .nil)), sh_pair pr u, sh_pair pr u, _, rfl, ?_⟩
      rw [eqv_pair]
      refine iteF ?_
      have hP16 := hP14.same s16
      have hT16 := tabs_same hT14 s16
      have hrl16 := s16 _ _ hrl14
      have hPA16 := hPA14.same s16
      -- at
      refine ⟨_, rfl, _, rfl, rl, _, rfl, .inl (.inl (.inl hrl16)), _, _, rfl, rfl, p, l, ns, a11, b11, _, rfl, hP16, by omega, by rw [List.length_map]; omega, by rw [List.length_map]; omega, fun at_ a17 b17 H17 at0 at1 ha17 hP17 hK17 => ?_⟩
      rw [List.length_map] at at1
      have hT17 := tabs_kp hT16 hK17 hP16
      have hrl17 := hK17 _ _ (ne_of hrl16 hP16.hd (by intro q; cases q)) hrl16
      have hPA17 := hPA16.kp hK17 hP16.hd
      obtain ⟨at', rfl⟩ : ∃ k : Nat, at_ = (k : Int) := ⟨at_.toNat, (Int.toNat_of_nonneg at0).symm⟩
      have hat : at' ≤ r.length := by omega
      -- other
      refine ⟨_, rfl, _, rfl, _, rfl, rl, _, rfl, .inl (.inl hrl17), fun t10 ht10 => ?_⟩
      rw [cut_hi _ at' (by rw [List.length_map]; exact hat), ← List.map_take]
      have s18 := same_new (o := .lst ((r.take at').map V.int)) ht10
      have e18 : (upd H17 t10 (.lst ((r.take at').map V.int))) t10 = some (.lst ((r.take at').map V.int)) := upd_same
      have hP18 := hP17.same s18
      generalize upd H17 t10 (.lst ((r.take at').map V.int)) = H18 at s18 e18 hP18 ⊢
      refine ⟨_, rfl, p, l, ns, a17, b17, _, rfl, hP18, by omega, by decide, by decide, fun d5 a19 b19 H19 d50 d51 ha19 hP19 hK19 => ?_⟩
      refine ⟨_, _, rfl, rfl, by show 1 ≤ sizeLine; decide, fun t11 ht11 => ?_⟩
      have e19 := hK19 _ _ (ne_of e18 hP18.hd (by intro q; cases q)) e18
      have he1 : (1 : Int) ≤ 1 + d5 := by omega
      have heb : Bd 225 (1 + d5) := bd_small (by omega) (by omega) (by decide)
      dsimp only
      generalize (1 : Int) + d5 = ev at he1 heb ⊢
      have s20 := same_new (o := .lst [.int ev]) ht11
      have e20 : (upd H19 t11 (.lst [.int ev])) t11 = some (.lst ([ev].map V.int)) := upd_same
      have e20' := s20 _ _ e19
      have hP20 := hP19.same s20
      generalize upd H19 t11 (.lst [.int ev]) = H20 at s20 e20 e20' hP20 ⊢
      refine ⟨t10, t11, _, _, rfl, rfl, e20', e20, by rw [List.length_map, List.length_map, List.length_take]; exact Nat.le_trans (show _ ≤ 100000 by show min at' r.length + 1 ≤ 100000; omega) (by decide), fun t12 ht12 => ?_⟩
      rw [← List.map_append]
      have s21 := s20.trans (same_new (o := .lst ((r.take at' ++ [ev]).map V.int)) ht12)
      have e21 : (upd H20 t12 (.lst ((r.take at' ++ [ev]).map V.int))) t12 = some (.lst ((r.take at' ++ [ev]).map V.int)) := upd_same
      have hP21 := hP19.same s21
      generalize upd H20 t12 (.lst ((r.take at' ++ [ev]).map V.int)) = H21 at s21 e21 hP21 ⊢
      have hK1721 : Kp p H17 H21 := (Kp.of_same s18).trans (hK19.trans (Kp.of_same s21))
      have hrl21 := hK1721 _ _ (ne_of hrl17 hP17.hd (by intro q; cases q)) hrl17
      refine ⟨_, rfl, _, rfl, _, _, rfl, rfl, _, rfl, rl, _, rfl, .inl (.inl hrl21), fun t13 ht13 => ?_⟩
      rw [show ((at' : Int) + 1) = ((at' + 1 : Nat) : Int) from rfl, cut_from _ (at' + 1) (by rw [List.length_map]; omega), ← List.map_drop]
      have s22 := same_new (o := .lst ((r.drop (at' + 1)).map V.int)) ht13
      have e22 : (upd H21 t13 (.lst ((r.drop (at' + 1)).map V.int))) t13 = some (.lst ((r.drop (at' + 1)).map V.int)) := upd_same
      have e22' := s22 _ _ e21
      generalize upd H21 t13 (.lst ((r.drop (at' + 1)).map V.int)) = H22 at s22 e22 e22' ⊢
      refine ⟨t12, t13, _, _, rfl, rfl, e22', e22, by rw [List.length_map, List.length_map, List.length_append, List.length_take, List.length_drop]; exact Nat.le_trans (show _ ≤ 100000 by show min at' r.length + 1 + (r.length - (at' + 1)) ≤ 100000; omega) (by decide), fun t14 ht14 => ?_⟩
      rw [← List.map_append]
      have s23 := s22.trans (same_new (o := .lst ((othL r at' ev).map V.int)) ht14)
      have e23 : (upd H22 t14 (.lst ((othL r at' ev).map V.int))) t14 = some (.lst ((othL r at' ev).map V.int)) := upd_same
      have hP23 := hP21.same s23
      have hK1723 : Kp p H17 (upd H22 t14 (.lst ((othL r at' ev).map V.int))) := hK1721.trans (Kp.of_same s23)
      show tSeq _ _ _ _ (upd H22 t14 (.lst ((othL r at' ev).map V.int)))
      generalize upd H22 t14 (.lst ((othL r at' ev).map V.int)) = H23 at e23 hP23 hK1723 ⊢
      have hT23 := tabs_kp hT17 hK1723 hP17
      have hrl23 := hK1723 _ _ (ne_of hrl17 hP17.hd (by intro q; cases q)) hrl17
      have hPA23 := hPA17.kp hK1723 hP17.hd
      have hol : (othL r at' ev).length ≤ r.length + 1 := oth_len
      -- Piece(other, under) == piece
      refine ⟨_, rfl, _, rfl, ?_⟩
      intro x3 dx3 nx3 ndx3 nex3
      refine ⟨H23, x3, dx3, t14, _, _, rfl, same_inst nx3 ndx3, nx3, upd_same, .inl (.inl (.inl e23)), by rw [List.length_map]; omega, .inr ⟨othL r at' ev, rfl, .inl ⟨un, rfl, hu1, hub.up (by decide), fun pr3 u3 H24 hL3 s24 hPC24 => ⟨rfl, ?_⟩⟩⟩⟩
      have hPA24 := hPA23.same s24
      have hrl24 := s24 _ _ hrl23
      have e24 := s24 _ _ e23
      have hlp3 := hL3.len
      obtain ⟨dxc, rac, ic24, tc24⟩ := id hPC24
      obtain ⟨dxd, rad, ia24, ta24⟩ := id hPA24
      refine ⟨_, rfl, x3, dxc, _, rfl, ic24, .inl ⟨x, dxd, _, rfl, ia24⟩, x3, .ref x, pr3, u3, rfl, hPC24, by omega, .inl ⟨x, pr, u, rfl, hPA24, by omega, _, rfl, ?_⟩⟩
      rw [oth_one hL hL3 hat he1]
      -- row[at:at + 1] == other[at:at + 1]
      refine ⟨_, rfl, _, rfl, _, rfl, _, rfl, _, _, rfl, rfl, _, rfl, rl, _, rfl, .inl (.inl hrl24), fun t15 ht15 => ?_⟩
      rw [show ((at' : Int) + 1) = ((at' + 1 : Nat) : Int) from rfl, cut_one _ at' (by rw [List.length_map]; omega), ← List.map_drop, ← List.map_take]
      have s25 := same_new (o := .lst (((r.drop at').take 1).map V.int)) ht15
      have e25 : (upd H24 t15 (.lst (((r.drop at').take 1).map V.int))) t15 = some (.lst (((r.drop at').take 1).map V.int)) := upd_same
      have e25' := s25 _ _ e24
      generalize upd H24 t15 (.lst (((r.drop at').take 1).map V.int)) = H25 at s25 e25 e25' ⊢
      refine ⟨_, rfl, _, rfl, _, rfl, _, rfl, _, _, rfl, rfl, _, rfl, t14, _, rfl, .inl (.inl e25'), fun t16 ht16 => ?_⟩
      rw [show ((at' : Int) + 1) = ((at' + 1 : Nat) : Int) from rfl, cut_one _ at' (by rw [List.length_map]; have h1 := oth_get (e := ev) hat; rcases Nat.lt_or_ge at' (othL r at' ev).length with z | z; exact Nat.le_of_lt z; rw [List.getElem?_eq_none z] at h1; cases h1), ← List.map_drop, ← List.map_take]
      have s26 := same_new (o := .lst ((((othL r at' ev).drop at').take 1).map V.int)) ht16
      have e26 : (upd H25 t16 (.lst ((((othL r at' ev).drop at').take 1).map V.int))) t16 = some (.lst ((((othL r at' ev).drop at').take 1).map V.int)) := upd_same
      have e26' := s26 _ _ e25
      generalize upd H25 t16 (.lst ((((othL r at' ev).drop at').take 1).map V.int)) = H26 at s26 e26 e26' ⊢
      refine ⟨_, _, .lst (.inl (.inl e26')) (dp_ints _), .lst (.inl (.inl e26)) (dp_ints _), (sh_list (can_ints _).1 (can_ints _).2).1, (sh_list (can_ints _).1 (can_ints _).2).1, ?_⟩
      rw [show PyData.eqv (.list (((r.drop at').take 1).map PyData.int)) (.list ((((othL r at' ev).drop at').take 1).map PyData.int)) = decide ((r.drop at').take 1 = ((othL r at' ev).drop at').take 1) from eqv_ints _ _]
      generalize decide ((r.drop at').take 1 = ((othL r at' ev).drop at').take 1) = bq
      refine ⟨rfl, _, rfl, ?_⟩
      rw [if_neg Bool.false_ne_true, show decide (V.bl bq = V.bl bq) = true from decide_eq_true rfl]
      refine iteF ?_
      have s2326 := s24.trans (s25.trans s26)
      have hP26 := hP23.same s2326
      have hT26 := tabs_same hT23 s2326
      have hrl26 := s2326 _ _ hrl23
      -- Piece(row)
      refine ⟨_, rfl, ?_⟩
      intro x4 dx4 nx4 ndx4 nex4
      refine ⟨H26, x4, dx4, rl, _, _, rfl, same_inst nx4 ndx4, nx4, upd_same, .inl (.inl (.inl hrl26)), by rw [List.length_map]; omega, .inr ⟨r, rfl, .inl ⟨1, rfl, by decide, by unfold Bd; decide +kernel, fun pr4 u4 H27 hL4 s27 hPD27 => ⟨rfl, ?_⟩⟩⟩⟩
      have hrl27 := s27 _ _ hrl26
      refine ⟨_, rfl, x4, rl, r, pr4, 1, u4, rfl, hPD27, .inl (.inl hrl27), hL4, hrlen, hrb, by unfold Bd; decide +kernel, fun H28 s28 => ?_⟩
      refine ⟨_, rfl, iteF ?_⟩
      -- Piece([]) != Piece([0, 0], 7)
      refine ⟨Nat.zero_le _, fun t17 ht17 => ?_⟩
      intro x5 dx5 nx5 ndx5 nex5
      refine ⟨_, x5, dx5, t17, _, _, rfl, same_inst nx5 ndx5, nx5, upd_same, .inl (.inl (.inl upd_same)), Nat.zero_le _, .inr ⟨[], rfl, .inl ⟨1, rfl, by decide, by unfold Bd; decide +kernel, fun pr5 u5 H29 hL5 s29 hPE29 => ⟨rfl, ?_⟩⟩⟩⟩
      have s2829 := (same_new (o := .lst []) ht17).trans s29
      refine ⟨by show 2 ≤ sizeLine; decide, fun t18 ht18 => ?_⟩
      have s30 := same_new (o := .lst [.int 0, .int 0]) ht18
      have e30 : (upd H29 t18 (.lst [.int 0, .int 0])) t18 = some (.lst ([0, 0].map V.int)) := upd_same
      generalize upd H29 t18 (.lst [.int 0, .int 0]) = H30 at s30 e30 ⊢
      intro x6 dx6 nx6 ndx6 nex6
      refine ⟨H30, x6, dx6, t18, _, _, rfl, same_inst nx6 ndx6, nx6, upd_same, .inl (.inl (.inl e30)), by show 2 ≤ 100; decide, .inr ⟨[0, 0], rfl, .inl ⟨7, rfl, by decide, by unfold Bd; decide +kernel, fun pr6 u6 H31 hL6 s31 hPF31 => ⟨rfl, ?_⟩⟩⟩⟩
      have hPE31 := (hPE29.same s30).same s31
      have hl5 := hL5.len
      have hl6 := hL6.len
      obtain ⟨e5a, e5b⟩ := hL5.unique hL6 fun j => by
        match j with
        | 0 => rfl
        | 1 => rfl
        | j + 2 => rfl
      obtain ⟨dxe, rae, ie31, te31⟩ := id hPE31
      obtain ⟨dxf, raf, if31, tf31⟩ := id hPF31
      refine ⟨x5, dxe, _, rfl, ie31, .inl ⟨x6, dxf, _, rfl, if31⟩, x5, .ref x6, pr5, u5, rfl, hPE31, by show pr5.length ≤ 1000; have : pr5.length ≤ 0 := hl5; omega, .inl ⟨x6, pr6, u6, rfl, hPF31, by have : pr6.length ≤ 2 := hl6; omega, _, rfl, ?_⟩⟩
      rw [decide_eq_true (show pr5 = pr6 ∧ u5 = u6 from ⟨e5a, e5b⟩)]
      refine ⟨_, rfl, iteF ?_⟩
      have s2631 := s27.trans (s28.trans (s2829.trans (s30.trans s31)))
      have hP31 := hP26.same s2631
      have hT31 := tabs_same hT26 s2631
      have hrl31 := s2631 _ _ hrl26
      -- odd
      refine ⟨_, rfl, by show 1 ≤ sizeLine; decide, fun tT htT => ?_⟩
      have s32 := same_new (o := .tup [.int 1]) htT
      have eT32 : (upd H31 tT (.tup [.int 1])) tT = some (.tup [.int 1]) := upd_same
      generalize upd H31 tT (.tup [.int 1]) = H32 at s32 eT32 ⊢
      refine ⟨by show 1 ≤ sizeLine; decide, fun tQ htQ => ?_⟩
      have s33 := same_new (o := .lst [.int 2]) htQ
      have eQ33 : (upd H32 tQ (.lst [.int 2])) tQ = some (.lst [.int 2]) := upd_same
      have eT33 := s33 _ _ eT32
      generalize upd H32 tQ (.lst [.int 2]) = H33 at s33 eQ33 eT33 ⊢
      refine ⟨by show 6 ≤ sizeLine; decide, fun tL htL => ?_⟩
      have s34 := same_new (o := .lst [.bl true, .bl false, .non, .str "3", .ref tT, .ref tQ]) htL
      have e34 : (upd H33 tL (.lst [.bl true, .bl false, .non, .str "3", .ref tT, .ref tQ])) tL = some (.lst [.bl true, .bl false, .non, .str "3", .ref tT, .ref tQ]) := upd_same
      have eQ34 := s34 _ _ eQ33
      have eT34 := s34 _ _ eT33
      have hP33 := hP31.same (s32.trans s33)
      have hneL : tL ≠ p := fun z => by rw [z, hP33.hd] at htL; cases htL
      have s3134 := s32.trans (s33.trans s34)
      generalize upd H33 tL (.lst [.bl true, .bl false, .non, .str "3", .ref tT, .ref tQ]) = H34 at e34 eQ34 eT34 s3134 ⊢
      have hP34 := hP31.same s3134
      have hT34 := tabs_same hT31 s3134
      have hrl34 := s3134 _ _ hrl31
      refine ⟨p, l, tL, ns, a19, b19, _, rfl, hP34, by omega, .inl (.inl e34), hneL, by show 1 ≤ 6; decide, by show 6 ≤ 100000; decide, ?_⟩
      intro j2 v a35 b35 H35 hj2 ha35 hP35 hK35
      have eT35 := hK35 _ _ (ne_of eT34 hP34.hd (by intro q; cases q)) eT34
      have eQ35 := hK35 _ _ (ne_of eQ34 hP34.hd (by intro q; cases q)) eQ34
      have hrl35 := hK35 _ _ (ne_of hrl34 hP34.hd (by intro q; cases q)) hrl34
      have hT35 := tabs_kp hT34 hK35 hP34
      have hv : ∀ H' : Hp, H' tT = some (.tup [.int 1]) → H' tQ = some (.lst [.int 2]) → NotInt K H' v := fun H' k1 k2 => by
        have hm := List.mem_of_getElem? hj2
        simp only [List.mem_cons, List.not_mem_nil, or_false] at hm
        rcases hm with rfl | rfl | rfl | rfl | rfl | rfl
        · exact ⟨"bool", true, true, .base (.bl _), by decide +kernel, by decide +kernel, rfl⟩
        · exact ⟨"bool", true, true, .base (.bl _), by decide +kernel, by decide +kernel, rfl⟩
        · exact ⟨"NoneType", false, false, .base .non, by decide +kernel, by decide +kernel, rfl⟩
        · exact ⟨"str", false, false, .base (.str _), by decide +kernel, by decide +kernel, rfl⟩
        · exact ⟨"tuple", false, false, .base (.tup k1), by decide +kernel, by decide +kernel, rfl⟩
        · exact ⟨"list", false, false, .base (.lst k2), by decide +kernel, by decide +kernel, rfl⟩
      -- bad
      refine ⟨_, rfl, _, rfl, _, rfl, rl, _, rfl, .inl (.inl hrl35), fun t20 ht20 => ?_⟩
      rw [cut_hi _ at' (by rw [List.length_map]; exact hat), ← List.map_take]
      have s36 := same_new (o := .lst ((r.take at').map V.int)) ht20
      have e36 : (upd H35 t20 (.lst ((r.take at').map V.int))) t20 = some (.lst ((r.take at').map V.int)) := upd_same
      generalize upd H35 t20 (.lst ((r.take at').map V.int)) = H36 at s36 e36 ⊢
      refine ⟨_, rfl, by show 1 ≤ sizeLine; decide, fun t21 ht21 => ?_⟩
      have s37 := same_new (o := .lst [v]) ht21
      have e37 : (upd H36 t21 (.lst [v])) t21 = some (.lst [v]) := upd_same
      have e37' := s37 _ _ e36
      generalize upd H36 t21 (.lst [v]) = H37 at s37 e37 e37' ⊢
      refine ⟨t20, t21, _, _, rfl, rfl, e37', e37, by rw [List.length_map, List.length_take]; exact Nat.le_trans (show _ ≤ 100000 by show min at' r.length + 1 ≤ 100000; omega) (by decide), fun t22 ht22 => ?_⟩
      have s38 := same_new (o := .lst ((r.take at').map V.int ++ [v])) ht22
      have e38 : (upd H37 t22 (.lst ((r.take at').map V.int ++ [v]))) t22 = some (.lst ((r.take at').map V.int ++ [v])) := upd_same
      have hrl38 := (s36.trans (s37.trans s38)) _ _ hrl35
      have s3538 := s36.trans (s37.trans s38)
      generalize upd H37 t22 (.lst ((r.take at').map V.int ++ [v])) = H38 at e38 hrl38 s3538 ⊢
      refine ⟨_, rfl, _, rfl, _, rfl, rl, _, rfl, .inl (.inl hrl38), fun t23 ht23 => ?_⟩
      rw [cut_from _ at' (by rw [List.length_map]; omega), ← List.map_drop]
      have s39 := same_new (o := .lst ((r.drop at').map V.int)) ht23
      have e39 : (upd H38 t23 (.lst ((r.drop at').map V.int))) t23 = some (.lst ((r.drop at').map V.int)) := upd_same
      have e39' := s39 _ _ e38
      generalize upd H38 t23 (.lst ((r.drop at').map V.int)) = H39 at s39 e39 e39' ⊢
      refine ⟨t22, t23, _, _, rfl, rfl, e39', e39, by rw [List.length_append, List.length_map, List.length_map, List.length_take, List.length_drop]; exact Nat.le_trans (show _ ≤ 100000 by show min at' r.length + 1 + (r.length - at') ≤ 100000; omega) (by decide), fun t24 ht24 => ?_⟩
      have s40 := same_new (o := .lst ((r.take at').map V.int ++ [v] ++ (r.drop at').map V.int)) ht24
      have e40 : (upd H39 t24 (.lst ((r.take at').map V.int ++ [v] ++ (r.drop at').map V.int))) t24 = some (.lst ((r.take at').map V.int ++ [v] ++ (r.drop at').map V.int)) := upd_same
      have s3540 := s3538.trans (s39.trans s40)
      generalize upd H39 t24 (.lst ((r.take at').map V.int ++ [v] ++ (r.drop at').map V.int)) = H40 at e40 s3540 ⊢
      refine ⟨_, rfl, Nat.zero_le _, fun tE htE => ?_⟩
      have s41 := same_new (o := .lst []) htE
      have eE41 : (upd H40 tE (.lst [])) tE = some (.lst []) := upd_same
      generalize upd H40 tE (.lst []) = H41 at s41 eE41 ⊢
      refine ⟨by show 1 ≤ sizeLine; decide, fun tN htN => ?_⟩
      have s42 := same_new (o := .lst [.non]) htN
      have eN42 : (upd H41 tN (.lst [.non])) tN = some (.lst [.non]) := upd_same
      have eE42 := s42 _ _ eE41
      generalize upd H41 tN (.lst [.non]) = H42 at s42 eN42 eE42 ⊢
      have s3542 := s3540.trans (s41.trans s42)
      have hP42 := hP35.same s3542
      refine ⟨by show 2 ≤ sizeLine; decide, fun tM htM => ?_⟩
      have hneM : tM ≠ p := fun z => by rw [z, hP42.hd] at htM; cases htM
      have s43 := same_new (o := .lst [.ref tE, .ref tN]) htM
      have e43 : (upd H42 tM (.lst [.ref tE, .ref tN])) tM = some (.lst [.ref tE, .ref tN]) := upd_same
      have eE43 := s43 _ _ eE42
      have eN43 := s43 _ _ eN42
      have s3543 := s3542.trans s43
      have e40' := (s41.trans (s42.trans s43)) _ _ e40
      generalize upd H42 tM (.lst [.ref tE, .ref tN]) = H43 at e43 eE43 eN43 s3543 e40' ⊢
      have hP43 := hP35.same s3543
      refine ⟨p, l, tM, ns, a35, b35, _, rfl, hP43, by omega, .inl (.inl e43), hneM, by show 1 ≤ 2; decide, by show 2 ≤ 100000; decide, ?_⟩
      intro j3 v3 a44 b44 H44 hj3 ha44 hP44 hK44
      have hK3544 : Kp p H35 H44 := (Kp.of_same s3543).trans hK44
      have hz3 : ∃ (t : Addr) (zs : List V), v3 = .ref t ∧ H44 t = some (.lst zs) ∧ zs.length ≤ 1 := by
        have hm := List.mem_of_getElem? hj3
        simp only [List.mem_cons, List.not_mem_nil, or_false] at hm
        rcases hm with rfl | rfl
        · exact ⟨tE, [], rfl, hK44 _ _ (ne_of eE43 hP43.hd (by intro q; cases q)) eE43, Nat.zero_le _⟩
        · exact ⟨tN, [.non], rfl, hK44 _ _ (ne_of eN43 hP43.hd (by intro q; cases q)) eN43, Nat.le_refl _⟩
      obtain ⟨t25, zs, rfl, e25z, hzl⟩ := hz3
      have e44 := hK44 _ _ (ne_of e40' hP43.hd (by intro q; cases q)) e40'
      refine ⟨t24, t25, _, _, rfl, rfl, e44, e25z, by rw [List.length_append, List.length_append, List.length_map, List.length_map, List.length_take, List.length_drop]; exact Nat.le_trans (show _ ≤ 100000 by show min at' r.length + 1 + (r.length - at') + zs.length ≤ 100000; omega) (by decide), fun tB htB => ?_⟩
      have ebad : (r.take at').map V.int ++ [v] ++ (r.drop at').map V.int ++ zs = (r.take at').map V.int ++ v :: ((r.drop at').map V.int ++ zs) := by
        rw [List.append_assoc, List.append_assoc]; rfl
      rw [ebad]
      have hbl : ((r.take at').map V.int ++ v :: ((r.drop at').map V.int ++ zs)).length ≤ 100 := by
        rw [List.length_append, List.length_cons, List.length_append, List.length_map, List.length_map, List.length_take, List.length_drop]
        omega
      generalize hys : (r.drop at').map V.int ++ zs = ys at hbl ⊢
      have s45 := same_new (o := .lst ((r.take at').map V.int ++ v :: ys)) htB
      have eB45 : (upd H44 tB (.lst ((r.take at').map V.int ++ v :: ys))) tB = some (.lst ((r.take at').map V.int ++ v :: ys)) := upd_same
      have hK3545 := hK3544.trans (Kp.of_same s45)
      have hP45 := hP44.same s45
      generalize upd H44 tB (.lst ((r.take at').map V.int ++ v :: ys)) = H45 at eB45 hK3545 hP45 ⊢
      have hT45 := tabs_kp hT35 hK3545 hP35
      have hrl45 := hK3545 _ _ (ne_of hrl35 hP35.hd (by intro q; cases q)) hrl35
      have eT45 := hK3545 _ _ (ne_of eT35 hP35.hd (by intro q; cases q)) eT35
      have eQ45 := hK3545 _ _ (ne_of eQ35 hP35.hd (by intro q; cases q)) eQ35
      -- wrong
      refine ⟨_, rfl, _, rfl, ?_⟩
      refine ⟨_, _, rfl, rfl, ⟨by decide, by decide, by decide⟩, _, rfl, by show 1 ≤ sizeLine; decide, fun tW htW => ?_⟩
      have s46 := same_new (o := .tup [.int 1]) htW
      have eW46 : (upd H45 tW (.tup [.int 1])) tW = some (.tup [.int 1]) := upd_same
      generalize upd H45 tW (.tup [.int 1]) = H46 at s46 eW46 ⊢
      refine ⟨by show 7 ≤ sizeLine; decide, fun tX htX => ?_⟩
      have s47 := same_new (o := .lst [.int 0, .int (-1), .int (-((10 : Int) ^ (20 : Int).toNat)), .bl true, .non, .str "2", .ref tW]) htX
      have e47 : (upd H46 tX (.lst [.int 0, .int (-1), .int (-((10 : Int) ^ (20 : Int).toNat)), .bl true, .non, .str "2", .ref tW])) tX = some (.lst [.int 0, .int (-1), .int (-((10 : Int) ^ (20 : Int).toNat)), .bl true, .non, .str "2", .ref tW]) := upd_same
      have eW47 := s47 _ _ eW46
      have s4547 := s46.trans s47
      have hP47 := hP45.same s4547
      have hneX : tX ≠ p := fun z => by rw [z, (hP45.same s46).hd] at htX; cases htX
      refine ⟨p, l, tX, ns, a44, b44, [.int 0, .int (-1), .int (-((10 : Int) ^ (20 : Int).toNat)), .bl true, .non, .str "2", .ref tW], rfl, hP47, by omega, .inl (.inl e47), hneX, by show 1 ≤ 7; decide, by show 7 ≤ 100000; decide, ?_⟩
      intro j4 wv a48 b48 H48 hj4 ha48 hP48 hK48
      have hK4548 : Kp p H45 H48 := (Kp.of_same s4547).trans hK48
      have eW48 := hK48 _ _ (ne_of eW47 hP47.hd (by intro q; cases q)) eW47
      have hT48 := tabs_kp hT45 hK4548 hP45
      have hrl48 := hK4548 _ _ (ne_of hrl45 hP45.hd (by intro q; cases q)) hrl45
      have eT48 := hK4548 _ _ (ne_of eT45 hP45.hd (by intro q; cases q)) eT45
      have eQ48 := hK4548 _ _ (ne_of eQ45 hP45.hd (by intro q; cases q)) eQ45
      have eB48 := hK4548 _ _ (ne_of eB45 hP45.hd (by intro q; cases q)) eB45
      have hw : ∀ H' : Hp, H' tW = some (.tup [.int 1]) → OddW K H' wv := fun H' k1 => by
        have hm := List.mem_of_getElem? hj4
        simp only [List.mem_cons, List.not_mem_nil, or_false] at hm
        rcases hm with rfl | rfl | rfl | rfl | rfl | rfl | rfl
        · exact ⟨.inr ⟨_, rfl, by decide⟩, _, .int _, by decide +kernel, by decide +kernel⟩
        · exact ⟨.inr ⟨_, rfl, by decide⟩, _, .int _, by decide +kernel, by decide +kernel⟩
        · exact ⟨.inr ⟨_, rfl, by decide +kernel⟩, _, .int _, by decide +kernel, by decide +kernel⟩
        · exact ⟨.inl ⟨⟨"bool", true, true, .base (.bl _), by decide +kernel, by decide +kernel, rfl⟩, fun e => (nomatch e)⟩, _, .bl _, by decide +kernel, by decide +kernel⟩
        · exact ⟨.inl ⟨⟨"NoneType", false, false, .base .non, by decide +kernel, by decide +kernel, rfl⟩, fun e => (nomatch e)⟩, _, .non, by decide +kernel, by decide +kernel⟩
        · exact ⟨.inl ⟨⟨"str", false, false, .base (.str _), by decide +kernel, by decide +kernel, rfl⟩, fun e => (nomatch e)⟩, _, .str _, by decide +kernel, by decide +kernel⟩
        · exact ⟨.inl ⟨⟨"tuple", false, false, .base (.tup k1), by decide +kernel, by decide +kernel, rfl⟩, fun e => (nomatch e)⟩, _, .tup (.inl (.inl k1)) (.cons (.int _) .nil), by decide +kernel, by decide +kernel⟩
      -- the first fault
      refine ⟨hT48, fun H49 x49 hT49 => ?_⟩
      have hP49 := hP48.ext x49
      have eW49 := ext_of x49 eW48 (fun _ z => by cases z)
      have hrl49 := ext_of x49 hrl48 (fun _ z => by cases z)
      have eT49 := ext_of x49 eT48 (fun _ z => by cases z)
      have eQ49 := ext_of x49 eQ48 (fun _ z => by cases z)
      have eB49 := ext_of x49 eB48 (fun _ z => by cases z)
      have htl : (r.take at').length = at' := by rw [List.length_take]; omega
      refine ⟨_, rfl, _, rfl, ?_⟩
      intro x7 dx7 nx7 ndx7 nex7
      refine ⟨H49, x7, dx7, tB, _, wv, rfl, same_inst nx7 ndx7, nx7, upd_same, .inl (.inl (.inl eB49)), hbl, .inl ⟨r.take at', v, ys, rfl, hv H49 eT49 eQ49, fun dd H50 s50 hd50 hx50 => .inl ⟨rfl, _, dd, rfl, hx50, fun tt H51 s51 e51 => ?_⟩⟩⟩
      rw [htl] at e51
      refine ⟨_, rfl, by show 2 ≤ sizeLine; decide, fun tu htu => ?_⟩
      have s52 := same_new (o := .tup [.str "row", .int (at' : Int)]) htu
      have e52 : (upd H51 tu (.tup [.str "row", .int (at' : Int)])) tu = some (.tup [.str "row", .int (at' : Int)]) := upd_same
      have e51' := s52 _ _ e51
      generalize upd H51 tu (.tup [.str "row", .int (at' : Int)]) = H52 at s52 e52 e51' ⊢
      refine ⟨_, _, .tup (.inl (.inl e51')) (.cons (.str _) (.cons (.int _) .nil)), .tup (.inl (.inl e52)) (.cons (.str _) (.cons (.int _) .nil)), sh_tag "row" _ (by decide +kernel) (by decide +kernel) rfl (Nat.zero_le 5), sh_tag "row" _ (by decide +kernel) (by decide +kernel) rfl (Nat.zero_le 5), _, rfl, ?_⟩
      rw [show PyData.eqv (.tuple [.str "row", .int (at' : Int)]) (.tuple [.str "row", .int (at' : Int)]) = true from (by
        show (PyData.eqv (.str "row") (.str "row") && (PyData.eqv (.int (at' : Int)) (.int (at' : Int)) && true)) = true
        rw [eqv_int]; decide)]
      refine iteF ?_
      have s4952 := s50.trans (s51.trans s52)
      have hT52 := tabs_same hT49 s4952
      -- the second one
      refine ⟨hT52, fun H53 x53 hT53 => ?_⟩
      have hP53 := (hP49.same s4952).ext x53
      have eW53 := ext_of x53 (s4952 _ _ eW49) (fun _ z => by cases z)
      have hrl53 := ext_of x53 (s4952 _ _ hrl49) (fun _ z => by cases z)
      refine ⟨_, rfl, _, rfl, ?_⟩
      intro x8 dx8 nx8 ndx8 nex8
      refine ⟨H53, x8, dx8, rl, _, _, rfl, same_inst nx8 ndx8, nx8, upd_same, .inl (.inl (.inl hrl53)), by rw [List.length_map]; omega, .inr ⟨r, rfl, .inl ⟨un, rfl, hu1, hub.up (by decide), fun pr8 u8 H54 hL8 s54 hPG54 => ⟨rfl, ?_⟩⟩⟩⟩
      refine ⟨rfl, _, rfl, iteF ?_⟩
      have hT54 := tabs_same hT53 s54
      -- the third one
      refine ⟨hT54, fun H55 x55 hT55 => ?_⟩
      have hP55 := (hP53.same s54).ext x55
      have eW55 := ext_of x55 (s54 _ _ eW53) (fun _ z => by cases z)
      have hrl55 := ext_of x55 (s54 _ _ hrl53) (fun _ z => by cases z)
      refine ⟨_, rfl, _, rfl, ?_⟩
      intro x9 dx9 nx9 ndx9 nex9
      refine ⟨H55, x9, dx9, rl, _, wv, rfl, same_inst nx9 ndx9, nx9, upd_same, .inl (.inl (.inl hrl55)), by rw [List.length_map]; omega, .inr ⟨r, rfl, .inr ⟨(hw H55 eW55).1, fun dd H56 s56 hd56 hx56 => .inr ⟨rfl, wv, dd, rfl, hx56, fun tt H57 s57 e57 => ?_⟩⟩⟩⟩
      refine ⟨_, rfl, by show 2 ≤ sizeLine; decide, fun tu2 htu2 => ?_⟩
      have s58 := same_new (o := .tup [.str "under", wv]) htu2
      have e58 : (upd H57 tu2 (.tup [.str "under", wv])) tu2 = some (.tup [.str "under", wv]) := upd_same
      have e57' := s58 _ _ e57
      have s5558 := s56.trans (s57.trans s58)
      generalize upd H57 tu2 (.tup [.str "under", wv]) = H58 at s58 e58 e57' s5558 ⊢
      obtain ⟨_, dw, hd1, hd2, hd3⟩ := hw H58 (s5558 _ _ eW55)
      refine ⟨_, _, .tup (.inl (.inl e57')) (.cons (.str _) (.cons hd1 .nil)), .tup (.inl (.inl e58)) (.cons (.str _) (.cons hd1 .nil)), hd2, hd2, _, rfl, ?_⟩
      rw [hd3]
      refine iteF ?_
      refine ⟨a48, b48, _, _, _, _, _, _, _, _, _, _, _, _, _, hP55.same s5558, ?_, tabs_same hT55 s5558, rfl⟩
      have : (10000 : Int) * ((i + 1 : Nat) : Int) = 10000 * (i : Int) + 10000 := by omega
      omega
    · rintro σ H1 ⟨a1, b1, y2, y3, y4, y5, y6, y7, y8, y9, y10, y11, y12, y13, y14, hP1, ha1, hT1, rfl⟩
      exact q _
end
end Ef
set_option Elab.async false
set_option linter.all false
set_option maxRecDepth 100000
set_option maxHeartbeats 8000000
namespace Ef
open PySem PySem.Spec PyProof.Rows L2
theorem at_mk {K : PySem.W.Frag} {h : Heap} {mg : Str → Option Value} {x : Str} {st : Stmt} {f : Addr} {oc kV doc pm cdv ct : Value} {od an : Option Addr} {osl : Array (Option Value)} (X : K.In h) (G : h.Ns mainGlobals mg) (a : PySem.W.nsIn K mainGlobals x = some (some (.ref f)))
    (l : K.lookup f = some ⟨oc, od, .func (PySem.W.fnOf x x (defArgs st) (defBody st) (defScope st) .none kV doc pm an cdv ct), osl⟩) (c : PySem.W.codeIn K cdv x = true) (k : PySem.W.keepIn K (.ref f) = true) : At K mg x st := ⟨f, _, PySem.W.mg_of X G a, fun_mk l c k⟩
theorem exm_by {K : PySem.W.Frag} {S : Addr} {c : Value} {b : Bool} (h1 : PySem.W.subIn K (.ref S) (.type "BaseException") = some true) (h2 : PySem.W.isClsIn K S = true) (h3 : PySem.W.typeIn K (.ref S) = some (.type "type")) (h4 : PySem.W.subIn K c (.ref S) = some b) :
    PySem.W.exmOne K c (.ref S) = some b := by
  unfold PySem.W.exmOne PySem.W.kitCls
  have h2' : (PySem.W.clsIn K S).isSome = true := h2
  rw [h1, if_pos (by rfl)]
  show (if ((PySem.W.clsIn K S).isSome && PySem.W.typeIn K (.ref S) == some (.type "type")) = true then PySem.W.subIn K c (.ref S) else none) = some b
  rw [h2', h3, if_pos (by rfl)]
  exact h4
theorem kit_by {K : PySem.W.Frag} {S : Addr} {c : Value} {b : Bool} (h2 : PySem.W.isClsIn K S = true) (h3 : PySem.W.typeIn K (.ref S) = some (.type "type")) (h4 : PySem.W.subIn K c (.ref S) = some b) (hc : (c == .ref S) = false := by rfl) :
    PySem.W.kitOne K c (.ref S) = some b := by
  unfold PySem.W.kitOne PySem.W.kitCls
  have h2' : (PySem.W.clsIn K S).isSome = true := h2
  rw [if_neg (by rw [hc]; exact Bool.false_ne_true)]
  show (if ((PySem.W.clsIn K S).isSome && PySem.W.typeIn K (.ref S) == some (.type "type")) = true then PySem.W.subIn K c (.ref S) else none) = some b
  rw [h2', h3, if_pos (by rfl)]
  exact h4
theorem all_mk {w : World} {K : PySem.W.Frag} {h : Heap} {mg : Str → Option Value} {l : PySem.W.OpenLaw} {fa C CR CU tD cL PT f0 f1 f2 f3 f4 f5 f6 f7 f8 f9 f10 f11 f12 f13 f14 f15 f16 f17  : Addr} (X : K.In h) (G : h.Ns mainGlobals mg) (hfa : mg "law" = some (.ref fa))
    {od0 an0 od1 an1 od2 an2 od3 an3 od4 an4 od5 an5 od6 an6 od7 an7 od8 an8 od9 an9 od10 an10 od11 an11 od12 an12 od13 an13 od14 an14 od15 an15 od16 an16 od17 an17 odD : Option Addr} {sl0 sl1 sl2 sl3 sl4 sl5 sl6 sl7 sl8 sl9 sl10 sl11 sl12 sl13 sl14 sl15 sl16 sl17 slD : Array (Option Value)} {oc0 kV0 dc0 pm0 cd0 ct0 oc1 kV1 dc1 pm1 cd1 ct1 oc2 kV2 dc2 pm2 cd2 ct2 oc3 kV3 dc3 pm3 cd3 ct3 oc4 kV4 dc4 pm4 cd4 ct4 oc5 kV5 dc5 pm5 cd5 ct5 oc6 kV6 dc6 pm6 cd6 ct6 oc7 kV7 dc7 pm7 cd7 ct7 oc8 kV8 dc8 pm8 cd8 ct8 oc9 kV9 dc9 pm9 cd9 ct9 oc10 kV10 dc10 pm10 cd10 ct10 oc11 kV11 dc11 pm11 cd11 ct11 oc12 kV12 dc12 pm12 cd12 ct12 oc13 kV13 dc13 pm13 cd13 ct13 oc14 kV14 dc14 pm14 ct14 oc15 kV15 dc15 pm15 cd15 ct15 oc16 kV16 dc16 pm16 cd16 ct16 oc17 kV17 dc17 pm17 cd17 ct17 ocD : Value} {tkD : Tok} {nD : Nat} {nmCR qCR : Str} {NCR : Addr} {bsCR bmCR : List Value} {snCR : List Str} {subCR : List Value} {abCR : Bool} {colCR : Option Bool} {ddCR : Option Addr} {e0CR e1CR e2CR e3CR e5CR : Option Value} {nmCU qCU : Str} {NCU : Addr} {bsCU bmCU : List Value} {snCU : List Str} {subCU : List Value} {abCU : Bool} {colCU : Option Bool} {ddCU : Option Addr} {e0CU e1CU e2CU e3CU e5CU : Option Value}
    (aC : PySem.W.nsIn K mainGlobals "Piece" = some (some (.ref C)))
    (a0 : PySem.W.nsIn K mainGlobals "is_int" = some (some (.ref f0)))
    (l0 : K.lookup f0 = some ⟨oc0, od0, .func (PySem.W.fnOf "is_int" "is_int" (defArgs sIsInt) (defBody sIsInt) (defScope sIsInt) .none kV0 dc0 pm0 an0 cd0 ct0), sl0⟩)
    (c0 : PySem.W.codeIn K cd0 "is_int" = true)
    (k0 : PySem.W.keepIn K (.ref f0) = true)
    (a1 : PySem.W.nsIn K mainGlobals "is_int_from" = some (some (.ref f1)))
    (l1 : K.lookup f1 = some ⟨oc1, od1, .func (PySem.W.fnOf "is_int_from" "is_int_from" (defArgs sFrom) (defBody sFrom) (defScope sFrom) .none kV1 dc1 pm1 an1 cd1 ct1), sl1⟩)
    (c1 : PySem.W.codeIn K cd1 "is_int_from" = true)
    (k1 : PySem.W.keepIn K (.ref f1) = true)
    (a2 : PySem.W.nsIn K mainGlobals "trimmed" = some (some (.ref f2)))
    (l2 : K.lookup f2 = some ⟨oc2, od2, .func (PySem.W.fnOf "trimmed" "trimmed" (defArgs sTrim) (defBody sTrim) (defScope sTrim) .none kV2 dc2 pm2 an2 cd2 ct2), sl2⟩)
    (c2 : PySem.W.codeIn K cd2 "trimmed" = true)
    (k2 : PySem.W.keepIn K (.ref f2) = true)
    (a3 : PySem.W.nsIn K mainGlobals "common_divisor" = some (some (.ref f3)))
    (l3 : K.lookup f3 = some ⟨oc3, od3, .func (PySem.W.fnOf "common_divisor" "common_divisor" (defArgs sCom) (defBody sCom) (defScope sCom) .none kV3 dc3 pm3 an3 cd3 ct3), sl3⟩)
    (c3 : PySem.W.codeIn K cd3 "common_divisor" = true)
    (k3 : PySem.W.keepIn K (.ref f3) = true)
    (a4 : PySem.W.nsIn K mainGlobals "_check_row" = some (some (.ref f4)))
    (l4 : K.lookup f4 = some ⟨oc4, od4, .func (PySem.W.fnOf "_check_row" "_check_row" (defArgs sCheck) (defBody sCheck) (defScope sCheck) .none kV4 dc4 pm4 an4 cd4 ct4), sl4⟩)
    (c4 : PySem.W.codeIn K cd4 "_check_row" = true)
    (k4 : PySem.W.keepIn K (.ref f4) = true)
    (a5 : PySem.W.nsIn K mainGlobals "_law_pen" = some (some (.ref f5)))
    (l5 : K.lookup f5 = some ⟨oc5, od5, .func (PySem.W.fnOf "_law_pen" "_law_pen" (defArgs sPen) (defBody sPen) (defScope sPen) .none kV5 dc5 pm5 an5 cd5 ct5), sl5⟩)
    (c5 : PySem.W.codeIn K cd5 "_law_pen" = true)
    (k5 : PySem.W.keepIn K (.ref f5) = true)
    (a6 : PySem.W.nsIn K mainGlobals "_law_draw" = some (some (.ref f6)))
    (l6 : K.lookup f6 = some ⟨oc6, od6, .func (PySem.W.fnOf "_law_draw" "_law_draw" (defArgs sDraw) (defBody sDraw) (defScope sDraw) .none kV6 dc6 pm6 an6 cd6 ct6), sl6⟩)
    (c6 : PySem.W.codeIn K cd6 "_law_draw" = true)
    (k6 : PySem.W.keepIn K (.ref f6) = true)
    (a7 : PySem.W.nsIn K mainGlobals "_law_pick" = some (some (.ref f7)))
    (l7 : K.lookup f7 = some ⟨oc7, od7, .func (PySem.W.fnOf "_law_pick" "_law_pick" (defArgs sPick) (defBody sPick) (defScope sPick) .none kV7 dc7 pm7 an7 cd7 ct7), sl7⟩)
    (c7 : PySem.W.codeIn K cd7 "_law_pick" = true)
    (k7 : PySem.W.keepIn K (.ref f7) = true)
    (a8 : PySem.W.nsIn K mainGlobals "_law_gcd" = some (some (.ref f8)))
    (l8 : K.lookup f8 = some ⟨oc8, od8, .func (PySem.W.fnOf "_law_gcd" "_law_gcd" (defArgs sGcd) (defBody sGcd) (defScope sGcd) .none kV8 dc8 pm8 an8 cd8 ct8), sl8⟩)
    (c8 : PySem.W.codeIn K cd8 "_law_gcd" = true)
    (k8 : PySem.W.keepIn K (.ref f8) = true)
    (a9 : PySem.W.nsIn K mainGlobals "_law_entry" = some (some (.ref f9)))
    (l9 : K.lookup f9 = some ⟨oc9, od9, .func (PySem.W.fnOf "_law_entry" "_law_entry" (defArgs sEntry) (defBody sEntry) (defScope sEntry) .none kV9 dc9 pm9 an9 cd9 ct9), sl9⟩)
    (c9 : PySem.W.codeIn K cd9 "_law_entry" = true)
    (k9 : PySem.W.keepIn K (.ref f9) = true)
    (a10 : PySem.W.nsIn K mainGlobals "_law_fraction" = some (some (.ref f10)))
    (l10 : K.lookup f10 = some ⟨oc10, od10, .func (PySem.W.fnOf "_law_fraction" "_law_fraction" (defArgs sFrac) (defBody sFrac) (defScope sFrac) .none kV10 dc10 pm10 an10 cd10 ct10), sl10⟩)
    (c10 : PySem.W.codeIn K cd10 "_law_fraction" = true)
    (k10 : PySem.W.keepIn K (.ref f10) = true)
    (a11 : PySem.W.nsIn K mainGlobals "_law_is_piece" = some (some (.ref f11)))
    (l11 : K.lookup f11 = some ⟨oc11, od11, .func (PySem.W.fnOf "_law_is_piece" "_law_is_piece" (defArgs sIsp) (defBody sIsp) (defScope sIsp) .none kV11 dc11 pm11 an11 cd11 ct11), sl11⟩)
    (c11 : PySem.W.codeIn K cd11 "_law_is_piece" = true)
    (k11 : PySem.W.keepIn K (.ref f11) = true)
    (a12 : PySem.W.nsIn K mainGlobals "_law_fault" = some (some (.ref f12)))
    (l12 : K.lookup f12 = some ⟨oc12, od12, .func (PySem.W.fnOf "_law_fault" "_law_fault" (defArgs sFault) (defBody sFault) (defScope sFault) .none kV12 dc12 pm12 an12 cd12 ct12), sl12⟩)
    (c12 : PySem.W.codeIn K cd12 "_law_fault" = true)
    (k12 : PySem.W.keepIn K (.ref f12) = true)
    (a13 : PySem.W.findIn K (.ref C) "__init__" = some (some (.ref f13)))
    (i13 : PySem.W.isFn K (.ref f13) = true)
    (l13 : K.lookup f13 = some ⟨oc13, od13, .func (PySem.W.fnOf "__init__" "Piece.__init__" (defArgs sInit) (defBody sInit) (defScope sInit) (.ref tD) kV13 dc13 pm13 an13 cd13 ct13), sl13⟩)
    (c13 : PySem.W.codeIn K cd13 "Piece.__init__" = true)
    (k13 : PySem.W.keepIn K (.ref f13) = true)
    (lD : K.lookup tD = some ⟨ocD, odD, .seq #[.int 1 tkD] nD, slD⟩)
    (a14 : PySem.W.nsIn K mainGlobals "law" = some (some (.ref f14)))
    (l14 : K.lookup f14 = some ⟨oc14, od14, .func (PySem.W.fnOf "law" "law" (defArgs sLaw) (defBody sLaw) (defScope sLaw) .none kV14 dc14 pm14 an14 (.ref cL) ct14), sl14⟩)
    (c14 : PySem.W.codeIn K (.ref cL) "law" = true)
    (tP : PySem.W.tabIn K "law" = some (cL, PT))
    (hP : PySem.W.codeHdIn K cL PT = true)
    (nP : K.lookup PT = none)
    (a15 : PySem.W.findIn K (.ref C) "__eq__" = some (some (.ref f15)))
    (i15 : PySem.W.isFn K (.ref f15) = true)
    (t15 : PySem.W.typeIn K (.ref f15) = some (.type "function"))
    (l15 : K.lookup f15 = some ⟨oc15, od15, .func (PySem.W.fnOf "__eq__" "Piece.__eq__" (defArgs sEq) (defBody sEq) (defScope sEq) .none kV15 dc15 pm15 an15 cd15 ct15), sl15⟩)
    (c15 : PySem.W.codeIn K cd15 "Piece.__eq__" = true)
    (k15 : PySem.W.keepIn K (.ref f15) = true)
    (ne : PySem.W.findIn K (.ref C) "__ne__" = some (some (.builtin "object.__ne__")))
    (sli : PySem.W.subIn K (.type "list") (.ref C) = some false)
    (jC : PySem.W.isClsIn K C = true)
    (tC : PySem.W.typeIn K (.ref C) = some (.type "type"))
    (mCR : PySem.W.nsIn K mainGlobals "BadRow" = some (some (.ref CR)))
    (oCR : K.lookup CR = some (excClassObj nmCR qCR CR NCR bsCR bmCR true snCR subCR abCR colCR ddCR e0CR e1CR e2CR e3CR e5CR "ValueError.__new__"))
    (vCR : PySem.HandSPX.refsVE bmCR = true)
    (sCR : PySem.W.findIn K (.ref CR) "__setattr__" = some (some (.builtin "object.__setattr__")))
    (xCR : PySem.W.subIn K (.ref CR) (.type "BaseException") = some true)
    (tCR : PySem.W.typeIn K (.ref CR) = some (.type "type"))
    (kCR : PySem.W.keepIn K (.ref CR) = true)
    (iCR : PySem.W.findIn K (.ref CR) "__init__" = some (some (.ref f16)))
    (uCR : PySem.W.typeIn K (.ref f16) = some (.type "function"))
    (nCR : PySem.W.findIn K (.ref CR) "index" = some none)
    (gaCR : PySem.W.findIn K (.ref CR) "__getattribute__" = some (some (.builtin "BaseException.__getattribute__")))
    (ggCR : PySem.W.findIn K (.ref CR) "__getattr__" = some none)
    (hdCR : PySem.W.hasDictIn K CR = true)
    (l16 : K.lookup f16 = some ⟨oc16, od16, .func (PySem.W.fnOf "__init__" "BadRow.__init__" (defArgs sErrR) (defBody sErrR) (defScope sErrR) .none kV16 dc16 pm16 an16 cd16 ct16), sl16⟩)
    (c16 : PySem.W.codeIn K cd16 "BadRow.__init__" = true)
    (k16 : PySem.W.keepIn K (.ref f16) = true)
    (mCU : PySem.W.nsIn K mainGlobals "BadUnder" = some (some (.ref CU)))
    (oCU : K.lookup CU = some (excClassObj nmCU qCU CU NCU bsCU bmCU true snCU subCU abCU colCU ddCU e0CU e1CU e2CU e3CU e5CU "ValueError.__new__"))
    (vCU : PySem.HandSPX.refsVE bmCU = true)
    (sCU : PySem.W.findIn K (.ref CU) "__setattr__" = some (some (.builtin "object.__setattr__")))
    (xCU : PySem.W.subIn K (.ref CU) (.type "BaseException") = some true)
    (tCU : PySem.W.typeIn K (.ref CU) = some (.type "type"))
    (kCU : PySem.W.keepIn K (.ref CU) = true)
    (iCU : PySem.W.findIn K (.ref CU) "__init__" = some (some (.ref f17)))
    (uCU : PySem.W.typeIn K (.ref f17) = some (.type "function"))
    (nCU : PySem.W.findIn K (.ref CU) "under" = some none)
    (gaCU : PySem.W.findIn K (.ref CU) "__getattribute__" = some (some (.builtin "BaseException.__getattribute__")))
    (ggCU : PySem.W.findIn K (.ref CU) "__getattr__" = some none)
    (hdCU : PySem.W.hasDictIn K CU = true)
    (l17 : K.lookup f17 = some ⟨oc17, od17, .func (PySem.W.fnOf "__init__" "BadUnder.__init__" (defArgs sErrU) (defBody sErrU) (defScope sErrU) .none kV17 dc17 pm17 an17 cd17 ct17), sl17⟩)
    (c17 : PySem.W.codeIn K cd17 "BadUnder.__init__" = true)
    (k17 : PySem.W.keepIn K (.ref f17) = true)
    (jR : PySem.W.isClsIn K CR = true)
    (jU : PySem.W.isClsIn K CU = true)
    (xRR : PySem.W.subIn K (.ref CR) (.ref CR) = some true)
    (xUR : PySem.W.subIn K (.ref CU) (.ref CR) = some false)
    (xUU : PySem.W.subIn K (.ref CU) (.ref CU) = some true)
    (pg : PySem.W.plainGet K C Str.empty = true)
    (hd : PySem.W.hasDictIn K C = true)
    (po : PySem.W.plainOver K C = true)
    (sa : PySem.W.findIn K (.ref C) "__setattr__" = some (some (.builtin "object.__setattr__")))
    (mk : PySem.W.makesIn K C = true)
    (kc : PySem.W.keepIn K (.ref C) = true)
    (cc : PySem.W.findIn K (.ref C) "__class__" = some (some (.builtin "object.__class__")))
    (cg : PySem.W.specialIn K (.builtin "object.__class__") "__get__" = some (some (.builtin "getset_descriptor.__get__")))
    (ctk : PySem.W.takesIn K (.builtin "object.__class__") = some true)
    (co : PySem.W.mroIn K C (.type "object") = some true)
    (nr : PySem.W.findIn K (.ref C) "row" = some none)
    (nu : PySem.W.findIn K (.ref C) "under" = some none)
    (zg : PySem.W.nsIn K mainGlobals "gcd" = some (some (.builtin "math.gcd")))
    (z0 : PySem.W.nsIn K mainGlobals "int" = some none)
    (z1 : PySem.W.nsIn K mainGlobals "len" = some none)
    (z2 : PySem.W.nsIn K mainGlobals "list" = some none)
    (z3 : PySem.W.nsIn K mainGlobals "isinstance" = some none)
    (z4 : PySem.W.nsIn K mainGlobals "bool" = some none)
    (z5 : PySem.W.nsIn K mainGlobals "enumerate" = some none)
    (z6 : PySem.W.nsIn K mainGlobals "reversed" = some none)
    (z7 : PySem.W.nsIn K mainGlobals "range" = some none)
    (z8 : PySem.W.nsIn K mainGlobals "tuple" = some none)
    (z9 : PySem.W.nsIn K mainGlobals "abs" = some none)
    (z10 : PySem.W.nsIn K mainGlobals "max" = some none)
    (z11 : PySem.W.nsIn K mainGlobals "min" = some none)
    (zall : PySem.W.nsIn K mainGlobals "all" = some none)
    (Y : ∀ p : Addr, p = PT → h.get? p = some (PySem.W.tabObj #[]))
    : LamX.LawAtS l w K CX0 9 63 "script" mg fa h := by
  have e := hfa.symm.trans (PySem.W.mg_of X G a14)
  cases e
  have T : TxtL mg := { int := PySem.W.mg_none_of X G z0, len := PySem.W.mg_none_of X G z1, list := PySem.W.mg_none_of X G z2, isinstance := PySem.W.mg_none_of X G z3, bool := PySem.W.mg_none_of X G z4, enumerate := PySem.W.mg_none_of X G z5, reversed := PySem.W.mg_none_of X G z6, range := PySem.W.mg_none_of X G z7, tuple := PySem.W.mg_none_of X G z8, gcd := PySem.W.mg_of X G zg, abs := PySem.W.mg_none_of X G z9, max := PySem.W.mg_none_of X G z10, min := PySem.W.mg_none_of X G z11, }
  have CP : ClsP K mg C := ⟨⟨pg, hd, po, sa⟩, PySem.W.mg_of X G aC, nr, nu⟩
  have CW : ClsQ K mg C := { toClsP := CP, cc := cc, cg := cg, ct := ctk, co := co, sl := sli }
  have FD : FunD K "__init__" "Piece.__init__" (defArgs sInit) (defBody sInit) (defScope sInit) [V.int 1] [] f13 _ := ⟨⟨_, _, _, _, _, _, _, _, _, _, rfl, l13, c13, .inr ⟨fun z => (by cases z), tD, _, _, _, rfl, lD, rfl, .cons ⟨_, rfl⟩ .nil⟩, .inl rfl⟩, k13⟩
  have bI := binds_init FD
  obtain ⟨ds1, hd1, bI1⟩ := binds_init1 FD
  have M : Mk K C f13 := ⟨mk, a13, i13, kc⟩
  have FCR := fun_mk (st := sErrR) l16 c16 k16
  have bCR := FCR.binds (ps := ["self", "index"]) fun _ _ _ _ _ _ us hl => match us, hl with | [_, _], _ => rfl
  have ECR : ErrF K mg "BadRow" "index" CR f16 := ⟨⟨⟨_, _, _, _, _, _, _, _, _, _, _, _, _, _, _, oCR, vCR⟩, sCR, xCR, tCR, kCR⟩, PySem.W.mg_of X G mCR, iCR, uCR, nCR, ⟨gaCR, ggCR, xCR, hdCR⟩⟩
  have FCU := fun_mk (st := sErrU) l17 c17 k17
  have bCU := FCU.binds (ps := ["self", "under"]) fun _ _ _ _ _ _ us hl => match us, hl with | [_, _], _ => rfl
  have ECU : ErrF K mg "BadUnder" "under" CU f17 := ⟨⟨⟨_, _, _, _, _, _, _, _, _, _, _, _, _, _, _, oCU, vCU⟩, sCU, xCU, tCU, kCU⟩, PySem.W.mg_of X G mCU, iCU, uCU, nCU, ⟨gaCU, ggCU, xCU, hdCU⟩⟩
  have FEq := fun_mk (st := sEq) l15 c15 k15
  have bE := FEq.binds (ps := ["self", "other"]) fun _ _ _ _ _ _ us hl => match us, hl with | [_, _], _ => rfl
  have FFa := fun_mk (st := sFault) l12 c12 k12
  have bFa := FFa.binds (ps := ["ask"]) fun _ _ _ _ _ _ us hl => match us, hl with | [_], _ => rfl
  have hli : PySem.W.kitOne K (.type "list") (.ref C) = some false := kit_by jC tC sli
  refine ⟨PySem.W.fnOf "law" "law" (defArgs sLaw) (defBody sLaw) (defScope sLaw) .none kV14 dc14 pm14 an14 (.ref cL) ct14, [(cL, PT)], spLaw K PT, fun p hp => ?_, fun p hp => ?_, fun p hp => ?_, fun s u => .of_eq rfl, fun H a ns hl _ ht hS => ⟨a, ns, rfl, hS, hl, fun p hp => ?_, fun _ => rfl⟩, fun base hKb _ hTB => ?_⟩
  · rw [List.mem_singleton.mp hp]; exact Y _ rfl
  · rw [List.mem_singleton.mp hp]; exact nP
  · rw [List.mem_singleton.mp hp]; exact PySem.W.codeHd_of_K X hP
  · rw [List.mem_singleton.mp hp]; exact LamX.TabS.nil (ht (cL, PT) (List.mem_singleton.mpr rfl))
  have dIsInt := df_isint (P := l.prog) (w := w) (base := base) (at_mk X G a0 l0 c0 k0) T.toTxtW
  have dFrom := df_from (P := l.prog) (w := w) (base := base) (at_mk X G a1 l1 c1 k1) dIsInt
  have dTrim := df_trim (P := l.prog) (w := w) (base := base) (at_mk X G a2 l2 c2 k2) T.toTxtW
  have dCom := df_com (P := l.prog) (w := w) (base := base) (at_mk X G a3 l3 c3 k3) T.toTxtQ
  have dPen := df_pen (P := l.prog) (w := w) (base := base) (at_mk X G a5 l5 c5 k5) T.toTxtP
  have dDraw := df_draw (P := l.prog) (w := w) (base := base) (at_mk X G a6 l6 c6 k6) T.toTxtP
  have dPick := df_pick (P := l.prog) (w := w) (base := base) (at_mk X G a7 l7 c7 k7) T.toTxtP dDraw
  have dGcd := df_gcd (P := l.prog) (w := w) (base := base) (at_mk X G a8 l8 c8 k8) T.toTxtJ
  have dEntry := df_entry (P := l.prog) (w := w) (base := base) (at_mk X G a9 l9 c9 k9) dDraw dPick
  have dFrac := df_frac (P := l.prog) (w := w) (base := base) (at_mk X G a10 l10 c10 k10) T.toTxtJ dDraw dPick dEntry
  have dIsp := df_isp (P := l.prog) (w := w) (base := base) (at_mk X G a11 l11 c11 k11) T.toTxtJ CW (PySem.W.mg_none_of X G zall) dGcd
  have gR := ok_errR (P := l.prog) (w := w) (base := base) FCR ECR
  have gU := ok_errU (P := l.prog) (w := w) (base := base) FCU ECU
  have dCk := dx_check (P := l.prog) (w := w) (base := base) (PySem.W.mg_of X G a4) (fun_mk (st := sCheck) l4 c4 k4) T.toTxtW ECR gR bCR dIsInt
  have FI := ok_init (P := l.prog) (w := w) (base := base) FD T.toTxtQ CP ECU gU bCU dCk dFrom dTrim dCom
  have gE := ok_eq (P := l.prog) (w := w) (base := base) FEq T.toTxtQ CW hli
  exact ok_law l14 c14 T CW M FI bI bI1 hd1 ⟨f15, _, a15, i15, t15, k15, bE, gE⟩ ne ⟨PySem.W.mg_of X G a12, k12, l12, c12, bFa⟩ ECR ECU ⟨exm_by xCR jR tCR xRR, exm_by xCR jR tCR xUR, exm_by xCU jU tCU xUU⟩ (hTB (cL, PT) (List.mem_singleton.mpr rfl)) dPen dDraw dPick dFrac dIsp
end Ef
set_option Elab.async false
set_option linter.all false
open PySem PySem.W PyProof.Rows in
set_option maxRecDepth 100000 in
set_option maxHeartbeats 0 in
theorem PySem.Challenge.cw_everyfloor_k01_pieces_in_their_least_for_holds : PySem.Challenge.rw_everyfloor_k01_pieces_in_their_least_for.Holds := by
  w_on; o_law; k_head; (case hw => w_witness2)
  k_fill
  refine LamX.walk_ofTs (l := PySem.Challenge.rw_everyfloor_k01_pieces_in_their_least_for) (n := 63) (k := 9) (x := "script") (CX := fun _ => L2.CX0) rfl (by decide) rfl ⟨rfl, by decide, by decide⟩ (fun w h Y => Y.1) ?F (fun _ _ _ _ _ z => z)
  case F =>
    intro w mg fa h Y KX G hmg
    refine' Ef.all_mk (l := PySem.Challenge.rw_everyfloor_k01_pieces_in_their_least_for) KX G hmg ?aC ?a0 ?l0 ?c0 ?k0 ?a1 ?l1 ?c1 ?k1 ?a2 ?l2 ?c2 ?k2 ?a3 ?l3 ?c3 ?k3 ?a4 ?l4 ?c4 ?k4 ?a5 ?l5 ?c5 ?k5 ?a6 ?l6 ?c6 ?k6 ?a7 ?l7 ?c7 ?k7 ?a8 ?l8 ?c8 ?k8 ?a9 ?l9 ?c9 ?k9 ?a10 ?l10 ?c10 ?k10 ?a11 ?l11 ?c11 ?k11 ?a12 ?l12 ?c12 ?k12 ?a13 ?i13 ?l13 ?c13 ?k13 ?lD ?a14 ?l14 ?c14 ?tP ?hP ?nP ?a15 ?i15 ?t15 ?l15 ?c15 ?k15 ?ne ?sli ?jC ?tC ?mCR ?oCR ?vCR ?sCR ?xCR ?tCR ?kCR ?iCR ?uCR ?nCR ?gaCR ?ggCR ?hdCR ?l16 ?c16 ?k16 ?mCU ?oCU ?vCU ?sCU ?xCU ?tCU ?kCU ?iCU ?uCU ?nCU ?gaCU ?ggCU ?hdCU ?l17 ?c17 ?k17 ?jR ?jU ?xRR ?xUR ?xUU ?pg ?hd ?po ?sa ?mk ?kc ?cc ?cg ?ctk ?co ?nr ?nu ?zg ?z0 ?z1 ?z2 ?z3 ?z4 ?z5 ?z6 ?z7 ?z8 ?z9 ?z10 ?z11 ?zall ?hYY
    (case aC => k_is)
    (case a0 => k_is)
    (case l0 => k_is)
    (case c0 => k_is)
    (case k0 => k_is)
    (case a1 => k_is)
    (case l1 => k_is)
    (case c1 => k_is)
    (case k1 => k_is)
    (case a2 => k_is)
    (case l2 => k_is)
    (case c2 => k_is)
    (case k2 => k_is)
    (case a3 => k_is)
    (case l3 => k_is)
    (case c3 => k_is)
    (case k3 => k_is)
    (case a4 => k_is)
    (case l4 => k_is)
    (case c4 => k_is)
    (case k4 => k_is)
    (case a5 => k_is)
    (case l5 => k_is)
    (case c5 => k_is)
    (case k5 => k_is)
    (case a6 => k_is)
    (case l6 => k_is)
    (case c6 => k_is)
    (case k6 => k_is)
    (case a7 => k_is)
    (case l7 => k_is)
    (case c7 => k_is)
    (case k7 => k_is)
    (case a8 => k_is)
    (case l8 => k_is)
    (case c8 => k_is)
    (case k8 => k_is)
    (case a9 => k_is)
    (case l9 => k_is)
    (case c9 => k_is)
    (case k9 => k_is)
    (case a10 => k_is)
    (case l10 => k_is)
    (case c10 => k_is)
    (case k10 => k_is)
    (case a11 => k_is)
    (case l11 => k_is)
    (case c11 => k_is)
    (case k11 => k_is)
    (case a12 => k_is)
    (case l12 => k_is)
    (case c12 => k_is)
    (case k12 => k_is)
    (case a13 => k_is)
    (case i13 => k_is)
    (case l13 => k_is)
    (case c13 => k_is)
    (case k13 => k_is)
    (case lD => k_is)
    (case a14 => k_is)
    (case l14 => k_is)
    (case c14 => k_is)
    (case tP => first | k_is | rfl | decide +kernel)
    (case hP => first | k_is | rfl | decide +kernel)
    (case nP => first | k_is | decide +kernel | rfl)
    (case a15 => k_is)
    (case i15 => k_is)
    (case t15 => k_is)
    (case l15 => k_is)
    (case c15 => k_is)
    (case k15 => k_is)
    (case ne => k_is)
    (case sli => k_is)
    (case jC => k_is)
    (case tC => k_is)
    (case mCR => k_is)
    (case oCR => k_is)
    (case vCR => decide +kernel)
    (case sCR => k_is)
    (case xCR => k_is)
    (case tCR => k_is)
    (case kCR => k_is)
    (case iCR => k_is)
    (case uCR => k_is)
    (case nCR => k_is)
    (case gaCR => k_is)
    (case ggCR => k_is)
    (case hdCR => k_is)
    (case l16 => k_is)
    (case c16 => k_is)
    (case k16 => k_is)
    (case mCU => k_is)
    (case oCU => k_is)
    (case vCU => decide +kernel)
    (case sCU => k_is)
    (case xCU => k_is)
    (case tCU => k_is)
    (case kCU => k_is)
    (case iCU => k_is)
    (case uCU => k_is)
    (case nCU => k_is)
    (case gaCU => k_is)
    (case ggCU => k_is)
    (case hdCU => k_is)
    (case l17 => k_is)
    (case c17 => k_is)
    (case k17 => k_is)
    (case jR => k_is)
    (case jU => k_is)
    (case xRR => k_is)
    (case xUR => k_is)
    (case xUU => k_is)
    (case pg => k_is)
    (case hd => k_is)
    (case po => k_is)
    (case sa => k_is)
    (case mk => k_is)
    (case kc => k_is)
    (case cc => k_is)
    (case cg => k_is)
    (case ctk => k_is)
    (case co => k_is)
    (case nr => k_is)
    (case nu => k_is)
    (case zg => k_is)
    (case z0 => k_is)
    (case z1 => k_is)
    (case z2 => k_is)
    (case z3 => k_is)
    (case z4 => k_is)
    (case z5 => k_is)
    (case z6 => k_is)
    (case z7 => k_is)
    (case z8 => k_is)
    (case z9 => k_is)
    (case z10 => k_is)
    (case z11 => k_is)
    (case zall => k_is)
    (case hYY => intro p hp; subst hp; exact Y.2 _ (by decide))
#print axioms PySem.Challenge.cw_everyfloor_k01_pieces_in_their_least_for_holds
