import PyProof.Rows.All
import Wide.All
import OpenK.AllK
import Wide.FinOn
import HandS.ForMost
import PySem.Challenge.RW_everyfloor_k11_whole_members_of_sets
import HandS.IsInst
import KE.GoesEnum
import HandS.Style
import HandS.Walk
import HandS.TupAny
import HandS.RevRange
import HandS.Conv
import HandS.More
import HandS.ClsMeth
import HandS.OwnEq
set_option Elab.async false
set_option linter.all false
set_option maxRecDepth 100000
set_option maxHeartbeats 4000000
namespace Ef
open PySem PySem.Spec PyProof.Rows L2
def top (i : Nat) : Stmt := PySem.Challenge.pw_everyfloor_k11_whole_members_of_sets.main.body.getD i (.Pass ⟨0, 0, 0, 0⟩)
abbrev sPen : Stmt := top 27
abbrev sDraw : Stmt := top 28
abbrev sPick : Stmt := top 29
/-! ### the pen -/
def penD (l : Addr) (a b : Int) : List (Key × V) := [(.inr "cells", .ref l), (.inr "at", .int a), (.inr "left", .int b)]
theorem pen_cells (l : Addr) (a b : Int) : valV (penD l a b) (Sum.inr "cells") = some (.ref l) := by with_unfolding_all rfl
theorem pen_at (l : Addr) (a b : Int) : valV (penD l a b) (Sum.inr "at") = some (.int a) := by with_unfolding_all rfl
theorem pen_left (l : Addr) (a b : Int) : valV (penD l a b) (Sum.inr "left") = some (.int b) := by with_unfolding_all rfl
theorem put_at (l : Addr) (a b c : Int) : putK (penD l a b) (Sum.inr "at") (.int c) = penD l c b := by with_unfolding_all rfl
theorem put_left (l : Addr) (a b c : Int) : putK (penD l a b) (Sum.inr "left") (.int c) = penD l a c := by with_unfolding_all rfl
/-- at p stands the pen: its list of ints at l, its place a, what is left b -/
structure Pen (H : Hp) (p l : Addr) (ns : List Int) (a b : Int) : Prop where
  hd : H p = some (.dK (penD l a b))
  hl : H l = some (.lst (ns.map V.int))
  len : ns.length ≤ 63
  a0 : 0 ≤ a
  b0 : 0 ≤ b
/-- all that is tracked but p is as it was -/
def Kp (p : Addr) (H H' : Hp) : Prop := ∀ x o, x ≠ p → H x = some o → H' x = some o
theorem Kp.refl (p : Addr) (H : Hp) : Kp p H H := fun _ _ _ h => h
theorem Kp.trans {p : Addr} {H H1 H2 : Hp} (a : Kp p H H1) (b : Kp p H1 H2) : Kp p H H2 := fun x o n h => b x o n (a x o n h)
theorem Kp.put {p : Addr} {H : Hp} (o : HO) : Kp p H (upd H p o) := fun x u n h => by rw [upd_ne n]; exact h
theorem Kp.new {p q : Addr} {H : Hp} (o : HO) (hq : H q = none) : Kp p H (upd H q o) := fun x u n h => by rw [upd_ne (ne_of_none h hq)]; exact h
/-! ### data -/
theorem dp_ints {K : PySem.W.Frag} {H : Hp} : ∀ ns : List Int, DpAll K H (ns.map V.int) (ns.map PyData.int)
  | [] => .nil
  | n :: ns => .cons (.int n) (dp_ints ns)
theorem dp_bls {K : PySem.W.Frag} {H : Hp} : ∀ bs : List Bool, DpAll K H (bs.map V.bl) (bs.map PyData.bool)
  | [] => .nil
  | n :: ns => .cons (.bl n) (dp_bls ns)
theorem can_ints : ∀ ns : List Int, PyData.canLayAll0 (ns.map PyData.int) = true ∧ PyData.depthAll (ns.map PyData.int) = 0
  | [] => ⟨rfl, rfl⟩
  | n :: ns => by
    obtain ⟨h1, h2⟩ := can_ints ns
    constructor
    · show (PyData.canLay0 (.int n) && PyData.canLayAll0 (ns.map PyData.int)) = true
      rw [h1]; rfl
    · show max (PyData.depth (.int n)) (PyData.depthAll (ns.map PyData.int)) = 0
      rw [h2]; rfl
theorem can_bls : ∀ ns : List Bool, PyData.canLayAll0 (ns.map PyData.bool) = true ∧ PyData.depthAll (ns.map PyData.bool) = 0
  | [] => ⟨rfl, rfl⟩
  | n :: ns => by
    obtain ⟨h1, h2⟩ := can_bls ns
    constructor
    · show (PyData.canLay0 (.bool n) && PyData.canLayAll0 (ns.map PyData.bool)) = true
      rw [h1]; rfl
    · show max (PyData.depth (.bool n)) (PyData.depthAll (ns.map PyData.bool)) = 0
      rw [h2]; rfl
theorem sh_list {ds : List PyData} (h1 : PyData.canLayAll0 ds = true) (h2 : PyData.depthAll ds = 0) : SeqAt.shaped (.list ds) = true ∧ SeqAt.shaped (.tuple ds) = true := by
  constructor
  · show (PyData.canLayAll0 ds && decide (PyData.depthAll ds + 1 ≤ 64)) = true
    rw [h1, h2]; rfl
  · show (PyData.canLayAll0 ds && decide (PyData.depthAll ds + 1 ≤ 64)) = true
    rw [h1, h2]; rfl
theorem eqv_nil (ns : List Int) : PyData.eqv (.list (ns.map PyData.int)) (.list []) = ns.isEmpty := by
  cases ns with
  | nil => rfl
  | cons n ns => rfl
theorem eqv_bls : ∀ as bs : List Bool, PyData.eqvAll (as.map PyData.bool) (bs.map PyData.bool) = decide (as = bs)
  | [], [] => rfl
  | [], _ :: _ => rfl
  | _ :: _, [] => rfl
  | a :: as, b :: bs => by
    show (PyData.eqv (.bool a) (.bool b) && PyData.eqvAll (as.map PyData.bool) (bs.map PyData.bool)) = _
    rw [eqv_bls as bs]
    show ((a == b) && decide (as = bs)) = decide (a :: as = b :: bs)
    by_cases h1 : a = b <;> by_cases h2 : as = bs <;> simp [h1, h2]
end Ef
set_option Elab.async false
set_option linter.all false
set_option maxRecDepth 100000
set_option maxHeartbeats 4000000
namespace Ef
open PySem PySem.Spec PyProof.Rows L2
structure TxtP (mg : Str → Option Value) : Prop where
  int : mg "int" = none
  len : mg "len" = none
  list : mg "list" = none
/-- what a draw promises -/
def spDraw : Sp := fun vs H Q _ => ∃ (p l : Addr) (ns : List Int) (a b m : Int), vs = [.ref p, .int m] ∧ Pen H p l ns a b ∧ a ≤ 1073741824 ∧ 1 ≤ m ∧ m < 1073741824 ∧
  ∀ (d a' b' : Int) (H' : Hp), 0 ≤ d → d < m → a' ≤ a + 1 → Pen H' p l ns a' b' → Kp p H H' → Q (.int d) H'
theorem scDraw : FnScope ["pen", "many", "digit", "at", "cell", "mixed"] ["pen", "many"] (defScope sDraw) := ⟨rfl, rfl, rfl, by decide +kernel, rfl, by decide +kernel, by decide +kernel⟩
section
variable {P : Program} {w : World} {K : PySem.W.Frag} {mg : Str → Option Value} {base : Heap}
theorem Pen.ne {H : Hp} {p l : Addr} {ns : List Int} {a b : Int} (h : Pen H p l ns a b) : l ≠ p := ne_of h.hl h.hd (by intro q; cases q)
theorem Pen.put {H : Hp} {p l : Addr} {ns : List Int} {a b : Int} (h : Pen H p l ns a b) {a' b' : Int} (ha : 0 ≤ a') (hb : 0 ≤ b') : Pen (upd H p (.dK (penD l a' b'))) p l ns a' b' :=
  ⟨upd_same, by rw [upd_ne h.ne]; exact h.hl, h.len, ha, hb⟩
theorem Pen.kp {H H' : Hp} {p l : Addr} {ns : List Int} {a b : Int} (h : Pen H p l ns a b) (k : Kp p H H') (hp : H' p = H p) : Pen H' p l ns a b := ⟨hp.trans h.hd, k _ _ h.ne h.hl, h.len, h.a0, h.b0⟩
theorem emB (x k : Int) (h : 0 < k) (h2 : k < 2 ^ 64) : -(2 ^ 64) < x % k ∧ x % k < 2 ^ 64 := by
  have h1 := Int.emod_nonneg x (show k ≠ 0 by omega)
  have h3 := Int.emod_lt_of_pos x h
  omega
theorem Pen.gl {H : Hp} {p l : Addr} {ns : List Int} {a b : Int} (h : Pen H p l ns a b) : DGet H p (.str "left") (some (.int b)) := by
  have z := DGet.k (k := Sum.inr "left") h.hd
  rw [pen_left] at z
  exact z
theorem Pen.ga {H : Hp} {p l : Addr} {ns : List Int} {a b : Int} (h : Pen H p l ns a b) : DGet H p (.str "at") (some (.int a)) := by
  have z := DGet.k (k := Sum.inr "at") h.hd
  rw [pen_at] at z
  exact z
theorem Pen.gc {H : Hp} {p l : Addr} {ns : List Int} {a b : Int} (h : Pen H p l ns a b) : DGet H p (.str "cells") (some (.ref l)) := by
  have z := DGet.k (k := Sum.inr "cells") h.hd
  rw [pen_cells] at z
  exact z
theorem Pen.pl {H : Hp} {p l : Addr} {ns : List Int} {a b c : Int} (h : Pen H p l ns a b) : DPut H p (.str "left") (.int c) (upd H p (.dK (penD l a c))) := by
  have z := DPut.k (k := Sum.inr "left") (v := .int c) h.hd (by show 3 < sizeLine; decide)
  rw [put_left] at z
  exact z
theorem Pen.pa {H : Hp} {p l : Addr} {ns : List Int} {a b c : Int} (h : Pen H p l ns a b) : DPut H p (.str "at") (.int c) (upd H p (.dK (penD l c b))) := by
  have z := DPut.k (k := Sum.inr "at") (v := .int c) h.hd (by show 3 < sizeLine; decide)
  rw [put_at] at z
  exact z
theorem ok_draw {f : Addr} {fd : FuncData} (F : Fun K "_law_draw" "_law_draw" sDraw f fd) (T : TxtP mg) : FnOk P w K mg base CX0 1 f fd ["pen", "many"] spDraw := by
  refine F.ok scDraw (fun vs H Q E h => ?_) (fun cdv A outer s H vs Q E hr h => ?_)
  · obtain ⟨p, l, ns, a, b, m, rfl, _⟩ := h
    rfl
  · obtain ⟨p, l, ns, a, b, m, rfl, hP, ha, hm1, hm2, q⟩ := h
    have hu := hu_of hr
    refine ⟨_, (pss_cons (ps_if (pt_cmpR op_ge (pe_dget hu (pv 0) pe_str (fun _ _ => rfl)) (pv 1) (nomark _)) (pss_cons (ps_set (i := 2) scDraw.nd rfl (.inl rfl) (pe_op op_mod (pe_callTy call_int1 (by rfl) T.int (by decide +kernel) (pa_cons (pe_dget hu (pv 0) pe_str (fun _ _ => rfl)) pa_nil)) (pv 1)))
      (pss_cons (ps_dput hu (pv 0) pe_str (pe_op op_fdiv (pe_dget hu (pv 0) pe_str (fun _ _ => rfl)) (pv 1)) rfl)
      (pss_one (ps_ret (pv 2))))) pss_nil)
      (pss_cons (ps_set (i := 3) scDraw.nd rfl (.inl rfl) (pe_dget hu (pv 0) pe_str (fun _ _ => rfl)))
      (pss_cons (ps_dput hu (pv 0) pe_str (pe_op op_add (pv 3) pe_int) rfl)
      (pss_cons (ps_set (i := 4) scDraw.nd rfl (.inl rfl) (pe_op op_add (pe_op op_mul pe_int (pv 3)) pe_int))
      (pss_cons (ps_if (pt_cmpR (op_neD hr.units) (pe_dget hu (pv 0) pe_str (fun _ _ => rfl)) (pe_lst pa_nil) (nomark _)) (pss_one (ps_set (i := 4) scDraw.nd rfl (.inl rfl) (pe_ix ix_list (pe_dget hu (pv 0) pe_str (fun _ _ => rfl)) (pe_op op_mod (pe_callTy call_int1 (by rfl) T.int (by decide +kernel) (pa_cons (pv 3) pa_nil)) (pe_callB call_len_seq (by rfl) T.len PySem.boot_len (pa_cons (pe_dget hu (pv 0) pe_str (fun _ _ => rfl)) pa_nil))) (fun _ _ => rfl)))) pss_nil)
      (pss_cons (ps_if (pw_and (pt_cmpR op_lt (pv 3) (pe_callB call_len_seq (by rfl) T.len PySem.boot_len (pa_cons (pe_dget hu (pv 0) pe_str (fun _ _ => rfl)) pa_nil)) (nomark _)) (pw_and1 (pt_cmpR op_ge (pv 4) (pe_op op_pow pe_int pe_int) (nomark _)))).pt (pss_cons (ps_dput hu (pv 0) pe_str (pe_op op_fdiv (pe_op op_sub (pv 4) (pe_op op_pow pe_int pe_int)) (pv 1)) rfl)
      (pss_one (ps_ret (pe_op op_mod (pe_callTy call_int1 (by rfl) T.int (by decide +kernel) (pa_cons (pe_op op_sub (pv 4) (pe_op op_pow pe_int pe_int)) pa_nil)) (pv 1))))) pss_nil)
      (pss_cons (ps_set (i := 5) scDraw.nd rfl (.inl rfl) (pe_op op_add (pe_op op_add (pe_op op_add (pe_op op_mul (pe_op op_mod (pe_callTy call_int1 (by rfl) T.int (by decide +kernel) (pa_cons (pv 4) pa_nil)) pe_int) pe_int) (pe_op op_mul (pe_op op_mul pe_int (pv 3)) (pv 3))) (pe_op op_mul pe_int (pv 3))) pe_int))
      (pss_cons (ps_set (i := 5) scDraw.nd rfl (.inl rfl) (pe_op op_mod (pe_callTy call_int1 (by rfl) T.int (by decide +kernel) (pa_cons (pv 5) pa_nil)) pe_int))
      (pss_cons (ps_set (i := 5) scDraw.nd rfl (.inl rfl) (pe_op op_mod (pe_callTy call_int1 (by rfl) T.int (by decide +kernel) (pa_cons (pe_op op_mul (pv 5) (pe_op op_add (pv 5) pe_int)) pa_nil)) pe_int))
      (pss_one (ps_ret (pe_op op_mod (pe_callTy call_int1 (by rfl) T.int (by decide +kernel) (pa_cons (pe_op op_fdiv (pe_op op_mod (pe_callTy call_int1 (by rfl) T.int (by decide +kernel) (pa_cons (pe_op op_mul (pv 5) (pv 5)) pa_nil)) pe_int) pe_int) pa_nil)) (pv 1))))))))))))), ?_⟩
    -- if pen['left'] >= many
    refine ⟨_, rfl, p, _, rfl, hP.gl, _, rfl, _, _, rfl, rfl, _, rfl, ?_⟩
    refine ite2 (fun hb => ?_) (fun hb => ?_)
    · -- digit; pen['left']; return
      refine ⟨_, rfl, p, _, rfl, hP.gl, .inl ⟨_, rfl, ?_⟩⟩
      refine ⟨_, rfl, _, _, rfl, rfl, by omega, ?_⟩
      refine ⟨_, rfl, p, _, rfl, hP.gl, _, rfl, _, _, rfl, rfl, ⟨by omega, hm2⟩, _, rfl, p, _, rfl, hP.pl, ?_⟩
      refine ⟨_, rfl, ?_⟩
      exact q _ _ _ _ (Int.emod_nonneg _ (by omega)) (Int.emod_lt_of_pos _ (by omega)) (by omega) (hP.put hP.a0 (Int.ediv_nonneg hP.b0 (by omega))) (Kp.put _)
    · -- at = pen['at']; pen['at'] = at + 1
      refine ⟨_, rfl, p, _, rfl, hP.ga, ?_⟩
      refine ⟨_, rfl, _, _, rfl, rfl, _, rfl, p, _, rfl, hP.pa, ?_⟩
      have hP1 := hP.put (a' := a + 1) (b' := b) (by have := hP.a0; omega) hP.b0
      have a0 := hP.a0
      have b0 := hP.b0
      have k1 : Kp p H (upd H p (.dK (penD l (a + 1) b))) := Kp.put _
      have aE : ∀ {x : Int}, x = a → -(2 ^ 64) < x ∧ x < 2 ^ 64 := fun e => by subst e; constructor <;> omega
      -- cell = 37 * at + 11
      refine ⟨_, rfl, _, _, rfl, rfl, .inl ⟨by decide, by decide⟩, _, _, rfl, rfl, ?_⟩
      -- if pen['cells'] != []
      refine ⟨_, rfl, p, _, rfl, hP1.gc, Nat.zero_le _, fun t ht => ?_⟩
      have hP2 : Pen (upd (upd H p (.dK (penD l (a + 1) b))) t (.lst [])) p l ns (a + 1) b := hP1.kp (Kp.new _ ht) (upd_ne (ne_of_none hP1.hd ht))
      have k2 := k1.trans (Kp.new (.lst []) ht)
      have hT : SqL K (upd (upd H p (.dK (penD l (a + 1) b))) t (.lst [])) t [] := .inl (.inl upd_same)
      refine ⟨_, _, .lst (.inl (.inl hP2.hl)) (dp_ints ns), .lst hT .nil, (sh_list (can_ints ns).1 (can_ints ns).2).1, (sh_list rfl rfl).1, _, rfl, ?_⟩
      generalize upd (upd H p (.dK (penD l (a + 1) b))) t (.lst []) = H2 at hP2 k2 hT ⊢
      rw [eqv_nil]
      have hm0 : (0 : Int) < m := by omega
      refine ite2 ?g1 ?g2
      case' g1 =>
        intro he
        have hn : 0 < ns.length := by
          cases ns with
          | nil => exact absurd he (by decide)
          | cons n ns => exact Nat.succ_pos _
        have hlt : (a % (ns.length : Int)).toNat < ns.length := by
          have h1 := Int.emod_nonneg a (show (ns.length : Int) ≠ 0 by omega)
          have h2 := Int.emod_lt_of_pos a (show (0 : Int) < (ns.length : Int) by omega)
          omega
        refine ⟨_, rfl, p, _, rfl, hP2.gc, _, rfl, .inl ⟨_, rfl, _, rfl, p, _, rfl, hP2.gc, _, _, rfl, .inl (.inl (.inl hP2.hl)), _, _, rfl, rfl, by rw [List.length_map]; omega, l, _, _, .int ns[(a % (ns.length : Int)).toNat], rfl, rfl, .inl (.inl hP2.hl), ?_, ?_⟩⟩
        · rw [List.length_map]
          exact at_of (Int.toNat_of_nonneg (Int.emod_nonneg a (show (ns.length : Int) ≠ 0 by omega))).symm (by rw [List.getElem?_map, List.getElem?_eq_getElem hlt]; rfl)
        generalize ns[(a % (ns.length : Int)).toNat] = c
      case' g2 =>
        intro he
        generalize 37 * a + 11 = c
      all_goals
        refine ⟨_, rfl, _, rfl, p, _, rfl, hP2.gc, _, _, rfl, .inl (.inl (.inl hP2.hl)), _, _, rfl, rfl, _, rfl, ?_⟩
        refine ite2 ?_ ?_
      all_goals intro h1
      all_goals try
        (refine ⟨_, rfl, _, _, rfl, rfl, ⟨by decide, by decide, by decide⟩, _, _, rfl, rfl, _, rfl, ?_⟩
         refine ite2 ?_ ?_ <;> intro h2)
      all_goals try
        (refine ⟨_, rfl, _, _, rfl, rfl, ⟨by decide, by decide, by decide⟩, _, _, rfl, rfl, _, rfl, _, _, rfl, rfl, ⟨hm0, hm2⟩, _, rfl, p, _, rfl, hP2.pl, ?_⟩
         refine ⟨_, rfl, _, _, rfl, rfl, ⟨by decide, by decide, by decide⟩, _, _, rfl, rfl, .inl ⟨_, rfl, _, rfl, _, _, rfl, rfl, hm0, ?_⟩⟩
         exact q _ _ _ _ (Int.emod_nonneg _ (Int.ne_of_gt hm0)) (Int.emod_lt_of_pos _ hm0) (Int.le_refl _) (hP2.put hP2.a0 (Int.ediv_nonneg (Int.sub_nonneg_of_le (of_decide_eq_true h2)) (Int.le_of_lt hm0))) (k2.trans (Kp.put _)))
      all_goals try refine iteF ?_
      all_goals
        refine ⟨_, rfl, .inl ⟨_, rfl, _, _, rfl, rfl, (by show (0 : Int) < _; decide), _, _, rfl, rfl, .inr ⟨by decide, by decide⟩, _, rfl, _, _, rfl, rfl, .inl ⟨by decide, by decide⟩, _, rfl, _, _, rfl, rfl, .inr (aE rfl), _, _, rfl, rfl, _, rfl, _, _, rfl, rfl, .inl ⟨by decide, by decide⟩, _, _, rfl, rfl, _, _, rfl, rfl, ?_⟩⟩
        refine ⟨_, rfl, .inl ⟨_, rfl, _, _, rfl, rfl, (by show (0 : Int) < _; decide), ?_⟩⟩
        refine ⟨_, rfl, _, rfl, _, _, rfl, rfl, _, _, rfl, rfl, .inl (emB _ _ (by decide) (by decide)), .inl ⟨_, rfl, _, _, rfl, rfl, (by show (0 : Int) < _; decide), ?_⟩⟩
        refine ⟨_, rfl, _, rfl, _, _, rfl, rfl, .inl (emB _ _ (by decide) (by decide)), .inl ⟨_, rfl, _, _, rfl, rfl, (by show (0 : Int) < _; decide), _, _, rfl, rfl, ⟨by decide, by decide⟩, .inl ⟨_, rfl, _, rfl, _, _, rfl, rfl, hm0, ?_⟩⟩⟩
        exact q _ _ _ _ (Int.emod_nonneg _ (Int.ne_of_gt hm0)) (Int.emod_lt_of_pos _ hm0) (Int.le_refl _) hP2 k2
end
end Ef
set_option Elab.async false
set_option linter.all false
set_option maxRecDepth 100000
set_option maxHeartbeats 4000000
namespace Ef
open PySem PySem.Spec PyProof.Rows L2
abbrev sTruths : Stmt := top 30
abbrev sModel : Stmt := top 31
abbrev sTruth : Stmt := top 32
abbrev sWhere : Stmt := top 33
abbrev sHas : Stmt := top 34
/-- a def of the text, by its name -/
structure Df (P : Program) (w : World) (K : PySem.W.Frag) (mg : Str → Option Value) (base : Heap) (k : Nat) (x : Str) (ps : List Str) (sp : Sp) : Prop where
  ex : ∃ f fd, mg x = some (.ref f) ∧ PySem.W.keepIn K (.ref f) = true ∧ Binds K fd ps [] ∧ FnOk P w K mg base CX0 k f fd ps sp
theorem Df.call {X : Cx} {k : Nat} {x : Str} {ps : List Str} {sp : Sp} {e : Expr} {es : List Expr} {t : TA} {p pos : Pos} (D : Df X.prog X.w X.K X.mg X.base k x ps sp) (hr : Room k X.A) (ha : PA X (e :: es) t) (hg : Gl X x := by rfl)
    (hdb : (x == ("__debug__" : Str)) = false := by decide) (he : starEach (e :: es) X.env = (false, eval e X.env) :: starEach es X.env := by rfl) (hpl : (backTo pos (starEach es X.env)).any (·.1) = false := by rfl) :
    PE X (.Call (.Name x p) (e :: es) [] pos) (tCall sp [] E0 t) := by
  obtain ⟨f, fd, hm, hk, hb, F⟩ := D.ex
  exact pe_call F hr hg hm hk hb .nil pass0 ha hdb he hpl
/-- where the text's def stands behind the top -/
structure At (K : PySem.W.Frag) (mg : Str → Option Value) (x : Str) (st : Stmt) : Prop where
  ex : ∃ f fd, mg x = some (.ref f) ∧ Fun K x x st f fd
section
variable {P : Program} {w : World} {K : PySem.W.Frag} {mg : Str → Option Value} {base : Heap}
theorem Kp.of_same {p : Addr} {H H' : Hp} (h : Same H H') : Kp p H H' := fun x o _ e => h x o e
theorem Kp.rd {p : Addr} {H H' : Hp} {q : Addr} {u : HO} (k : Kp p H H') (n : q ≠ p) (h : Rd H q u) : Rd H' q u := by
  rcases h with h | ⟨o, h⟩
  · exact .inl (k _ _ n h)
  · exact .inr ⟨o, k _ _ n h⟩
theorem Kp.sql {p : Addr} {H H' : Hp} {q : Addr} {xs : List V} (k : Kp p H H') (n : q ≠ p) (h : SqL K H q xs) : SqL K H' q xs := by
  rcases h with h | h
  · exact .inl (k.rd n h)
  · exact .inr h
theorem Kp.sqt {p : Addr} {H H' : Hp} {q : Addr} {xs : List V} (k : Kp p H H') (n : q ≠ p) (h : SqT K H q xs) : SqT K H' q xs := by
  rcases h with h | h
  · exact .inl (k.rd n h)
  · exact .inr h
theorem Kp.free {p : Addr} {H H' : Hp} (k : Kp p H H') {q : Addr} (n : q ≠ p) (h : H' q = none) : H q = none := by
  cases e : H q with
  | none => rfl
  | some o => rw [k q o n e] at h; cases h
theorem Kp.mut {p q : Addr} {H H' : Hp} {o : HO} (k : Kp p H H') (h : H q = none) : Kp p H (upd H' q o) := fun x u n e => by
  rw [upd_ne (ne_of_none e h)]
  exact k x u n e
theorem small1000' {n : Nat} (h : n ≤ 100000) : n < sizeLine := Nat.lt_of_le_of_lt h (by decide)
theorem df_draw (A : At K mg "_law_draw" sDraw) (T : TxtP mg) : Df P w K mg base 1 "_law_draw" ["pen", "many"] spDraw := by
  obtain ⟨f, fd, hm, F⟩ := A.ex
  exact ⟨f, fd, hm, F.kp, F.binds (fun _ _ _ _ _ _ us hl => match us, hl with | [_, _], _ => rfl), ok_draw F T⟩
/-! ### _law_pen -/
def spPen (K : PySem.W.Frag) : Sp := fun vs H Q _ => ∃ (a : Addr) (ns : List Int), vs = [.ref a] ∧ SqL K H a (ns.map V.int) ∧ ns.length ≤ 63 ∧ ∀ (p l : Addr) (H' : Hp), H p = none → Same H H' → Pen H' p l ns 0 0 → Q (.ref p) H'
theorem scPen : FnScope ["script"] ["script"] (defScope sPen) := ⟨rfl, rfl, rfl, by decide +kernel, rfl, by decide +kernel, by decide +kernel⟩
theorem cut63 (xs : List V) (h : xs.length ≤ 63) : cutV xs none (some 63) = xs := by
  unfold cutV
  rw [HT.sIx_none, show HT.sIx xs.length xs.length (some 63) = min 63 xs.length from HT.sIx_nat xs.length xs.length 63, Nat.min_eq_right h]
  simp
theorem df_pen (A : At K mg "_law_pen" sPen) (T : TxtP mg) : Df P w K mg base 1 "_law_pen" ["script"] (spPen K) := by
  obtain ⟨f, fd, hm, F⟩ := A.ex
  refine ⟨f, fd, hm, F.kp, F.binds (fun _ _ _ _ _ _ us hl => match us, hl with | [_], _ => rfl), F.ok scPen (fun vs H Q E h => ?_) (fun cdv A outer s H vs Q E hr h => ?_)⟩
  · obtain ⟨a, ns, rfl, _⟩ := h
    rfl
  · obtain ⟨a, ns, rfl, hS, hlen, q⟩ := h
    refine ⟨_, (pss_one (ps_ret (pe_disp (pps_cons pe_str (pe_callTy call_list_of (by rfl) T.list (by decide +kernel) (pa_cons (pe_slice sl_list (pv 0) po_none (po_some pe_int)) pa_nil)) (pps_cons pe_str pe_int (pps_cons pe_str pe_int pps_nil))) (by rfl) (by rfl) (fun z => by cases z) (by decide)))), ?_⟩
    intro p hp
    have s1 : Same H (upd H p (.dK [])) := fun b o e => by rw [upd_ne (ne_of_none e hp)]; exact e
    refine ⟨_, rfl, 63, rfl, a, _, rfl, s1.seq hS, fun c hc => ?_⟩
    rw [cut63 _ (by rw [List.length_map]; exact hlen)]
    have s2 : Same H (upd (upd H p (.dK [])) c (.lst (ns.map V.int))) := s1.trans fun b o e => by rw [upd_ne (ne_of_none e hc)]; exact e
    refine ⟨c, _, rfl, .inl (.inl (.inl upd_same)), fun l hl => ?_⟩
    have s3 : Same H (upd (upd (upd H p (.dK [])) c (.lst (ns.map V.int))) l (.lst (ns.map V.int))) := s2.trans fun b o e => by rw [upd_ne (ne_of_none e hl)]; exact e
    have hpc : p ≠ c := fun z => by rw [← z, upd_same] at hc; cases hc
    have hpl : p ≠ l := fun z => by rw [← z, upd_ne hpc, upd_same] at hl; cases hl
    refine ⟨by rw [upd_ne hpl, upd_ne hpc, upd_same], penD l 0 0, rfl, by show 3 ≤ 15; decide, ?_⟩
    refine q p l _ hp (fun b o e => ?_) ⟨upd_same, by rw [upd_ne hpl.symm, upd_same], hlen, Int.le_refl 0, Int.le_refl 0⟩
    rw [upd_ne (ne_of_none e hp)]
    exact s3 _ _ e
/-! ### _law_pick -/
def spPick (K : PySem.W.Frag) : Sp := fun vs H Q _ => ∃ (p l q : Addr) (ns : List Int) (a b : Int) (xs : List V), vs = [.ref p, .ref q] ∧ Pen H p l ns a b ∧ a ≤ 1073741824 ∧ SqL K H q xs ∧ q ≠ p ∧ 1 ≤ xs.length ∧ xs.length ≤ 100000 ∧
  ∀ (j : Nat) (v : V) (a' b' : Int) (H' : Hp), xs[j]? = some v → a' ≤ a + 1 → Pen H' p l ns a' b' → Kp p H H' → Q v H'
theorem scPick : FnScope ["pen", "some"] ["pen", "some"] (defScope sPick) := ⟨rfl, rfl, rfl, by decide +kernel, rfl, by decide +kernel, by decide +kernel⟩
theorem df_pick (A : At K mg "_law_pick" sPick) (T : TxtP mg) (Ddraw : Df P w K mg base 1 "_law_draw" ["pen", "many"] spDraw) : Df P w K mg base 2 "_law_pick" ["pen", "some"] (spPick K) := by
  obtain ⟨f, fd, hm, F⟩ := A.ex
  refine ⟨f, fd, hm, F.kp, F.binds (fun _ _ _ _ _ _ us hl => match us, hl with | [_, _], _ => rfl), F.ok scPick (fun vs H Q E h => ?_) (fun cdv A outer s H vs Q E hr h => ?_)⟩
  · obtain ⟨p, l, q, ns, a, b, xs, rfl, _⟩ := h
    rfl
  · obtain ⟨p, l, q, ns, a, b, xs, rfl, hP, ha, hS, hqp, h1, h2, k⟩ := h
    refine ⟨_, (pss_one (ps_ret (pe_ix ix_list (pv 1) (Ddraw.call (hr.mono (by decide)) (pa_cons (pv 0) (pa_cons (pe_callB call_len_seq (by rfl) T.len PySem.boot_len (pa_cons (pv 1) pa_nil)) pa_nil))) (fun _ _ => rfl)))), ?_⟩
    refine ⟨_, rfl, _, rfl, _, rfl, _, _, rfl, .inl hS, p, l, ns, a, b, _, rfl, hP, ha, by omega, by omega, fun d a' b' H' d0 d1 ha' hP' hK => ?_⟩
    have hd : d.toNat < xs.length := by omega
    exact ⟨q, _, _, _, rfl, rfl, hK.sql hqp hS, at_of (Int.toNat_of_nonneg d0).symm (List.getElem?_eq_getElem hd), k _ _ _ _ _ (List.getElem?_eq_getElem hd) ha' hP' hK⟩
/-! ### _law_truths -/
def spTruths : Sp := fun vs H Q _ => ∃ (p l : Addr) (ns : List Int) (a b m : Int), vs = [.ref p, .int m] ∧ Pen H p l ns a b ∧ a ≤ 1000000000 ∧ 0 ≤ m ∧ m ≤ 10000 ∧
  ∀ (r : Addr) (bs : List Bool) (a' b' : Int) (H' : Hp), H r = none → H' r = some (.lst (bs.map V.bl)) → (bs.length : Int) = m → a' ≤ a + m + 3 → Pen H' p l ns a' b' → Kp p H H' → Q (.ref r) H'
theorem scTruths : FnScope ["pen", "many", "way", "truth", "found", "k"] ["pen", "many"] (defScope sTruths) := ⟨rfl, rfl, rfl, by decide +kernel, rfl, by decide +kernel, by decide +kernel⟩
theorem df_truths (A : At K mg "_law_truths" sTruths) (T : TxtP mg) (hrg : mg "range" = none) (Ddraw : Df P w K mg base 1 "_law_draw" ["pen", "many"] spDraw) : Df P w K mg base 2 "_law_truths" ["pen", "many"] spTruths := by
  obtain ⟨f, fd, hm, F⟩ := A.ex
  refine ⟨f, fd, hm, F.kp, F.binds (fun _ _ _ _ _ _ us hl => match us, hl with | [_, _], _ => rfl), F.ok scTruths (fun vs H Q E h => ?_) (fun cdv A outer s H vs Q E hr h => ?_)⟩
  · obtain ⟨p, l, ns, a, b, m, rfl, _⟩ := h
    rfl
  · obtain ⟨p, l, ns, a, b, m, rfl, hP, ha, hm0, hm1, q⟩ := h
    refine ⟨_, (pss_cons (ps_asg (pe_tup (pa_cons (Ddraw.call (hr.mono (by decide)) (pa_cons (pv 0) (pa_cons pe_int pa_nil))) (pa_cons (pe_cmpR op_eq (Ddraw.call (hr.mono (by decide)) (pa_cons (pv 0) (pa_cons pe_int pa_nil))) pe_int (nomark _)) pa_nil))) (pg_tup (by rfl) (pgs_cons (pg_name (i := 2) scTruths.nd rfl (.inr rfl)) (pgs_cons (pg_name (i := 3) scTruths.nd rfl (.inr rfl)) pgs_nil))))
      (pss_cons (ps_setLc (i := 4) (own := [("k", 5)]) (g := gName 5) (by rfl) scTruths.nd rfl rfl (sw_true rfl rfl rfl (by decide +kernel)) (pi_range1 (by rfl) hrg (pa_cons (pv 1) pa_nil)) (blkOk_by (own := [("k", 5)]) (N := ["pen", "many", "way", "truth", "found", "k"]) (sc := defScope sTruths) (by decide +kernel)) (fun _ _ _ _ _ => pg_name (i := 5) scTruths.nd rfl (Or.inl rfl)) (fun _ _ _ _ _ => pts_nil) (fun _ _ _ _ _ => (pe_ifExp (pt_cmpR op_lt (pv 2) pe_int (nomark _)) (pe_cmpR op_eq (Ddraw.call (hr.mono (by decide)) (pa_cons (pv 0) (pa_cons pe_int pa_nil))) pe_int (nomark _)) (pv 3))))
      (pss_cons (ps_if (pw_and (pt_cmpR op_eq (pv 2) pe_int (nomark _)) (pw_and1 (pt_cmpR op_gt (pv 1) pe_int (nomark _)))).pt (pss_one (ps_asg (pe_not (pv 3)) (pg_sub (pv 4) (Ddraw.call (hr.mono (by decide)) (pa_cons (pv 0) (pa_cons (pv 1) pa_nil))) set_list))) pss_nil)
      (pss_one (ps_ret (pv 4)))))), ?_⟩
    -- way, truth
    refine ⟨_, rfl, p, l, ns, a, b, _, rfl, hP, by omega, by decide, by decide, fun d1 a1 b1 H1 d10 d11 ha1 hP1 hK1 => ?_⟩
    refine ⟨_, rfl, p, l, ns, a1, b1, _, rfl, hP1, by omega, by decide, by decide, fun d2 a2 b2 H2 d20 d21 ha2 hP2 hK2 => ?_⟩
    have hK12 := hK1.trans hK2
    refine ⟨rfl, by show 2 ≤ sizeLine; decide, fun t ht => ?_⟩
    have hP3 : Pen (upd H2 t (.tup [.int d1, .bl (decide (V.int d2 = V.int 0))])) p l ns a2 b2 := hP2.kp (Kp.new _ ht) (upd_ne (ne_of_none hP2.hd ht))
    have hK3 := hK12.trans (Kp.new (.tup [.int d1, .bl (decide (V.int d2 = V.int 0))]) ht)
    refine ⟨t, _, rfl, .inl (.inl upd_same), rfl, _, _, rfl, _, _, rfl, rfl, ?_⟩
    generalize upd H2 t (.tup [.int d1, .bl (decide (V.int d2 = V.int 0))]) = H3 at hP3 hK3 ⊢
    generalize decide (V.int d2 = V.int 0) = tr
    -- found = [..]
    refine ⟨_, rfl, _, rfl, by omega, by omega, fun D hD => ?_⟩
    have hDH : H D = none := by
      refine hK3.free (fun z => ?_) hD
      rw [z, hP3.hd] at hD
      cases hD
    refine lc_range (lo := 0) (n := m.toNat) (fun i H' => ∃ (acc : List Bool) (a' b' : Int), H' D = some (.lst (acc.map V.bl)) ∧ acc.length = i ∧ Pen H' p l ns a' b' ∧ a' ≤ a + 2 + i ∧ Kp p H H')
      ⟨[], a2, b2, upd_same, rfl, hP3.kp (Kp.new _ hD) (upd_ne (ne_of_none hP3.hd hD)), by omega, hK3.trans (Kp.new _ hD)⟩ ?_ ?_
    · rintro i H4 hi ⟨acc, a', b', hA, hl, hP4, ha4, hK4⟩
      have fin : ∀ (y : Bool) (a'' b'' : Int) (H5 : Hp), Pen H5 p l ns a'' b'' → a'' ≤ a' + 1 → Kp p H4 H5 → ∃ acc', H5 D = some (.lst acc') ∧ acc'.length < sizeLine ∧
          (∃ (acc : List Bool) (a' b' : Int), (upd H5 D (.lst (acc' ++ [.bl y]))) D = some (.lst (acc.map V.bl)) ∧ acc.length = i + 1 ∧ Pen (upd H5 D (.lst (acc' ++ [.bl y]))) p l ns a' b' ∧ a' ≤ a + 2 + ((i + 1 : Nat) : Int) ∧ Kp p H (upd H5 D (.lst (acc' ++ [.bl y])))) := by
        intro y a'' b'' H5 hP5 ha5 hK5
        have hDp : D ≠ p := fun z => by rw [z, hP.hd] at hDH; cases hDH
        have hA5 := hK5 _ _ hDp hA
        refine ⟨_, hA5, by rw [List.length_map]; exact small1000' (by omega), acc ++ [y], a'', b'', by rw [upd_same, List.map_append]; rfl, by rw [List.length_append, hl]; rfl, ?_, by omega, (hK4.trans hK5).mut hDH⟩
        exact ⟨by rw [upd_ne (Ne.symm hDp)]; exact hP5.hd, by rw [upd_ne (fun z => by rw [← z, hP.hl] at hDH; cases hDH)]; exact hP5.hl, hP5.len, hP5.a0, hP5.b0⟩
      refine ⟨rfl, ?_⟩
      refine ⟨_, rfl, _, _, rfl, rfl, _, rfl, ?_⟩
      refine ite2 (fun _ => ?_) (fun _ => ?_)
      · refine ⟨_, rfl, p, l, ns, a', b', _, rfl, hP4, by omega, by decide, by decide, fun d5 a5 b5 H5 d50 d51 ha5 hP5 hK5 => ?_⟩
        exact ⟨rfl, fin _ _ _ _ hP5 ha5 hK5⟩
      · exact ⟨_, rfl, fin _ _ _ _ hP4 (by omega) (Kp.refl _ _)⟩
    · rintro H4 ⟨acc, a', b', hA, hl, hP4, ha4, hK4⟩
      have hDp : D ≠ p := fun z => by rw [z, hP.hd] at hDH; cases hDH
      refine ⟨_, rfl, rfl, _, rfl, ?_⟩
      have done : ∀ (acc' : List Bool) (a'' b'' : Int) (H5 : Hp), H5 D = some (.lst (acc'.map V.bl)) → acc'.length = m.toNat → Pen H5 p l ns a'' b'' → a'' ≤ a' + 1 → Kp p H H5 → ∃ v, [some (.ref p), some (.int m), some (.int d1), some (.bl tr), some (.ref D), none][4]? = some (some v) ∧ Q v H5 :=
        fun acc' a'' b'' H5 hA5 hl5 hP5 ha5 hK5 => ⟨_, rfl, q D acc' a'' b'' H5 hDH hA5 (by omega) (by omega) hP5 hK5⟩
      refine ite2 ?_ ?_ <;> intro h1
      · refine ⟨_, rfl, _, _, rfl, rfl, _, rfl, ?_⟩
        refine ite2 ?_ ?_ <;> intro h2
        · have h2' := of_decide_eq_true h2
          refine ⟨_, rfl, _, rfl, _, rfl, _, rfl, _, rfl, p, l, ns, a', b', _, rfl, hP4, by omega, by omega, by omega, fun d5 a5 b5 H5 d50 d51 ha5 hP5 hK5 => ?_⟩
          have hA5 := hK5 _ _ hDp hA
          refine ⟨D, _, _, d5.toNat, rfl, rfl, hA5, ?_, ?_⟩
          · unfold ixN
            rw [if_pos d50, if_pos (by rw [List.length_map]; omega)]
          · refine done (acc.set d5.toNat (!tr)) a5 b5 _ (by rw [upd_same, List.map_set]) (by rw [List.length_set]; omega) ⟨by rw [upd_ne (Ne.symm hDp)]; exact hP5.hd, by rw [upd_ne (fun z => by rw [← z, hP.hl] at hDH; cases hDH)]; exact hP5.hl, hP5.len, hP5.a0, hP5.b0⟩ (by omega) ((hK4.trans hK5).mut hDH)
        · exact done acc a' b' H4 hA (by omega) hP4 (by omega) hK4
      · refine iteF ?_
        exact done acc a' b' H4 hA (by omega) hP4 (by omega) hK4
end
end Ef
set_option Elab.async false
set_option linter.all false
set_option maxRecDepth 100000
set_option maxHeartbeats 4000000
namespace Ef
open PySem PySem.Spec PyProof.Rows L2
/-- a drawn set: the tuple of its two lists of truths -/
def Md (H : Hp) (r : Addr) (bs rs : List Bool) : Prop := ∃ rb rr, H r = some (.tup [.ref rb, .ref rr]) ∧ H rb = some (.lst (bs.map V.bl)) ∧ H rr = some (.lst (rs.map V.bl))
theorem Md.kp {H H' : Hp} {p r : Addr} {bs rs : List Bool} {d : List (Key × V)} (h : Md H r bs rs) (k : Kp p H H') (hp : H p = some (.dK d)) : Md H' r bs rs := by
  obtain ⟨rb, rr, h1, h2, h3⟩ := h
  exact ⟨rb, rr, k _ _ (ne_of h1 hp (by intro q; cases q)) h1, k _ _ (ne_of h2 hp (by intro q; cases q)) h2, k _ _ (ne_of h3 hp (by intro q; cases q)) h3⟩
theorem Md.same {H H' : Hp} {r : Addr} {bs rs : List Bool} (h : Md H r bs rs) (k : Same H H') : Md H' r bs rs := by
  obtain ⟨rb, rr, h1, h2, h3⟩ := h
  exact ⟨rb, rr, k _ _ h1, k _ _ h2, k _ _ h3⟩
/-- is n in the set -/
def mtruth (bs rs : List Bool) (n : Int) : Bool := if n < bs.length then bs.getD n.toNat false else rs.getD (n % rs.length).toNat false
theorem inV_bls (b : Bool) : ∀ bs : List Bool, inV (.bl b) (bs.map V.bl) = bs.contains b
  | [] => rfl
  | c :: bs => by
    show (eqV (.bl c) (.bl b) || inV (.bl b) (bs.map V.bl)) = _
    rw [inV_bls b bs, List.contains_cons]
    congr 1
    cases b <;> cases c <;> rfl
theorem flat_bls : ∀ bs : List Bool, (bs.map V.bl).all flatV = true
  | [] => rfl
  | c :: bs => by
    show (flatV (.bl c) && (bs.map V.bl).all flatV) = true
    rw [flat_bls bs]; rfl
theorem get_bls {bs : List Bool} {j : Nat} (h : j < bs.length) : (bs.map V.bl)[j]? = some (.bl (bs.getD j false)) := by
  rw [List.getElem?_map, List.getElem?_eq_getElem h, List.getD_eq_getElem?_getD, List.getElem?_eq_getElem h]
  rfl
section
variable {P : Program} {w : World} {K : PySem.W.Frag} {mg : Str → Option Value} {base : Heap}
/-! ### _law_model -/
def spModel (K : PySem.W.Frag) : Sp := fun vs H Q _ => ∃ (p l q : Addr) (ns : List Int) (a b most : Int) (ms : List Int), vs = [.ref p, .int most, .ref q] ∧ Pen H p l ns a b ∧ a ≤ 900000000 ∧ 0 ≤ most ∧ most ≤ 1000 ∧ SqL K H q (ms.map V.int) ∧ q ≠ p ∧
  1 ≤ ms.length ∧ ms.length ≤ 1000 ∧ (∀ m ∈ ms, 1 ≤ m ∧ m ≤ 1000) ∧
  ∀ (r rb rr : Addr) (bs rs : List Bool) (a' b' : Int) (H' : Hp), H r = none → H rb = none → H rr = none → H' r = some (.tup [.ref rb, .ref rr]) → H' rb = some (.lst (bs.map V.bl)) → H' rr = some (.lst (rs.map V.bl)) → (bs.length : Int) ≤ most → (rs.length : Int) ∈ ms → a' ≤ a + 3000 → Pen H' p l ns a' b' → Kp p H H' → Q (.ref r) H'
theorem scModel : FnScope ["pen", "most", "periods"] ["pen", "most", "periods"] (defScope sModel) := ⟨rfl, rfl, rfl, by decide +kernel, rfl, by decide +kernel, by decide +kernel⟩
theorem df_model (A : At K mg "_law_model" sModel) (Ddraw : Df P w K mg base 1 "_law_draw" ["pen", "many"] spDraw) (Dpick : Df P w K mg base 2 "_law_pick" ["pen", "some"] (spPick K))
    (Dtruths : Df P w K mg base 2 "_law_truths" ["pen", "many"] spTruths) : Df P w K mg base 3 "_law_model" ["pen", "most", "periods"] (spModel K) := by
  obtain ⟨f, fd, hm, F⟩ := A.ex
  refine ⟨f, fd, hm, F.kp, F.binds (fun _ _ _ _ _ _ us hl => match us, hl with | [_, _, _], _ => rfl), F.ok scModel (fun vs H Q E h => ?_) (fun cdv A outer s H vs Q E hr h => ?_)⟩
  · obtain ⟨p, l, q, ns, a, b, most, ms, rfl, _⟩ := h
    rfl
  · obtain ⟨p, l, q, ns, a, b, most, ms, rfl, hP, ha, hm0, hm1, hS, hqp, h1, h2, hms, k⟩ := h
    refine ⟨_, (pss_one (ps_ret (pe_tup (pa_cons (Dtruths.call (hr.mono (by decide)) (pa_cons (pv 0) (pa_cons (Ddraw.call (hr.mono (by decide)) (pa_cons (pv 0) (pa_cons (pe_op op_add (pv 1) pe_int) pa_nil))) pa_nil))) (pa_cons (Dtruths.call (hr.mono (by decide)) (pa_cons (pv 0) (pa_cons (Dpick.call (hr.mono (by decide)) (pa_cons (pv 0) (pa_cons (pv 2) pa_nil))) pa_nil))) pa_nil))))), ?_⟩
    refine ⟨_, rfl, _, rfl, _, rfl, _, _, rfl, rfl, p, l, ns, a, b, _, rfl, hP, by omega, by omega, by omega, fun d1 a1 b1 H1 d10 d11 ha1 hP1 hK1 => ?_⟩
    refine ⟨p, l, ns, a1, b1, _, rfl, hP1, by omega, d10, by omega, fun r1 bs a2 b2 H2 hr1 hA1 hl1 ha2 hP2 hK2 => ?_⟩
    have hK12 := hK1.trans hK2
    refine ⟨_, rfl, _, rfl, _, rfl, p, l, q, ns, a2, b2, _, rfl, hP2, by omega, hK12.sql hqp hS, hqp, by rw [List.length_map]; exact h1, by rw [List.length_map]; omega, fun j v a3 b3 H3 hj ha3 hP3 hK3 => ?_⟩
    rw [List.getElem?_map] at hj
    obtain ⟨m, hm, rfl⟩ := Option.map_eq_some_iff.mp hj
    have hmem := List.mem_of_getElem? hm
    obtain ⟨m0, m1⟩ := hms m hmem
    refine ⟨p, l, ns, a3, b3, _, rfl, hP3, by omega, by omega, by omega, fun r2 rs a4 b4 H4 hr2 hA2 hl2 ha4 hP4 hK4 => ?_⟩
    have n1 : r1 ≠ p := ne_of hA1 hP2.hd (by intro q; cases q)
    have hA1' := hK4 _ _ n1 (hK3 _ _ n1 hA1)
    refine ⟨by show 2 ≤ sizeLine; decide, fun t ht => ?_⟩
    have hK14 := hK12.trans (hK3.trans hK4)
    have n2 : r2 ≠ p := ne_of hA2 hP4.hd (by intro q; cases q)
    have nt : t ≠ p := fun z => by rw [z, hP4.hd] at ht; cases ht
    have hP5 : Pen (upd H4 t (.tup [.ref r1, .ref r2])) p l ns a4 b4 := hP4.kp (Kp.new _ ht) (upd_ne (ne_of_none hP4.hd ht))
    exact k t r1 r2 bs rs a4 b4 _ (hK14.free nt ht) (hK1.free n1 hr1) ((hK12.trans hK3).free n2 hr2) upd_same (by rw [upd_ne (ne_of_none hA1' ht)]; exact hA1') (by rw [upd_ne (ne_of_none hA2 ht)]; exact hA2) (by omega) (by rw [hl2]; exact hmem) (by omega) hP5 (hK14.trans (Kp.new _ ht))
/-! ### _law_truth -/
def spTruth : Sp := fun vs H Q _ => ∃ (r : Addr) (bs rs : List Bool) (n : Int), vs = [.ref r, .int n] ∧ Md H r bs rs ∧ 0 ≤ n ∧ 1 ≤ rs.length ∧ Q (.bl (mtruth bs rs n)) H
theorem scTruth : FnScope ["model", "n", "below", "rests"] ["model", "n"] (defScope sTruth) := ⟨rfl, rfl, rfl, by decide +kernel, rfl, by decide +kernel, by decide +kernel⟩
theorem df_truth (A : At K mg "_law_truth" sTruth) (T : TxtP mg) : Df P w K mg base 1 "_law_truth" ["model", "n"] spTruth := by
  obtain ⟨f, fd, hm, F⟩ := A.ex
  refine ⟨f, fd, hm, F.kp, F.binds (fun _ _ _ _ _ _ us hl => match us, hl with | [_, _], _ => rfl), F.ok scTruth (fun vs H Q E h => ?_) (fun cdv A outer s H vs Q E hr h => ?_)⟩
  · obtain ⟨r, bs, rs, n, rfl, _⟩ := h
    rfl
  · obtain ⟨r, bs, rs, n, rfl, ⟨rb, rr, h1, h2, h3⟩, n0, hrs, q⟩ := h
    refine ⟨_, (pss_cons (ps_asg (pv 0) (pg_tup (by rfl) (pgs_cons (pg_name (i := 2) scTruth.nd rfl (.inl rfl)) (pgs_cons (pg_name (i := 3) scTruth.nd rfl (.inl rfl)) pgs_nil))))
      (pss_one (ps_ret (pe_ifExp (pt_cmpR op_lt (pv 1) (pe_callB call_len_seq (by rfl) T.len PySem.boot_len (pa_cons (pv 2) pa_nil)) (nomark _)) (pe_ix ix_list (pv 2) (pv 1) (fun _ _ => rfl)) (pe_ix ix_list (pv 3) (pe_op op_mod (pe_callTy call_int1 (by rfl) T.int (by decide +kernel) (pa_cons (pv 1) pa_nil)) (pe_callB call_len_seq (by rfl) T.len PySem.boot_len (pa_cons (pv 3) pa_nil))) (fun _ _ => rfl)))))), ?_⟩
    refine ⟨_, rfl, r, _, rfl, .inl (.inl h1), rfl, _, _, rfl, _, _, rfl, rfl, ?_⟩
    refine ⟨_, rfl, _, rfl, rb, _, rfl, .inl (.inl (.inl h2)), _, _, rfl, rfl, _, rfl, ?_⟩
    unfold mtruth at q
    refine ite2 ?_ ?_ <;> intro hn
    · have hn' : n < bs.length := by have := of_decide_eq_true hn; rw [List.length_map] at this; exact this
      rw [if_pos hn'] at q
      exact ⟨_, rfl, _, rfl, rb, _, _, _, rfl, rfl, .inl (.inl h2), at_of (Int.toNat_of_nonneg n0).symm (get_bls (by omega)), q⟩
    · have hn' : ¬ n < bs.length := fun z => hn (decide_eq_true (by rw [List.length_map]; exact z))
      rw [if_neg hn'] at q
      have e0 := Int.emod_nonneg n (show (rs.length : Int) ≠ 0 by omega)
      have e1 := Int.emod_lt_of_pos n (show (0 : Int) < (rs.length : Int) by omega)
      refine ⟨_, rfl, _, rfl, .inl ⟨_, rfl, _, rfl, rr, _, rfl, .inl (.inl (.inl h3)), _, _, rfl, rfl, by rw [List.length_map]; omega, rr, _, _, _, rfl, rfl, .inl (.inl h3), ?_, q⟩⟩
      rw [List.length_map]
      exact at_of (Int.toNat_of_nonneg e0).symm (get_bls (by omega))
/-! ### _law_has_members -/
def spHas : Sp := fun vs H Q _ => ∃ (r : Addr) (bs rs : List Bool), vs = [.ref r] ∧ Md H r bs rs ∧ Q (.bl (bs.contains true || rs.contains true)) H
theorem scHas : FnScope ["model"] ["model"] (defScope sHas) := ⟨rfl, rfl, rfl, by decide +kernel, rfl, by decide +kernel, by decide +kernel⟩
theorem df_has (A : At K mg "_law_has_members" sHas) : Df P w K mg base 1 "_law_has_members" ["model"] spHas := by
  obtain ⟨f, fd, hm, F⟩ := A.ex
  refine ⟨f, fd, hm, F.kp, F.binds (fun _ _ _ _ _ _ us hl => match us, hl with | [_], _ => rfl), F.ok scHas (fun vs H Q E h => ?_) (fun cdv A outer s H vs Q E hr h => ?_)⟩
  · obtain ⟨r, bs, rs, rfl, _⟩ := h
    rfl
  · obtain ⟨r, bs, rs, rfl, ⟨rb, rr, h1, h2, h3⟩, q⟩ := h
    refine ⟨_, (pss_one (ps_ret (pe_or (pe_cmpR op_in_seq pe_bl (pe_ix ix_tup (pv 0) pe_int (fun _ _ => rfl)) (by rfl)) (pe_one (pe_cmpR op_in_seq pe_bl (pe_ix ix_tup (pv 0) pe_int (fun _ _ => rfl)) (by rfl)))))), ?_⟩
    refine ⟨_, rfl, r, _, _, _, rfl, rfl, .inl (.inl h1), rfl, rb, _, rfl, .inl (.inl (.inl h2)), rfl, flat_bls _, _, rfl, ?_⟩
    rw [inV_bls, if_neg Bool.false_ne_true]
    refine ite2 (fun hb => ?_) (fun hb => ?_)
    · rw [hb] at q
      exact q
    · rw [Bool.eq_false_iff.mpr hb, Bool.false_or] at q
      refine ⟨_, rfl, r, _, _, _, rfl, rfl, .inl (.inl h1), rfl, rr, _, rfl, .inl (.inl (.inl h3)), rfl, flat_bls _, ?_⟩
      rw [inV_bls, if_neg Bool.false_ne_true]
      exact q
end
end Ef
set_option Elab.async false
set_option linter.all false
set_option maxRecDepth 100000
set_option maxHeartbeats 2000000
/-! for i, x in enumerate(t), t a tuple -/
namespace Ef
open PySem PySem.Spec PyProof.Rows L2
def IteT (K : PySem.W.Frag) (a : Addr) : It :=
  ⟨fun i H => ∃ (xs : List V) (x : V), SqT K H a xs ∧ xs[i]? = some x, fun i H v H' => ∃ T x, v = .ref T ∧ H T = none ∧ H' = upd H T (.tup [.int (i : Nat), x]) ∧ ∀ xs, SqT K H a xs → xs[i]? = some x, fun i H => ∃ xs : List V, SqT K H a xs ∧ xs.length ≤ i⟩
/-- at vals end -/
theorem draws_end {prog : Program} {w : World} {A : Around} (hh : A.handled = none) (it t : Addr) (items : Array Value) (n : Nat) (hn : items.size ≤ n) :
    Draws prog w A it [it, t] n (fun _ _ => True) (fun i h => i = n ∧ h.IsTupleIter it t n ∧ h.IsTuple t items) where
  live := fun _ _ sta => let ⟨o, ho, _⟩ := sta.2.1; ⟨o, ho⟩
  frame := fun _ _ _ sta hk => ⟨sta.1, sta.2.1.at fun o e => hk it (by simp) o e, sta.2.2.at fun o e => hk t (by simp) o e⟩
  item := fun i s Q E hi sta hQ => absurd sta.1 (Nat.ne_of_lt hi)
  done := fun s Q E sta hE => wpAny_nextOf_tuple_end hh sta.2.1 sta.2.2 (by simp; omega) hE
theorem turn_enumT {P : Program} {w : World} {K : PySem.W.Frag} {elts : List Expr} {kk : Nat} {tpos : Pos} (a e it : Addr) :
    Turn P w K (.Tuple elts kk tpos) (IteT K a) [e, it] e (fun i h => (∃ was, IsEnum h e it (0 + ((i : Nat) : Int)) was) ∧ h.IsTupleIter it a i ∧ e ≠ it ∧ a ≠ it ∧ a ≠ e) where
  mem := by simp
  obj := fun i h sta b hb => by
    obtain ⟨⟨was, hEn⟩, ⟨o, ho, hc, hd⟩, _⟩ := sta
    have eOr : b = e ∨ b = it := by simpa using hb
    rcases eOr with z | z
    · rw [z]; exact ⟨_, hEn, fun v q => nomatch q⟩
    · rw [z]; exact ⟨o, ho, fun v q => by rw [hd] at q; cases q⟩
  keep := fun i h h' sta k => let ⟨⟨was, hEn⟩, hi, eNi⟩ := sta; ⟨⟨was, k e (by simp) _ hEn⟩, hi.at fun o q => k it (by simp) o q, eNi⟩
  item := by
    intro X hP hw hK hc i pins s σ H E I hFp sta hGo
    subst hP hw hK
    obtain ⟨⟨was, hEn⟩, hIt, eNi, aNi, aNe⟩ := sta
    obtain ⟨xs, x, hSq, hx⟩ := hGo
    obtain ⟨vals, rVs, p, zLen⟩ := I.tuple hSq
    obtain ⟨u, hu, ru⟩ := rVs.get hx
    have eIn : e < s.heap.objs.size := Heap.lt_size hEn
    have iIn : it < s.heap.objs.size := by obtain ⟨_, q, _⟩ := hIt; exact Heap.lt_size q
    have hlt : i < vals.toArray.size := by
      rcases Nat.lt_or_ge i vals.length with q | q
      · simpa using q
      · rw [List.getElem?_eq_none q] at hu; cases hu
    refine wpAny_pyNext_enum_itemC (Draws.tuple (A := X.A.in1) (I.ok.hd hc) it a aNi vals.toArray) hEn ⟨hIt, p⟩ hlt eNi (by simp [eNi, Ne.symm aNe]) fun y h' tk hy ho hit' hT zNew hk => ?_
    refine ⟨_, rfl, wpAny_letOwnedTupleGo_enum (s := { s with heap := h', toks := tk + 1 }) ho fun h'' he' sBut => ?_⟩
    have hT2 : h''.get? s.heap.objs.size = some { cls := .type "tuple", data := .seq #[.int (0 + ((i : Nat) : Int)) tk, y] } := (sBut.2 _ (Nat.ne_of_gt eIn)).trans hT
    have ey : y = u := by
      have z : vals[i]? = some y := by simpa using hy
      exact Option.some.inj (z.symm.trans hu)
    have e0 : (0 + ((i : Nat) : Int)) = (i : Int) := Int.zero_add _
    rw [e0] at hT2
    have fresh1 : ObjOk X.prog X.w (upd H s.heap.objs.size (.tup [.int (i : Nat), x])) h'' s.heap.objs.size (.tup [.int (i : Nat), x]) :=
      ⟨by show 2 ≤ sizeLine; decide, [.int i tk, y], .cons ⟨_, rfl⟩ (.cons (ey ▸ ru) .nil), ⟨_, hT2, rfl, _, rfl⟩⟩
    have J1 : Inv X pins σ (upd H s.heap.objs.size (.tup [.int (i : Nat), x])) { s with heap := h'', toks := tk + 1 } :=
      I.turnedNew (ch := [e, it]) (fun b ob hb q => (sBut.2 b (fun z => hb (by simp [z]))).trans (hk b ob (fun z => hb (by simp [z])) (fun z => hb (by simp [z])) q)) hFp (Nat.le_refl _) fresh1
    refine ⟨.ref s.heap.objs.size, _, J1, rfl, ⟨_, x, rfl, I.hok.fresh (Nat.le_refl _), rfl, fun ys hy => by rw [I.tuple_inj hy hSq]; exact hx⟩, ⟨⟨y, ?_⟩, hit'.1.at fun o q => (sBut.2 it (Ne.symm eNi)).trans q, eNi, aNi, aNe⟩, fun b hb => ?_⟩
    · have e1 : (0 + ((i + 1 : Nat) : Int)) = 0 + (i : Int) + 1 := by omega
      rw [e1]; exact he'
    · have bIn : b < s.heap.objs.size := by
        have eOr : b = e ∨ b = it := by simpa using hb
        rcases eOr with z | z
        · rw [z]; exact eIn
        · rw [z]; exact iIn
      rw [upd_ne (Nat.ne_of_lt bIn)]
      exact (hFp b hb).1
  done := by
    intro X hP hw hK hc i pins s σ H E I hFp sta hGo
    subst hP hw hK
    obtain ⟨⟨was, hEn⟩, hIt, eNi, aNi, aNe⟩ := sta
    obtain ⟨xs, hSq, hx⟩ := hGo
    obtain ⟨vals, rVs, p, zLen⟩ := I.tuple hSq
    obtain ⟨g0, g1, g2, g3, g4, g5⟩ := hFp it (by simp)
    have hl := rVs.length
    exact wpAny_pyNext_enum_endD (draws_end (A := X.A.in1) (I.ok.hd hc) it a vals.toArray i (by simp; omega)) hEn ⟨rfl, hIt, p⟩ fun h' eb => ⟨rfl, I.turned (t' := s.toks) (fun b o hb q => eb b o hb q) g0 g1 g3 g4 g5⟩
  self := fun A i s Q E sta h => let ⟨⟨_, hEn⟩, _⟩ := sta; wpAny_pyIter_enum hEn h
def iEnumT (K : PySem.W.Frag) (ta : TA) : TI := fun σ H R => ta σ H fun vs H1 => ∃ a xs, vs = [.ref a] ∧ SqT K H1 a xs ∧ R (IteT K a) H1
/-- a list or a tuple -/
def iEnumS (K : PySem.W.Frag) (ta : TA) : TI := fun σ H R => ta σ H fun vs H1 => ∃ a xs, vs = [.ref a] ∧ ((SqL K H1 a xs ∧ R (Ite K a) H1) ∨ (SqT K H1 a xs ∧ R (IteT K a) H1))
/-- enumerate(t): vals two fresh1 cells -/
theorem call_enumerate_tuple {prog : Program} {w : World} {A : Around} {E : Value → Shared → Prop} {s : Shared} {l : Addr} {items : Array Value} {Q : Value → Shared → Prop} (hL : s.heap.IsTuple l items)
    (h : ∀ h', IsEnum h' (s.heap.objs.size + 1) s.heap.objs.size (0 + ((0 : Nat) : Int)) .none → h'.IsTupleIter s.heap.objs.size l 0 → h'.objs.size = s.heap.objs.size + 2 →
      (∀ b o, s.heap.get? b = some o → h'.get? b = some o) → Q (.ref (s.heap.objs.size + 1)) { s with heap := h' }) :
    wpAny (model prog w) A (call (.type "enumerate") [.ref l]) Q E s := by
  have B := begins_tuple l items
  have M : Meets (Builtin.«enumerate.__new__» ⟨[.type "enumerate", .ref l], []⟩) (fun _ R s => s.heap.IsTuple l items ∧
      R (.ok (.ret (.ref (s.heap.push { cls := .type "tuple_iterator", data := .fields #[.ref l, .int 0 0] }).objs.size)))
        { s with heap := (s.heap.push { cls := .type "tuple_iterator", data := .fields #[.ref l, .int 0 0] }).push { cls := .type "enumerate", data := .fields #[.none, .bool false, .ref s.heap.objs.size, rawInt 0, .none, .none] } }) :=
    .of_wp fun prog w A R s h => by
      obtain ⟨heap0, g, d, tk, os⟩ := s
      obtain ⟨h1, h⟩ := h
      have subE := sub_enumerate
      have q1 : ∀ {A' : Around} {E : Value → Shared → Prop} {Q : Value → Shared → Prop}, Q (.ref heap0.objs.size) ⟨heap0.push { cls := .type "tuple_iterator", data := .fields #[.ref l, .int 0 0] }, g, d, tk, os⟩ → wpAny (model prog w) A' (pyIter (.ref l)) Q E ⟨heap0, g, d, tk, os⟩ :=
        fun q => B.iter prog w _ _ ⟨heap0, g, d, tk, os⟩ _ h1 q
      obtain ⟨oT, hoT, hcT, nT, hdT⟩ := id h1
      wp_walk using q1, AutoSeq1.wpAny_loadPart' hoT
      refine wpAny_stack_any fun sta => wpAny_pure ?_
      split
      · rename_i c _ _ _ _ _
        cases (c == Value.type "enumerate")
        · wp_walk using q1, AutoSeq1.wpAny_loadPart' hoT
          exact ⟨_, rfl, h⟩
        · wp_walk using q1, AutoSeq1.wpAny_loadPart' hoT
          exact ⟨_, rfl, h⟩
      · wp_walk using q1, AutoSeq1.wpAny_loadPart' hoT
        exact ⟨_, rfl, h⟩
  refine callType_new F.called_enumerate (by decide) (F.typeCall_enumerate_1 _) (F.newCall_enumerate_1 _) (fun obj => F.args_object_init_2 obj _) F.entry_enumerate_new M ⟨hL, ?_⟩
  have zLen : (s.heap.push { cls := .type "tuple_iterator", data := .fields #[.ref l, .int 0 0] }).objs.size = s.heap.objs.size + 1 := Heap.size_push ..
  show _ ∧ _
  rw [zLen]
  have hEn : IsEnum ((s.heap.push { cls := .type "tuple_iterator", data := .fields #[.ref l, .int 0 0] }).push
      { cls := .type "enumerate", data := .fields #[.none, .bool false, .ref s.heap.objs.size, rawInt 0, .none, .none] }) (s.heap.objs.size + 1) s.heap.objs.size 0 .none := by
    have := Heap.get?_push_size (s.heap.push { cls := .type "tuple_iterator", data := .fields #[.ref l, .int 0 0] })
      (o := { cls := .type "enumerate", data := .fields #[.none, .bool false, .ref s.heap.objs.size, rawInt 0, .none, .none] }) rfl
    rw [zLen] at this; exact this
  refine ⟨⟨_, hEn, rfl⟩, h _ hEn ⟨_, Heap.get?_push_of_some _ (Heap.get?_push_size _ rfl), rfl, rfl⟩ (by rw [Heap.size_push, zLen]) fun b o x => Heap.get?_push_of_some _ (Heap.get?_push_of_some _ x)⟩
theorem pi_enumS {X : Cx} {e : Expr} {ta : TA} {p pos tpos : Pos} {elts : List Expr} {kk : Nat} (hGo : Gl X "enumerate") (hm : X.mg "enumerate" = none) (ha : PA X [e] ta) (hs : starEach [e] X.env = [(false, eval e X.env)] := by rfl) :
    PI X (.Tuple elts kk tpos) (.Call (.Name "enumerate" p) [e] [] pos) (iEnumS X.K ta) := by
  refine ⟨fun pins s σ H R I h => ?_⟩
  refine Call_ (ld_blt I hGo hm boot_enumerate (PyProof.Rows.callWith_type1 (thn (ha.run pos pins s σ H _ I h) fun us s1 ⟨vs, H1, J1, r1, q1⟩ => ?_) hs rfl))
  obtain ⟨a, xs, ex, q⟩ := q1
  subst ex
  cases r1 with
  | cons r rr =>
    cases rr
    cases r
    have far : ∀ b, b ∈ [s1.heap.objs.size + 1, s1.heap.objs.size] → s1.heap.objs.size ≤ b := fun b hb => by
      have eOr : b = s1.heap.objs.size + 1 ∨ b = s1.heap.objs.size := by simpa using hb
      rcases eOr with z | z
      · rw [z]; exact Nat.le_add_right _ _
      · rw [z]; exact Nat.le_refl _
    rcases q with ⟨hSq, q⟩ | ⟨hSq, q⟩
    · obtain ⟨vals, rVs, pSeq, zLen⟩ := J1.list hSq
      refine call_enumerate_list pSeq.isList fun h' hEn hIt zNew hk => wpAny_pyIter_enum hEn ?_
      have J2 : Inv X pins σ H1 { s1 with heap := h' } := J1.kept (t' := s1.toks) hk
      exact ⟨s1.heap.objs.size + 1, [s1.heap.objs.size + 1, s1.heap.objs.size], _, _, H1, rfl, J2, turn_enum a (s1.heap.objs.size + 1) s1.heap.objs.size, ⟨⟨.none, hEn⟩, hIt, Nat.succ_ne_self _⟩, fun b hb => J1.fpOk (far b hb) (J1.hok.fresh (far b hb)), q⟩
    · obtain ⟨vals, rVs, pSeq, zLen⟩ := J1.tuple hSq
      have hal : a < s1.heap.objs.size := by obtain ⟨o, ho, _⟩ := (show s1.heap.IsTuple a vals.toArray from pSeq); exact Heap.lt_size ho
      refine call_enumerate_tuple (show s1.heap.IsTuple a vals.toArray from pSeq) fun h' hEn hIt zNew hk => wpAny_pyIter_enum hEn ?_
      have J2 : Inv X pins σ H1 { s1 with heap := h' } := J1.kept (t' := s1.toks) hk
      exact ⟨s1.heap.objs.size + 1, [s1.heap.objs.size + 1, s1.heap.objs.size], _, _, H1, rfl, J2, turn_enumT a (s1.heap.objs.size + 1) s1.heap.objs.size, ⟨⟨.none, hEn⟩, hIt, Nat.succ_ne_self _, Nat.ne_of_lt hal, Nat.ne_of_lt (Nat.lt_succ_of_lt hal)⟩, fun b hb => J1.fpOk (far b hb) (J1.hok.fresh (far b hb)), q⟩
end Ef
set_option Elab.async false
set_option linter.all false
set_option maxRecDepth 100000
set_option maxHeartbeats 4000000
namespace Ef
open PySem PySem.Spec PyProof.Rows L2
abbrev sIsInt : Stmt := top 15
abbrev sFrom : Stmt := top 16
abbrev sCheck : Stmt := top 21
abbrev sLper : Stmt := top 3
abbrev sRound : Stmt := top 4
abbrev sPrimes : Stmt := top 5
abbrev sLstart : Stmt := top 22
structure TxtW (mg : Str → Option Value) : Prop extends TxtP mg where
  isinstance : mg "isinstance" = none
  bool : mg "bool" = none
  enumerate : mg "enumerate" = none
  reversed : mg "reversed" = none
  range : mg "range" = none
  tuple : mg "tuple" = none
/-- no int: a value of another built-in kind, or a truth -/
def NotInt (K : PySem.W.Frag) (H : Hp) (v : V) : Prop := ∃ (n : String) (b1 b2 : Bool), TyX K H v (.type n) ∧ kitB n "int" = some b1 ∧ kitB n "bool" = some b2 ∧ (b1 && !b2) = false
section
variable {P : Program} {w : World} {K : PySem.W.Frag} {mg : Str → Option Value} {base : Heap}
def spIsInt (K : PySem.W.Frag) : Sp := fun vs H Q _ => ∃ (v : V) (n : String) (b1 b2 : Bool), vs = [v] ∧ TyX K H v (.type n) ∧ kitB n "int" = some b1 ∧ kitB n "bool" = some b2 ∧ Q (.bl (b1 && !b2)) H
theorem scIsInt : FnScope ["value"] ["value"] (defScope sIsInt) := ⟨rfl, rfl, rfl, by decide +kernel, rfl, by decide +kernel, by decide +kernel⟩
theorem df_isint (A : At K mg "is_int" sIsInt) (T : TxtW mg) : Df P w K mg base 1 "is_int" ["value"] (spIsInt K) := by
  obtain ⟨f, fd, hm, F⟩ := A.ex
  refine ⟨f, fd, hm, F.kp, F.binds (fun _ _ _ _ _ _ us hl => match us, hl with | [_], _ => rfl), F.ok scIsInt (fun vs H Q E h => ?_) (fun cdv A outer s H vs Q E hr h => ?_)⟩
  · obtain ⟨v, n, b1, b2, rfl, _⟩ := h
    rfl
  · obtain ⟨v, n, b1, b2, rfl, ht, h1, h2, q⟩ := h
    refine ⟨_, (pss_one (ps_ret (pe_and (pe_callB call_isi (by rfl) T.isinstance (by decide +kernel) (pa_cons (pv 0) (pa_cons (pe_bltn (v := .ty "int") (by rfl) T.int (by decide +kernel) rfl) pa_nil))) (pe_one (pe_not (pe_callB call_isi (by rfl) T.isinstance (by decide +kernel) (pa_cons (pv 0) (pa_cons (pe_bltn (v := .ty "bool") (by rfl) T.bool (by decide +kernel) rfl) pa_nil)))))))), ?_⟩
    refine ⟨v, rfl, _, _, _, _, _, rfl, .ty "int", ht, kit_ty h1, b1, rfl, ?_⟩
    cases b1 with
    | true =>
      refine iteT ⟨v, rfl, _, _, _, _, _, rfl, .ty "bool", ht, kit_ty h2, b2, rfl, ?_⟩
      exact q
    | false => exact iteF q
def spFrom (K : PySem.W.Frag) : Sp := fun vs H Q _ => ∃ (v : V) (low : Int), vs = [v, .int low] ∧ ((∃ i, v = .int i ∧ Q (.bl (decide (low ≤ i))) H) ∨ (NotInt K H v ∧ Q (.bl false) H))
theorem scFrom : FnScope ["value", "low"] ["value", "low"] (defScope sFrom) := ⟨rfl, rfl, rfl, by decide +kernel, rfl, by decide +kernel, by decide +kernel⟩
theorem df_from (A : At K mg "is_int_from" sFrom) (Disint : Df P w K mg base 1 "is_int" ["value"] (spIsInt K)) : Df P w K mg base 2 "is_int_from" ["value", "low"] (spFrom K) := by
  obtain ⟨f, fd, hm, F⟩ := A.ex
  refine ⟨f, fd, hm, F.kp, F.binds (fun _ _ _ _ _ _ us hl => match us, hl with | [_, _], _ => rfl), F.ok scFrom (fun vs H Q E h => ?_) (fun cdv A outer s H vs Q E hr h => ?_)⟩
  · obtain ⟨v, low, rfl, _⟩ := h
    rfl
  · obtain ⟨v, low, rfl, h⟩ := h
    refine ⟨_, (pss_one (ps_ret (pe_and (Disint.call (hr.mono (by decide)) (pa_cons (pv 0) pa_nil)) (pe_one (pe_cmpR op_ge (pv 0) (pv 1) (nomark _)))))), ?_⟩
    rcases h with ⟨i, rfl, q⟩ | ⟨⟨n, b1, b2, ht, h1, h2, hb⟩, q⟩
    · refine ⟨_, rfl, _, "int", true, false, rfl, .base (.int i), by decide +kernel, by decide +kernel, _, rfl, ?_⟩
      exact iteT ⟨_, rfl, _, rfl, _, _, rfl, rfl, q⟩
    · refine ⟨_, rfl, _, n, b1, b2, rfl, ht, h1, h2, _, rfl, ?_⟩
      rw [hb]
      exact iteF q
/-! ### _check_truths -/
/-- a list or a tuple of truths -/
def Bls (K : PySem.W.Frag) (H : Hp) (a : Addr) (bs : List Bool) : Prop := SqL K H a (bs.map V.bl) ∨ SqT K H a (bs.map V.bl)
theorem Same.tup {H H' : Hp} {a : Addr} {xs : List V} (e : Same H H') (h : SqT K H a xs) : SqT K H' a xs := by
  rcases h with (h | ⟨o, h⟩) | h
  · exact .inl (.inl (e _ _ h))
  · exact .inl (.inr ⟨o, e _ _ h⟩)
  · exact .inr h
theorem Bls.same {H H' : Hp} {a : Addr} {bs : List Bool} (h : Bls K H a bs) (e : Same H H') : Bls K H' a bs := h.elim (fun h => .inl (e.seq h)) fun h => .inr (Same.tup e h)
def spCheck (K : PySem.W.Frag) : Sp := fun vs H Q _ => ∃ (a : Addr) (bs : List Bool), vs = [.ref a] ∧ Bls K H a bs ∧ ∀ H', Same H H' → Q .non H'
theorem scCheck : FnScope ["truths", "wrong", "index", "truth"] ["truths"] (defScope sCheck) := ⟨rfl, rfl, rfl, by decide +kernel, rfl, by decide +kernel, by decide +kernel⟩
theorem walk_enumT {a : Addr} {xs : List V} : Walk (IteT K a) xs.length (fun H => SqT K H a xs) (YPair (fun i => some (.int (i : Nat))) (fun i => xs[i]?)) := by
  refine ⟨fun i _ hi q => ⟨xs, xs[i], q, by simp [hi]⟩, fun _ q => ⟨xs, q, Nat.le_refl _⟩, fun i H v H' _ q y => ?_⟩
  obtain ⟨T, x, h1, h2, h3, h4⟩ := y
  exact ⟨T, .int (i : Nat), x, h1, h2, h3, rfl, h4 xs q⟩
theorem same_mut' {H0 H : Hp} {p : Addr} {o : HO} (h : Same H0 H) (hp : H0 p = none) : Same H0 (upd H p o) := fun b x e => by rw [upd_ne (ne_of_none e hp)]; exact h b x e
theorem df_check (A : At K mg "_check_truths" sCheck) (T : TxtW mg) : Df P w K mg base 1 "_check_truths" ["truths"] (spCheck K) := by
  obtain ⟨f, fd, hm, F⟩ := A.ex
  refine ⟨f, fd, hm, F.kp, F.binds (fun _ _ _ _ _ _ us hl => match us, hl with | [_], _ => rfl), F.ok scCheck (fun vs H Q E h => ?_) (fun cdv A outer s H vs Q E hr h => ?_)⟩
  · obtain ⟨a, bs, rfl, _⟩ := h
    rfl
  · obtain ⟨a, bs, rfl, hB, q⟩ := h
    refine ⟨_, (pss_cons (ps_setLc (i := 1) (own := [("index", 2), ("truth", 3)]) (g := gTup K 2 (gCons (gName 2) (gCons (gName 3) gNil))) (by rfl) scCheck.nd rfl rfl (sw_true rfl rfl rfl (by decide +kernel)) (pi_enumS (by rfl) T.enumerate (pa_cons (pv 0) pa_nil)) (blkOk_by (own := [("index", 2), ("truth", 3)]) (N := ["truths", "wrong", "index", "truth"]) (sc := defScope sCheck) (by decide +kernel)) (fun _ _ _ _ _ => pg_tup (by rfl) (pgs_cons (pg_name (i := 2) scCheck.nd rfl (Or.inl rfl)) (pgs_cons (pg_name (i := 3) scCheck.nd rfl (Or.inl rfl)) pgs_nil))) (fun _ _ _ _ _ => (pts_one (pw_and (pt_cmpR op_notBl (pv 3) pe_bl (nomark _)) (pw_and1 (pt_cmpR op_notBl (pv 3) pe_bl (nomark _)))).pt)) (fun _ _ _ _ _ => (pv 2)))
      (pss_one (ps_if (pt_cmpR op_gt (pe_callB call_len_seq (by rfl) T.len PySem.boot_len (pa_cons (pv 1) pa_nil)) pe_int (nomark _)) (pss_one ps_never) pss_nil))), ?_⟩
    refine ⟨_, rfl, a, bs.map V.bl, rfl, ?_⟩
    have ey0 : ∀ {z : V} {i : Nat}, i < (bs.map V.bl).length → (bs.map V.bl)[i]? = some z → ∃ b, z = .bl b := fun hi e => by
      rw [get_bls (by rw [List.length_map] at hi; exact hi)] at e
      exact ⟨_, (Option.some.inj e).symm⟩
    rcases hB with hB | hB
    · refine .inl ⟨hB, fun D hD => lc_it walk_enum (fun i H' => Same H H' ∧ H' D = some (.lst [])) ⟨same_mut' (Same.refl H) hD, upd_same⟩ (fun i H' _ h => h.1.seq hB) ?_ ?_⟩
      · rintro i x H1 H2 hi ⟨s1, hx⟩ ⟨T, y, z, rfl, nT, rfl, ey, ez⟩
        obtain ⟨b, rfl⟩ := ey0 hi ez
        have sT : Same H (upd H1 T (.tup [y, .bl b])) := s1.trans fun c o e => by rw [upd_ne (ne_of_none e nT)]; exact e
        have hT : (upd H1 T (.tup [y, .bl b])) D = some (.lst []) := by rw [upd_ne (ne_of_none hx nT)]; exact hx
        refine ⟨T, _, rfl, .inl (.inl upd_same), rfl, _, _, rfl, _, _, rfl, rfl, rfl, _, rfl, _, _, rfl, rfl, _, rfl, ?_⟩
        cases b with
        | true => exact ⟨sT, hT⟩
        | false => exact iteT ⟨_, rfl, _, _, rfl, rfl, _, rfl, sT, hT⟩
      · rintro H1 ⟨s1, hx⟩
        exact ⟨_, rfl, D, [], rfl, .inl (.inl (.inl hx)), _, _, rfl, rfl, _, rfl, iteF (q _ s1)⟩
    · refine .inr ⟨hB, fun D hD => lc_it walk_enumT (fun i H' => Same H H' ∧ H' D = some (.lst [])) ⟨same_mut' (Same.refl H) hD, upd_same⟩ (fun i H' _ h => Same.tup h.1 hB) ?_ ?_⟩
      · rintro i x H1 H2 hi ⟨s1, hx⟩ ⟨T, y, z, rfl, nT, rfl, ey, ez⟩
        obtain ⟨b, rfl⟩ := ey0 hi ez
        have sT : Same H (upd H1 T (.tup [y, .bl b])) := s1.trans fun c o e => by rw [upd_ne (ne_of_none e nT)]; exact e
        have hT : (upd H1 T (.tup [y, .bl b])) D = some (.lst []) := by rw [upd_ne (ne_of_none hx nT)]; exact hx
        refine ⟨T, _, rfl, .inl (.inl upd_same), rfl, _, _, rfl, _, _, rfl, rfl, rfl, _, rfl, _, _, rfl, rfl, _, rfl, ?_⟩
        cases b with
        | true => exact ⟨sT, hT⟩
        | false => exact iteT ⟨_, rfl, _, _, rfl, rfl, _, rfl, sT, hT⟩
      · rintro H1 ⟨s1, hx⟩
        exact ⟨_, rfl, D, [], rfl, .inl (.inl (.inl hx)), _, _, rfl, rfl, _, rfl, iteF (q _ s1)⟩
end
end Ef
set_option Elab.async false
namespace Ef
/-! ### whole numbers -/
/-- ps: divisors of n from 2 on, one for each divisor of n from 2 on -/
def PrimesOk (n : Nat) (ps : List Nat) : Prop := (∀ p ∈ ps, 2 ≤ p ∧ p ∣ n) ∧ ∀ q, 2 ≤ q → q ∣ n → ∃ p ∈ ps, p ∣ q
/-- what the search for primes keeps -/
structure Seek (n left prime : Nat) (ps : List Nat) : Prop where
  l0 : 1 ≤ left
  p2 : 2 ≤ prime
  dvd : left ∣ n
  good : ∀ p ∈ ps, 2 ≤ p ∧ p ∣ n
  small : ∀ d, 2 ≤ d → d < prime → ¬ d ∣ left
  rest : ∀ q, 2 ≤ q → q ∣ n → (∃ p ∈ ps, p ∣ q) ∨ q ∣ left
theorem Seek.start {n : Nat} (h : 1 ≤ n) : Seek n n 2 [] :=
  ⟨h, Nat.le_refl 2, Nat.dvd_refl n, fun p hp => (by cases hp), fun d h2 h3 => absurd h2 (by omega), fun q _ hq => .inr hq⟩
/-- prime does not divide left -/
theorem Seek.skip {n left prime : Nat} {ps : List Nat} (h : Seek n left prime ps) (hd : ¬ prime ∣ left) : Seek n left (prime + 1) ps :=
  ⟨h.l0, by have := h.p2; omega, h.dvd, h.good, fun d h2 h3 => by
    rcases Nat.lt_or_ge d prime with z | z
    · exact h.small d h2 z
    · have : d = prime := by omega
      rw [this]; exact hd, h.rest⟩
/-- the inner loop: left' is left without some factors prime -/
structure Strip (left prime left' : Nat) : Prop where
  l0 : 1 ≤ left'
  dvd : left' ∣ left
  rest : ∀ q, ¬ prime ∣ q → q ∣ left → q ∣ left'
theorem Strip.start {left prime : Nat} (h : 1 ≤ left) : Strip left prime left := ⟨h, Nat.dvd_refl _, fun _ _ h => h⟩
/-- prime has no divisor but 1 and itself -/
def Pr (p : Nat) : Prop := 2 ≤ p ∧ ∀ d, d ∣ p → d = 1 ∨ d = p
theorem Seek.prime {n left prime : Nat} {ps : List Nat} (h : Seek n left prime ps) (hd : prime ∣ left) : Pr prime := by
  refine ⟨h.p2, fun d hdp => ?_⟩
  have hp := h.p2
  have h0 : d ≠ 0 := fun z => by
    rw [z] at hdp
    have := Nat.eq_zero_of_zero_dvd hdp
    omega
  have hle := Nat.le_of_dvd (by omega) hdp
  rcases Nat.lt_or_ge d prime with z | z
  · rcases Nat.lt_or_ge d 2 with y | y
    · left; omega
    · exact absurd (Nat.dvd_trans hdp hd) (h.small d y z)
  · right; omega
theorem Pr.coprime {p q : Nat} (h : Pr p) (hq : ¬ p ∣ q) : Nat.Coprime q p := by
  have g := h.2 (Nat.gcd q p) (Nat.gcd_dvd_right q p)
  rcases g with g | g
  · exact g
  · exact absurd (by rw [← g]; exact Nat.gcd_dvd_left q p) hq
theorem Strip.step {left prime left' : Nat} (h : Strip left prime left') (hp : Pr prime) (hd : prime ∣ left') : Strip left prime (left' / prime) := by
  obtain ⟨c, hc⟩ := hd
  have hp0 : 0 < prime := by have := hp.1; omega
  have e : left' / prime = c := by rw [hc]; exact Nat.mul_div_cancel_left c hp0
  rw [e]
  have l0 := h.l0
  refine ⟨?_, ?_, fun q hq hql => ?_⟩
  · rcases Nat.eq_zero_or_pos c with z | z
    · rw [z, Nat.mul_zero] at hc; omega
    · exact z
  · exact Nat.dvd_trans ⟨prime, by rw [hc, Nat.mul_comm]⟩ h.dvd
  · have z := h.rest q hq hql
    rw [hc] at z
    exact Nat.Coprime.dvd_of_dvd_mul_left (hp.coprime hq) z
theorem Seek.take {n left prime left' : Nat} {ps : List Nat} (h : Seek n left prime ps) (hd : prime ∣ left) (s : Strip left prime left') (hn : ¬ prime ∣ left') : Seek n left' (prime + 1) (ps ++ [prime]) := by
  refine ⟨s.l0, by have := h.p2; omega, Nat.dvd_trans s.dvd h.dvd, fun p hp => ?_, fun d h2 h3 hdl => ?_, fun q h2 hq => ?_⟩
  · rcases List.mem_append.mp hp with z | z
    · exact h.good p z
    · rw [List.mem_singleton.mp z]; exact ⟨h.p2, Nat.dvd_trans hd h.dvd⟩
  · rcases Nat.lt_or_ge d prime with z | z
    · exact h.small d h2 z (Nat.dvd_trans hdl s.dvd)
    · have : d = prime := by omega
      rw [this] at hdl; exact hn hdl
  · rcases h.rest q h2 hq with ⟨p, hp, hpq⟩ | z
    · exact .inl ⟨p, List.mem_append_left _ hp, hpq⟩
    · by_cases hpq : prime ∣ q
      · exact .inl ⟨prime, List.mem_append_right _ (List.mem_singleton.mpr rfl), hpq⟩
      · exact .inr (s.rest q hpq z)
/-- the end of the search -/
theorem Seek.fin {n left prime : Nat} {ps : List Nat} (h : Seek n left prime ps) (hb : left < prime * prime) : PrimesOk n (if 1 < left then ps ++ [left] else ps) := by
  by_cases hl : 1 < left
  · rw [if_pos hl]
    refine ⟨fun p hp => ?_, fun q h2 hq => ?_⟩
    · rcases List.mem_append.mp hp with z | z
      · exact h.good p z
      · rw [List.mem_singleton.mp z]; exact ⟨hl, h.dvd⟩
    · rcases h.rest q h2 hq with ⟨p, hp, hpq⟩ | z
      · exact ⟨p, List.mem_append_left _ hp, hpq⟩
      · refine ⟨left, List.mem_append_right _ (List.mem_singleton.mpr rfl), ?_⟩
        obtain ⟨c, hc⟩ := z
        have hqp : prime ≤ q := by
          rcases Nat.lt_or_ge q prime with y | y
          · exact absurd ⟨c, hc⟩ (h.small q h2 y)
          · exact y
        rcases Nat.lt_or_ge c 2 with y | y
        · have hc1 : c = 1 := by
            rcases Nat.eq_zero_or_pos c with x | x
            · rw [x, Nat.mul_zero] at hc; omega
            · omega
          rw [hc, hc1, Nat.mul_one]
          exact Nat.dvd_refl q
        · have hcp : prime ≤ c := by
            rcases Nat.lt_or_ge c prime with x | x
            · exact absurd ⟨q, by rw [hc, Nat.mul_comm]⟩ (h.small c y x)
            · exact x
          have := Nat.mul_le_mul hqp hcp
          omega
  · rw [if_neg hl]
    have e : left = 1 := by have := h.l0; omega
    refine ⟨h.good, fun q h2 hq => ?_⟩
    rcases h.rest q h2 hq with z | z
    · exact z
    · rw [e] at z
      have := Nat.le_of_dvd (by omega) z
      omega
/-! ### periods -/
/-- d is a period of the row f -/
def PerF (f : Nat → Bool) (d : Nat) : Prop := ∀ i, f (i + d) = f i
theorem PerF.zero (f : Nat → Bool) : PerF f 0 := fun _ => rfl
theorem PerF.mul {f : Nat → Bool} {d : Nat} (h : PerF f d) : ∀ k, PerF f (d * k)
  | 0 => fun i => rfl
  | k + 1 => fun i => by
    rw [Nat.mul_succ, ← Nat.add_assoc, h, PerF.mul h k]
theorem PerF.of_dvd {f : Nat → Bool} {d e : Nat} (h : PerF f d) (hd : d ∣ e) : PerF f e := by
  obtain ⟨k, rfl⟩ := hd
  exact h.mul k
theorem PerF.mod {f : Nat → Bool} {a b : Nat} (ha : PerF f a) (hb : PerF f b) : PerF f (a % b) := fun i => by
  have e : i + a = i + a % b + b * (a / b) := by
    have := Nat.mod_add_div a b
    omega
  rw [← (hb.mul (a / b)) (i + a % b), ← e, ha]
theorem PerF.gcd {f : Nat → Bool} : ∀ (a b : Nat), PerF f a → PerF f b → PerF f (Nat.gcd a b) := by
  intro a
  induction a using Nat.strongRecOn with
  | ind a ih =>
    intro b ha hb
    rcases Nat.eq_zero_or_pos a with z | z
    · rw [z, Nat.gcd_zero_left]; exact hb
    · rw [Nat.gcd_rec]
      exact ih (b % a) (Nat.mod_lt b z) a (hb.mod ha) ha
/-- the search has found the least period -/
theorem least_of {f : Nat → Bool} {L m : Nat} {ps : List Nat} (hp : PrimesOk L ps) (hL : 1 ≤ L) (hm : m ∣ L) (hf : PerF f m) (hn : ∀ p ∈ ps, p ∣ m → ¬ PerF f (m / p)) : ∀ d, PerF f d → m ∣ d := by
  intro d hd
  have hm0 : 1 ≤ m := by
    rcases Nat.eq_zero_or_pos m with z | z
    · rw [z] at hm
      have := Nat.eq_zero_of_zero_dvd hm
      omega
    · exact z
  have hg := PerF.gcd m d hf hd
  obtain ⟨q, hq⟩ := Nat.gcd_dvd_left m d
  rcases Nat.lt_or_ge q 2 with z | z
  · have : q = 1 := by
      rcases Nat.eq_zero_or_pos q with y | y
      · rw [y, Nat.mul_zero] at hq; omega
      · omega
    rw [this, Nat.mul_one] at hq
    rw [hq]
    exact Nat.gcd_dvd_right m d
  · have hqm : q ∣ m := ⟨Nat.gcd m d, by rw [Nat.mul_comm]; exact hq⟩
    obtain ⟨p, hpm, hpq⟩ := hp.2 q z (Nat.dvd_trans hqm hm)
    obtain ⟨c, hc⟩ := hpq
    have hp2 := (hp.1 p hpm).1
    refine absurd ?_ (hn p hpm (Nat.dvd_trans ⟨c, hc⟩ hqm))
    have e : m / p = Nat.gcd m d * c := by
      have z2 : m = p * (Nat.gcd m d * c) := by
        conv => lhs; rw [hq, hc]
        rw [Nat.mul_left_comm]
      conv => lhs; rw [z2]
      exact Nat.mul_div_cancel_left _ (by omega)
    rw [e]
    exact hg.mul c
theorem PerF.keep {f : Nat → Bool} {m m' p : Nat} (hp : 1 ≤ p) (hd : m' ∣ m) (hpm : p ∣ m') (h : PerF f (m' / p)) : PerF f (m / p) := by
  obtain ⟨k, rfl⟩ := hd
  obtain ⟨c, rfl⟩ := hpm
  rw [Nat.mul_div_cancel_left c (by omega)] at h
  rw [Nat.mul_assoc, Nat.mul_div_cancel_left _ (by omega)]
  exact h.mul k
/-- the row of truths led on for ever -/
def led (rs : List Bool) (i : Nat) : Bool := rs.getD (i % rs.length) false
theorem led_lt {rs : List Bool} {i : Nat} (h : i < rs.length) : rs[i]? = some (led rs i) := by
  unfold led
  rw [Nat.mod_eq_of_lt h, List.getD_eq_getElem?_getD, List.getElem?_eq_getElem h]
  rfl
theorem led_self (rs : List Bool) : PerF (led rs) rs.length := fun i => by
  unfold led
  rw [Nat.add_mod_right]
/-- what _comes_round asks -/
def Round (rs : List Bool) (d : Nat) : Bool := decide (rs.drop d = rs.take (rs.length - d))
theorem Round.get {rs : List Bool} {d : Nat} (h : Round rs d = true) {i : Nat} (hi : i + d < rs.length) : rs[i + d]? = rs[i]? := by
  have e := of_decide_eq_true h
  have e2 := congrArg (fun l : List Bool => l[i]?) e
  simp only [List.getElem?_drop, List.getElem?_take] at e2
  rw [if_pos (by omega), Nat.add_comm d i] at e2
  exact e2
theorem Round.get' {rs : List Bool} {d : Nat} (h : Round rs d = true) (y : Nat) : ∀ k, y + d * k < rs.length → rs[y + d * k]? = rs[y]?
  | 0, _ => rfl
  | k + 1, hk => by
    have e : y + d * (k + 1) = (y + d * k) + d := by rw [Nat.mul_succ]; omega
    rw [e] at hk ⊢
    rw [Round.get h hk]
    exact Round.get' h y k (by omega)
theorem round_per {rs : List Bool} {d : Nat} (hL : 1 ≤ rs.length) (hd : d ∣ rs.length) : Round rs d = true ↔ PerF (led rs) d := by
  have hd1 : 1 ≤ d := by
    rcases Nat.eq_zero_or_pos d with z | z
    · rw [z] at hd
      have := Nat.eq_zero_of_zero_dvd hd
      omega
    · exact z
  have hdl := Nat.le_of_dvd (by omega) hd
  constructor
  · intro h i
    unfold led
    have hx := Nat.mod_lt i (show 0 < rs.length by omega)
    have e0 : (i + d) % rs.length = (i % rs.length + d) % rs.length := by rw [Nat.mod_add_mod]
    rw [e0]
    generalize i % rs.length = x at hx
    rcases Nat.lt_or_ge (x + d) rs.length with z | z
    · rw [Nat.mod_eq_of_lt z, List.getD_eq_getElem?_getD, List.getD_eq_getElem?_getD, Round.get h z]
    · obtain ⟨c, hc⟩ := hd
      have hc1 : 1 ≤ c := by
        rcases Nat.eq_zero_or_pos c with y | y
        · rw [y, Nat.mul_zero] at hc; omega
        · exact y
      have e1 : (x + d) % rs.length = x + d - rs.length := by
        rw [Nat.mod_eq_sub_mod z, Nat.mod_eq_of_lt (by omega)]
      have e2 : x = (x + d - rs.length) + d * (c - 1) := by
        rw [Nat.mul_sub, Nat.mul_one, ← hc]; omega
      rw [e1, List.getD_eq_getElem?_getD, List.getD_eq_getElem?_getD]
      conv => rhs; rw [e2]
      rw [Round.get' h _ (c - 1) (by omega)]
  · intro h
    refine decide_eq_true (List.ext_getElem? fun i => ?_)
    rw [List.getElem?_drop, List.getElem?_take]
    rcases Nat.lt_or_ge i (rs.length - d) with z | z
    · rw [if_pos z, led_lt (show d + i < rs.length by omega), led_lt (show i < rs.length by omega), Nat.add_comm d i, h]
    · rw [if_neg (by omega), List.getElem?_eq_none (by omega)]
/-! ### the start -/
/-- s is the least start: from s on the truths below go by the rests, at s - 1 they do not -/
def StartOk (bs rs : List Bool) (s : Nat) : Prop := s ≤ bs.length ∧ (∀ n, s ≤ n → n < bs.length → bs.getD n false = led rs n) ∧ (s = 0 ∨ bs.getD (s - 1) false ≠ led rs (s - 1))
end Ef
set_option Elab.async false
set_option linter.all false
set_option maxRecDepth 100000
set_option maxHeartbeats 4000000
namespace Ef
open PySem PySem.Spec PyProof.Rows L2
/-- a tuple (t) or a list of truths -/
def BlsT (t : Bool) (K : PySem.W.Frag) (H : Hp) (a : Addr) (bs : List Bool) : Prop := if t = true then SqT K H a (bs.map V.bl) else SqL K H a (bs.map V.bl)
theorem Bls.t {K : PySem.W.Frag} {H : Hp} {a : Addr} {bs : List Bool} (h : Bls K H a bs) : ∃ t, BlsT t K H a bs := by
  rcases h with h | h
  · exact ⟨false, h⟩
  · exact ⟨true, h⟩
theorem BlsT.bls {t : Bool} {K : PySem.W.Frag} {H : Hp} {a : Addr} {bs : List Bool} (h : BlsT t K H a bs) : Bls K H a bs := by
  cases t with
  | false => exact .inl h
  | true => exact .inr h
theorem BlsT.same {t : Bool} {K : PySem.W.Frag} {H H' : Hp} {a : Addr} {bs : List Bool} (h : BlsT t K H a bs) (e : Same H H') : BlsT t K H' a bs := by
  cases t with
  | false => exact Same.seq (H := H) e h
  | true => exact Same.tup (H := H) e h
theorem same_new {H : Hp} {p : Addr} {o : HO} (h : H p = none) : Same H (upd H p o) := fun b x e => by rw [upd_ne (ne_of_none e h)]; exact e
theorem map_bl_inj {as bs : List Bool} (h : as.map V.bl = bs.map V.bl) : as = bs := by
  induction as generalizing bs with
  | nil => cases bs with
    | nil => rfl
    | cons b bs => cases h
  | cons a as ih => cases bs with
    | nil => cases h
    | cons b bs =>
      injection h with h1 h2
      injection h1 with h1
      rw [h1, ih h2]
theorem sl_bls {t : Bool} {K : PySem.W.Frag} {H : Hp} {a : Addr} {bs bs' : List Bool} {lo hi : Option Int} {Q : VK} (h : BlsT t K H a bs) (e : cutV (bs.map V.bl) lo hi = bs'.map V.bl) (q : ∀ p H', Same H H' → BlsT t K H' p bs' → Q (.ref p) H') :
    rSlL K (.ref a) lo hi H Q ∨ rSlA K (.ref a) lo hi H Q := by
  cases t with
  | false =>
    refine .inl ⟨a, _, rfl, h, fun p hp => ?_⟩
    rw [e]
    exact q p _ (same_new hp) (.inl (.inl upd_same))
  | true =>
    refine .inr ⟨a, _, rfl, h, fun hw => ?_, fun hw p hp => ?_⟩
    · refine q a H (Same.refl H) ?_
      have e2 : bs = bs' := by
        refine map_bl_inj (Eq.trans ?_ e)
        unfold cutV
        rw [hw.1, hw.2, List.drop_zero, Nat.sub_zero, List.take_length]
      rw [← e2]
      exact h
    · rw [e]
      exact q p _ (same_new hp) (.inl (.inl upd_same))
theorem eq_blsT {t : Bool} {K : PySem.W.Frag} {H : Hp} {a b : Addr} {as bs : List Bool} {Q : VK} (h1 : BlsT t K H a as) (h2 : BlsT t K H b bs) (q : Q (.bl (decide (as = bs))) H) : rEqD K (.ref a) (.ref b) H Q := by
  cases t with
  | false =>
    refine ⟨_, _, .lst h1 (dp_bls as), .lst h2 (dp_bls bs), (sh_list (can_bls as).1 (can_bls as).2).1, (sh_list (can_bls bs).1 (can_bls bs).2).1, ?_⟩
    show Q (.bl (PyData.eqvAll (as.map PyData.bool) (bs.map PyData.bool))) H
    rw [eqv_bls]
    exact q
  | true =>
    refine ⟨_, _, .tup h1 (dp_bls as), .tup h2 (dp_bls bs), (sh_list (can_bls as).1 (can_bls as).2).2, (sh_list (can_bls bs).1 (can_bls bs).2).2, ?_⟩
    show Q (.bl (PyData.eqvAll (as.map PyData.bool) (bs.map PyData.bool))) H
    rw [eqv_bls]
    exact q
theorem len_bls {K : PySem.W.Frag} {H : Hp} {a : Addr} {bs : List Bool} (h : Bls K H a bs) : SqL K H a (bs.map V.bl) ∨ SqT K H a (bs.map V.bl) := h
theorem ix_bls {K : PySem.W.Frag} {H : Hp} {a : Addr} {bs : List Bool} {i : Int} {Q : VK} (h : Bls K H a bs) (h0 : 0 ≤ i) (h1 : i < bs.length) (q : Q (.bl (bs.getD i.toNat false)) H) : rIx K (.ref a) (.int i) H Q := by
  have ha : atI (bs.map V.bl) i = some (.bl (bs.getD i.toNat false)) := at_of (Int.toNat_of_nonneg h0).symm (get_bls (by omega))
  rcases h with h | h
  · exact .inl ⟨a, _, _, _, rfl, rfl, h, ha, q⟩
  · exact .inr (.inl ⟨a, _, _, _, rfl, rfl, h, ha, q⟩)
theorem cut_lo (bs : List Bool) (k : Nat) (hk : k ≤ bs.length) : cutV (bs.map V.bl) (some (k : Int)) none = (bs.drop k).map V.bl := by
  unfold cutV
  rw [HT.sIx_none, HT.sIx_nat, List.length_map, Nat.min_eq_left hk, ← List.map_drop, ← List.map_take, List.take_of_length_le (by rw [List.length_drop]; omega)]
theorem cut_hi (bs : List Bool) (k : Nat) (hk : k ≤ bs.length) : cutV (bs.map V.bl) none (some (k : Int)) = (bs.take k).map V.bl := by
  unfold cutV
  rw [HT.sIx_none, HT.sIx_nat, List.length_map, Nat.min_eq_left hk, List.drop_zero, Nat.sub_zero, List.map_take]
section
variable {P : Program} {w : World} {K : PySem.W.Frag} {mg : Str → Option Value} {base : Heap}
/-! ### _comes_round -/
def spRound (K : PySem.W.Frag) : Sp := fun vs H Q _ => ∃ (a : Addr) (bs : List Bool) (k : Nat), vs = [.ref a, .int k] ∧ Bls K H a bs ∧ k ≤ bs.length ∧ ∀ H', Same H H' → Q (.bl (Round bs k)) H'
theorem scRound : FnScope ["row", "step"] ["row", "step"] (defScope sRound) := ⟨rfl, rfl, rfl, by decide +kernel, rfl, by decide +kernel, by decide +kernel⟩
theorem df_round (A : At K mg "_comes_round" sRound) (T : TxtW mg) : Df P w K mg base 1 "_comes_round" ["row", "step"] (spRound K) := by
  obtain ⟨f, fd, hm, F⟩ := A.ex
  refine ⟨f, fd, hm, F.kp, F.binds (fun _ _ _ _ _ _ us hl => match us, hl with | [_, _], _ => rfl), F.ok scRound (fun vs H Q E h => ?_) (fun cdv A outer s H vs Q E hr h => ?_)⟩
  · obtain ⟨a, bs, k, rfl, _⟩ := h
    rfl
  · obtain ⟨a, bs, k, rfl, hB, hk, q⟩ := h
    obtain ⟨t, hT⟩ := hB.t
    refine ⟨_, (pss_one (ps_ret (pe_cmpR (op_eqD hr.units) (pe_slice (sl_list.or sl_tupA) (pv 0) (po_some (pv 1)) po_none) (pe_slice (sl_list.or sl_tupA) (pv 0) po_none (po_some (pe_op op_sub (pe_callB call_len_seq (by rfl) T.len PySem.boot_len (pa_cons (pv 0) pa_nil)) (pv 1)))) (nomark _)))), ?_⟩
    refine ⟨_, rfl, _, rfl, _, rfl, sl_bls hT (cut_lo bs k hk) fun p H1 s1 h1 => ?_⟩
    refine ⟨_, rfl, _, rfl, a, _, rfl, len_bls (hT.same s1).bls, _, rfl, _, _, rfl, rfl, _, rfl, sl_bls (hT.same s1) (bs' := bs.take (bs.length - k)) ?_ fun p2 H2 s2 h2 => ?_⟩
    · have e : ((bs.map V.bl).length : Int) - (k : Int) = ((bs.length - k : Nat) : Int) := by rw [List.length_map]; omega
      show cutV (bs.map V.bl) none (some (((bs.map V.bl).length : Int) - (k : Int))) = _
      rw [e]
      exact cut_hi bs _ (by omega)
    · exact eq_blsT (h1.same s2) h2 (q _ (s1.trans s2))
/-! ### _primes_of -/
def spPrimes : Sp := fun vs H Q _ => ∃ (n : Nat), vs = [.int n] ∧ 1 ≤ n ∧ n ≤ 1000000 ∧ ∀ (r : Addr) (ps : List Nat) (H' : Hp), H r = none → H' r = some (.lst (ps.map fun p : Nat => V.int (p : Int))) → PrimesOk n ps → Same H H' → Q (.ref r) H'
theorem scPrimes : FnScope ["number", "primes", "left", "prime"] ["number"] (defScope sPrimes) := ⟨rfl, rfl, rfl, by decide +kernel, rfl, by decide +kernel, by decide +kernel⟩
theorem df_primes (A : At K mg "primes_of" sPrimes) : Df P w K mg base 1 "primes_of" ["number"] spPrimes := by
  obtain ⟨f, fd, hm, F⟩ := A.ex
  refine ⟨f, fd, hm, F.kp, F.binds (fun _ _ _ _ _ _ us hl => match us, hl with | [_], _ => rfl), F.ok scPrimes (fun vs H Q E h => ?_) (fun cdv A outer s H vs Q E hr h => ?_)⟩
  · obtain ⟨n, rfl, _⟩ := h
    rfl
  · obtain ⟨n, rfl, n1, n2, q⟩ := h
    refine ⟨_, (pss_cons (ps_set (i := 1) scPrimes.nd rfl (.inl rfl) (pe_lst pa_nil))
      (pss_cons (ps_set (i := 2) scPrimes.nd rfl (.inl rfl) (pv 0))
      (pss_cons (ps_set (i := 3) scPrimes.nd rfl (.inl rfl) pe_int)
      (pss_cons (ps_while PassesOwn.never (pt_cmpR op_le (pe_op op_mul (pv 3) (pv 3)) (pv 2) (nomark _))
      (pss_cons (ps_if (pt_cmpR op_eq (pe_op op_mod (pv 2) (pv 3)) pe_int (nomark _)) (pss_one (ps_expr (pe_bm PySem.F.plainAttrs_list PySem.F.slot_list_append PySem.F.type_list_append mt_append (pv 1) (pa_cons (pv 3) pa_nil)))) pss_nil)
      (pss_cons (ps_while PassesOwn.never (pt_cmpR op_eq (pe_op op_mod (pv 2) (pv 3)) pe_int (nomark _))
      (pss_one (ps_set (i := 2) scPrimes.nd rfl (.inl rfl) (pe_op op_fdiv (pv 2) (pv 3)))))
      (pss_one (ps_set (i := 3) scPrimes.nd rfl (.inl rfl) (pe_op op_add (pv 3) pe_int))))))
      (pss_cons (ps_if (pt_cmpR op_gt (pv 2) pe_int (nomark _)) (pss_one (ps_expr (pe_bm PySem.F.plainAttrs_list PySem.F.slot_list_append PySem.F.type_list_append mt_append (pv 1) (pa_cons (pv 2) pa_nil)))) pss_nil)
      (pss_one (ps_ret (pv 1)))))))), ?_⟩
    refine ⟨Nat.zero_le _, fun r hr0 => ?_⟩
    refine ⟨_, rfl, ?_⟩
    refine ⟨fun m σ H' => ∃ (ps : List Nat) (left prime : Nat), σ = [some (.int n), some (.ref r), some (.int left), some (.int prime)] ∧ m = n + 2 - prime ∧ prime ≤ n + 1 ∧ ps.length < prime ∧ Seek n left prime ps ∧ H' r = some (.lst (ps.map fun p : Nat => V.int (p : Int))) ∧ Same H H',
      ⟨_, [], n, 2, rfl, rfl, by omega, by decide, Seek.start n1, upd_same, same_new hr0⟩, fun m σ H' hW => ?_⟩
    obtain ⟨ps, left, prime, rfl, em, hpn, hpl, hS, hL, sm⟩ := hW
    have hln : left ≤ n := Nat.le_of_dvd (by omega) hS.dvd
    refine ⟨_, rfl, _, rfl, _, _, rfl, rfl, .inl ⟨by omega, by omega⟩, _, rfl, _, _, rfl, rfl, _, rfl, ?_⟩
    have hp2 := hS.p2
    have hpos : (0 : Int) < (prime : Int) := by omega
    have hmod : ∀ x : Nat, decide (V.int ((x : Int) % (prime : Int)) = V.int 0) = decide (prime ∣ x) := fun x => by
      by_cases hx : prime ∣ x
      · rw [decide_eq_true hx]
        obtain ⟨c, rfl⟩ := hx
        refine decide_eq_true ?_
        rw [Int.natCast_mul, Int.mul_emod_right]
      · rw [decide_eq_false hx]
        refine decide_eq_false fun z => hx ?_
        injection z with z
        exact Int.natCast_dvd_natCast.mp (Int.dvd_of_emod_eq_zero z)
    have hlt : ∀ ps' : List Nat, ps'.length ≤ n + 2 → (ps'.map fun p : Nat => V.int (p : Int)).length < sizeLine := fun ps' hz => by
      rw [List.length_map]
      exact Nat.lt_of_le_of_lt (show ps'.length ≤ 1000010 by omega) (by decide)
    by_cases hc : prime * prime ≤ left
    · have hcI : (prime : Int) * (prime : Int) ≤ (left : Int) := by
        have := Int.ofNat_le.mpr hc
        rw [Int.natCast_mul] at this
        exact this
      have hpn' : prime ≤ n := by
        have := Nat.mul_le_mul_right prime hp2
        omega
      have hN : ∀ (ps' : List Nat) (left' : Nat) (H' : Hp), Seek n left' (prime + 1) ps' → ps'.length < prime + 1 → H' r = some (.lst (ps'.map fun p : Nat => V.int (p : Int))) → Same H H' →
          ∃ v, [some (V.int n), some (V.ref r), some (V.int left'), some (V.int prime)][3]? = some (some v) ∧ ∃ i j, v = V.int i ∧ V.int 1 = V.int j ∧
            (fun (σ' : L2.St) (H' : Hp) => ∃ (ps : List Nat) (left : Nat), σ' = [some (.int n), some (.ref r), some (.int left), some (.int ((prime : Int) + 1))] ∧ ps.length < prime + 1 ∧ Seek n left (prime + 1) ps ∧ H' r = some (.lst (ps.map fun p : Nat => V.int (p : Int))) ∧ Same H H')
              [some (V.int n), some (V.ref r), some (V.int left'), some (V.int (i + j))] H' :=
        fun ps' left' H' h1 h2 h3 h4 => ⟨_, rfl, _, _, rfl, rfl, ps', left', rfl, h2, h1, h3, h4⟩
      refine (show ite _ _ _ from ?_)
      rw [decide_eq_true hcI, if_pos rfl]
      refine ⟨fun σ' H' => ∃ (ps : List Nat) (left : Nat), σ' = [some (.int n), some (.ref r), some (.int left), some (.int ((prime : Int) + 1))] ∧ ps.length < prime + 1 ∧ Seek n left (prime + 1) ps ∧ H' r = some (.lst (ps.map fun p : Nat => V.int (p : Int))) ∧ Same H H', fun σ' H' hz => ?_, ?_⟩
      · obtain ⟨ps', left', e, h1, h2, h3, h4⟩ := hz
        exact ⟨n + 2 - (prime + 1), by omega, ps', left', prime + 1, e, rfl, by omega, h1, h2, h3, h4⟩
      · refine ⟨_, rfl, _, rfl, _, _, rfl, rfl, hpos, rfl, _, rfl, ?_⟩
        rw [hmod left]
        by_cases hd : prime ∣ left
        · rw [decide_eq_true hd]
          refine iteT ?_
          refine ⟨_, rfl, .inl ⟨rfl, _, .inl (.inl hL)⟩, _, rfl, r, _, _, rfl, rfl, hL, hlt _ (by omega), ?_⟩
          have hL2 : (upd H' r (.lst ((ps.map fun p : Nat => V.int (p : Int)) ++ [V.int prime]))) r = some (.lst ((ps ++ [prime]).map fun p : Nat => V.int (p : Int))) := by rw [upd_same, List.map_append]; rfl
          have sm2 : Same H (upd H' r (.lst ((ps.map fun p : Nat => V.int (p : Int)) ++ [V.int prime]))) := fun b o e => by rw [upd_ne (ne_of_none e hr0)]; exact sm b o e
          generalize upd H' r (.lst ((ps.map fun p : Nat => V.int (p : Int)) ++ [V.int prime])) = H2 at hL2 sm2 ⊢
          refine ⟨fun m σ H3 => ∃ left' : Nat, σ = [some (.int n), some (.ref r), some (.int left'), some (.int prime)] ∧ m = left' ∧ Strip left prime left' ∧ H3 = H2, ⟨left, left, rfl, rfl, Strip.start hS.l0, rfl⟩, fun m σ H3 hW => ?_⟩
          obtain ⟨left', rfl, rfl, hT, rfl⟩ := hW
          refine ⟨_, rfl, _, rfl, _, _, rfl, rfl, hpos, rfl, _, rfl, ?_⟩
          rw [hmod m]
          by_cases hd' : prime ∣ m
          · refine (show ite _ _ _ from ?_)
            rw [decide_eq_true hd', if_pos rfl]
            refine ⟨fun σ' H' => σ' = [some (.int n), some (.ref r), some (.int ((m / prime : Nat) : Int)), some (.int prime)] ∧ H' = H3, fun σ' H' hz => ?_, ?_⟩
            · obtain ⟨rfl, rfl⟩ := hz
              exact ⟨m / prime, Nat.div_lt_self hT.l0 hp2, _, rfl, rfl, hT.step (hS.prime hd) hd', rfl⟩
            · refine ⟨_, rfl, _, rfl, _, _, rfl, rfl, ⟨hpos, by omega⟩, rfl, rfl⟩
          · refine (show ite _ _ _ from ?_)
            rw [decide_eq_false hd', if_neg Bool.false_ne_true]
            exact hN _ m H3 (hS.take hd hT hd') (by rw [List.length_append, List.length_singleton]; omega) hL2 sm2
        · rw [decide_eq_false hd]
          refine iteF ?_
          refine ⟨fun m σ H3 => σ = [some (.int n), some (.ref r), some (.int left), some (.int prime)] ∧ H3 = H', ⟨0, rfl, rfl⟩, fun m σ H3 hW => ?_⟩
          obtain ⟨rfl, rfl⟩ := hW
          refine ⟨_, rfl, _, rfl, _, _, rfl, rfl, hpos, rfl, _, rfl, ?_⟩
          rw [hmod left]
          refine (show ite _ _ _ from ?_)
          rw [decide_eq_false hd, if_neg Bool.false_ne_true]
          exact hN ps left H3 (hS.skip hd) (by omega) hL sm
    · have hcI : ¬ (prime : Int) * (prime : Int) ≤ (left : Int) := fun z => by
        rw [← Int.natCast_mul] at z
        exact hc (Int.ofNat_le.mp z)
      refine (show ite _ _ _ from ?_)
      rw [decide_eq_false hcI, if_neg Bool.false_ne_true]
      have fin := hS.fin (by omega)
      refine ⟨_, rfl, _, _, rfl, rfl, _, rfl, ?_⟩
      by_cases h1 : 1 < left
      · rw [if_pos h1] at fin
        rw [decide_eq_true (show (1 : Int) < (left : Int) by omega), if_pos rfl]
        refine ⟨_, rfl, .inl ⟨rfl, _, .inl (.inl hL)⟩, _, rfl, r, _, _, rfl, rfl, hL, hlt _ (by omega), ?_⟩
        exact ⟨_, rfl, q r _ _ hr0 (by rw [upd_same, List.map_append]; rfl) fin (fun b o e => by rw [upd_ne (ne_of_none e hr0)]; exact sm b o e)⟩
      · rw [if_neg h1] at fin
        rw [decide_eq_false (show ¬ (1 : Int) < (left : Int) by omega), if_neg Bool.false_ne_true]
        exact ⟨_, rfl, q r _ _ hr0 hL fin sm⟩
end
end Ef
set_option Elab.async false
set_option linter.all false
/-! a list told by its first round again and again -/
namespace Ef
theorem rep_get {α : Type} (xs : List α) (hx : 0 < xs.length) : ∀ (k i : Nat), i < xs.length * k → (List.replicate k xs).flatten[i]? = xs[i % xs.length]?
  | 0, i, h => absurd h (by rw [Nat.mul_zero]; exact Nat.not_lt_zero i)
  | k + 1, i, h => by
    rw [List.replicate_succ, List.flatten_cons]
    rcases Nat.lt_or_ge i xs.length with z | z
    · rw [List.getElem?_append_left z, Nat.mod_eq_of_lt z]
    · rw [List.getElem?_append_right z, rep_get xs hx k (i - xs.length) (by rw [Nat.mul_succ] at h; omega), Nat.mod_eq_sub_mod z]
theorem rep_len {α : Type} (xs : List α) (k : Nat) : (List.replicate k xs).flatten.length = xs.length * k := by
  induction k with
  | zero => rfl
  | succ k ih => rw [List.replicate_succ, List.flatten_cons, List.length_append, ih, Nat.mul_succ, Nat.add_comm]
/-- by d again and again, exactly if it comes round by d -/
theorem rep_per {rs : List Bool} {d : Nat} (hL : 1 ≤ rs.length) (h1 : 1 ≤ d) (hd : d ∣ rs.length) : rs = (List.replicate (rs.length / d) (rs.take d)).flatten ↔ PerF (led rs) d := by
  have hle := Nat.le_of_dvd hL hd
  have hlen : (rs.take d).length = d := by rw [List.length_take]; omega
  have hm : d * (rs.length / d) = rs.length := Nat.mul_div_cancel' hd
  have get : ∀ i, i < rs.length → (List.replicate (rs.length / d) (rs.take d)).flatten[i]? = some (led rs (i % d)) := fun i hi => by
    have hid := Nat.mod_lt i (show 0 < d by omega)
    rw [rep_get (rs.take d) (by omega) _ i (by rw [hlen, hm]; exact hi), hlen, List.getElem?_take, if_pos hid]
    exact led_lt (by omega)
  constructor
  · intro h
    have key : ∀ i, i < rs.length → led rs i = led rs (i % d) := fun i hi => by
      have a := led_lt hi
      have b := get i hi
      rw [← h] at b
      rw [a] at b
      injection b
    intro i
    have e1 : led rs (i + d) = led rs ((i + d) % rs.length) := by unfold led; rw [Nat.mod_mod]
    have e2 : led rs i = led rs (i % rs.length) := by unfold led; rw [Nat.mod_mod]
    rw [e1, e2, key _ (Nat.mod_lt _ (by omega)), key _ (Nat.mod_lt _ (by omega)), Nat.mod_mod_of_dvd _ hd, Nat.mod_mod_of_dvd _ hd, Nat.add_mod_right]
  · intro h
    refine List.ext_getElem? fun i => ?_
    rcases Nat.lt_or_ge i rs.length with z | z
    · rw [get i z, led_lt z]
      have e : i = i % d + d * (i / d) := (Nat.mod_add_div i d).symm
      conv => lhs; rw [e, h.mul (i / d)]
    · rw [List.getElem?_eq_none z, List.getElem?_eq_none (by rw [rep_len, hlen, hm]; exact z)]
end Ef
set_option Elab.async false
set_option linter.all false
/-! the least start, found by halving -/
namespace Ef
/-- from n on the truths below are those of the rounds -/
def Agree (bs rs : List Bool) (n : Nat) : Prop := ∀ k, n ≤ k → k < bs.length → bs.getD k false = led rs k
theorem start_ex (bs rs : List Bool) : ∀ n, n ≤ bs.length → Agree bs rs n → ∃ s, s ≤ n ∧ StartOk bs rs s
  | 0, h, a => ⟨0, Nat.le_refl _, h, a, .inl rfl⟩
  | n + 1, h, a => by
    by_cases e : bs.getD n false = led rs n
    · obtain ⟨s, h1, h2⟩ := start_ex bs rs n (by omega) fun k hk hl => by
        rcases Nat.lt_or_ge n k with z | z
        · exact a k z hl
        · rw [show k = n by omega]; exact e
      exact ⟨s, by omega, h2⟩
    · exact ⟨n + 1, Nat.le_refl _, h, a, .inr (by rw [Nat.add_sub_cancel]; exact e)⟩
theorem start_agree {bs rs : List Bool} {s n : Nat} (h : StartOk bs rs s) (hn : n ≤ bs.length) : Agree bs rs n ↔ s ≤ n := by
  constructor
  · intro a
    rcases Nat.lt_or_ge n s with z | z
    · rcases h.2.2 with e | e
      · omega
      · exact absurd (a (s - 1) (by omega) (by have := h.1; omega)) e
    · exact z
  · exact fun z k hk hl => h.2.1 k (by omega) hl
theorem rep_take {rs : List Bool} {n : Nat} (hr : 1 ≤ rs.length) : (List.replicate (n / rs.length + 1) rs).flatten.take n = (List.range n).map (led rs) := by
  refine List.ext_getElem? fun i => ?_
  rw [List.getElem?_take, List.getElem?_map]
  rcases Nat.lt_or_ge i n with z | z
  · have h1 : n < rs.length * (n / rs.length + 1) := by
      have := Nat.div_add_mod n rs.length
      have := Nat.mod_lt n (show 0 < rs.length by omega)
      rw [Nat.mul_succ]
      omega
    rw [if_pos z, rep_get rs (by omega) _ i (by omega), List.getElem?_range z, led_lt (Nat.mod_lt _ (by omega))]
    show some _ = some (led rs i)
    unfold led
    rw [Nat.mod_mod]
  · rw [if_neg (by omega), List.getElem?_eq_none (by rw [List.length_range]; exact z)]
    rfl
theorem drop_agree {bs rs : List Bool} {n : Nat} : bs.drop n = ((List.range bs.length).map (led rs)).drop n ↔ Agree bs rs n := by
  have g : ∀ k, k < bs.length → bs[k]? = some (bs.getD k false) := fun k hk => by
    rw [List.getD_eq_getElem?_getD, List.getElem?_eq_getElem hk]; rfl
  have g2 : ∀ k, k < bs.length → ((List.range bs.length).map (led rs))[k]? = some (led rs k) := fun k hk => by
    rw [List.getElem?_map, List.getElem?_range hk]; rfl
  constructor
  · intro h k hk hl
    have e := congrArg (fun l : List Bool => l[k - n]?) h
    simp only [List.getElem?_drop] at e
    rw [show n + (k - n) = k by omega, g k hl, g2 k hl] at e
    exact Option.some.inj e
  · intro a
    refine List.ext_getElem? fun i => ?_
    rw [List.getElem?_drop, List.getElem?_drop]
    rcases Nat.lt_or_ge (n + i) bs.length with z | z
    · rw [g _ z, g2 _ z, a _ (by omega) z]
    · rw [List.getElem?_eq_none z, List.getElem?_eq_none (by rw [List.length_map, List.length_range]; exact z)]
end Ef
set_option Elab.async false
set_option linter.all false
set_option maxRecDepth 100000
set_option maxHeartbeats 4000000
namespace Ef
open PySem PySem.Spec PyProof.Rows L2
theorem hmod_nat {prime x : Nat} (hpos : 0 < prime) : decide (V.int ((x : Int) % (prime : Int)) = V.int 0) = decide (prime ∣ x) := by
  by_cases hx : prime ∣ x
  · rw [decide_eq_true hx]
    obtain ⟨c, rfl⟩ := hx
    refine decide_eq_true ?_
    rw [Int.natCast_mul, Int.mul_emod_right]
  · rw [decide_eq_false hx]
    refine decide_eq_false fun z => hx ?_
    injection z with z
    exact Int.natCast_dvd_natCast.mp (Int.dvd_of_emod_eq_zero z)
section
variable {P : Program} {w : World} {K : PySem.W.Frag} {mg : Str → Option Value} {base : Heap}
/-! ### _least_period -/
def spLper (K : PySem.W.Frag) : Sp := fun vs H Q _ => ∃ (a : Addr) (bs : List Bool), vs = [.ref a] ∧ Bls K H a bs ∧ 1 ≤ bs.length ∧ bs.length ≤ 1000000 ∧
  ∀ (m : Nat) (H' : Hp), 1 ≤ m → m ∣ bs.length → PerF (led bs) m → (∀ d, PerF (led bs) d → m ∣ d) → Same H H' → Q (.int m) H'
theorem scLper : FnScope ["row", "period", "prime"] ["row"] (defScope sLper) := ⟨rfl, rfl, rfl, by decide +kernel, rfl, by decide +kernel, by decide +kernel⟩
theorem df_lper (A : At K mg "least_period" sLper) (T : TxtW mg) (Dprimes : Df P w K mg base 1 "primes_of" ["number"] spPrimes) (Dround : Df P w K mg base 1 "_comes_round" ["row", "step"] (spRound K)) : Df P w K mg base 2 "least_period" ["row"] (spLper K) := by
  obtain ⟨f, fd, hm, F⟩ := A.ex
  refine ⟨f, fd, hm, F.kp, F.binds (fun _ _ _ _ _ _ us hl => match us, hl with | [_], _ => rfl), F.ok scLper (fun vs H Q E h => ?_) (fun cdv A outer s H vs Q E hr h => ?_)⟩
  · obtain ⟨a, bs, rfl, _⟩ := h
    rfl
  · obtain ⟨a, bs, rfl, hB, hL1, hL2, q⟩ := h
    refine ⟨_, (pss_cons (ps_set (i := 1) scLper.nd rfl (.inl rfl) (pe_callB call_len_seq (by rfl) T.len PySem.boot_len (pa_cons (pv 0) pa_nil)))
      (pss_cons (ps_for PassesOwn.never rfl (pi_list (Dprimes.call (hr.mono (by decide)) (pa_cons (pv 1) pa_nil))) (pg_name (i := 2) scLper.nd rfl (.inl rfl))
      (pss_one (ps_while PassesOwn.never (pw_and (pt_cmpR op_eq (pe_op op_mod (pv 1) (pv 2)) pe_int (nomark _)) (pw_and1 (pt_val (Dround.call (hr.mono (by decide)) (pa_cons (pv 0) (pa_cons (pe_op op_fdiv (pv 1) (pv 2)) pa_nil)))))).pt
      (pss_one (ps_set (i := 1) scLper.nd rfl (.inl rfl) (pe_op op_fdiv (pv 1) (pv 2)))))))
      (pss_one (ps_ret (pv 1))))), ?_⟩
    refine ⟨_, rfl, a, _, rfl, len_bls hB, ?_⟩
    refine ⟨_, rfl, bs.length, by rw [List.length_map]; rfl, hL1, hL2, fun r ps H1 hr0 hA hok sm => ?_⟩
    refine ⟨r, rfl, ⟨_, .inl (.inl hA)⟩, for_list (K := K) (a := r) (xs := ps.map fun p : Nat => V.int (p : Int)) (fun i σ H' => ∃ (m : Nat) (y : Option V), σ = [some (.ref a), some (.int m), y] ∧ H' r = some (.lst (ps.map fun p : Nat => V.int (p : Int))) ∧ Same H H' ∧ 1 ≤ m ∧ m ∣ bs.length ∧ PerF (led bs) m ∧
      ∀ (j p : Nat), j < i → ps[j]? = some p → p ∣ m → ¬ PerF (led bs) (m / p)) ⟨bs.length, none, by rw [List.length_map]; rfl, hA, sm, hL1, Nat.dvd_refl _, led_self bs, fun j p hj => absurd hj (Nat.not_lt_zero j)⟩ (fun i σ H' _ ⟨m, y, _, h, _⟩ => .inl (.inl h)) ?_ ?_⟩
    · rintro i x σ H2 hi ⟨m, y, rfl, hA2, sm2, m1, mL, hper, hn⟩
      rw [List.getElem?_map] at hi
      obtain ⟨p, hp, rfl⟩ := Option.map_eq_some_iff.mp hi
      obtain ⟨p2, pL⟩ := hok.1 p (List.mem_of_getElem? hp)
      have pl : p ≤ bs.length := Nat.le_of_dvd (by omega) pL
      refine ⟨fun k σ H' => ∃ m' : Nat, k = m' ∧ σ = [some (.ref a), some (.int m'), some (.int p)] ∧ H' r = some (.lst (ps.map fun p : Nat => V.int (p : Int))) ∧ Same H H' ∧ 1 ≤ m' ∧ m' ∣ m ∧ PerF (led bs) m', ⟨m, m, rfl, rfl, hA2, sm2, m1, Nat.dvd_refl _, hper⟩, fun k σ H3 hW => ?_⟩
      obtain ⟨m', rfl, rfl, hA3, sm3, m1', md, hper'⟩ := hW
      have fin : ∀ H4, H4 r = some (.lst (ps.map fun p : Nat => V.int (p : Int))) → Same H H4 → (p ∣ k → ¬ PerF (led bs) (k / p)) → ∃ (m : Nat) (y : Option V), [some (V.ref a), some (V.int k), some (V.int p)] = [some (.ref a), some (.int m), y] ∧ H4 r = some (.lst (ps.map fun p : Nat => V.int (p : Int))) ∧ Same H H4 ∧ 1 ≤ m ∧ m ∣ bs.length ∧ PerF (led bs) m ∧
          ∀ (j p : Nat), j < i + 1 → ps[j]? = some p → p ∣ m → ¬ PerF (led bs) (m / p) := fun H4 h4 s4 hpk => by
        refine ⟨k, _, rfl, h4, s4, m1', Nat.dvd_trans md mL, hper', fun j p' hj hp' hpd hper2 => ?_⟩
        rcases Nat.lt_or_ge j i with z | z
        · exact hn j p' z hp' (Nat.dvd_trans hpd md) (hper2.keep (by have := (hok.1 p' (List.mem_of_getElem? hp')).1; omega) md hpd)
        · have e : j = i := by omega
          rw [e, hp] at hp'
          injection hp' with hp'
          subst hp'
          exact hpk hpd hper2
      refine ⟨_, rfl, _, rfl, _, _, rfl, rfl, show (0 : Int) < (p : Int) by omega, rfl, _, rfl, ?_⟩
      rw [hmod_nat (by omega)]
      by_cases hd : p ∣ k
      · rw [decide_eq_true hd]
        have kp : k / p ≤ bs.length := Nat.le_trans (Nat.div_le_self _ _) (Nat.le_of_dvd (by omega) (Nat.dvd_trans md mL))
        have kd : k / p ∣ bs.length := Nat.dvd_trans ⟨p, (Nat.div_mul_cancel hd).symm⟩ (Nat.dvd_trans md mL)
        refine iteT ⟨_, rfl, _, rfl, _, rfl, _, _, rfl, rfl, ⟨show (0 : Int) < (p : Int) by omega, show (p : Int) < 1073741824 by omega⟩, a, bs, k / p, rfl, hB.same sm3, kp, fun H4 s4 => ⟨_, rfl, ?_⟩⟩
        have sm4 := sm3.trans s4
        have hA4 := s4 _ _ hA3
        by_cases hrd : Round bs (k / p) = true
        · rw [hrd]
          have hk1 : 1 ≤ k / p := Nat.div_pos (Nat.le_of_dvd (by omega) hd) (by omega)
          refine iteT ⟨fun σ' H' => σ' = [some (.ref a), some (.int ((k / p : Nat) : Int)), some (.int p)] ∧ H' r = some (.lst (ps.map fun p : Nat => V.int (p : Int))) ∧ Same H H', fun σ' H' hz => ?_, ?_⟩
          · obtain ⟨rfl, h5, s5⟩ := hz
            exact ⟨k / p, Nat.div_lt_self (by omega) (by omega), _, rfl, rfl, h5, s5, hk1, Nat.dvd_trans ⟨p, (Nat.div_mul_cancel hd).symm⟩ md, (round_per hL1 kd).mp hrd⟩
          · exact ⟨_, rfl, _, rfl, _, _, rfl, rfl, ⟨show (0 : Int) < (p : Int) by omega, show (p : Int) < 1073741824 by omega⟩, rfl, hA4, sm4⟩
        · rw [Bool.eq_false_iff.mpr hrd]
          exact iteF (fin _ hA4 sm4 fun _ hz => hrd ((round_per hL1 kd).mpr hz))
      · rw [decide_eq_false hd]
        refine iteF ?_
        exact fin _ hA3 sm3 fun z => absurd z hd
    · rintro σ H2 ⟨m, y, rfl, hA2, sm2, m1, mL, hper, hn⟩
      refine ⟨_, rfl, q m H2 m1 mL hper (least_of hok hL1 mL hper fun p hp => ?_) sm2⟩
      obtain ⟨j, hj, rfl⟩ := List.getElem_of_mem hp
      exact hn j _ (by rw [List.length_map]; exact hj) (List.getElem?_eq_getElem hj)
/-! ### _least_start -/
def spLstart (K : PySem.W.Frag) : Sp := fun vs H Q _ => ∃ (a b : Addr) (bs rs : List Bool), vs = [.ref a, .ref b] ∧ Bls K H a bs ∧ Bls K H b rs ∧ 1 ≤ rs.length ∧ bs.length ≤ 1000000 ∧ rs.length ≤ 1000000 ∧ ∀ (s : Nat) H', Same H H' → StartOk bs rs s → Q (.int s) H'
theorem scLstart : FnScope ["below", "rests", "size", "truths", "later", "low", "high", "middle"] ["below", "rests"] (defScope sLstart) := ⟨rfl, rfl, rfl, by decide +kernel, rfl, by decide +kernel, by decide +kernel⟩
theorem df_lstart (A : At K mg "_least_start" sLstart) (T : TxtW mg) : Df P w K mg base 1 "_least_start" ["below", "rests"] (spLstart K) := by
  obtain ⟨f, fd, hm, F⟩ := A.ex
  refine ⟨f, fd, hm, F.kp, F.binds (fun _ _ _ _ _ _ us hl => match us, hl with | [_, _], _ => rfl), F.ok scLstart (fun vs H Q E h => ?_) (fun cdv A outer s H vs Q E hr h => ?_)⟩
  · obtain ⟨a, b, bs, rs, rfl, _⟩ := h
    rfl
  · obtain ⟨a, b, bs, rs, rfl, hB, hR, hr1, hb1, hr2, q⟩ := h
    refine ⟨_, (pss_cons (ps_set (i := 2) scLstart.nd rfl (.inl rfl) (pe_callB call_len_seq (by rfl) T.len PySem.boot_len (pa_cons (pv 0) pa_nil)))
      (pss_cons (ps_if (pw_or (pt_cmpR op_eq (pv 2) pe_int (nomark _)) (pw_or1 (pt_cmpR op_ne (pe_ix ix_seq (pv 0) (pe_op op_sub (pv 2) pe_int) (fun _ _ => rfl)) (pe_ix ix_seq (pv 1) (pe_op op_mod (pe_op op_sub (pv 2) pe_int) (pe_callB call_len_seq (by rfl) T.len PySem.boot_len (pa_cons (pv 1) pa_nil))) (fun _ _ => rfl)) (nomark _)))).pt (pss_one (ps_ret (pv 2))) pss_nil)
      (pss_cons (ps_set (i := 3) scLstart.nd rfl (.inl rfl) (pe_callTy call_list_of (by rfl) T.list (by decide +kernel) (pa_cons (pv 0) pa_nil)))
      (pss_cons (ps_set (i := 4) scLstart.nd rfl (.inl rfl) (pe_slice sl_list (pe_op op_rep (pe_callTy call_list_of (by rfl) T.list (by decide +kernel) (pa_cons (pv 1) pa_nil)) (pe_op op_add (pe_op op_fdiv (pv 2) (pe_callB call_len_seq (by rfl) T.len PySem.boot_len (pa_cons (pv 1) pa_nil))) pe_int)) po_none (po_some (pv 2))))
      (pss_cons (ps_par (i := 5) (j := 6) (by rfl) scLstart.nd rfl rfl (by decide) rfl rfl (pa_cons pe_int (pa_cons (pv 2) pa_nil)) (by rfl))
      (pss_cons (ps_while PassesOwn.never (pt_cmpR op_lt (pv 5) (pv 6) (nomark _))
      (pss_cons (ps_set (i := 7) scLstart.nd rfl (.inl rfl) (pe_op op_fdiv (pe_op op_add (pv 5) (pv 6)) pe_int))
      (pss_one (ps_if (pt_cmpR (op_eqD hr.units) (pe_slice sl_list (pv 3) (po_some (pv 7)) po_none) (pe_slice sl_list (pv 4) (po_some (pv 7)) po_none) (nomark _)) (pss_one (ps_set (i := 6) scLstart.nd rfl (.inl rfl) (pv 7))) (pss_one (ps_set (i := 5) scLstart.nd rfl (.inl rfl) (pe_op op_add (pv 7) pe_int)))))))
      (pss_one (ps_ret (pv 5))))))))), ?_⟩
    refine ⟨_, rfl, a, _, rfl, len_bls hB, ?_⟩
    rw [List.length_map]
    obtain ⟨s0, hs0, hS⟩ := start_ex bs rs bs.length (Nat.le_refl _) (fun k h1 h2 => absurd h2 (by omega))
    refine ⟨_, rfl, rfl, _, rfl, ?_⟩
    by_cases hz : bs.length = 0
    · rw [decide_eq_true (show V.int (bs.length : Int) = V.int 0 by rw [hz]; rfl)]
      refine iteT ⟨_, rfl, ?_⟩
      have e : s0 = bs.length := by omega
      exact q bs.length H (Same.refl H) (e ▸ hS)
    rw [decide_eq_false (show ¬ V.int (bs.length : Int) = V.int 0 from fun z => by injection z with z; omega)]
    refine iteF ?_
    obtain ⟨n, hn⟩ : ∃ n, bs.length = n + 1 := ⟨bs.length - 1, by omega⟩
    have en : ((bs.length : Nat) : Int) - 1 = (n : Int) := by omega
    have h0 := Int.emod_nonneg (n : Int) (show (rs.length : Int) ≠ 0 by omega)
    have h1 := Int.emod_lt_of_pos (n : Int) (show (0 : Int) < (rs.length : Int) by omega)
    have em : ((n : Int) % (rs.length : Int)).toNat = n % rs.length := by rw [← Int.natCast_emod]; rfl
    refine ⟨_, rfl, _, rfl, _, _, rfl, rfl, ix_bls hB (by omega) (by omega) ?_⟩
    refine ⟨_, rfl, _, rfl, _, _, rfl, rfl, _, rfl, b, _, rfl, len_bls hR, _, _, rfl, rfl, by rw [List.length_map]; omega, ?_⟩
    dsimp only
    rw [List.length_map, en]
    refine ix_bls hR h0 h1 ⟨rfl, _, rfl, ?_⟩
    rw [em, show ((n : Nat) : Int).toNat = n from rfl, show rs.getD (n % rs.length) false = led rs n from rfl]
    by_cases hx : ¬ bs.getD n false = led rs n
    · rw [decide_eq_false (fun z => hx (by injection z))]
      refine iteT ⟨_, rfl, q bs.length H (Same.refl H) ⟨Nat.le_refl _, fun k h1 h2 => absurd h2 (by omega), .inr (by rw [hn, Nat.add_sub_cancel]; exact hx)⟩⟩
    rw [decide_eq_true (congrArg V.bl (Classical.not_not.mp hx))]
    refine iteF ?_
    -- truths
    refine ⟨_, rfl, a, _, rfl, hB, fun l1 hl1 => ?_⟩
    have s1 := same_new (o := .lst (bs.map V.bl)) hl1
    have e1 : (upd H l1 (.lst (bs.map V.bl))) l1 = some (.lst (bs.map V.bl)) := upd_same
    generalize upd H l1 (.lst (bs.map V.bl)) = H1 at s1 e1 ⊢
    -- later
    refine ⟨_, rfl, b, _, rfl, hR.same s1, fun l2 hl2 => ?_⟩
    have s2 := s1.trans (same_new (o := .lst (rs.map V.bl)) hl2)
    have e1 := same_new (o := .lst (rs.map V.bl)) hl2 _ _ e1
    have e2 : (upd H1 l2 (.lst (rs.map V.bl))) l2 = some (.lst (rs.map V.bl)) := upd_same
    generalize upd H1 l2 (.lst (rs.map V.bl)) = H2 at s2 e1 e2 ⊢
    refine ⟨_, rfl, _, rfl, b, _, rfl, hR.same s2, ?_⟩
    rw [List.length_map]
    have ek : ((bs.length : Int) / (rs.length : Int) + 1) = ((bs.length / rs.length + 1 : Nat) : Int) := rfl
    have hrep : rs.length * (bs.length / rs.length + 1) ≤ 2000000 := by
      have := Nat.div_mul_le_self bs.length rs.length
      rw [Nat.mul_comm] at this
      rw [Nat.mul_succ]
      omega
    have hdiv : bs.length / rs.length ≤ bs.length := Nat.div_le_self _ _
    refine ⟨_, _, rfl, rfl, ⟨by omega, by omega⟩, _, _, rfl, rfl, ?_⟩
    dsimp only
    rw [ek]
    have hk0 := Int.natCast_nonneg (bs.length / rs.length + 1)
    have hk1 : ((bs.length / rs.length + 1 : Nat) : Int) ≤ 1000001 := Int.ofNat_le.mpr (show bs.length / rs.length + 1 ≤ 1000001 by omega)
    refine ⟨l2, _, _, rfl, rfl, e2, Int.le_trans (by decide) hk0, Int.lt_of_le_of_lt hk1 (by decide), ?_, fun l3 hl3 => ?_⟩
    · rw [List.length_map, Int.toNat_natCast]
      exact Nat.le_trans hrep (by decide)
    have ef : (List.replicate ((bs.length / rs.length + 1 : Nat) : Int).toNat (rs.map V.bl)).flatten = ((List.replicate (bs.length / rs.length + 1) rs).flatten).map V.bl := by
      rw [List.map_flatten, List.map_replicate]; rfl
    rw [ef]
    have s3 := s2.trans (same_new (o := .lst (((List.replicate (bs.length / rs.length + 1) rs).flatten).map V.bl)) hl3)
    have e1 := same_new (o := .lst (((List.replicate (bs.length / rs.length + 1) rs).flatten).map V.bl)) hl3 _ _ e1
    have e3 : (upd H2 l3 (.lst (((List.replicate (bs.length / rs.length + 1) rs).flatten).map V.bl))) l3 = some (.lst (((List.replicate (bs.length / rs.length + 1) rs).flatten).map V.bl)) := upd_same
    generalize upd H2 l3 (.lst (((List.replicate (bs.length / rs.length + 1) rs).flatten).map V.bl)) = H3 at s3 e1 e3 ⊢
    have hlen : bs.length ≤ (List.replicate (bs.length / rs.length + 1) rs).flatten.length := by
      rw [rep_len, Nat.mul_succ]
      have := Nat.div_add_mod bs.length rs.length
      have := Nat.mod_lt bs.length (show 0 < rs.length by omega)
      omega
    refine ⟨_, rfl, _, rfl, l3, _, rfl, .inl (.inl e3), fun l4 hl4 => ?_⟩
    rw [cut_hi _ _ hlen, rep_take hr1]
    have s4 := s3.trans (same_new (o := .lst (((List.range bs.length).map (led rs)).map V.bl)) hl4)
    have e1 := same_new (o := .lst (((List.range bs.length).map (led rs)).map V.bl)) hl4 _ _ e1
    have e4 : (upd H3 l4 (.lst (((List.range bs.length).map (led rs)).map V.bl))) l4 = some (.lst (((List.range bs.length).map (led rs)).map V.bl)) := upd_same
    generalize upd H3 l4 (.lst (((List.range bs.length).map (led rs)).map V.bl)) = H4 at s4 e1 e4 ⊢
    refine ⟨_, rfl, _, _, rfl, ?_⟩
    refine ⟨fun d σ H' => Same H H' ∧ H' l1 = some (.lst (bs.map V.bl)) ∧ H' l4 = some (.lst (((List.range bs.length).map (led rs)).map V.bl)) ∧ ∃ (lo hi : Nat) (y : Option V), σ = [some (.ref a), some (.ref b), some (.int (bs.length : Int)), some (.ref l1), some (.ref l4), some (.int (lo : Int)), some (.int (hi : Int)), y] ∧ lo ≤ s0 ∧ s0 ≤ hi ∧ hi ≤ bs.length ∧ d = hi - lo,
      ⟨bs.length, s4, e1, e4, 0, bs.length, none, rfl, Nat.zero_le _, hs0, Nat.le_refl _, rfl⟩, fun d σ H' hW => ?_⟩
    obtain ⟨s5, e1, e4, lo, hi, y, rfl, h1, h2, h3, rfl⟩ := hW
    refine ⟨_, rfl, _, rfl, _, _, rfl, rfl, _, rfl, ?_⟩
    by_cases hlt : lo < hi
    · rw [decide_eq_true (show (lo : Int) < (hi : Int) by omega)]
      refine iteT ⟨fun σ' H2 => ∃ d', d' < hi - lo ∧ (Same H H2 ∧ H2 l1 = some (.lst (bs.map V.bl)) ∧ H2 l4 = some (.lst (((List.range bs.length).map (led rs)).map V.bl)) ∧ ∃ (lo' hi' : Nat) (y : Option V), σ' = [some (.ref a), some (.ref b), some (.int (bs.length : Int)), some (.ref l1), some (.ref l4), some (.int (lo' : Int)), some (.int (hi' : Int)), y] ∧ lo' ≤ s0 ∧ s0 ≤ hi' ∧ hi' ≤ bs.length ∧ d' = hi' - lo'), fun σ' H2 h => h, ?_⟩
      refine ⟨_, rfl, _, rfl, _, _, rfl, rfl, _, _, rfl, rfl, ⟨by decide, by decide⟩, ?_⟩
      have emid : (((lo : Int) + (hi : Int)) / 2) = (((lo + hi) / 2 : Nat) : Int) := by omega
      dsimp only
      rw [emid]
      obtain ⟨mid, hmid⟩ : ∃ mid, (lo + hi) / 2 = mid := ⟨_, rfl⟩
      rw [hmid]
      have m1 : lo ≤ mid := by omega
      have m2 : mid < hi := by omega
      refine ⟨_, rfl, _, rfl, _, rfl, l1, _, rfl, .inl (.inl e1), fun l5 hl5 => ?_⟩
      rw [cut_lo bs mid (by omega)]
      have s6 := s5.trans (same_new (o := .lst ((bs.drop mid).map V.bl)) hl5)
      have e1 := same_new (o := .lst ((bs.drop mid).map V.bl)) hl5 _ _ e1
      have e4 := same_new (o := .lst ((bs.drop mid).map V.bl)) hl5 _ _ e4
      have e5 : (upd H' l5 (.lst ((bs.drop mid).map V.bl))) l5 = some (.lst ((bs.drop mid).map V.bl)) := upd_same
      generalize upd H' l5 (.lst ((bs.drop mid).map V.bl)) = H5 at s6 e1 e4 e5 ⊢
      refine ⟨_, rfl, _, rfl, _, rfl, l4, _, rfl, .inl (.inl e4), fun l6 hl6 => ?_⟩
      rw [cut_lo ((List.range bs.length).map (led rs)) mid (by rw [List.length_map, List.length_range]; omega)]
      have s7 := s6.trans (same_new (o := .lst ((((List.range bs.length).map (led rs)).drop mid).map V.bl)) hl6)
      have e1 := same_new (o := .lst ((((List.range bs.length).map (led rs)).drop mid).map V.bl)) hl6 _ _ e1
      have e4 := same_new (o := .lst ((((List.range bs.length).map (led rs)).drop mid).map V.bl)) hl6 _ _ e4
      have e5 := same_new (o := .lst ((((List.range bs.length).map (led rs)).drop mid).map V.bl)) hl6 _ _ e5
      have e6 : (upd H5 l6 (.lst ((((List.range bs.length).map (led rs)).drop mid).map V.bl))) l6 = some (.lst ((((List.range bs.length).map (led rs)).drop mid).map V.bl)) := upd_same
      generalize upd H5 l6 (.lst ((((List.range bs.length).map (led rs)).drop mid).map V.bl)) = H6 at s7 e1 e4 e5 e6 ⊢
      refine ⟨_, _, .lst (.inl (.inl e5)) (dp_bls _), .lst (.inl (.inl e6)) (dp_bls _), (sh_list (can_bls _).1 (can_bls _).2).1, (sh_list (can_bls _).1 (can_bls _).2).1, _, rfl, ?_⟩
      rw [show PyData.eqv (.list ((bs.drop mid).map PyData.bool)) (.list ((((List.range bs.length).map (led rs)).drop mid).map PyData.bool)) = decide (bs.drop mid = ((List.range bs.length).map (led rs)).drop mid) from eqv_bls _ _]
      by_cases hc : s0 ≤ mid
      · rw [decide_eq_true (drop_agree.mpr ((start_agree hS (by omega)).mpr hc))]
        exact iteT ⟨_, rfl, mid - lo, by omega, s7, e1, e4, lo, mid, _, rfl, h1, hc, by omega, rfl⟩
      · rw [decide_eq_false (fun z => hc ((start_agree hS (by omega)).mp (drop_agree.mp z)))]
        exact iteF ⟨_, rfl, _, _, rfl, rfl, hi - (mid + 1), by omega, s7, e1, e4, mid + 1, hi, _, rfl, by omega, h2, h3, rfl⟩
    · rw [decide_eq_false (show ¬ (lo : Int) < (hi : Int) by omega)]
      have e : lo = s0 := by omega
      subst e
      exact iteF ⟨_, rfl, q _ _ s5 hS⟩
end
end Ef
set_option Elab.async false
set_option linter.all false
set_option maxRecDepth 100000
set_option maxHeartbeats 4000000
namespace Ef
open PySem PySem.Spec PyProof.Rows L2
abbrev sInit : Stmt := inClass (top 20) 0
/-- the least period and the least start -/
structure Canon (bs rs : List Bool) (m s : Nat) : Prop where
  m1 : 1 ≤ m
  dvd : m ∣ rs.length
  per : PerF (led rs) m
  least : ∀ d, PerF (led rs) d → m ∣ d
  start : StartOk bs rs s
/-- the attributes -/
def wf (m s : Int) (ra ba ea la : Addr) : List (Str × V) :=
  putF "_late" (.ref la) (putF "_early" (.ref ea) (putF "below" (.ref ba) (putF "rests" (.ref ra) (putF "start" (.int s) (putF "period" (.int m) [])))))
def earlyL (bs : List Bool) (s : Nat) : List Nat := (List.range s).filter fun n => bs.getD n false
def lateL (rs : List Bool) (m s : Nat) : List Nat := ((List.range m).map fun i => s + i).filter fun n => led rs n
/-- at p a Where of the period m, the start s, the truths bs below and rs -/
def WAt (K : PySem.W.Frag) (C : Addr) (H : Hp) (p : Addr) (m s : Nat) (bs rs : List Bool) : Prop := ∃ dx ra ba ea la : Addr,
  H p = some (.ins C dx (wf m s ra ba ea la)) ∧ SqT K H ra ((rs.take m).map V.bl) ∧ SqT K H ba ((bs.take s).map V.bl) ∧ SqT K H ea ((earlyL bs s).map fun n : Nat => V.int (n : Int)) ∧ SqT K H la ((lateL rs m s).map fun n : Nat => V.int (n : Int))
theorem WAt.same {K : PySem.W.Frag} {C : Addr} {H H' : Hp} {p : Addr} {m s : Nat} {bs rs : List Bool} (h : WAt K C H p m s bs rs) (e : Same H H') : WAt K C H' p m s bs rs := by
  obtain ⟨dx, ra, ba, ea, la, h1, h2, h3, h4, h5⟩ := h
  exact ⟨dx, ra, ba, ea, la, e _ _ h1, Same.tup e h2, Same.tup e h3, Same.tup e h4, Same.tup e h5⟩
theorem nm1 : ¬ (("start" : Str) = "period") := by decide +kernel
theorem nm2 : ¬ (("rests" : Str) = "period") := by decide +kernel
theorem nm3 : ¬ (("rests" : Str) = "start") := by decide +kernel
/-- the class, what the text has of it -/
structure ClsW (K : PySem.W.Frag) (mg : Str → Option Value) (C : Addr) : Prop where
  cl : Cls K C
  mgC : mg "Where" = some (.ref C)
  nP : NoAttr K C "period"
  nS : NoAttr K C "start"
  nR : NoAttr K C "rests"
  nB : NoAttr K C "below"
  nE : NoAttr K C "_early"
  nL : NoAttr K C "_late"
structure TxtI (mg : Str → Option Value) : Prop extends TxtW mg where
  MOST_PERIOD : ∃ t, mg "MOST_PERIOD" = some (.int 720 t)
  MOST_START : ∃ t, mg "MOST_START" = some (.int 10000 t)
section
variable {P : Program} {w : World} {K : PySem.W.Frag} {mg : Str → Option Value} {base : Heap}
theorem same_mut {H0 H : Hp} {p : Addr} {o : HO} (h : Same H0 H) (hp : H0 p = none) : Same H0 (upd H p o) := fun b x e => by rw [upd_ne (ne_of_none e hp)]; exact h b x e
/-- tuple(xs[:k]) -/
theorem rd_tup {K : PySem.W.Frag} {σ : L2.St} {H : Hp} {Q : VK} {i j k : Nat} {a : Addr} {bs : List Bool} (hi : σ[i]? = some (some (.ref a))) (hj : σ[j]? = some (some (.int k))) (hB : Bls K H a bs) (hk : k ≤ bs.length)
    (q : ∀ l H', Same H H' → SqT K H' l ((bs.take k).map V.bl) → Q (.ref l) H') :
    tCB (fun xs H Q => ∃ p ys, xs = [V.ref p] ∧ ((SqL K H p ys ∧ ∀ l, H l = none → Q (.ref l) (upd H l (.tup ys))) ∨ (SqT K H p ys ∧ Q (.ref p) H)))
      (tCons (tSl (fun x lo hi H Q => rSlL K x lo hi H Q ∨ rSlA K x lo hi H Q) (tVar i) tNoPart (tPart (tVar j))) tNil) σ H Q := by
  obtain ⟨t, hT⟩ := hB.t
  refine ⟨_, hi, _, hj, _, rfl, sl_bls hT (cut_hi bs k hk) fun p H5 s5 h5 => ?_⟩
  cases t with
  | false => exact ⟨p, _, rfl, .inl ⟨h5, fun l hl => q l _ (s5.trans (same_new hl)) (.inl (.inl upd_same))⟩⟩
  | true => exact ⟨p, _, rfl, .inr ⟨h5, q p H5 s5 h5⟩⟩
theorem early_succ (bs : List Bool) (i : Nat) : (earlyL bs (i + 1)).map (fun n : Nat => V.int (n : Int)) = (earlyL bs i).map (fun n : Nat => V.int (n : Int)) ++ (if bs.getD i false = true then [V.int (i : Int)] else []) := by
  unfold earlyL
  rw [List.range_succ, List.filter_append, List.map_append]
  congr 1
  by_cases h : bs.getD i false = true
  · rw [if_pos h, show List.filter (fun n => bs.getD n false) [i] = [i] by simp only [List.filter, h]]; rfl
  · rw [if_neg h, show List.filter (fun n => bs.getD n false) [i] = [] by simp only [List.filter, Bool.eq_false_iff.mpr h]]; rfl
theorem late_succ (rs : List Bool) (m s : Nat) : (lateL rs (m + 1) s).map (fun n : Nat => V.int (n : Int)) = (lateL rs m s).map (fun n : Nat => V.int (n : Int)) ++ (if led rs (s + m) = true then [V.int ((s + m : Nat) : Int)] else []) := by
  unfold lateL
  rw [List.range_succ, List.map_append, List.filter_append, List.map_append]
  congr 1
  show List.map _ (List.filter _ [s + m]) = _
  by_cases h : led rs (s + m) = true
  · rw [if_pos h, show List.filter (fun n => led rs n) [s + m] = [s + m] by simp only [List.filter, h]]; rfl
  · rw [if_neg h, show List.filter (fun n => led rs n) [s + m] = [] by simp only [List.filter, Bool.eq_false_iff.mpr h]]; rfl
theorem early_len (bs : List Bool) (s : Nat) : (earlyL bs s).length ≤ s := by
  unfold earlyL
  refine Nat.le_trans (List.length_filter_le _ _) ?_
  rw [List.length_range]; exact Nat.le_refl s
theorem late_len (rs : List Bool) (m s : Nat) : (lateL rs m s).length ≤ m := by
  unfold lateL
  refine Nat.le_trans (List.length_filter_le _ _) ?_
  rw [List.length_map, List.length_range]; exact Nat.le_refl m
theorem led_mod {rs : List Bool} {m : Nat} (h : PerF (led rs) m) (h1 : 1 ≤ m) (hm : m ≤ rs.length) (n : Nat) : rs.getD (n % m) false = led rs n := by
  have e : n = n % m + m * (n / m) := (Nat.mod_add_div n m).symm
  conv => rhs; rw [e, h.mul (n / m)]
  unfold led
  rw [Nat.mod_eq_of_lt (Nat.lt_of_lt_of_le (Nat.mod_lt n h1) hm)]
theorem sqt_upd {K : PySem.W.Frag} {H : Hp} {a p C dx : Addr} {fs : List (Str × V)} {xs : List V} {o : HO} (h : SqT K H a xs) (hp : H p = some (.ins C dx fs)) : SqT K (upd H p o) a xs := by
  rcases h with (h | ⟨z, h⟩) | h
  · exact .inl (.inl (by rw [upd_ne (ne_of h hp (by intro q; cases q))]; exact h))
  · exact .inl (.inr ⟨z, by rw [upd_ne (ne_of h hp (by intro q; cases q))]; exact h⟩)
  · exact .inr h
def spInit (K : PySem.W.Frag) (C : Addr) : Sp := fun vs H Q _ => ∃ (H0 : Hp) (p dx a b : Addr) (bs rs : List Bool), vs = [.ref p, .ref a, .ref b] ∧ Same H0 H ∧ H0 p = none ∧ H p = some (.ins C dx []) ∧ Bls K H0 a bs ∧ Bls K H0 b rs ∧ 1 ≤ rs.length ∧ rs.length ≤ 720 ∧ bs.length ≤ 10000 ∧
  ∀ (m s : Nat) (H' : Hp), Canon bs rs m s → Same H0 H' → WAt K C H' p m s bs rs → Q .non H'
theorem scInit : FnScope ["self", "below", "rests", "period", "start", "n", "truth"] ["self", "below", "rests"] (defScope sInit) := ⟨rfl, rfl, rfl, by decide +kernel, rfl, by decide +kernel, by decide +kernel⟩
theorem lkB {m s : Int} {ra ba : Addr} : (putF "below" (V.ref ba) (putF "rests" (.ref ra) (putF "start" (.int s) (putF "period" (.int m) [])))).lookup ("below" : Str) = some (.ref ba) := by with_unfolding_all rfl
theorem ok_init {f C : Addr} {fd : FuncData} (F : Fun K "__init__" "Where.__init__" sInit f fd) (T : TxtI mg) (CW : ClsW K mg C)
    (Dcheck : Df P w K mg base 1 "_check_truths" ["truths"] (spCheck K)) (Dlper : Df P w K mg base 2 "least_period" ["row"] (spLper K)) (Dlstart : Df P w K mg base 1 "_least_start" ["below", "rests"] (spLstart K)) :
    FnOk P w K mg base CX0 3 f fd ["self", "below", "rests"] (spInit K C) := by
  refine F.ok scInit (fun vs H Q E h => ?_) (fun cdv A outer s H vs Q E hr h => ?_)
  · obtain ⟨H0, p, dx, a, b, bs, rs, rfl, _⟩ := h
    rfl
  · obtain ⟨H0, p, dx, a, b, bs, rs, rfl, s0, p0, hp, hB, hR, hr1, hr2, hb2, q⟩ := h
    obtain ⟨tMP, eMP⟩ := T.MOST_PERIOD
    obtain ⟨tMS, eMS⟩ := T.MOST_START
    refine ⟨_, (pss_cons (ps_expr (Dcheck.call (hr.mono (by decide)) (pa_cons (pv 1) pa_nil)))
      (pss_cons (ps_expr (Dcheck.call (hr.mono (by decide)) (pa_cons (pv 2) pa_nil)))
      (pss_cons (ps_if (pt_cmpR op_eq (pe_callB call_len_seq (by rfl) T.len PySem.boot_len (pa_cons (pv 2) pa_nil)) pe_int (nomark _)) (pss_one ps_never) pss_nil)
      (pss_cons (ps_set (i := 3) scInit.nd rfl (.inr rfl) (Dlper.call (hr.mono (by decide)) (pa_cons (pv 2) pa_nil)))
      (pss_cons (ps_set (i := 4) scInit.nd rfl (.inl rfl) (Dlstart.call (hr.mono (by decide)) (pa_cons (pv 1) (pa_cons (pv 2) pa_nil))))
      (pss_cons (ps_if (pt_cmpR op_gt (pv 3) (pe_glob (v := .int 720) rfl eMP ⟨_, rfl⟩) (nomark _)) (pss_one ps_never) pss_nil)
      (pss_cons (ps_if (pt_cmpR op_gt (pv 4) (pe_glob (v := .int 10000) rfl eMS ⟨_, rfl⟩) (nomark _)) (pss_one ps_never) pss_nil)
      (pss_cons (ps_fld (pv 0) (pv 3) rfl)
      (pss_cons (ps_fld (pv 0) (pv 4) rfl)
      (pss_cons (ps_fld (pv 0) (pe_callTy call_tuple_of (by rfl) T.tuple (by decide +kernel) (pa_cons (pe_slice (sl_list.or sl_tupA) (pv 2) po_none (po_some (pv 3))) pa_nil)) rfl)
      (pss_cons (ps_fld (pv 0) (pe_callTy call_tuple_of (by rfl) T.tuple (by decide +kernel) (pa_cons (pe_slice (sl_list.or sl_tupA) (pv 1) po_none (po_some (pv 4))) pa_nil)) rfl)
      (pss_cons (ps_fld (pv 0) (pe_callTy call_tuple_of (by rfl) T.tuple (by decide +kernel) (pa_cons (pe_lc (own := [("n", 5), ("truth", 6)]) (g := gTup K 2 (gCons (gName 5) (gCons (gName 6) gNil))) (by rfl) scInit.nd (pi_enumS (by rfl) T.enumerate (pa_cons (pe_fld (pv 0) rfl) pa_nil)) (blkOk_by (own := [("n", 5), ("truth", 6)]) (N := ["self", "below", "rests", "period", "start", "n", "truth"]) (sc := defScope sInit) (by decide +kernel)) (fun _ _ _ _ _ => pg_tup (by rfl) (pgs_cons (pg_name (i := 5) scInit.nd rfl (Or.inl rfl)) (pgs_cons (pg_name (i := 6) scInit.nd rfl (Or.inl rfl)) pgs_nil))) (fun _ _ _ _ _ => (pts_one (pt_val (pv 6)))) (fun _ _ _ _ _ => (pv 5))) pa_nil)) rfl)
      (pss_one (ps_fld (pv 0) (pe_callTy call_tuple_of (by rfl) T.tuple (by decide +kernel) (pa_cons (pe_lc (own := [("n", 5)]) (g := gName 5) (by rfl) scInit.nd (pi_range2 (by rfl) T.range (pa_cons (pv 4) (pa_cons (pe_op op_add (pv 4) (pv 3)) pa_nil))) (blkOk_by (own := [("n", 5)]) (N := ["self", "below", "rests", "period", "start", "n", "truth"]) (sc := defScope sInit) (by decide +kernel)) (fun _ _ _ _ _ => pg_name (i := 5) scInit.nd rfl (Or.inl rfl)) (fun _ _ _ _ _ => (pts_one (pt_val (pe_ix (show IxR _ (rIx K) from ix_seq) (pv 2) (pe_op op_mod (pv 5) (pv 3)) (fun _ _ => rfl))))) (fun _ _ _ _ _ => (pv 5))) pa_nil)) rfl)))))))))))))), ?_⟩
    refine ⟨_, rfl, a, bs, rfl, hB.same s0, fun H1 s1 => ?_⟩
    have s01 := s0.trans s1
    refine ⟨_, rfl, b, rs, rfl, hR.same s01, fun H2 s2 => ?_⟩
    have s02 := s01.trans s2
    refine ⟨_, rfl, b, _, rfl, len_bls (hR.same s02), rfl, _, rfl, ?_⟩
    rw [decide_eq_false (show ¬ V.int ((rs.map V.bl).length : Int) = V.int 0 from fun z => by
      injection z with z
      rw [List.length_map] at z
      omega)]
    refine iteF ?_
    refine ⟨_, rfl, b, rs, rfl, hR.same s02, hr1, by omega, fun m H3a m1 md mper mleast s3a => ?_⟩
    have s03a := s02.trans s3a
    refine ⟨_, rfl, _, rfl, a, b, bs, rs, rfl, hB.same s03a, hR.same s03a, hr1, by omega, by omega, fun s H3 s3b hs => ?_⟩
    have s3 := s3a.trans s3b
    have s03 := s02.trans s3
    have hm : m ≤ rs.length := Nat.le_of_dvd (by omega) md
    have hsb := hs.1
    refine ⟨_, rfl, _, _, rfl, rfl, _, rfl, ?_⟩
    rw [decide_eq_false (show ¬ (720 : Int) < (m : Int) by omega)]
    refine iteF ?_
    refine ⟨_, rfl, _, _, rfl, rfl, _, rfl, ?_⟩
    rw [decide_eq_false (show ¬ (10000 : Int) < (s : Int) by omega)]
    refine iteF ?_
    have hp3 : H3 p = some (.ins C dx []) := s3 _ _ (s2 _ _ (s1 _ _ hp))
    -- self.period, self.start
    refine ⟨_, rfl, _, rfl, p, C, dx, _, rfl, hp3, CW.cl, CW.nP, (by show 0 < 1000; decide), ?_⟩
    refine ⟨_, rfl, _, rfl, p, C, dx, _, rfl, upd_same, CW.cl, CW.nS, (by show 1 < 1000; decide), ?_⟩
    rw [upd_upd]
    have s04 : Same H0 (upd H3 p (.ins C dx (putF "start" (.int s) (putF "period" (.int m) [])))) := same_mut s03 p0
    have hp4 : (upd H3 p (.ins C dx (putF "start" (.int s) (putF "period" (.int m) [])))) p = some (.ins C dx (putF "start" (.int s) (putF "period" (.int m) []))) := upd_same
    generalize upd H3 p (.ins C dx (putF "start" (.int s) (putF "period" (.int m) []))) = H4 at s04 hp4 ⊢
    -- self.rests
    dsimp only [tSeq, sFld]
    refine rd_tup (k := m) (by rfl) (by rfl) (hR.same s04) hm fun ra H6 s6 h6 => ?_
    have s06 := s04.trans s6
    have hp6 := s6 _ _ hp4
    refine ⟨_, rfl, p, C, dx, _, rfl, hp6, CW.cl, CW.nR, (by show 2 < 1000; decide), ?_⟩
    have hra := sqt_upd (o := .ins C dx (putF "rests" (.ref ra) (putF "start" (.int s) (putF "period" (.int m) [])))) h6 hp6
    have s07 : Same H0 (upd H6 p (.ins C dx (putF "rests" (.ref ra) (putF "start" (.int s) (putF "period" (.int m) []))))) := same_mut s06 p0
    have hp7 : (upd H6 p (.ins C dx (putF "rests" (.ref ra) (putF "start" (.int s) (putF "period" (.int m) []))))) p = some (.ins C dx (putF "rests" (.ref ra) (putF "start" (.int s) (putF "period" (.int m) [])))) := upd_same
    generalize upd H6 p (.ins C dx (putF "rests" (.ref ra) (putF "start" (.int s) (putF "period" (.int m) [])))) = H7 at s07 hp7 hra ⊢
    -- self.below
    refine rd_tup (k := s) (by rfl) (by rfl) (hB.same s07) hsb fun ba H9 s79 h9 => ?_
    have hp9 := s79 _ _ hp7
    refine ⟨_, rfl, p, C, dx, _, rfl, hp9, CW.cl, CW.nB, (by show 3 < 1000; decide), ?_⟩
    have hra := sqt_upd (o := .ins C dx (putF "below" (.ref ba) (putF "rests" (.ref ra) (putF "start" (.int s) (putF "period" (.int m) []))))) (Same.tup s79 hra) hp9
    have hba := sqt_upd (o := .ins C dx (putF "below" (.ref ba) (putF "rests" (.ref ra) (putF "start" (.int s) (putF "period" (.int m) []))))) h9 hp9
    have s10 : Same H0 (upd H9 p (.ins C dx (putF "below" (.ref ba) (putF "rests" (.ref ra) (putF "start" (.int s) (putF "period" (.int m) [])))))) := same_mut (s07.trans s79) p0
    have hp10 : (upd H9 p (.ins C dx (putF "below" (.ref ba) (putF "rests" (.ref ra) (putF "start" (.int s) (putF "period" (.int m) [])))))) p = some (.ins C dx (putF "below" (.ref ba) (putF "rests" (.ref ra) (putF "start" (.int s) (putF "period" (.int m) []))))) := upd_same
    generalize upd H9 p (.ins C dx (putF "below" (.ref ba) (putF "rests" (.ref ra) (putF "start" (.int s) (putF "period" (.int m) []))))) = H10 at s10 hp10 hra hba ⊢
    -- self._early
    refine ⟨_, rfl, p, C, dx, _, _, rfl, hp10, CW.cl, CW.nB, lkB, ba, _, rfl, .inr ⟨hba, fun D hD => ?_⟩⟩
    refine lc_it walk_enumT (fun i H' => Same H10 H' ∧ H' D = some (.lst ((earlyL bs i).map fun n : Nat => V.int (n : Int)))) ⟨same_new hD, upd_same⟩ (fun i H' _ h => Same.tup h.1 hba) ?_ ?_
    · rintro i x Hx H2 hi ⟨sx, hx⟩ ⟨T, y, z, rfl, nT, rfl, ey, ez⟩
      have ei : y = .int (i : Nat) := (Option.some.inj ey).symm
      subst ei
      rw [List.length_map, List.length_take] at hi
      have his : i < s := by omega
      have ez2 : ((bs.take s).map V.bl)[i]? = some (.bl (bs.getD i false)) := by rw [List.map_take, List.getElem?_take, if_pos his, get_bls (by omega)]
      have ez3 : z = .bl (bs.getD i false) := (Option.some.inj (ez2.symm.trans ez)).symm
      subst ez3
      have sT : Same H10 (upd Hx T (.tup [.int (i : Nat), .bl (bs.getD i false)])) := sx.trans (same_new nT)
      have hT : (upd Hx T (.tup [.int (i : Nat), .bl (bs.getD i false)])) D = some (.lst ((earlyL bs i).map fun n : Nat => V.int (n : Int))) := by rw [upd_ne (ne_of_none hx nT)]; exact hx
      refine ⟨T, _, rfl, .inl (.inl upd_same), rfl, _, _, rfl, _, _, rfl, rfl, rfl, _, rfl, _, rfl, ?_⟩
      refine ite2 (fun hb => ?_) (fun hb => ?_)
      · refine ⟨_, rfl, _, hT, by rw [List.length_map]; exact small1000' (Nat.le_trans (early_len bs i) (by omega)), same_mut sT hD, ?_⟩
        rw [upd_same, early_succ, if_pos hb]
      · refine ⟨sT, ?_⟩
        rw [hT, early_succ, if_neg hb, List.append_nil]
    · rintro H11 ⟨s11, h11⟩
      rw [List.length_map, List.length_take, Nat.min_eq_left hsb] at h11
      refine ⟨D, _, rfl, .inl ⟨.inl (.inl h11), fun ea hea => ?_⟩⟩
      have s12 := s11.trans (same_new (o := .tup ((earlyL bs s).map fun n : Nat => V.int (n : Int))) hea)
      have hea2 : SqT K (upd H11 ea (.tup ((earlyL bs s).map fun n : Nat => V.int (n : Int)))) ea ((earlyL bs s).map fun n : Nat => V.int (n : Int)) := .inl (.inl upd_same)
      generalize upd H11 ea (.tup ((earlyL bs s).map fun n : Nat => V.int (n : Int))) = H12 at s12 hea2 ⊢
      have hp12 := s12 _ _ hp10
      refine ⟨_, rfl, p, C, dx, _, rfl, hp12, CW.cl, CW.nE, (by show 4 < 1000; decide), ?_⟩
      have hra := sqt_upd (o := .ins C dx (putF "_early" (.ref ea) (putF "below" (.ref ba) (putF "rests" (.ref ra) (putF "start" (.int s) (putF "period" (.int m) [])))))) (Same.tup s12 hra) hp12
      have hba := sqt_upd (o := .ins C dx (putF "_early" (.ref ea) (putF "below" (.ref ba) (putF "rests" (.ref ra) (putF "start" (.int s) (putF "period" (.int m) [])))))) (Same.tup s12 hba) hp12
      have hea := sqt_upd (o := .ins C dx (putF "_early" (.ref ea) (putF "below" (.ref ba) (putF "rests" (.ref ra) (putF "start" (.int s) (putF "period" (.int m) [])))))) hea2 hp12
      have s13 : Same H0 (upd H12 p (.ins C dx (putF "_early" (.ref ea) (putF "below" (.ref ba) (putF "rests" (.ref ra) (putF "start" (.int s) (putF "period" (.int m) []))))))) := same_mut (s10.trans s12) p0
      have hp13 : (upd H12 p (.ins C dx (putF "_early" (.ref ea) (putF "below" (.ref ba) (putF "rests" (.ref ra) (putF "start" (.int s) (putF "period" (.int m) []))))))) p = some (.ins C dx (putF "_early" (.ref ea) (putF "below" (.ref ba) (putF "rests" (.ref ra) (putF "start" (.int s) (putF "period" (.int m) [])))))) := upd_same
      generalize upd H12 p (.ins C dx (putF "_early" (.ref ea) (putF "below" (.ref ba) (putF "rests" (.ref ra) (putF "start" (.int s) (putF "period" (.int m) [])))))) = H13 at s13 hp13 hra hba hea ⊢
      -- self._late
      refine ⟨_, rfl, _, rfl, _, rfl, _, _, rfl, rfl, _, _, rfl, ⟨by omega, by omega, by omega, by omega⟩, fun D2 hD2 => ?_⟩
      have en : ((((s : Nat) : Int) + ((m : Nat) : Int)) - ((s : Nat) : Int)).toNat = m := by omega
      rw [en]
      refine lc_range (lo := (s : Int)) (n := m) (fun i H' => Same H13 H' ∧ H' D2 = some (.lst ((lateL rs i s).map fun n : Nat => V.int (n : Int)))) ⟨same_new hD2, upd_same⟩ ?_ ?_
      · rintro i Hx hi ⟨sx, hx⟩
        have e0 : (((s : Nat) : Int) + ((i : Nat) : Int)) = ((s + i : Nat) : Int) := rfl
        have em : (((s : Int) + (i : Int)) % ((m : Nat) : Int)).toNat = (s + i) % m := by rw [← Int.natCast_add, ← Int.natCast_emod]; rfl
        have h0 := Int.emod_nonneg ((s : Int) + (i : Int)) (show (m : Int) ≠ 0 by omega)
        have h1 := Int.emod_lt_of_pos ((s : Int) + (i : Int)) (show (0 : Int) < (m : Int) by omega)
        refine ⟨rfl, _, rfl, _, rfl, _, rfl, _, _, rfl, rfl, show (0 : Int) < (m : Int) by omega, ix_bls (hR.same (s13.trans sx)) h0 (by omega) ⟨_, rfl, ?_⟩⟩
        rw [em, led_mod mper m1 hm]
        refine ite2 (fun hb => ?_) (fun hb => ?_)
        · refine ⟨_, rfl, _, hx, by rw [List.length_map]; exact small1000' (Nat.le_trans (late_len rs i s) (by omega)), same_mut sx hD2, ?_⟩
          rw [upd_same, late_succ, if_pos hb]
          rfl
        · refine ⟨sx, ?_⟩
          rw [hx, late_succ, if_neg hb, List.append_nil]
      · rintro H14 ⟨s14, h14⟩
        refine ⟨D2, _, rfl, .inl ⟨.inl (.inl h14), fun la hla => ?_⟩⟩
        have s15 := s14.trans (same_new (o := .tup ((lateL rs m s).map fun n : Nat => V.int (n : Int))) hla)
        have hla2 : SqT K (upd H14 la (.tup ((lateL rs m s).map fun n : Nat => V.int (n : Int)))) la ((lateL rs m s).map fun n : Nat => V.int (n : Int)) := .inl (.inl upd_same)
        generalize upd H14 la (.tup ((lateL rs m s).map fun n : Nat => V.int (n : Int))) = H15 at s15 hla2 ⊢
        have hp15 := s15 _ _ hp13
        refine ⟨_, rfl, p, C, dx, _, rfl, hp15, CW.cl, CW.nL, (by show 5 < 1000; decide), ?_⟩
        exact q m s _ ⟨m1, md, mper, mleast, hs⟩ (same_mut (s13.trans s15) p0) ⟨dx, ra, ba, ea, la, upd_same, sqt_upd (Same.tup s15 hra) hp15, sqt_upd (Same.tup s15 hba) hp15, sqt_upd (Same.tup s15 hea) hp15, sqt_upd hla2 hp15⟩
end
end Ef
set_option Elab.async false
set_option linter.all false
set_option maxRecDepth 100000
set_option maxHeartbeats 2000000
/-! in, not, bool(..) by a class's own methods; a class that a local name holds, called -/
namespace Ef
open PySem PySem.Spec PyProof.Rows L2
/-- the class at C has its own method m: the def at f, which keeps sp -/
structure Own (P : Program) (w : World) (K : PySem.W.Frag) (mg : Str → Option Value) (base : Heap) (k : Nat) (C : Addr) (m : Str) (ps : List Str) (sp : Sp) : Prop where
  ex : ∃ f fd, PySem.W.findIn K (.ref C) m = some (some (.ref f)) ∧ PySem.W.isFn K (.ref f) = true ∧ PySem.W.typeIn K (.ref f) = some (.type "function") ∧ PySem.W.keepIn K (.ref f) = true ∧ Binds K fd ps [] ∧ FnOk P w K mg base CX0 k f fd ps sp
section
variable {X : Cx} {pins : List (Addr × Obj)} {σ : L2.St} {H : Hp} {s : Shared} {Q : VK} {k : Nat} {C a dx : Addr} {fs : List (Str × V)} {m : Str} {ps : List Str} {sp : Sp} {A : Around} {E' : Value → Shared → Prop}
/-- the call of a def from below the body that runs -/
theorem run_low {f : Addr} {fd : FuncData} {us : List Value} {vs : List V} (F : FnOk X.prog X.w X.K X.mg X.base CX0 k f fd ps sp) (hr : Room k A) (hfr : A.frames = X.A.frames) (hb : Binds X.K fd ps []) (I : Inv X pins σ H s) (r : Vals vs us) (h : sp vs H Q E0) :
    wpAny (model X.prog X.w) A (call (.ref f) us) (EP X pins σ Q) E' s := by
  have e0 : Env0 X.prog X.w X.K X.mg X.base A X.stack s H := by
    have e := I.env0
    exact ⟨hfr.trans e.frames, e.mod, e.bs, e.bsz, e.funs, e.frf, e.hok, e.bare⟩
  have hl : (us ++ []).length = ps.length := by rw [List.append_nil, ← r.length]; exact F.len _ _ _ _ h
  have hbt := hb s us I.kIn hl
  rw [List.append_nil] at hbt
  refine wpAny_call (codeAny_mono (F.run A X.stack s H ⟨us, []⟩ us vs Q E0 hr e0 hbt r h) fun res s' hq => ?_)
  cases res with
  | error e => exact False.elim hq
  | ok fl =>
    cases fl with
    | ret u => exact I.after hq
    | next => exact False.elim hq
    | brk => exact False.elim hq
    | cont => exact False.elim hq
/-- callSpecial? of such a method -/
theorem own_special {args : List Value} {vs : List V} {R : Option Value → Shared → Prop} (O : Own X.prog X.w X.K X.mg X.base k C m ps sp) (hr : Room k A) (hfr : A.frames = X.A.frames) (I : Inv X pins σ H s) (ea : H a = some (.ins C dx fs)) (r : Vals vs args)
    (h : sp (.ref a :: vs) H Q E0) (hR : ∀ u s', EP X pins σ Q u s' → R (some u) s') : wpAny (model X.prog X.w) A (callSpecial? (.ref a) m args) R E' s := by
  obtain ⟨f, fd, hf, hi, ht, hk, hb, F⟩ := O.ex
  obtain ⟨mA, OM, _⟩ := ins_get I.hok ea
  obtain ⟨od, J, _⟩ := OM.look
  refine PySem.W.special_fn I.kIn J hf ht ?_
  exact wpAny_mono (run_low (us := .ref a :: args) (vs := .ref a :: vs) F hr hfr hb I (.cons rfl r) h) (fun u s' z => hR u s' z) fun _ _ z => z
theorem own_unless {args : List Value} {vs : List V} {refuse : Sem Value} {R : Option Value → Shared → Prop} (O : Own X.prog X.w X.K X.mg X.base k C m ps sp) (hr : Room k A) (hfr : A.frames = X.A.frames) (I : Inv X pins σ H s) (ea : H a = some (.ins C dx fs)) (r : Vals vs args)
    (h : sp (.ref a :: vs) H Q E0) (hR : ∀ u s', EP X pins σ Q u s' → R (some u) s') : wpAny (model X.prog X.w) A (callSpecialUnlessNone? (.ref a) m args refuse) R E' s := by
  obtain ⟨f, fd, hf, hi, ht, hk, hb, F⟩ := O.ex
  obtain ⟨mA, OM, _⟩ := ins_get I.hok ea
  obtain ⟨od, J, _⟩ := OM.look
  unfold callSpecialUnlessNone? specialOf
  refine wpAny_bind (wpAny_bind (J.type.here ((PySem.W.looks_findIn I.kIn hf).here ?_)))
  refine wpAny_holding (wpAny_bind ((PySem.W.bind_fn I.kIn _ ht).here ?_))
  show wpAny _ _ (if (Value.ref f == Value.none) = true then _ else _) _ _ _
  rw [if_neg (show ¬ ((Value.ref f == Value.none) = true) from Bool.false_ne_true)]
  refine wpAny_bind (wpAny_mono (run_low (us := .ref a :: args) (vs := .ref a :: vs) F hr hfr hb I (.cons rfl r) h) (fun u s' z => wpAny_pure (hR u s' z)) fun _ _ z => z)
/-- x in o, x not in o, by o's own __contains__ -/
def rOwnIn (C : Addr) (sp : Sp) (neg : Bool) : R2 := fun x y H Q => ∃ (a dx : Addr) (fs : List (Str × V)), y = .ref a ∧ H a = some (.ins C dx fs) ∧ sp [.ref a, x] H (fun v H' => ∃ b, v = .bl b ∧ Q (.bl (if neg = true then !b else b)) H') E0
theorem contains_own {x : V} {u : Value} {R : Bool → Shared → Prop} {Qb : Bool → Hp → Prop} (O : Own X.prog X.w X.K X.mg X.base k C "__contains__" ps sp) (hr : Room k A) (hfr : A.frames = X.A.frames) (I : Inv X pins σ H s) (ea : H a = some (.ins C dx fs)) (r : RelV x u)
    (h : sp [.ref a, x] H (fun v H' => ∃ b, v = .bl b ∧ Qb b H') E0) (hR : ∀ b H' s', Inv X pins σ H' s' → Qb b H' → R b s') : wpAny (model X.prog X.w) A (contains (.ref a) u) R E' s := by
  obtain ⟨f, fd, hf, _⟩ := id O.ex
  obtain ⟨mA, OM, _⟩ := ins_get I.hok ea
  obtain ⟨od, J, _⟩ := OM.look
  unfold contains
  refine wpAny_holding ?_
  have e1 : stdlibNamesSay? (.ref a) u = none := by cases u <;> rfl
  rw [e1]
  dsimp only
  refine wpAny_bind ?_
  unfold specialOf
  refine wpAny_bind (J.type.here ((PySem.W.looks_findIn I.kIn hf).here ?_))
  show wpAny _ _ (if (some (Value.ref f) == some Value.none) = true then _ else _) _ _ _
  rw [if_neg (show ¬ ((some (Value.ref f) == some Value.none) = true) from Bool.false_ne_true)]
  refine wpAny_bind (own_unless (vs := [x]) O hr hfr I ea (.cons r .nil) h fun w' s' hz => ?_)
  obtain ⟨v, H', I', rv, b, rfl, q⟩ := hz
  cases rv
  exact wpAny_truthy_bool (hR b H' s' I' q)
theorem op_in_own (O : Own X.prog X.w X.K X.mg X.base k C "__contains__" ps sp) (hr : Room k X.A) : OpR X (compareOp .In) (rOwnIn C sp false) := by
  intro pins s σ H x y v u Q I rx ry h
  obtain ⟨a, dx, fs, rfl, ea, q⟩ := h
  cases ry
  show wpAny _ _ (contains (.ref a) v >>= fun z => pure (Value.bool z)) _ _ _
  exact wpAny_bind (contains_own O hr rfl I ea rx q fun b H' s' I' z => wpAny_pure ⟨.bl b, H', I', rfl, z⟩)
theorem op_notin_own (O : Own X.prog X.w X.K X.mg X.base k C "__contains__" ps sp) (hr : Room k X.A) : OpR X (compareOp .NotIn) (rOwnIn C sp true) := by
  intro pins s σ H x y v u Q I rx ry h
  obtain ⟨a, dx, fs, rfl, ea, q⟩ := h
  cases ry
  show wpAny _ _ (contains (.ref a) v >>= fun z => pure (Value.bool (!z))) _ _ _
  exact wpAny_bind (contains_own O hr rfl I ea rx q fun b H' s' I' z => wpAny_pure ⟨.bl (!b), H', I', rfl, z⟩)
/-- truth by an own __bool__ -/
theorem truthy_own {R : Bool → Shared → Prop} {Qb : Bool → Hp → Prop} (O : Own X.prog X.w X.K X.mg X.base k C "__bool__" ps sp) (hr : Room k A) (hfr : A.frames = X.A.frames) (I : Inv X pins σ H s) (ea : H a = some (.ins C dx fs))
    (h : sp [.ref a] H (fun v H' => ∃ b, v = .bl b ∧ Qb b H') E0) (hR : ∀ b H' s', Inv X pins σ H' s' → Qb b H' → R b s') : wpAny (model X.prog X.w) A (truthy (.ref a)) R E' s := by
  unfold truthy
  refine wpAny_bind (own_special (vs := []) (args := []) O hr hfr I ea .nil h fun w' s' hz => ?_)
  obtain ⟨v, H', I', rv, b, rfl, q⟩ := hz
  cases rv
  exact wpAny_pure (hR b H' s' I' q)
def rOwnTr (C : Addr) (sp : Sp) : V → Hp → (Bool → Hp → Prop) → Prop := fun x H Q => ∃ (a dx : Addr) (fs : List (Str × V)), x = .ref a ∧ H a = some (.ins C dx fs) ∧ sp [.ref a] H (fun v H' => ∃ b, v = .bl b ∧ Q b H') E0
/-- not o -/
theorem un_not_own (O : Own X.prog X.w X.K X.mg X.base k C "__bool__" ps sp) (hr : Room k X.A) : UnR X (unaryOp .Not) (fun x H Q => rOwnTr C sp x H fun b H' => Q (.bl (!b)) H') := by
  intro pins s σ H x v Q I rx h
  obtain ⟨a, dx, fs, rfl, ea, q⟩ := h
  cases rx
  unfold unaryOp
  refine wpAny_holding ?_
  show wpAny _ _ (truthy (.ref a) >>= fun z => pure (Value.bool (!z))) _ _ _
  exact wpAny_bind (truthy_own O hr rfl I ea q fun b H' s' I' z => wpAny_pure ⟨.bl (!b), H', I', rfl, z⟩)
theorem mono_truthy {M : Model} {E1 : Value → Shared → Prop} {x : Value} {R R' : Bool → Shared → Prop} (h : wpAny M A (truthy x) R E1 s) (hR : ∀ b s', R b s' → R' b s') : wpAny M A (truthy x) R' E1 s := wpAny_mono h (fun b s' z => hR b s' z) fun _ _ z => z
theorem bool_new_in (prog : Program) (w : World) (a : Addr) : MeetsIn prog w (Builtin.«bool.__new__» ⟨[.type "bool", .ref a], []⟩)
    (fun A R s => wpAny (model prog w) A.in1 (truthy (.ref a)) (fun b s' => R (.ok (.ret (.bool b))) s') (fun e s' => R (.error e) s') s) :=
  MeetsIn.of_wp fun A R s hs => by
    have f1 := F.conv_sub_bool
    repeat (any_goals (first | (with_reducible refine mono_truthy hs fun b s' hz => ?_) | wp_step))
    all_goals first | exact ⟨_, rfl, by assumption⟩ | skip
/-- bool(o) -/
theorem call_bool_own (O : Own X.prog X.w X.K X.mg X.base k C "__bool__" ps sp) (hr : Room (k + 2) X.A) : CallR X (.type "bool") (fun xs H Q => ∃ x, xs = [x] ∧ rOwnTr C sp x H fun b H' => Q (.bl b) H') := by
  intro pins s σ H xs us Q I r h
  obtain ⟨x, rfl, a, dx, fs, rfl, ea, q⟩ := h
  obtain rfl := Vals.ref1 r
  refine callType_newIn F.called_bool F.newNe_bool (F.typeCall_bool_1 _) (F.newCall_bool_1 _) (fun obj => F.args_object_init_2 obj _) F.entry_bool_new (bool_new_in X.prog X.w a) ?_
  exact truthy_own O hr.in1.in1 rfl I ea q fun b H' s' I' z => ⟨rfl, .bl b, H', I', rfl, z⟩
/-- C(e, ..) by a local name that holds the class -/
def tMakeL (i : Nat) (C : Addr) (sp : Sp) (t : TA) : TE := fun σ H Q => σ[i]? = some (some (.ref C)) ∧ tMake C sp [] E0 t σ H Q
theorem pe_makeL {f : Addr} {fd : FuncData} {i : Nat} {x : Str} {p pos : Pos} {e : Expr} {es : List Expr} {t : TA} (M : Mk X.K C f) (F : FnOk X.prog X.w X.K X.mg X.base CX0 k f fd ps sp) (hr : Room (k + 1) X.A) (hb : Binds X.K fd ps []) (ha : PA X (e :: es) t)
    (hN : X.N[i]? = some x := by rfl) (hv : Vis X.env.scope x := by first | exact Or.inl rfl | exact Or.inr (Or.inl rfl) | exact Or.inr (Or.inr rfl))
    (hdb : (x == ("__debug__" : Str)) = false := by decide) (hcd : (x == ("__classdict__" : Str)) = false := by decide)
    (hst : starEach (e :: es) X.env = (false, eval e X.env) :: starEach es X.env := by rfl) (hpl : (backTo pos (starEach es X.env)).any (·.1) = false := by rfl) : PE X (.Call (.Name x p) (e :: es) [] pos) (tMakeL i C sp t) := by
  refine ⟨fun pins s σ H Q I h => ?_⟩
  obtain ⟨hs, ht⟩ := h
  have hx := pe_var (X := X) (pos := p) hN hv hdb hcd
  refine wpAny_Call_Name_kw (thn (hx.run pins s σ H (fun v H1 => v = .ref C ∧ H1 = H) I ⟨.ref C, hs, rfl, rfl⟩) fun u s1 ⟨v, H1, I1, r1, q1⟩ => ?_)
  obtain ⟨rfl, rfl⟩ := q1
  cases r1
  exact PySem.W.callWith_K (h₀ := X.base) I.ok.mod.kin M.kp (thn (ha.run pos pins s1 σ _ _ I1 ht) fun us s2 ⟨vs, H2, I2, r, q⟩ => ⟨I2.kIn, run_make M F hr hb .nil pass0 I2 r q⟩) hst hpl
end
end Ef
set_option Elab.async false
set_option linter.all false
set_option maxRecDepth 100000
set_option maxHeartbeats 4000000
namespace Ef
open PySem PySem.Spec PyProof.Rows L2
abbrev sOf : Stmt := inClass (top 20) 1
abbrev sSince : Stmt := inClass (top 20) 2
abbrev sContains : Stmt := inClass (top 20) 5
abbrev sBool : Stmt := inClass (top 20) 6
/-- at p the set of the truths bs below and rs -/
def Whr (K : PySem.W.Frag) (C : Addr) (H : Hp) (p : Addr) (bs rs : List Bool) : Prop := 1 ≤ rs.length ∧ ∃ m s, Canon bs rs m s ∧ WAt K C H p m s bs rs
theorem Whr.same {K : PySem.W.Frag} {C : Addr} {H H' : Hp} {p : Addr} {bs rs : List Bool} (h : Whr K C H p bs rs) (e : Same H H') : Whr K C H' p bs rs := by
  obtain ⟨h1, m, s, hc, hw⟩ := h
  exact ⟨h1, m, s, hc, hw.same e⟩
theorem lk_ne {f g : Str} {v : V} {fs : List (Str × V)} (h : ¬ g = f) : (putF f v fs).lookup g = fs.lookup g := by rw [lookup_putF, if_neg h]
theorem lk_eq {f : Str} {v : V} {fs : List (Str × V)} : (putF f v fs).lookup f = some v := by rw [lookup_putF, if_pos rfl]
section
variable {m s : Int} {ra ba ea la : Addr}
theorem wf_late : (wf m s ra ba ea la).lookup ("_late" : Str) = some (.ref la) := lk_eq
theorem wf_early : (wf m s ra ba ea la).lookup ("_early" : Str) = some (.ref ea) := (lk_ne (by decide +kernel)).trans lk_eq
theorem wf_below : (wf m s ra ba ea la).lookup ("below" : Str) = some (.ref ba) := (lk_ne (by decide +kernel)).trans ((lk_ne (by decide +kernel)).trans lk_eq)
theorem wf_rests : (wf m s ra ba ea la).lookup ("rests" : Str) = some (.ref ra) := (lk_ne (by decide +kernel)).trans ((lk_ne (by decide +kernel)).trans ((lk_ne (by decide +kernel)).trans lk_eq))
theorem wf_start : (wf m s ra ba ea la).lookup ("start" : Str) = some (.int s) := (lk_ne (by decide +kernel)).trans ((lk_ne (by decide +kernel)).trans ((lk_ne (by decide +kernel)).trans ((lk_ne (by decide +kernel)).trans lk_eq)))
theorem wf_period : (wf m s ra ba ea la).lookup ("period" : Str) = some (.int m) :=
  (lk_ne (by decide +kernel)).trans ((lk_ne (by decide +kernel)).trans ((lk_ne (by decide +kernel)).trans ((lk_ne (by decide +kernel)).trans ((lk_ne (by decide +kernel)).trans lk_eq))))
end
/-- n from 0 on is in the set exactly if .. -/
theorem Canon.below {bs rs : List Bool} {m s : Nat} (h : Canon bs rs m s) {n : Nat} (hn : n < s) : (bs.take s).getD n false = mtruth bs rs n := by
  have hs := h.start.1
  unfold mtruth
  rw [if_pos (by omega), List.getD_eq_getElem?_getD, List.getD_eq_getElem?_getD, List.getElem?_take, if_pos hn]
  rfl
theorem Canon.above {bs rs : List Bool} {m s : Nat} (h : Canon bs rs m s) (hr : 1 ≤ rs.length) {n : Nat} (hn : s ≤ n) : (rs.take m).getD (n % m) false = mtruth bs rs n := by
  have hm : m ≤ rs.length := Nat.le_of_dvd (by omega) h.dvd
  have hlt := Nat.mod_lt n (show 0 < m from h.m1)
  have e1 : (rs.take m).getD (n % m) false = led rs n := by
    rw [← led_mod h.per h.m1 hm n, List.getD_eq_getElem?_getD, List.getD_eq_getElem?_getD, List.getElem?_take, if_pos hlt]
  rw [e1]
  unfold mtruth
  by_cases hb : n < bs.length
  · rw [if_pos (by omega)]
    exact (h.start.2.1 n hn hb).symm
  · rw [if_neg (by omega)]
    rfl
theorem mem_take {bs : List Bool} {b : Bool} {k : Nat} : (bs.take k).contains b = true ↔ ∃ n, n < k ∧ n < bs.length ∧ bs.getD n false = b := by
  rw [List.contains_iff_mem, List.mem_iff_getElem?]
  constructor
  · rintro ⟨n, hn⟩
    rw [List.getElem?_take] at hn
    by_cases hk : n < k
    · rw [if_pos hk] at hn
      have hl : n < bs.length := by
        rcases Nat.lt_or_ge n bs.length with z | z
        · exact z
        · rw [List.getElem?_eq_none z] at hn; cases hn
      exact ⟨n, hk, hl, by rw [List.getD_eq_getElem?_getD, hn]; rfl⟩
    · rw [if_neg hk] at hn; cases hn
  · rintro ⟨n, hk, hl, e⟩
    refine ⟨n, ?_⟩
    rw [List.getElem?_take, if_pos hk, List.getElem?_eq_getElem hl]
    rw [List.getD_eq_getElem?_getD, List.getElem?_eq_getElem hl] at e
    exact congrArg some e
theorem mem_all {bs : List Bool} {b : Bool} : bs.contains b = true ↔ ∃ n, n < bs.length ∧ bs.getD n false = b := by
  have h := mem_take (bs := bs) (b := b) (k := bs.length)
  rw [List.take_length] at h
  rw [h]
  exact ⟨fun ⟨n, _, h1, h2⟩ => ⟨n, h1, h2⟩, fun ⟨n, h1, h2⟩ => ⟨n, h1, h1, h2⟩⟩
/-- the set has a member -/
theorem Canon.any {bs rs : List Bool} {m s : Nat} (h : Canon bs rs m s) (hr : 1 ≤ rs.length) : ((bs.take s).contains true || (rs.take m).contains true) = (bs.contains true || rs.contains true) := by
  have hm : m ≤ rs.length := Nat.le_of_dvd (by omega) h.dvd
  have hs := h.start.1
  rw [Bool.eq_iff_iff, Bool.or_eq_true, Bool.or_eq_true, mem_take, mem_take, mem_all, mem_all]
  constructor
  · rintro (⟨n, _, h2, h3⟩ | ⟨n, _, h2, h3⟩)
    · exact .inl ⟨n, h2, h3⟩
    · exact .inr ⟨n, h2, h3⟩
  · rintro (⟨n, h2, h3⟩ | ⟨n, h2, h3⟩)
    · by_cases hn : n < s
      · exact .inl ⟨n, hn, h2, h3⟩
      · rw [h.start.2.1 n (by omega) h2] at h3
        have hlt := Nat.mod_lt n (show 0 < m from h.m1)
        exact .inr ⟨n % m, hlt, by omega, by rw [led_mod h.per h.m1 hm n]; exact h3⟩
    · have e : led rs n = rs.getD n false := by unfold led; rw [Nat.mod_eq_of_lt h2]
      have hlt := Nat.mod_lt n (show 0 < m from h.m1)
      exact .inr ⟨n % m, hlt, by omega, by rw [led_mod h.per h.m1 hm n, e]; exact h3⟩
section
variable {P : Program} {w : World} {K : PySem.W.Frag} {mg : Str → Option Value} {base : Heap}
/-! ### __contains__ -/
def spContains (K : PySem.W.Frag) (C : Addr) : Sp := fun vs H Q _ => ∃ (p : Addr) (x : V) (bs rs : List Bool), vs = [.ref p, x] ∧ Whr K C H p bs rs ∧ ((∃ n : Int, x = .int n ∧ Q (.bl (decide (0 ≤ n) && mtruth bs rs n)) H) ∨ (NotInt K H x ∧ Q (.bl false) H))
theorem scContains : FnScope ["self", "x"] ["self", "x"] (defScope sContains) := ⟨rfl, rfl, rfl, by decide +kernel, rfl, by decide +kernel, by decide +kernel⟩
theorem ok_contains {f C : Addr} {fd : FuncData} (F : Fun K "__contains__" "Where.__contains__" sContains f fd) (CW : ClsW K mg C) (Disfrom : Df P w K mg base 2 "is_int_from" ["value", "low"] (spFrom K)) :
    FnOk P w K mg base CX0 3 f fd ["self", "x"] (spContains K C) := by
  refine F.ok scContains (fun vs H Q E h => ?_) (fun cdv A outer s H vs Q E hr h => ?_)
  · obtain ⟨p, x, bs, rs, rfl, _⟩ := h
    rfl
  · obtain ⟨p, x, bs, rs, rfl, ⟨hr1, m, s, hc, dx, ra, ba, ea, la, hp, hra, hba, hea, hla⟩, q⟩ := h
    refine ⟨_, (pss_cons (ps_if (pt_not (pt_val (Disfrom.call (hr.mono (by decide)) (pa_cons (pv 1) (pa_cons pe_int pa_nil))))) (pss_one (ps_ret pe_bl)) pss_nil)
      (pss_one (ps_ret (pe_ifExp (pt_cmpR op_lt (pv 1) (pe_fld (pv 0) rfl) (nomark _)) (pe_ix ix_tup (pe_fld (pv 0) rfl) (pv 1) (fun _ _ => rfl)) (pe_ix ix_tup (pe_fld (pv 0) rfl) (pe_op op_mod (pv 1) (pe_fld (pv 0) rfl)) (fun _ _ => rfl)))))), ?_⟩
    rcases q with ⟨n, rfl, q⟩ | ⟨hn, q⟩
    · refine ⟨_, rfl, _, 0, rfl, .inl ⟨n, rfl, _, rfl, ?_⟩⟩
      by_cases h0 : 0 ≤ n
      · rw [decide_eq_true h0, Bool.true_and] at q
        rw [decide_eq_true h0]
        refine iteF ?_
        refine ⟨_, rfl, _, rfl, p, C, dx, _, _, rfl, hp, CW.cl, CW.nS, wf_start, _, _, rfl, rfl, _, rfl, ?_⟩
        obtain ⟨k, rfl⟩ : ∃ k : Nat, n = k := ⟨n.toNat, (Int.toNat_of_nonneg h0).symm⟩
        have hs := hc.start.1
        have hm : m ≤ rs.length := Nat.le_of_dvd (by omega) hc.dvd
        by_cases hks : k < s
        · rw [decide_eq_true (show (k : Int) < (s : Int) by omega)]
          refine iteT ⟨_, rfl, p, C, dx, _, _, rfl, hp, CW.cl, CW.nB, wf_below, _, rfl, ba, _, _, _, rfl, rfl, hba, atI_nat (get_bls (by rw [List.length_take]; omega)), ?_⟩
          rw [hc.below hks]
          exact q
        · rw [decide_eq_false (show ¬ (k : Int) < (s : Int) by omega)]
          refine iteF ⟨_, rfl, p, C, dx, _, _, rfl, hp, CW.cl, CW.nR, wf_rests, _, rfl, _, rfl, p, C, dx, _, _, rfl, hp, CW.cl, CW.nP, wf_period, _, _, rfl, rfl, show (0 : Int) < (m : Int) by have := hc.m1; omega, ra, _, _, _, rfl, rfl, hra, atI_nat (j := k % m) (get_bls (by
            have := Nat.mod_lt k (show 0 < m from hc.m1)
            rw [List.length_take]; omega)), ?_⟩
          rw [hc.above hr1 (by omega)]
          exact q
      · rw [decide_eq_false h0, Bool.false_and] at q
        rw [decide_eq_false h0]
        exact iteT q
    · refine ⟨_, rfl, _, 0, rfl, .inr ⟨hn, _, rfl, ?_⟩⟩
      exact iteT q
/-! ### __bool__ -/
def spBool (K : PySem.W.Frag) (C : Addr) : Sp := fun vs H Q _ => ∃ (p : Addr) (bs rs : List Bool), vs = [.ref p] ∧ Whr K C H p bs rs ∧ Q (.bl (bs.contains true || rs.contains true)) H
theorem scBool : FnScope ["self"] ["self"] (defScope sBool) := ⟨rfl, rfl, rfl, by decide +kernel, rfl, by decide +kernel, by decide +kernel⟩
theorem ok_bool {f C : Addr} {fd : FuncData} (F : Fun K "__bool__" "Where.__bool__" sBool f fd) (CW : ClsW K mg C) : FnOk P w K mg base CX0 1 f fd ["self"] (spBool K C) := by
  refine F.ok scBool (fun vs H Q E h => ?_) (fun cdv A outer s H vs Q E hr h => ?_)
  · obtain ⟨p, bs, rs, rfl, _⟩ := h
    rfl
  · obtain ⟨p, bs, rs, rfl, ⟨hr1, m, s, hc, dx, ra, ba, ea, la, hp, hra, hba, hea, hla⟩, q⟩ := h
    rw [← hc.any hr1] at q
    refine ⟨_, (pss_one (ps_ret (pe_or (pe_cmpR op_in_seq pe_bl (pe_fld (pv 0) rfl) (by rfl)) (pe_one (pe_cmpR op_in_seq pe_bl (pe_fld (pv 0) rfl) (by rfl)))))), ?_⟩
    refine ⟨_, rfl, p, C, dx, _, _, rfl, hp, CW.cl, CW.nB, wf_below, ba, _, rfl, .inr hba, rfl, flat_bls _, _, rfl, ?_⟩
    rw [inV_bls, if_neg Bool.false_ne_true]
    refine ite2 (fun hb => ?_) (fun hb => ?_)
    · rw [hb] at q
      exact q
    · rw [Bool.eq_false_iff.mpr hb, Bool.false_or] at q
      refine ⟨_, rfl, p, C, dx, _, _, rfl, hp, CW.cl, CW.nR, wf_rests, ra, _, rfl, .inr hra, rfl, flat_bls _, ?_⟩
      rw [inV_bls, if_neg Bool.false_ne_true]
      exact q
end
end Ef
set_option Elab.async false
set_option linter.all false
set_option maxRecDepth 100000
set_option maxHeartbeats 4000000
namespace Ef
open PySem PySem.Spec PyProof.Rows L2
theorem same_inst {H : Hp} {x dx C : Addr} {fs : List (Str × V)} (nx : H x = none) (nd : H dx = none) : Same H (upd (upd H dx (.own x)) x (.ins C dx fs)) := fun b o e => by
  rw [upd_ne (ne_of_none e nx), upd_ne (ne_of_none e nd)]
  exact e
/-- the truths of the set of the given members -/
def ofL (ms : List Int) (k : Nat) : List Bool := (List.range k).map fun n : Nat => decide ((n : Int) ∈ ms)
section
variable {P : Program} {w : World} {K : PySem.W.Frag} {mg : Str → Option Value} {base : Heap}
/-! ### _law_where -/
def spWhere (K : PySem.W.Frag) (C : Addr) : Sp := fun vs H Q _ => ∃ (r : Addr) (bs rs : List Bool), vs = [.ref r] ∧ Md H r bs rs ∧ 1 ≤ rs.length ∧ rs.length ≤ 720 ∧ bs.length ≤ 10000 ∧ ∀ p H', H p = none → Same H H' → Whr K C H' p bs rs → Q (.ref p) H'
theorem scWhere : FnScope ["model"] ["model"] (defScope sWhere) := ⟨rfl, rfl, rfl, by decide +kernel, rfl, by decide +kernel, by decide +kernel⟩
theorem df_where {C fI : Addr} {fdI : FuncData} (A : At K mg "_law_where" sWhere) (T : TxtP mg) (CW : ClsW K mg C) (M : Mk K C fI) (FI : FnOk P w K mg base CX0 3 fI fdI ["self", "below", "rests"] (spInit K C)) (bI : Binds K fdI ["self", "below", "rests"] []) :
    Df P w K mg base 5 "_law_where" ["model"] (spWhere K C) := by
  obtain ⟨f, fd, hm, F⟩ := A.ex
  refine ⟨f, fd, hm, F.kp, F.binds (fun _ _ _ _ _ _ us hl => match us, hl with | [_], _ => rfl), F.ok scWhere (fun vs H Q E h => ?_) (fun cdv A outer s H vs Q E hr h => ?_)⟩
  · obtain ⟨r, bs, rs, rfl, _⟩ := h
    rfl
  · obtain ⟨r, bs, rs, rfl, ⟨rb, rr, h1, h2, h3⟩, hr1, hr2, hb2, q⟩ := h
    refine ⟨_, (pss_one (ps_ret (pe_make M FI (hr.mono (by decide)) (by rfl) CW.mgC bI .nil pass0 (pa_cons (pe_callTy call_list_of (by rfl) T.list (by decide +kernel) (pa_cons (pe_ix ix_tup (pv 0) pe_int (fun _ _ => rfl)) pa_nil)) (pa_cons (pe_callTy call_list_of (by rfl) T.list (by decide +kernel) (pa_cons (pe_ix ix_tup (pv 0) pe_int (fun _ _ => rfl)) pa_nil)) pa_nil))))), ?_⟩
    refine ⟨_, rfl, r, _, 0, _, rfl, rfl, .inl (.inl h1), rfl, rb, _, rfl, .inl (.inl (.inl h2)), fun l1 hl1 => ?_⟩
    have s1 := same_new (o := .lst (bs.map V.bl)) hl1
    have e1 : (upd H l1 (.lst (bs.map V.bl))) l1 = some (.lst (bs.map V.bl)) := upd_same
    generalize upd H l1 (.lst (bs.map V.bl)) = H1 at s1 e1 ⊢
    refine ⟨_, rfl, r, _, 1, _, rfl, rfl, .inl (.inl (s1 _ _ h1)), rfl, rr, _, rfl, .inl (.inl (.inl (s1 _ _ h3))), fun l2 hl2 => ?_⟩
    have s2 := same_new (o := .lst (rs.map V.bl)) hl2
    have e2 : (upd H1 l2 (.lst (rs.map V.bl))) l2 = some (.lst (rs.map V.bl)) := upd_same
    generalize upd H1 l2 (.lst (rs.map V.bl)) = H2 at s2 e2 ⊢
    intro x dx nx ndx nex
    refine ⟨H2, x, dx, l1, l2, bs, rs, rfl, same_inst nx ndx, nx, upd_same, .inl (.inl (.inl (s2 _ _ e1))), .inl (.inl (.inl e2)), hr1, hr2, hb2, fun m s H' hc sm hw => ⟨rfl, ?_⟩⟩
    exact q x H' ((s1.trans s2).free nx) ((s1.trans s2).trans sm) ⟨hr1, m, s, hc, hw⟩
/-! ### since -/
def spSince (K : PySem.W.Frag) (C : Addr) : Sp := fun vs H Q _ => ∃ (k : Nat), vs = [.ref C, .int k] ∧ k ≤ 10000 ∧ ∀ p H', H p = none → Same H H' → Whr K C H' p (List.replicate k false) [true] → Q (.ref p) H'
theorem scSince : FnScope ["cls", "low"] ["cls", "low"] (defScope sSince) := ⟨rfl, rfl, rfl, by decide +kernel, rfl, by decide +kernel, by decide +kernel⟩
theorem flat_rep (k : Nat) : (List.replicate k [V.bl false]).flatten = (List.replicate k false).map V.bl := by
  induction k with
  | zero => rfl
  | succ k ih => rw [List.replicate_succ, List.flatten_cons, ih, List.replicate_succ]; rfl
theorem ok_since {f C fI : Addr} {fd fdI : FuncData} (F : Fun K "since" "Where.since" sSince f fd) (T : TxtI mg) (M : Mk K C fI) (FI : FnOk P w K mg base CX0 3 fI fdI ["self", "below", "rests"] (spInit K C)) (bI : Binds K fdI ["self", "below", "rests"] [])
    (Disfrom : Df P w K mg base 2 "is_int_from" ["value", "low"] (spFrom K)) : FnOk P w K mg base CX0 5 f fd ["cls", "low"] (spSince K C) := by
  refine F.ok scSince (fun vs H Q E h => ?_) (fun cdv A outer s H vs Q E hr h => ?_)
  · obtain ⟨k, rfl, _⟩ := h
    rfl
  · obtain ⟨k, rfl, hk, q⟩ := h
    obtain ⟨tMS, eMS⟩ := T.MOST_START
    refine ⟨_, (pss_cons (ps_if (pt_not (pt_val (Disfrom.call (hr.mono (by decide)) (pa_cons (pv 1) (pa_cons pe_int pa_nil))))) (pss_one ps_never) pss_nil)
      (pss_cons (ps_if (pt_cmpR op_gt (pv 1) (pe_glob (v := .int 10000) rfl eMS ⟨_, rfl⟩) (nomark _)) (pss_one ps_never) pss_nil)
      (pss_one (ps_ret (pe_makeL (i := 0) M FI (hr.mono (by decide)) bI (pa_cons (pe_op op_rep (pe_lst (pa_cons pe_bl pa_nil)) (pv 1)) (pa_cons (pe_tup (pa_cons pe_bl pa_nil)) pa_nil))))))), ?_⟩
    refine ⟨_, rfl, _, 0, rfl, .inl ⟨k, rfl, _, rfl, ?_⟩⟩
    rw [decide_eq_true (show (0 : Int) ≤ (k : Int) by omega)]
    refine iteF ?_
    refine ⟨_, rfl, _, _, rfl, rfl, _, rfl, ?_⟩
    rw [decide_eq_false (show ¬ (10000 : Int) < (k : Int) by omega)]
    refine iteF ⟨rfl, ?_⟩
    refine ⟨by show 1 ≤ sizeLine; decide, fun l0 hl0 => ?_⟩
    refine ⟨_, rfl, l0, k, _, rfl, rfl, upd_same, by omega, by omega, by show 1 * ((k : Int).toNat) ≤ sizeLine; exact Nat.le_trans (show 1 * ((k : Int).toNat) ≤ 100000 by omega) (by decide), fun l1 hl1 => ?_⟩
    have s1 : Same H (upd (upd H l0 (.lst [.bl false])) l1 (.lst ((List.replicate (k : Int).toNat [V.bl false]).flatten))) := (same_new hl0).trans (same_new hl1)
    have e1 : (upd (upd H l0 (.lst [.bl false])) l1 (.lst ((List.replicate (k : Int).toNat [V.bl false]).flatten))) l1 = some (.lst ((List.replicate k false).map V.bl)) := by
      rw [upd_same, ← flat_rep]; rfl
    generalize upd (upd H l0 (.lst [.bl false])) l1 (.lst ((List.replicate (k : Int).toNat [V.bl false]).flatten)) = H1 at s1 e1 ⊢
    refine ⟨by show 1 ≤ sizeLine; decide, fun t ht => ?_⟩
    have s2 := same_new (o := .tup [V.bl true]) ht
    have e2 : (upd H1 t (.tup [V.bl true])) t = some (.tup ([true].map V.bl)) := upd_same
    generalize upd H1 t (.tup [V.bl true]) = H2 at s2 e2 ⊢
    intro x dx nx ndx nex
    refine ⟨H2, x, dx, l1, t, List.replicate k false, [true], rfl, same_inst nx ndx, nx, upd_same, .inl (.inl (.inl (s2 _ _ e1))), .inr (.inl (.inl e2)), Nat.le_refl 1, by decide, by rw [List.length_replicate]; exact hk, fun m s H' hc sm hw => ⟨rfl, ?_⟩⟩
    exact q x H' ((s1.trans s2).free nx) ((s1.trans s2).trans sm) ⟨Nat.le_refl 1, m, s, hc, hw⟩
/-! ### of -/
def spOf (K : PySem.W.Frag) (C : Addr) : Sp := fun vs H Q _ => ∃ (a : Addr) (ms : List Int), vs = [.ref C, .ref a] ∧ SqL K H a (ms.map V.int) ∧ (∀ m ∈ ms, 0 ≤ m ∧ m < 10000) ∧
  ∀ (k : Nat) p H', (∀ m ∈ ms, m < k) → H p = none → Same H H' → Whr K C H' p (ofL ms k) [false] → Q (.ref p) H'
theorem scOf : FnScope ["cls", "members", "size", "member", "below"] ["cls", "members"] (defScope sOf) := ⟨rfl, rfl, rfl, by decide +kernel, rfl, by decide +kernel, by decide +kernel⟩
theorem ok_of {f C fI : Addr} {fd fdI : FuncData} (F : Fun K "of" "Where.of" sOf f fd) (T : TxtI mg) (M : Mk K C fI) (FI : FnOk P w K mg base CX0 3 fI fdI ["self", "below", "rests"] (spInit K C)) (bI : Binds K fdI ["self", "below", "rests"] [])
    (Disfrom : Df P w K mg base 2 "is_int_from" ["value", "low"] (spFrom K)) : FnOk P w K mg base CX0 5 f fd ["cls", "members"] (spOf K C) := by
  refine F.ok scOf (fun vs H Q E h => ?_) (fun cdv A outer s H vs Q E hr h => ?_)
  · obtain ⟨a, ms, rfl, _⟩ := h
    rfl
  · obtain ⟨a, ms, rfl, hS, hms, q⟩ := h
    obtain ⟨tMS, eMS⟩ := T.MOST_START
    refine ⟨_, (pss_cons (ps_set (i := 2) scOf.nd rfl (.inl rfl) pe_int)
      (pss_cons (ps_for PassesOwn.never rfl (pi_list (pv 1)) (pg_name (i := 3) scOf.nd rfl (.inl rfl))
      (pss_cons (ps_if (pt_not (pt_val (Disfrom.call (hr.mono (by decide)) (pa_cons (pv 3) (pa_cons pe_int pa_nil))))) (pss_one ps_never) pss_nil)
      (pss_one (ps_if (pt_cmpR op_ge (pv 3) (pv 2) (nomark _)) (pss_one (ps_set (i := 2) scOf.nd rfl (.inl rfl) (pe_op op_add (pv 3) pe_int))) pss_nil))))
      (pss_cons (ps_if (pt_cmpR op_gt (pv 2) (pe_glob (v := .int 10000) rfl eMS ⟨_, rfl⟩) (nomark _)) (pss_one ps_never) pss_nil)
      (pss_cons (ps_set (i := 4) scOf.nd rfl (.inl rfl) (pe_op op_rep (pe_lst (pa_cons pe_bl pa_nil)) (pv 2)))
      (pss_cons (ps_for PassesOwn.never rfl (pi_list (pv 1)) (pg_name (i := 3) scOf.nd rfl (.inl rfl))
      (pss_one (ps_asg pe_bl (pg_sub (pv 4) (pv 3) set_list))))
      (pss_one (ps_ret (pe_makeL (i := 0) M FI (hr.mono (by decide)) bI (pa_cons (pv 4) (pa_cons (pe_tup (pa_cons pe_bl pa_nil)) pa_nil)))))))))), ?_⟩
    refine ⟨_, rfl, a, rfl, ⟨_, hS⟩, for_list (K := K) (a := a) (xs := ms.map V.int) (fun i σ H' => H' = H ∧ ∃ (k : Nat) (y : Option V), σ = [some (.ref C), some (.ref a), some (.int k), y, none] ∧ k ≤ 10000 ∧ ∀ j m, j < i → ms[j]? = some m → m < k)
      ⟨rfl, 0, none, rfl, by omega, fun j m hj => absurd hj (Nat.not_lt_zero j)⟩ (fun i σ H' _ ⟨e, _⟩ => e ▸ hS) ?_ ?_⟩
    · rintro i x σ H' hi ⟨rfl, k, y, rfl, hk, hall⟩
      rw [List.getElem?_map] at hi
      obtain ⟨m, hm, rfl⟩ := Option.map_eq_some_iff.mp hi
      obtain ⟨m0, m1⟩ := hms m (List.mem_of_getElem? hm)
      refine ⟨_, rfl, _, 0, rfl, .inl ⟨m, rfl, _, rfl, ?_⟩⟩
      rw [decide_eq_true m0]
      refine iteF ⟨_, rfl, _, rfl, _, _, rfl, rfl, _, rfl, ?_⟩
      have fin : ∀ k' : Nat, (k : Int) ≤ k' → m < (k' : Int) → ∀ j m', j < i + 1 → ms[j]? = some m' → m' < (k' : Int) := fun k' h1 h2 j m' hj hm' => by
        rcases Nat.lt_or_ge j i with z | z
        · have := hall j m' z hm'; omega
        · have e : j = i := by omega
          rw [e, hm] at hm'
          injection hm' with hm'
          omega
      refine ite2 (fun hc => ?_) (fun hc => ?_)
      · have hc' := of_decide_eq_true hc
        refine ⟨_, rfl, _, _, rfl, rfl, rfl, (m + 1).toNat, some (.int m), ?_, by omega, fin _ (by omega) (by omega)⟩
        show [some (V.ref C), some (V.ref a), some (V.int (m + 1)), some (V.int m), none] = _
        rw [Int.toNat_of_nonneg (show 0 ≤ m + 1 by omega)]
      · exact ⟨rfl, k, _, rfl, hk, fin k (by omega) (by have : ¬ (k : Int) ≤ m := fun z => hc (decide_eq_true z); omega)⟩
    · rintro σ H' ⟨rfl, k, y, rfl, hk, hall⟩
      have hlt : ∀ m ∈ ms, m < (k : Int) := fun m hm => by
        obtain ⟨j, hj, rfl⟩ := List.getElem_of_mem hm
        exact hall j _ (by rw [List.length_map]; exact hj) (List.getElem?_eq_getElem hj)
      refine ⟨_, rfl, _, _, rfl, rfl, _, rfl, ?_⟩
      rw [decide_eq_false (show ¬ (10000 : Int) < (k : Int) by omega)]
      refine iteF ⟨by show 1 ≤ sizeLine; decide, fun l0 hl0 => ?_⟩
      refine ⟨_, rfl, l0, k, _, rfl, rfl, upd_same, by omega, by omega, by show 1 * ((k : Int).toNat) ≤ sizeLine; exact Nat.le_trans (show 1 * ((k : Int).toNat) ≤ 100000 by omega) (by decide), fun l1 hl1 => ?_⟩
      have s0 : Same H' (upd H' l0 (.lst [.bl false])) := same_new hl0
      have s1 : Same H' (upd (upd H' l0 (.lst [.bl false])) l1 (.lst ((List.replicate (k : Int).toNat [V.bl false]).flatten))) := s0.trans (same_new hl1)
      have nl1 : H' l1 = none := s0.free hl1
      have e1 : (upd (upd H' l0 (.lst [.bl false])) l1 (.lst ((List.replicate (k : Int).toNat [V.bl false]).flatten))) l1 = some (.lst ((ofL [] k).map V.bl)) := by
        rw [upd_same]
        have : ofL [] k = List.replicate k false := by
          unfold ofL
          refine List.ext_getElem (by simp) fun i h1 h2 => ?_
          simp
        rw [this, ← flat_rep]; rfl
      generalize upd (upd H' l0 (.lst [.bl false])) l1 (.lst ((List.replicate (k : Int).toNat [V.bl false]).flatten)) = H1 at s1 e1 ⊢
      refine ⟨_, rfl, a, rfl, ⟨_, s1.seq hS⟩, for_list (K := K) (a := a) (xs := ms.map V.int) (fun i σ H2 => Same H' H2 ∧ H2 l1 = some (.lst ((ofL (ms.take i) k).map V.bl)) ∧ ∃ (y : Option V), σ = [some (.ref C), some (.ref a), some (.int k), y, some (.ref l1)])
        ⟨s1, e1, y, rfl⟩ (fun i σ H2 _ ⟨e, _⟩ => e.seq hS) ?_ ?_⟩
      · rintro i x σ H2 hi ⟨s2, e2, y, rfl⟩
        rw [List.getElem?_map] at hi
        obtain ⟨m, hm, rfl⟩ := Option.map_eq_some_iff.mp hi
        obtain ⟨m0, m1⟩ := hms m (List.mem_of_getElem? hm)
        have mk := hlt m (List.mem_of_getElem? hm)
        have hlen : (ofL (ms.take i) k).length = k := by unfold ofL; rw [List.length_map, List.length_range]
        refine ⟨_, rfl, _, rfl, l1, _, _, m.toNat, rfl, rfl, e2, ?_, same_mut s2 nl1, ?_, _, rfl⟩
        · unfold ixN
          rw [if_pos m0, if_pos (by rw [List.length_map, hlen]; omega)]
        · rw [upd_same, ← List.map_set]
          congr 3
          unfold ofL
          refine List.ext_getElem (by simp) fun j h1 h2 => ?_
          rw [List.getElem_set]
          simp only [List.getElem_map, List.getElem_range]
          rw [List.take_succ, hm]
          have hjm : (m.toNat = j) ↔ ((j : Int) = m) := by omega
          by_cases hj : m.toNat = j
          · rw [if_pos hj]
            simp [hjm.mp hj]
          · rw [if_neg hj]
            have : ¬ ((j : Int) = m) := fun z => hj (hjm.mpr z)
            simp [this]
      · rintro σ H2 ⟨s2, e2, y, rfl⟩
        rw [List.length_map, List.take_length] at e2
        refine ⟨rfl, _, rfl, by show 1 ≤ sizeLine; decide, fun t ht => ?_⟩
        have s3 := same_new (o := .tup [V.bl false]) ht
        have e3 : (upd H2 t (.tup [V.bl false])) t = some (.tup ([false].map V.bl)) := upd_same
        generalize upd H2 t (.tup [V.bl false]) = H3 at s3 e3 ⊢
        intro x dx nx ndx nex
        refine ⟨H3, x, dx, l1, t, ofL ms k, [false], rfl, same_inst nx ndx, nx, upd_same, .inl (.inl (.inl (s3 _ _ e2))), .inr (.inl (.inl e3)), Nat.le_refl 1, by decide, by unfold ofL; rw [List.length_map, List.length_range]; exact hk, fun m s H' hc sm hw => ⟨rfl, ?_⟩⟩
        exact q k x H' hlt ((s2.trans s3).free nx) ((s2.trans s3).trans sm) ⟨Nat.le_refl 1, m, s, hc, hw⟩
end
end Ef
set_option Elab.async false
set_option linter.all false
set_option maxRecDepth 100000
set_option maxHeartbeats 8000000
namespace Ef
open PySem PySem.Spec PyProof.Rows L2 ClX
abbrev sLaw : Stmt := top 35
/-- a drawn set, by its addresses -/
structure Dm where
  r : Addr
  rb : Addr
  rr : Addr
  bs : List Bool
  rs : List Bool
structure MdA (H : Hp) (t : Dm) : Prop where
  h1 : H t.r = some (.tup [.ref t.rb, .ref t.rr])
  h2 : H t.rb = some (.lst (t.bs.map V.bl))
  h3 : H t.rr = some (.lst (t.rs.map V.bl))
theorem MdA.md {H : Hp} {t : Dm} (h : MdA H t) : Md H t.r t.bs t.rs := ⟨t.rb, t.rr, h.h1, h.h2, h.h3⟩
theorem MdA.upd {H : Hp} {t : Dm} {q : Addr} {o : HO} (h : MdA H t) (n1 : t.r ≠ q) (n2 : t.rb ≠ q) (n3 : t.rr ≠ q) : MdA (upd H q o) t := ⟨by rw [upd_ne n1]; exact h.h1, by rw [upd_ne n2]; exact h.h2, by rw [upd_ne n3]; exact h.h3⟩
theorem MdA.same {H H' : Hp} {t : Dm} (h : MdA H t) (e : Same H H') : MdA H' t := ⟨e _ _ h.h1, e _ _ h.h2, e _ _ h.h3⟩
theorem MdA.kp {H H' : Hp} {t : Dm} {p : Addr} {d : List (Key × V)} (h : MdA H t) (k : Kp p H H') (hp : H p = some (.dK d)) : MdA H' t :=
  ⟨k _ _ (ne_of h.h1 hp (by intro q; cases q)) h.h1, k _ _ (ne_of h.h2 hp (by intro q; cases q)) h.h2, k _ _ (ne_of h.h3 hp (by intro q; cases q)) h.h3⟩
theorem sqt_lst {K : PySem.W.Frag} {H : Hp} {a q : Addr} {xs ys : List V} {o : HO} (h : SqT K H a xs) (hq : H q = some (.lst ys)) : SqT K (upd H q o) a xs := by
  rcases h with (h | ⟨z, h⟩) | h
  · exact .inl (.inl (by rw [upd_ne (ne_of h hq (by intro q; cases q))]; exact h))
  · exact .inl (.inr ⟨z, by rw [upd_ne (ne_of h hq (by intro q; cases q))]; exact h⟩)
  · exact .inr h
theorem Whr.lst {K : PySem.W.Frag} {C : Addr} {H : Hp} {p q : Addr} {bs rs : List Bool} {ys : List V} {o : HO} (h : Whr K C H p bs rs) (hq : H q = some (.lst ys)) : Whr K C (upd H q o) p bs rs := by
  obtain ⟨h1, m, s, hc, dx, ra, ba, ea, la, e1, e2, e3, e4, e5⟩ := h
  exact ⟨h1, m, s, hc, dx, ra, ba, ea, la, by rw [upd_ne (ne_of e1 hq (by intro q; cases q))]; exact e1, sqt_lst e2 hq, sqt_lst e3 hq, sqt_lst e4 hq, sqt_lst e5 hq⟩
theorem sqt_kp {K : PySem.W.Frag} {H H' : Hp} {a p : Addr} {xs : List V} {d : List (Key × V)} (h : SqT K H a xs) (k : Kp p H H') (hp : H p = some (.dK d)) : SqT K H' a xs := by
  rcases h with (h | ⟨z, h⟩) | h
  · exact .inl (.inl (k _ _ (ne_of h hp (by intro q; cases q)) h))
  · exact .inl (.inr ⟨z, k _ _ (ne_of h hp (by intro q; cases q)) h⟩)
  · exact .inr h
theorem Whr.kp {K : PySem.W.Frag} {C : Addr} {H H' : Hp} {p q : Addr} {bs rs : List Bool} {d : List (Key × V)} (h : Whr K C H q bs rs) (k : Kp p H H') (hp : H p = some (.dK d)) : Whr K C H' q bs rs := by
  obtain ⟨h1, m, s, hc, dx, ra, ba, ea, la, e1, e2, e3, e4, e5⟩ := h
  exact ⟨h1, m, s, hc, dx, ra, ba, ea, la, k _ _ (ne_of e1 hp (by intro q; cases q)) e1, sqt_kp e2 k hp, sqt_kp e3 k hp, sqt_kp e4 k hp, sqt_kp e5 k hp⟩
theorem Whr.ins {K : PySem.W.Frag} {C : Addr} {H : Hp} {p : Addr} {bs rs : List Bool} (h : Whr K C H p bs rs) : ∃ dx fs, H p = some (.ins C dx fs) := by
  obtain ⟨h1, m, s, hc, dx, ra, ba, ea, la, e1, _⟩ := h
  exact ⟨dx, _, e1⟩
/-- no member of any set -/
def OddV (K : PySem.W.Frag) (H : Hp) (v : V) : Prop := (∃ n : Int, v = .int n ∧ n < 0) ∨ NotInt K H v
theorem odd_contains {K : PySem.W.Frag} {C : Addr} {H : Hp} {v : V} {w : Addr} {bs rs : List Bool} {Q : VK} (ho : OddV K H v) (hW : Whr K C H w bs rs) (q : Q (.bl false) H) : spContains K C [.ref w, v] H Q E0 := by
  rcases ho with ⟨n, rfl, hn⟩ | hn
  · refine ⟨w, _, bs, rs, rfl, hW, .inl ⟨n, rfl, ?_⟩⟩
    rw [decide_eq_false (show ¬ 0 ≤ n by omega), Bool.false_and]
    exact q
  · exact ⟨w, _, bs, rs, rfl, hW, .inr ⟨hn, q⟩⟩
theorem of_nil (k : Nat) : ((ofL [] k).contains true || [false].contains true) = false := by
  have : (ofL [] k).contains true = false := by
    rw [Bool.eq_false_iff]
    intro h
    obtain ⟨n, hn, e⟩ := mem_all.mp h
    unfold ofL at hn e
    rw [List.length_map, List.length_range] at hn
    rw [List.getD_eq_getElem?_getD, List.getElem?_map, List.getElem?_range hn] at e
    simp at e
  rw [this]; rfl
theorem of_zero {k : Nat} (hk : (0 : Int) < k) : ((ofL [0] k).contains true || [false].contains true) = true := by
  have : (ofL [0] k).contains true = true := by
    refine mem_all.mpr ⟨0, by unfold ofL; rw [List.length_map, List.length_range]; omega, ?_⟩
    unfold ofL
    rw [List.getD_eq_getElem?_getD, List.getElem?_map, List.getElem?_range (by omega)]
    simp
  rw [this]; rfl
section
variable {P : Program} {w : World} {K : PySem.W.Frag} {mg : Str → Option Value} {base : Heap}
structure TxtL (mg : Str → Option Value) : Prop extends TxtI mg where
  min : mg "min" = none
  any : mg "any" = none
  zip : mg "zip" = none
def spLaw (K : PySem.W.Frag) : Sp := fun vs H Q _ => ∃ (a : Addr) (ns : List Int), vs = [.ref a] ∧ SqL K H a (ns.map V.int) ∧ ns.length ≤ 63 ∧ ∀ H', Q (.bl true) H'
theorem scLaw : FnScope ["script", "pen", "turn", "k", "models", "wheres", "n", "truth", "odd", "model", "where"] ["script"] (defScope sLaw) := ⟨rfl, rfl, rfl, by decide +kernel, rfl, by decide +kernel, by decide +kernel⟩
theorem ok_law {f C : Addr} {fd : FuncData} {mc : Value} {ps' po gs go : Addr} (F : Fun K "law" "law" sLaw f fd) (T : TxtL mg) (CW : ClsW K mg C)
    (Dpen : Df P w K mg base 1 "_law_pen" ["script"] (spPen K)) (Ddraw : Df P w K mg base 1 "_law_draw" ["pen", "many"] spDraw) (Dpick : Df P w K mg base 2 "_law_pick" ["pen", "some"] (spPick K))
    (Dmodel : Df P w K mg base 3 "_law_model" ["pen", "most", "periods"] (spModel K)) (Dtruth : Df P w K mg base 1 "_law_truth" ["model", "n"] spTruth) (Dwhere : Df P w K mg base 5 "_law_where" ["model"] (spWhere K C)) (Dhas : Df P w K mg base 1 "_law_has_members" ["model"] spHas)
    (OC : Own P w K mg base 3 C "__contains__" ["self", "x"] (spContains K C)) (OB : Own P w K mg base 1 C "__bool__" ["self"] (spBool K C))
    (CR : CRead K C mc) (CMs : CMet K C mc "since" ps' gs) (CMo : CMet K C mc "of" po go) (GMs : FnR P w K mg base CX0 5 gs (spSince K C)) (GMo : FnR P w K mg base CX0 5 go (spOf K C)) : FnOk P w K mg base CX0 7 f fd ["script"] (spLaw K) := by
  refine F.ok scLaw (fun vs H Q E h => ?_) (fun cdv A outer s H vs Q E hr h => ?_)
  · obtain ⟨a, ns, rfl, _⟩ := h
    rfl
  · obtain ⟨a, ns, rfl, hS, hlen, q⟩ := h
    refine ⟨_, (pss_cons (ps_set (i := 1) scLaw.nd rfl (.inr rfl) (Dpen.call (hr.mono (by decide)) (pa_cons (pv 0) pa_nil)))
      (pss_cons (ps_for PassesOwn.never rfl (pi_range1 (by rfl) T.range (pa_cons (pe_op op_add pe_int (pe_callB (call_min2 rfl) (by rfl) T.min (by decide +kernel) (pa_cons pe_int (pa_cons (pe_callB call_len_seq (by rfl) T.len PySem.boot_len (pa_cons (pv 0) pa_nil)) pa_nil)))) pa_nil)) (pg_name (i := 2) scLaw.nd rfl (.inl rfl))
      (pss_cons (ps_setLc (i := 4) (own := [("k", 3)]) (g := gName 3) (by rfl) scLaw.nd rfl rfl (sw_true rfl rfl rfl (by decide +kernel)) (pi_range1 (by rfl) T.range (pa_cons pe_int pa_nil)) (blkOk_by (own := [("k", 3)]) (N := ["script", "pen", "turn", "k", "models", "wheres", "n", "truth", "odd", "model", "where"]) (sc := defScope sLaw) (by decide +kernel)) (fun _ _ _ _ _ => pg_name (i := 3) scLaw.nd rfl (Or.inl rfl)) (fun _ _ _ _ _ => pts_nil) (fun _ _ _ _ _ => (Dmodel.call (hr.mono (by decide)) (pa_cons (pv 1) (pa_cons pe_int (pa_cons (pe_lst (pa_cons pe_int (pa_cons pe_int (pa_cons pe_int (pa_cons pe_int (pa_cons pe_int (pa_cons pe_int (pa_cons pe_int (pa_cons pe_int pa_nil))))))))) pa_nil))))))
      (pss_cons (ps_setLc (i := 5) (own := [("model", 9)]) (g := gName 9) (by rfl) scLaw.nd rfl rfl (sw_true rfl rfl rfl (by decide +kernel)) (pi_list (pv 4)) (blkOk_by (own := [("model", 9)]) (N := ["script", "pen", "turn", "k", "models", "wheres", "n", "truth", "odd", "model", "where"]) (sc := defScope sLaw) (by decide +kernel)) (fun _ _ _ _ _ => pg_name (i := 9) scLaw.nd rfl (Or.inl rfl)) (fun _ _ _ _ _ => pts_nil) (fun _ _ _ _ _ => (Dwhere.call (hr.mono (by decide)) (pa_cons (pv 9) pa_nil))))
      (pss_cons (ps_for PassesOwn.never rfl (pi_list (pe_op op_cat (pe_listRg rfl (by rfl) T.list (prg_1 (by rfl) T.range pe_int)) (pe_lst (pa_cons (pe_op op_add (pe_op op_pow pe_int pe_int) (Ddraw.call (hr.mono (by decide)) (pa_cons (pv 1) (pa_cons pe_int pa_nil)))) (pa_cons (pe_op op_add (pe_op op_pow pe_int pe_int) (Ddraw.call (hr.mono (by decide)) (pa_cons (pv 1) (pa_cons pe_int pa_nil)))) pa_nil))))) (pg_name (i := 6) scLaw.nd rfl (.inl rfl))
      (pss_one (ps_for PassesOwn.never rfl (pi_range1 (by rfl) T.range (pa_cons pe_int pa_nil)) (pg_name (i := 3) scLaw.nd rfl (.inl rfl))
      (pss_cons (ps_set (i := 7) scLaw.nd rfl (.inl rfl) (Dtruth.call (hr.mono (by decide)) (pa_cons (pe_ix ix_list (pv 4) (pv 3) (fun _ _ => rfl)) (pa_cons (pv 6) pa_nil))))
      (pss_one (ps_if (pw_or (pt_cmpR op_ne (pe_cmpR (op_in_own OC (hr.mono (by decide))) (pv 6) (pe_ix ix_list (pv 5) (pv 3) (fun _ _ => rfl)) (by rfl)) (pv 7) (nomark _)) (pw_or1 (pt_cmpR op_eq (pe_cmpR (op_notin_own OC (hr.mono (by decide))) (pv 6) (pe_ix ix_list (pv 5) (pv 3) (fun _ _ => rfl)) (by rfl)) (pv 7) (nomark _)))).pt (pss_one (ps_ret pe_bl)) pss_nil))))))
      (pss_cons (ps_set (i := 8) scLaw.nd rfl (.inl rfl) (Dpick.call (hr.mono (by decide)) (pa_cons (pv 1) (pa_cons (pe_lst (pa_cons (pe_un un_neg pe_int) (pa_cons (pe_un un_neg pe_int) (pa_cons (pe_un un_neg (pe_op op_pow pe_int pe_int)) (pa_cons pe_bl (pa_cons pe_bl (pa_cons pe_non (pa_cons pe_str (pa_cons (pe_tup (pa_cons pe_int pa_nil)) (pa_cons (pe_lst (pa_cons pe_int pa_nil)) (pa_cons pe_dnewK pa_nil))))))))))) pa_nil))))
      (pss_cons (ps_if (pw_or (pt_cmpR (op_in_own OC (hr.mono (by decide))) (pv 8) (pe_ix ix_list (pv 5) pe_int (fun _ _ => rfl)) (by rfl)) (pw_or (pt_cmpR (op_in_own OC (hr.mono (by decide))) (pv 8) (pe_ix ix_list (pv 5) pe_int (fun _ _ => rfl)) (by rfl)) (pw_or1 (pt_cmpR (op_in_own OC (hr.mono (by decide))) (pv 8) (pe_cmeth (pe_glob (v := .ref C) (by rfl) CW.mgC rfl) CR CMs (GMs : FnR P w K mg base CX0 5 gs _) (hr.mono (by decide)) pass0 (pa_cons pe_int pa_nil)) (by rfl))))).pt (pss_one (ps_ret pe_bl)) pss_nil)
      (pss_one (ps_if (pt_val (pe_callB (cr_any rfl) (by rfl) T.any (by decide +kernel) (pa_cons (pe_lc (own := [("where", 10), ("model", 9)]) (g := gTup K 2 (gCons (gName 10) (gCons (gName 9) gNil))) (by rfl) scLaw.nd (pi_zip (by rfl) T.zip (pa_cons (pv 5) (pa_cons (pv 4) pa_nil))) (blkOk_by (own := [("where", 10), ("model", 9)]) (N := ["script", "pen", "turn", "k", "models", "wheres", "n", "truth", "odd", "model", "where"]) (sc := defScope sLaw) (by decide +kernel)) (fun _ _ _ _ _ => pg_tup (by rfl) (pgs_cons (pg_name (i := 10) scLaw.nd rfl (Or.inl rfl)) (pgs_cons (pg_name (i := 9) scLaw.nd rfl (Or.inl rfl)) pgs_nil))) (fun _ _ _ _ _ => pts_nil) (fun _ _ _ _ _ => (pe_cmpR op_ne (pe_callTy (call_bool_own OB (hr.mono (by decide))) (by rfl) T.bool (by decide +kernel) (pa_cons (pv 10) pa_nil)) (Dhas.call (hr.mono (by decide)) (pa_cons (pv 9) pa_nil)) (nomark _)))) pa_nil))) (pss_one (ps_ret pe_bl)) pss_nil))))))))
      (pss_one (ps_ret (pe_and (pe_un (un_not_own OB (hr.mono (by decide))) (pe_cmeth (pe_glob (v := .ref C) (by rfl) CW.mgC rfl) CR CMo (GMo : FnR P w K mg base CX0 5 go _) (hr.mono (by decide)) pass0 (pa_cons (pe_lst pa_nil) pa_nil))) (pe_one (pe_callTy (call_bool_own OB (hr.mono (by decide))) (by rfl) T.bool (by decide +kernel) (pa_cons (pe_cmeth (pe_glob (v := .ref C) (by rfl) CW.mgC rfl) CR CMo (GMo : FnR P w K mg base CX0 5 go _) (hr.mono (by decide)) pass0 (pa_cons (pe_lst (pa_cons pe_int pa_nil)) pa_nil)) pa_nil)))))))), ?_⟩
    refine ⟨_, rfl, a, ns, rfl, hS, hlen, fun p l H0 hp0 s0 hP0 => ?_⟩
    -- range(5 + min(5, len(script)))
    refine ⟨_, rfl, a, _, rfl, .inl (s0.seq hS), _, _, rfl, _, _, rfl, rfl, ?_⟩
    have hz : ∃ z : Int, (if (((ns.map V.int).length : Nat) : Int) < 5 then (((ns.map V.int).length : Nat) : Int) else 5) = z ∧ 0 ≤ z ∧ z ≤ 5 := by
      refine ⟨_, rfl, ?_, ?_⟩ <;> split <;> omega
    obtain ⟨z, ez, z0, z5⟩ := hz
    rw [ez]
    refine ⟨_, rfl, by omega, by omega, ?_⟩
    refine for_range (lo := 0) (n := (5 + z).toNat) (fun i σ H' => Kp p H0 H' ∧ ∃ (a' b' : Int) (y2 y3 y4 y5 y6 y7 y8 y9 y10 : Option V), Pen H' p l ns a' b' ∧ a' ≤ 10000 * i ∧ σ = [some (.ref a), some (.ref p), y2, y3, y4, y5, y6, y7, y8, y9, y10])
      ⟨Kp.refl _ _, 0, 0, none, none, none, none, none, none, none, none, none, hP0, by omega, rfl⟩ ?_ ?_
    · rintro i σ H1 hi ⟨hK1, a1, b1, y2, y3, y4, y5, y6, y7, y8, y9, y10, hP1, ha1, rfl⟩
      -- models
      refine ⟨2, rfl, by decide, by decide, fun D1 hD1 => ?_⟩
      have nD1 : D1 ≠ p := fun e => by rw [e, hP1.hd] at hD1; cases hD1
      refine lc_range (lo := 0) (n := 2) (fun j H' => Kp p H1 H' ∧ ∃ (a' b' : Int) (ms : List Dm), Pen H' p l ns a' b' ∧ a' ≤ a1 + 3000 * j ∧ ms.length = j ∧ H' D1 = some (.lst (ms.map fun t => V.ref t.r)) ∧
          ∀ t ∈ ms, MdA H' t ∧ t.r ≠ D1 ∧ t.rb ≠ D1 ∧ t.rr ≠ D1 ∧ t.bs.length ≤ 14 ∧ 1 ≤ t.rs.length ∧ t.rs.length ≤ 24)
        ⟨Kp.new _ hD1, a1, b1, [], hP1.kp (Kp.new _ hD1) (upd_ne (ne_of_none hP1.hd hD1)), by omega, rfl, upd_same, fun t ht => by cases ht⟩ ?_ ?_
      · rintro j H2 hj ⟨hK2, a2, b2, ms, hP2, ha2, hml, hA2, hms⟩
        refine ⟨rfl, _, rfl, by show 8 ≤ sizeLine; decide, fun q1 hq1 => ?_⟩
        have nq1 : q1 ≠ p := fun e => by rw [e, hP2.hd] at hq1; cases hq1
        have k3 : Kp p H2 (upd H2 q1 (.lst ([1, 2, 3, 4, 6, 12, 24, 5].map V.int))) := Kp.new _ hq1
        have hP3 : Pen (upd H2 q1 (.lst ([1, 2, 3, 4, 6, 12, 24, 5].map V.int))) p l ns a2 b2 := hP2.kp k3 (upd_ne (Ne.symm nq1))
        have hA3 : (upd H2 q1 (.lst ([1, 2, 3, 4, 6, 12, 24, 5].map V.int))) D1 = some (.lst (ms.map fun t => V.ref t.r)) := k3 _ _ nD1 hA2
        refine ⟨p, l, q1, ns, a2, b2, 14, [1, 2, 3, 4, 6, 12, 24, 5], rfl, hP3, by omega, by decide, by decide, .inl (.inl upd_same), nq1, by decide, by decide, by decide, fun r rb rr bs rs a4 b4 H4 hr0 hrb0 hrr0 e1 e2 e3 hl1 hl2 ha4 hP4 hK4 => ?_⟩
        have hA4 := hK4 _ _ nD1 hA3
        have hrs : 1 ≤ rs.length ∧ rs.length ≤ 24 := by
          simp only [List.mem_cons, List.not_mem_nil, or_false] at hl2
          omega
        have nn : ∀ {x : Addr}, (upd H2 q1 (.lst ([1, 2, 3, 4, 6, 12, 24, 5].map V.int))) x = none → x ≠ D1 := fun hx e => by rw [e, hA3] at hx; cases hx
        refine ⟨_, hA4, by rw [List.length_map]; exact small1000' (by omega), (hK2.trans (k3.trans hK4)).mut hD1, a4, b4, ms ++ [⟨r, rb, rr, bs, rs⟩], ?_, by omega, by rw [List.length_append, hml]; rfl, by rw [upd_same, List.map_append]; rfl, fun t ht => ?_⟩
        · exact ⟨by rw [upd_ne (Ne.symm nD1)]; exact hP4.hd, by rw [upd_ne (fun e => by rw [← e] at hD1; rw [hP1.hl] at hD1; cases hD1)]; exact hP4.hl, hP4.len, hP4.a0, hP4.b0⟩
        · rcases List.mem_append.mp ht with ht | ht
          · obtain ⟨hM, n1, n2, n3, hb⟩ := hms t ht
            exact ⟨((hM.kp k3 hP2.hd).kp hK4 hP3.hd).upd n1 n2 n3, n1, n2, n3, hb⟩
          · rw [List.mem_singleton.mp ht]
            have h14 : bs.length ≤ 14 := by omega
            exact ⟨MdA.upd ⟨e1, e2, e3⟩ (nn hr0) (nn hrb0) (nn hrr0), nn hr0, nn hrb0, nn hrr0, h14, hrs⟩
      · rintro H2 ⟨hK2, a2, b2, ms, hP2, ha2, hml, hA2, hms⟩
        -- wheres
        refine ⟨_, rfl, D1, rfl, ⟨_, .inl (.inl hA2)⟩, fun D2 hD2 => ?_⟩
        have nD2 : D2 ≠ p := fun e => by rw [e, hP2.hd] at hD2; cases hD2
        refine lc_list (K := K) (a := D1) (xs := ms.map fun t => V.ref t.r) (fun j H' => Kp D2 H2 H' ∧ ∃ ws : List Addr, ws.length = j ∧ H' D2 = some (.lst (ws.map V.ref)) ∧ ∀ (j' : Nat) (w : Addr) (t : Dm), ws[j']? = some w → ms[j']? = some t → Whr K C H' w t.bs t.rs)
          ⟨Kp.put _, [], rfl, upd_same, fun j' w t h => by cases h⟩ (fun j H' _ ⟨hk, _⟩ => .inl (.inl (hk _ _ (ne_of_none hA2 hD2) hA2))) ?_ ?_
        · rintro j x H3 hj ⟨hK3, ws, hwl, hW3, hws⟩
          rw [List.getElem?_map] at hj
          obtain ⟨t, ht, rfl⟩ := Option.map_eq_some_iff.mp hj
          obtain ⟨hM, n1, n2, n3, hb1, hb2, hb3⟩ := hms t (List.mem_of_getElem? ht)
          have hM3 : MdA H3 t := ⟨hK3 _ _ (ne_of_none hM.h1 hD2) hM.h1, hK3 _ _ (ne_of_none hM.h2 hD2) hM.h2, hK3 _ _ (ne_of_none hM.h3 hD2) hM.h3⟩
          refine ⟨rfl, _, rfl, t.r, t.bs, t.rs, rfl, hM3.md, hb2, by omega, by omega, fun w1 H4 hw1 s4 hW1 => ?_⟩
          have hW4 := s4 _ _ hW3
          have hjl : j < ms.length := by
            rcases Nat.lt_or_ge j ms.length with z | z
            · exact z
            · rw [List.getElem?_eq_none z] at ht; cases ht
          refine ⟨_, hW4, by rw [List.length_map]; exact small1000' (by omega), ((hK3.trans (Kp.of_same s4)).trans (Kp.put _)), ws ++ [w1], by rw [List.length_append, hwl]; rfl, by rw [upd_same, List.map_append]; rfl, fun j' w' t' hw' ht' => ?_⟩
          rcases Nat.lt_or_ge j' j with y | y
          · rw [List.getElem?_append_left (by omega)] at hw'
            exact ((hws j' w' t' hw' ht').same s4).lst hW4
          · rw [List.getElem?_append_right (by omega), hwl] at hw'
            have e0 : j' = j := by
              rcases Nat.lt_or_ge j j' with x | x
              · rw [List.getElem?_eq_none (by simp; omega)] at hw'; cases hw'
              · omega
            rw [e0, Nat.sub_self] at hw'
            rw [e0, ht] at ht'
            injection hw' with hw'
            injection ht' with ht'
            rw [← hw', ← ht']
            exact hW1.lst hW4
        · rintro H3 ⟨hK3, ws, hwl, hW3, hws⟩
          rw [List.length_map] at hwl
          -- for n in ..
          have hP3 : Pen H3 p l ns a2 b2 := ⟨hK3 _ _ (Ne.symm nD2) hP2.hd, hK3 _ _ (ne_of_none hP2.hl hD2) hP2.hl, hP2.len, hP2.a0, hP2.b0⟩
          have hA3 := hK3 _ _ (ne_of_none hA2 hD2) hA2
          have hM3 : ∀ t ∈ ms, MdA H3 t := fun t ht => by
            obtain ⟨hM, _⟩ := hms t ht
            exact ⟨hK3 _ _ (ne_of_none hM.h1 hD2) hM.h1, hK3 _ _ (ne_of_none hM.h2 hD2) hM.h2, hK3 _ _ (ne_of_none hM.h3 hD2) hM.h3⟩
          have hK03 : Kp p H0 H3 := fun x o nx e => by
            have e2 := (hK1.trans hK2) x o nx e
            exact hK3 x o (ne_of_none e2 hD2) e2
          refine ⟨45, rfl, .of_le (by decide) (by decide) (by decide) (by decide), fun L1 hL1 => ?_⟩
          have k4 : Kp p H3 (upd H3 L1 (.lst (rgV 0 45))) := Kp.new _ hL1
          have hP4 : Pen (upd H3 L1 (.lst (rgV 0 45))) p l ns a2 b2 := hP3.kp k4 (upd_ne (ne_of_none hP3.hd hL1))
          have eL1 : (upd H3 L1 (.lst (rgV 0 45))) L1 = some (.lst (rgV 0 45)) := upd_same
          have nL1 : L1 ≠ p := fun e => by rw [e, hP3.hd] at hL1; cases hL1
          generalize upd H3 L1 (.lst (rgV 0 45)) = H4 at k4 hP4 eL1 ⊢
          refine ⟨_, _, rfl, rfl, ⟨by decide, by decide, by decide⟩, _, rfl, p, l, ns, a2, b2, 100, rfl, hP4, by omega, by decide, by decide, fun d1 a5 b5 H5 d10 d11 ha5 hP5 hK5 => ?_⟩
          refine ⟨_, _, rfl, rfl, ?_⟩
          refine ⟨_, _, rfl, rfl, ⟨by decide, by decide, by decide⟩, _, rfl, p, l, ns, a5, b5, 100, rfl, hP5, by omega, by decide, by decide, fun d2 a6 b6 H6 d20 d21 ha6 hP6 hK6 => ?_⟩
          refine ⟨_, _, rfl, rfl, by show 2 ≤ sizeLine; decide, fun L2 hL2 => ?_⟩
          have eL16 : H6 L1 = some (.lst (rgV 0 45)) := hK6 _ _ nL1 (hK5 _ _ nL1 eL1)
          have nL2 : L2 ≠ p := fun e => by rw [e, hP6.hd] at hL2; cases hL2
          have k36 : Kp p H3 H6 := k4.trans (hK5.trans hK6)
          have x10 : (0 : Int) ≤ (10 : Int) ^ (40 : Int).toNat + d1 := Int.add_nonneg (Int.le_of_lt (by decide)) d10
          have x20 : (0 : Int) ≤ (10 : Int) ^ (9 : Int).toNat + d2 := Int.add_nonneg (Int.le_of_lt (by decide)) d20
          refine ⟨L1, L2, _, _, rfl, rfl, Eq.trans (upd_ne (ne_of_none eL16 hL2)) eL16, upd_same, by rw [rgV_length]; show 45 + 2 ≤ sizeLine; decide, fun L3 hL3 => ?_⟩
          have eL3 : (upd (upd H6 L2 (.lst [.int ((10 : Int) ^ (40 : Int).toNat + d1), .int ((10 : Int) ^ (9 : Int).toNat + d2)])) L3 (.lst (rgV 0 45 ++ [.int ((10 : Int) ^ (40 : Int).toNat + d1), .int ((10 : Int) ^ (9 : Int).toNat + d2)]))) L3 = some (.lst (rgV 0 45 ++ [.int ((10 : Int) ^ (40 : Int).toNat + d1), .int ((10 : Int) ^ (9 : Int).toNat + d2)])) := upd_same
          have s67 : Same H6 (upd (upd H6 L2 (.lst [.int ((10 : Int) ^ (40 : Int).toNat + d1), .int ((10 : Int) ^ (9 : Int).toNat + d2)])) L3 (.lst (rgV 0 45 ++ [.int ((10 : Int) ^ (40 : Int).toNat + d1), .int ((10 : Int) ^ (9 : Int).toNat + d2)]))) := (same_new hL2).trans (same_new hL3)
          generalize upd (upd H6 L2 (.lst [.int ((10 : Int) ^ (40 : Int).toNat + d1), .int ((10 : Int) ^ (9 : Int).toNat + d2)])) L3 (.lst (rgV 0 45 ++ [.int ((10 : Int) ^ (40 : Int).toNat + d1), .int ((10 : Int) ^ (9 : Int).toNat + d2)])) = H7 at eL3 s67 ⊢
          generalize (10 : Int) ^ (40 : Int).toNat + d1 = x1 at x10 eL3
          generalize (10 : Int) ^ (9 : Int).toNat + d2 = x2 at x20 eL3
          have k37 : Kp p H3 H7 := k36.trans (Kp.of_same s67)
          have hP7 : Pen H7 p l ns a6 b6 := ⟨s67 _ _ hP6.hd, s67 _ _ hP6.hl, hP6.len, hP6.a0, hP6.b0⟩
          have hA7 := k37 _ _ (ne_of hA3 hP3.hd (by intro q; cases q)) hA3
          have hW7 := k37 _ _ nD2 hW3
          have hM7 : ∀ t ∈ ms, MdA H7 t := fun t ht => (hM3 t ht).kp k37 hP3.hd
          have hws7 : ∀ (j' : Nat) (w : Addr) (t : Dm), ws[j']? = some w → ms[j']? = some t → Whr K C H7 w t.bs t.rs := fun j' w t h1 h2 => (hws j' w t h1 h2).kp k37 hP3.hd
          refine ⟨L3, rfl, ⟨_, .inl (.inl eL3)⟩, for_list (K := K) (a := L3) (xs := rgV 0 45 ++ [.int x1, .int x2]) (fun j σ H' => H' = H7 ∧ ∃ (y3 y6 y7 : Option V), σ = [some (.ref a), some (.ref p), some (.int (0 + (i : Nat))), y3, some (.ref D1), some (.ref D2), y6, y7, y8, y9, y10])
            ⟨rfl, y3, y6, y7, rfl⟩ (fun j σ H' _ ⟨e, _⟩ => e ▸ .inl (.inl eL3)) ?_ ?_⟩
          · rintro j x σ H8 hj ⟨rfl, y3', y6', y7', rfl⟩
            obtain ⟨n, n0, rfl⟩ : ∃ n : Int, 0 ≤ n ∧ x = .int n := by
              have hmem := List.mem_of_getElem? hj
              rcases List.mem_append.mp hmem with h | h
              · unfold rgV at h
                obtain ⟨k, _, rfl⟩ := List.mem_map.mp h
                exact ⟨0 + (k : Int), by omega, rfl⟩
              · rcases List.mem_cons.mp h with h | h
                · exact ⟨x1, x10, h⟩
                · rw [List.mem_singleton.mp h]
                  exact ⟨x2, x20, rfl⟩
            refine ⟨2, rfl, by decide, by decide, for_range (lo := 0) (n := 2) (fun j σ H' => H' = H8 ∧ ∃ (y3 y7 : Option V), σ = [some (.ref a), some (.ref p), some (.int (0 + (i : Nat))), y3, some (.ref D1), some (.ref D2), some (.int n), y7, y8, y9, y10])
              ⟨rfl, y3', y7', rfl⟩ ?_ ?_⟩
            · rintro k σ H9 hk ⟨rfl, y3'', y7'', rfl⟩
              have e0 : ((0 : Int) + ((k : Nat) : Int)) = (k : Int) := Int.zero_add _
              rw [e0]
              obtain ⟨t, ht⟩ : ∃ t, ms[k]? = some t := ⟨ms[k], List.getElem?_eq_getElem (by omega)⟩
              obtain ⟨w1, hw1⟩ : ∃ w1, ws[k]? = some w1 := ⟨ws[k], List.getElem?_eq_getElem (by omega)⟩
              obtain ⟨_, _, _, _, _, hb2, hb3⟩ := hms t (List.mem_of_getElem? ht)
              have hWk := hws7 k w1 t hw1 ht
              obtain ⟨dxw, fsw, hiw⟩ := hWk.ins
              have gm : (ms.map fun t => V.ref t.r)[k]? = some (V.ref t.r) := by rw [List.getElem?_map, ht]; rfl
              have gw : (ws.map V.ref)[k]? = some (V.ref w1) := by rw [List.getElem?_map, hw1]; rfl
              refine ⟨_, rfl, _, rfl, D1, _, k, _, rfl, rfl, .inl (.inl hA7), atI_nat gm, _, rfl, t.r, t.bs, t.rs, n, rfl, (hM7 t (List.mem_of_getElem? ht)).md, n0, hb2, ?_⟩
              refine ⟨_, rfl, _, rfl, _, rfl, D2, _, k, _, rfl, rfl, .inl (.inl hW7), atI_nat gw, w1, dxw, fsw, rfl, hiw, w1, _, t.bs, t.rs, rfl, hWk, .inl ⟨n, rfl, _, rfl, ?_⟩⟩
              rw [decide_eq_true n0, Bool.true_and, if_neg Bool.false_ne_true]
              generalize hb : mtruth t.bs t.rs n = b
              refine ⟨_, rfl, rfl, _, rfl, ?_⟩
              rw [decide_eq_true (show V.bl b = V.bl b from rfl)]
              refine iteF ?_
              refine ⟨_, rfl, _, rfl, _, rfl, D2, _, k, _, rfl, rfl, .inl (.inl hW7), atI_nat gw, w1, dxw, fsw, rfl, hiw, w1, _, t.bs, t.rs, rfl, hWk, .inl ⟨n, rfl, _, rfl, ?_⟩⟩
              rw [decide_eq_true n0, Bool.true_and, if_pos rfl, hb]
              refine ⟨_, rfl, rfl, _, rfl, ?_⟩
              rw [decide_eq_false (show ¬ V.bl (!b) = V.bl b from fun e => by
                injection e with e
                cases b <;> cases e)]
              refine iteF ⟨rfl, _, _, rfl⟩
            · rintro σ H9 ⟨rfl, y3'', y7'', rfl⟩
              exact ⟨rfl, _, _, _, rfl⟩
          · rintro σ H8 ⟨rfl, y3', y6', y7', rfl⟩
            -- odd
            refine ⟨_, rfl, _, rfl, _, rfl, _, _, rfl, rfl, ⟨by decide, by decide, by decide⟩, _, rfl, by show 1 ≤ sizeLine; decide, fun t1 ht1 => ?_⟩
            refine ⟨by show 1 ≤ sizeLine; decide, fun l1 hl1 d1' hd1 => ?_⟩
            refine ⟨by show 10 ≤ sizeLine; decide, fun q1 hq1 => ?_⟩
            have sA : Same H8 (upd H8 t1 (.tup [.int 0])) := same_new ht1
            have eT : (upd H8 t1 (.tup [.int 0])) t1 = some (.tup [.int 0]) := upd_same
            generalize upd H8 t1 (.tup [.int 0]) = HA at sA eT hl1 hd1 hq1 ⊢
            have sB : Same HA (upd HA l1 (.lst [.int 1])) := same_new hl1
            have eL : (upd HA l1 (.lst [.int 1])) l1 = some (.lst [.int 1]) := upd_same
            generalize upd HA l1 (.lst [.int 1]) = HB at sB eL hd1 hq1 ⊢
            have sC : Same HB (upd HB d1' (.dK [])) := same_new hd1
            have eD : (upd HB d1' (.dK [])) d1' = some (.dK []) := upd_same
            generalize upd HB d1' (.dK []) = HC at sC eD hq1 ⊢
            have s8C := sA.trans (sB.trans sC)
            have hPC : Pen HC p l ns a6 b6 := ⟨s8C _ _ hP7.hd, s8C _ _ hP7.hl, hP7.len, hP7.a0, hP7.b0⟩
            have nq1 : q1 ≠ p := fun e => by rw [e, hPC.hd] at hq1; cases hq1
            have sD : Same HC (upd HC q1 (.lst [.int (-1), .int (-24), .int (-((10 : Int) ^ (40 : Int).toNat)), .bl true, .bl false, .non, .str "0", .ref t1, .ref l1, .ref d1'])) := same_new hq1
            have eQ : (upd HC q1 (.lst [.int (-1), .int (-24), .int (-((10 : Int) ^ (40 : Int).toNat)), .bl true, .bl false, .non, .str "0", .ref t1, .ref l1, .ref d1'])) q1 = some (.lst [.int (-1), .int (-24), .int (-((10 : Int) ^ (40 : Int).toNat)), .bl true, .bl false, .non, .str "0", .ref t1, .ref l1, .ref d1']) := upd_same
            have hPD : Pen (upd HC q1 (.lst [.int (-1), .int (-24), .int (-((10 : Int) ^ (40 : Int).toNat)), .bl true, .bl false, .non, .str "0", .ref t1, .ref l1, .ref d1'])) p l ns a6 b6 := ⟨sD _ _ hPC.hd, sD _ _ hPC.hl, hPC.len, hPC.a0, hPC.b0⟩
            have s8D := s8C.trans sD
            have eT' := sD _ _ (sC _ _ (sB _ _ eT))
            have eL' := sD _ _ (sC _ _ eL)
            have eD' := sD _ _ eD
            have big : -((10 : Int) ^ (40 : Int).toNat) < 0 := by decide
            refine ⟨p, l, q1, ns, a6, b6, _, rfl, hPD, by omega, .inl (.inl eQ), nq1, by show 1 ≤ 10; decide, by show 10 ≤ 100000; decide, fun jv v a9 b9 H9 hv ha9 hP9 hK9 => ?_⟩
            generalize upd HC q1 (.lst [.int (-1), .int (-24), .int (-((10 : Int) ^ (40 : Int).toNat)), .bl true, .bl false, .non, .str "0", .ref t1, .ref l1, .ref d1']) = HD at sD eQ hPD s8D eT' eL' eD' hK9
            have eT9 := hK9 _ _ (ne_of eT' hPD.hd (by intro q; cases q)) eT'
            have eL9 := hK9 _ _ (ne_of eL' hPD.hd (by intro q; cases q)) eL'
            have eD9 := hK9 _ _ (fun e => by
              have z1 := hPD.hd
              rw [← e, eD'] at z1
              cases z1) eD'
            have hodd : ∀ H', Same H9 H' → OddV K H' v := fun H' sx => by
              have hm := List.mem_of_getElem? hv
              simp only [List.mem_cons, List.not_mem_nil, or_false] at hm
              rcases hm with rfl | rfl | rfl | rfl | rfl | rfl | rfl | rfl | rfl | rfl
              · exact .inl ⟨_, rfl, by decide⟩
              · exact .inl ⟨_, rfl, by decide⟩
              · exact .inl ⟨_, rfl, big⟩
              · exact .inr ⟨"bool", true, true, .base (.bl _), by decide +kernel, by decide +kernel, rfl⟩
              · exact .inr ⟨"bool", true, true, .base (.bl _), by decide +kernel, by decide +kernel, rfl⟩
              · exact .inr ⟨"NoneType", false, false, .base .non, by decide +kernel, by decide +kernel, rfl⟩
              · exact .inr ⟨"str", false, false, .base (.str _), by decide +kernel, by decide +kernel, rfl⟩
              · exact .inr ⟨"tuple", false, false, .base (.tup (sx _ _ eT9)), by decide +kernel, by decide +kernel, rfl⟩
              · exact .inr ⟨"list", false, false, .base (.lst (sx _ _ eL9)), by decide +kernel, by decide +kernel, rfl⟩
              · exact .inr ⟨"dict", false, false, .base (.dK (sx _ _ eD9)), by decide +kernel, by decide +kernel, rfl⟩
            have k89 : Kp p H8 H9 := (Kp.of_same s8D).trans hK9
            have hA9 := k89 _ _ (ne_of hA7 hP7.hd (by intro q; cases q)) hA7
            have hW9 := k89 _ _ nD2 hW7
            have hM9 : ∀ t ∈ ms, MdA H9 t := fun t ht => (hM7 t ht).kp k89 hP7.hd
            have hws9 : ∀ (j' : Nat) (w : Addr) (t : Dm), ws[j']? = some w → ms[j']? = some t → Whr K C H9 w t.bs t.rs := fun j' w t h1 h2 => (hws7 j' w t h1 h2).kp k89 hP7.hd
            obtain ⟨t0, ht0⟩ : ∃ t, ms[0]? = some t := ⟨ms[0], List.getElem?_eq_getElem (by omega)⟩
            obtain ⟨w0, hw0⟩ : ∃ w1, ws[0]? = some w1 := ⟨ws[0], List.getElem?_eq_getElem (by omega)⟩
            obtain ⟨tt1, htt1⟩ : ∃ t, ms[1]? = some t := ⟨ms[1], List.getElem?_eq_getElem (by omega)⟩
            obtain ⟨w1, hw1⟩ : ∃ w1, ws[1]? = some w1 := ⟨ws[1], List.getElem?_eq_getElem (by omega)⟩
            have hW0 := hws9 0 w0 t0 hw0 ht0
            have hW1 := hws9 1 w1 tt1 hw1 htt1
            obtain ⟨dx0, fs0, hi0⟩ := hW0.ins
            obtain ⟨dx1, fs1, hi1⟩ := hW1.ins
            have gw0 : (ws.map V.ref)[0]? = some (V.ref w0) := by rw [List.getElem?_map, hw0]; rfl
            have gw1 : (ws.map V.ref)[1]? = some (V.ref w1) := by rw [List.getElem?_map, hw1]; rfl
            refine ⟨_, rfl, _, rfl, D2, _, ((0 : Nat) : Int), _, rfl, rfl, .inl (.inl hW9), atI_nat gw0, w0, dx0, fs0, rfl, hi0, odd_contains (hodd H9 (Same.refl _)) hW0 ⟨false, rfl, ?_⟩⟩
            rw [if_neg Bool.false_ne_true]
            refine ⟨_, rfl, iteF ?_⟩
            refine ⟨_, rfl, _, rfl, D2, _, ((1 : Nat) : Int), _, rfl, rfl, .inl (.inl hW9), atI_nat gw1, w1, dx1, fs1, rfl, hi1, odd_contains (hodd H9 (Same.refl _)) hW1 ⟨false, rfl, ?_⟩⟩
            rw [if_neg Bool.false_ne_true]
            refine ⟨_, rfl, iteF ?_⟩
            refine ⟨_, rfl, rfl, 0, rfl, by decide, fun p2 H10 hp2 s10 hW10 => ?_⟩
            obtain ⟨dx2, fs2, hi2⟩ := hW10.ins
            refine ⟨p2, dx2, fs2, rfl, hi2, odd_contains (hodd H10 s10) hW10 ⟨false, rfl, ?_⟩⟩
            rw [if_neg Bool.false_ne_true]
            refine ⟨_, rfl, iteF ?_⟩
            -- any([..])
            have hA10 := s10 _ _ hA9
            have hW10' := s10 _ _ hW9
            have hM10 : ∀ t ∈ ms, MdA H10 t := fun t ht => (hM9 t ht).same s10
            have hws10 : ∀ (j' : Nat) (w : Addr) (t : Dm), ws[j']? = some w → ms[j']? = some t → Whr K C H10 w t.bs t.rs := fun j' w t h1 h2 => (hws9 j' w t h1 h2).same s10
            refine ⟨_, rfl, _, rfl, D2, D1, _, _, rfl, .inl (.inl hW10'), .inl (.inl hA10), fun DA hDA => ?_⟩
            refine ⟨fun j m H' => j + m = 2 ∧ Same H10 H' ∧ H' DA = some (.lst ((List.replicate j false).map V.bl)), ⟨2, rfl, same_new hDA, upd_same⟩, fun j m H11 hWd => ?_⟩
            obtain ⟨ejm, s11, eDA⟩ := hWd
            by_cases hj : j < 2
            · obtain ⟨t, ht⟩ : ∃ t, ms[j]? = some t := ⟨ms[j], List.getElem?_eq_getElem (by omega)⟩
              obtain ⟨wj, hwj⟩ : ∃ w1, ws[j]? = some w1 := ⟨ws[j], List.getElem?_eq_getElem (by omega)⟩
              have gm : (ms.map fun t => V.ref t.r)[j]? = some (V.ref t.r) := by rw [List.getElem?_map, ht]; rfl
              have gw : (ws.map V.ref)[j]? = some (V.ref wj) := by rw [List.getElem?_map, hwj]; rfl
              refine .inr ⟨⟨_, _, _, _, .inl (.inl (s11 _ _ hW10')), .inl (.inl (s11 _ _ hA10)), gw, gm⟩, fun H' => Same H10 H' ∧ H' DA = some (.lst ((List.replicate (j + 1) false).map V.bl)), fun H' hN => ⟨m - 1, by omega, by omega, hN.1, hN.2⟩, fun x H' hy => ?_⟩
              obtain ⟨TT, x1', x2', rfl, nT, rfl, f1, f2⟩ := hy
              have ex1 := Option.some.inj ((f1 _ (.inl (.inl (s11 _ _ hW10')))).symm.trans gw)
              have ex2 := Option.some.inj ((f2 _ (.inl (.inl (s11 _ _ hA10)))).symm.trans gm)
              subst ex1 ex2
              have s12 : Same H11 (upd H11 TT (.tup [.ref wj, .ref t.r])) := same_new nT
              have eTT : (upd H11 TT (.tup [.ref wj, .ref t.r])) TT = some (.tup [.ref wj, .ref t.r]) := upd_same
              generalize upd H11 TT (.tup [.ref wj, .ref t.r]) = H12 at s12 eTT ⊢
              have hWj := ((hws10 j wj t hwj ht).same s11).same s12
              obtain ⟨dxj, fsj, hij⟩ := hWj.ins
              have hMj := ((hM10 t (List.mem_of_getElem? ht)).same s11).same s12
              refine ⟨TT, _, rfl, .inl (.inl eTT), rfl, _, _, rfl, _, _, rfl, rfl, rfl, ?_⟩
              refine ⟨_, rfl, _, rfl, wj, dxj, fsj, rfl, hij, wj, t.bs, t.rs, rfl, hWj, _, rfl, ?_⟩
              refine ⟨_, rfl, t.r, t.bs, t.rs, rfl, hMj.md, rfl, ?_⟩
              refine ⟨_, s12 _ _ eDA, by rw [List.length_map, List.length_replicate]; exact small1000' (by omega), fun b o e => ?_, ?_⟩
              · rw [upd_ne (ne_of_none e hDA)]
                exact s12 _ _ (s11 _ _ e)
              · rw [upd_same, List.replicate_succ', List.map_append, decide_eq_true rfl]
                rfl
            · have e2 : j = 2 := by omega
              subst e2
              refine .inl ⟨⟨_, _, .inl (.inl (s11 _ _ hW10')), .inl (.inl (s11 _ _ hA10)), .inl (by rw [List.length_map]; omega)⟩, ?_⟩
              refine ⟨DA, List.replicate 2 false, rfl, .inl (.inl eDA), _, rfl, ?_⟩
              refine iteF ⟨?_, a9, b9, _, _, _, _, _, _, _, _, _, ⟨s11 _ _ (s10 _ _ hP9.hd), s11 _ _ (s10 _ _ hP9.hl), hP9.len, hP9.a0, hP9.b0⟩, ?_, rfl⟩
              · exact hK03.trans (k37.trans (k89.trans ((Kp.of_same s10).trans (Kp.of_same s11))))
              · have : (10000 : Int) * ((i + 1 : Nat) : Int) = 10000 * (i : Int) + 10000 := by omega
                omega
    · rintro σ H1 ⟨hK1, a1, b1, y2, y3, y4, y5, y6, y7, y8, y9, y10, hP1, ha1, rfl⟩
      refine ⟨rfl, Nat.zero_le _, fun l0 hl0 => ?_⟩
      refine ⟨l0, [], rfl, .inl (.inl upd_same), fun m hm => (by cases hm), fun k p1 H2 _ hp1 s2 hW2 => ?_⟩
      obtain ⟨dx, fs, hi⟩ := hW2.ins
      refine ⟨p1, dx, fs, rfl, hi, p1, _, _, rfl, hW2, _, rfl, ?_⟩
      rw [of_nil]
      refine ⟨_, rfl, iteT ?_⟩
      refine ⟨rfl, by show 1 ≤ sizeLine; decide, fun l1 hl1 => ?_⟩
      refine ⟨l1, [0], rfl, .inl (.inl upd_same), fun m hm => (by rw [List.mem_singleton.mp hm]; exact ⟨by decide, by decide⟩), fun k2 p3 H4 hk2 hp3 s4 hW4 => ?_⟩
      obtain ⟨dx3, fs3, hi3⟩ := hW4.ins
      refine ⟨_, rfl, p3, dx3, fs3, rfl, hi3, p3, _, _, rfl, hW4, _, rfl, ?_⟩
      rw [of_zero (hk2 0 (List.mem_singleton.mpr rfl))]
      exact q _
end
end Ef
set_option Elab.async false
set_option linter.all false
set_option maxRecDepth 100000
set_option maxHeartbeats 8000000
namespace Ef
open PySem PySem.Spec PyProof.Rows L2 ClX
theorem at_mk {K : PySem.W.Frag} {h : Heap} {mg : Str → Option Value} {x : Str} {st : Stmt} {f : Addr} {oc kV doc pm cdv ct : Value} {od an : Option Addr} {osl : Array (Option Value)} (X : K.In h) (G : h.Ns mainGlobals mg) (a : PySem.W.nsIn K mainGlobals x = some (some (.ref f)))
    (l : K.lookup f = some ⟨oc, od, .func (PySem.W.fnOf x x (defArgs st) (defBody st) (defScope st) .none kV doc pm an cdv ct), osl⟩) (c : PySem.W.codeIn K cdv x = true) (k : PySem.W.keepIn K (.ref f) = true) : At K mg x st := ⟨f, _, PySem.W.mg_of X G a, fun_mk l c k⟩
theorem all_mk {P : Program} {w : World} {K : PySem.W.Frag} {h : Heap} {mg : Str → Option Value} {fa C f0 f1 f2 f3 f4 f5 f6 f7 f8 f9 f10 f11 f12 f13 f14 f15 f16 f17 f18 f19 f20 p19 p20 : Addr} (X : K.In h) (G : h.Ns mainGlobals mg) (hfa : mg "law" = some (.ref fa))
    {od0 an0 od1 an1 od2 an2 od3 an3 od4 an4 od5 an5 od6 an6 od7 an7 od8 an8 od9 an9 od10 an10 od11 an11 od12 an12 od13 an13 od14 an14 od15 an15 od16 an16 od17 an17 od18 an18 od19 an19 od20 an20 : Option Addr} {sl0 sl1 sl2 sl3 sl4 sl5 sl6 sl7 sl8 sl9 sl10 sl11 sl12 sl13 sl14 sl15 sl16 sl17 sl18 sl19 sl20 : Array (Option Value)} {oc0 kV0 dc0 pm0 cd0 ct0 oc1 kV1 dc1 pm1 cd1 ct1 oc2 kV2 dc2 pm2 cd2 ct2 oc3 kV3 dc3 pm3 cd3 ct3 oc4 kV4 dc4 pm4 cd4 ct4 oc5 kV5 dc5 pm5 cd5 ct5 oc6 kV6 dc6 pm6 cd6 ct6 oc7 kV7 dc7 pm7 cd7 ct7 oc8 kV8 dc8 pm8 cd8 ct8 oc9 kV9 dc9 pm9 cd9 ct9 oc10 kV10 dc10 pm10 cd10 ct10 oc11 kV11 dc11 pm11 cd11 ct11 oc12 kV12 dc12 pm12 cd12 ct12 oc13 kV13 dc13 pm13 cd13 ct13 oc14 kV14 dc14 pm14 cd14 ct14 oc15 kV15 dc15 pm15 cd15 ct15 oc16 kV16 dc16 pm16 cd16 ct16 oc17 kV17 dc17 pm17 cd17 ct17 oc18 kV18 dc18 pm18 cd18 ct18 oc19 kV19 dc19 pm19 cd19 ct19 oc20 kV20 dc20 pm20 cd20 ct20 : Value} {rest19 rest20 : List Value} {tk0 tk1 : Tok}
    (aC : PySem.W.nsIn K mainGlobals "Where" = some (some (.ref C)))
    (a0 : PySem.W.nsIn K mainGlobals "is_int" = some (some (.ref f0)))
    (l0 : K.lookup f0 = some ⟨oc0, od0, .func (PySem.W.fnOf "is_int" "is_int" (defArgs sIsInt) (defBody sIsInt) (defScope sIsInt) .none kV0 dc0 pm0 an0 cd0 ct0), sl0⟩)
    (c0 : PySem.W.codeIn K cd0 "is_int" = true)
    (k0 : PySem.W.keepIn K (.ref f0) = true)
    (a1 : PySem.W.nsIn K mainGlobals "is_int_from" = some (some (.ref f1)))
    (l1 : K.lookup f1 = some ⟨oc1, od1, .func (PySem.W.fnOf "is_int_from" "is_int_from" (defArgs sFrom) (defBody sFrom) (defScope sFrom) .none kV1 dc1 pm1 an1 cd1 ct1), sl1⟩)
    (c1 : PySem.W.codeIn K cd1 "is_int_from" = true)
    (k1 : PySem.W.keepIn K (.ref f1) = true)
    (a2 : PySem.W.nsIn K mainGlobals "_check_truths" = some (some (.ref f2)))
    (l2 : K.lookup f2 = some ⟨oc2, od2, .func (PySem.W.fnOf "_check_truths" "_check_truths" (defArgs sCheck) (defBody sCheck) (defScope sCheck) .none kV2 dc2 pm2 an2 cd2 ct2), sl2⟩)
    (c2 : PySem.W.codeIn K cd2 "_check_truths" = true)
    (k2 : PySem.W.keepIn K (.ref f2) = true)
    (a3 : PySem.W.nsIn K mainGlobals "least_period" = some (some (.ref f3)))
    (l3 : K.lookup f3 = some ⟨oc3, od3, .func (PySem.W.fnOf "least_period" "least_period" (defArgs sLper) (defBody sLper) (defScope sLper) .none kV3 dc3 pm3 an3 cd3 ct3), sl3⟩)
    (c3 : PySem.W.codeIn K cd3 "least_period" = true)
    (k3 : PySem.W.keepIn K (.ref f3) = true)
    (a4 : PySem.W.nsIn K mainGlobals "_comes_round" = some (some (.ref f4)))
    (l4 : K.lookup f4 = some ⟨oc4, od4, .func (PySem.W.fnOf "_comes_round" "_comes_round" (defArgs sRound) (defBody sRound) (defScope sRound) .none kV4 dc4 pm4 an4 cd4 ct4), sl4⟩)
    (c4 : PySem.W.codeIn K cd4 "_comes_round" = true)
    (k4 : PySem.W.keepIn K (.ref f4) = true)
    (a5 : PySem.W.nsIn K mainGlobals "primes_of" = some (some (.ref f5)))
    (l5 : K.lookup f5 = some ⟨oc5, od5, .func (PySem.W.fnOf "primes_of" "primes_of" (defArgs sPrimes) (defBody sPrimes) (defScope sPrimes) .none kV5 dc5 pm5 an5 cd5 ct5), sl5⟩)
    (c5 : PySem.W.codeIn K cd5 "primes_of" = true)
    (k5 : PySem.W.keepIn K (.ref f5) = true)
    (a6 : PySem.W.nsIn K mainGlobals "_least_start" = some (some (.ref f6)))
    (l6 : K.lookup f6 = some ⟨oc6, od6, .func (PySem.W.fnOf "_least_start" "_least_start" (defArgs sLstart) (defBody sLstart) (defScope sLstart) .none kV6 dc6 pm6 an6 cd6 ct6), sl6⟩)
    (c6 : PySem.W.codeIn K cd6 "_least_start" = true)
    (k6 : PySem.W.keepIn K (.ref f6) = true)
    (a7 : PySem.W.nsIn K mainGlobals "_law_pen" = some (some (.ref f7)))
    (l7 : K.lookup f7 = some ⟨oc7, od7, .func (PySem.W.fnOf "_law_pen" "_law_pen" (defArgs sPen) (defBody sPen) (defScope sPen) .none kV7 dc7 pm7 an7 cd7 ct7), sl7⟩)
    (c7 : PySem.W.codeIn K cd7 "_law_pen" = true)
    (k7 : PySem.W.keepIn K (.ref f7) = true)
    (a8 : PySem.W.nsIn K mainGlobals "_law_draw" = some (some (.ref f8)))
    (l8 : K.lookup f8 = some ⟨oc8, od8, .func (PySem.W.fnOf "_law_draw" "_law_draw" (defArgs sDraw) (defBody sDraw) (defScope sDraw) .none kV8 dc8 pm8 an8 cd8 ct8), sl8⟩)
    (c8 : PySem.W.codeIn K cd8 "_law_draw" = true)
    (k8 : PySem.W.keepIn K (.ref f8) = true)
    (a9 : PySem.W.nsIn K mainGlobals "_law_pick" = some (some (.ref f9)))
    (l9 : K.lookup f9 = some ⟨oc9, od9, .func (PySem.W.fnOf "_law_pick" "_law_pick" (defArgs sPick) (defBody sPick) (defScope sPick) .none kV9 dc9 pm9 an9 cd9 ct9), sl9⟩)
    (c9 : PySem.W.codeIn K cd9 "_law_pick" = true)
    (k9 : PySem.W.keepIn K (.ref f9) = true)
    (a10 : PySem.W.nsIn K mainGlobals "_law_truths" = some (some (.ref f10)))
    (l10 : K.lookup f10 = some ⟨oc10, od10, .func (PySem.W.fnOf "_law_truths" "_law_truths" (defArgs sTruths) (defBody sTruths) (defScope sTruths) .none kV10 dc10 pm10 an10 cd10 ct10), sl10⟩)
    (c10 : PySem.W.codeIn K cd10 "_law_truths" = true)
    (k10 : PySem.W.keepIn K (.ref f10) = true)
    (a11 : PySem.W.nsIn K mainGlobals "_law_model" = some (some (.ref f11)))
    (l11 : K.lookup f11 = some ⟨oc11, od11, .func (PySem.W.fnOf "_law_model" "_law_model" (defArgs sModel) (defBody sModel) (defScope sModel) .none kV11 dc11 pm11 an11 cd11 ct11), sl11⟩)
    (c11 : PySem.W.codeIn K cd11 "_law_model" = true)
    (k11 : PySem.W.keepIn K (.ref f11) = true)
    (a12 : PySem.W.nsIn K mainGlobals "_law_truth" = some (some (.ref f12)))
    (l12 : K.lookup f12 = some ⟨oc12, od12, .func (PySem.W.fnOf "_law_truth" "_law_truth" (defArgs sTruth) (defBody sTruth) (defScope sTruth) .none kV12 dc12 pm12 an12 cd12 ct12), sl12⟩)
    (c12 : PySem.W.codeIn K cd12 "_law_truth" = true)
    (k12 : PySem.W.keepIn K (.ref f12) = true)
    (a13 : PySem.W.nsIn K mainGlobals "_law_where" = some (some (.ref f13)))
    (l13 : K.lookup f13 = some ⟨oc13, od13, .func (PySem.W.fnOf "_law_where" "_law_where" (defArgs sWhere) (defBody sWhere) (defScope sWhere) .none kV13 dc13 pm13 an13 cd13 ct13), sl13⟩)
    (c13 : PySem.W.codeIn K cd13 "_law_where" = true)
    (k13 : PySem.W.keepIn K (.ref f13) = true)
    (a14 : PySem.W.nsIn K mainGlobals "_law_has_members" = some (some (.ref f14)))
    (l14 : K.lookup f14 = some ⟨oc14, od14, .func (PySem.W.fnOf "_law_has_members" "_law_has_members" (defArgs sHas) (defBody sHas) (defScope sHas) .none kV14 dc14 pm14 an14 cd14 ct14), sl14⟩)
    (c14 : PySem.W.codeIn K cd14 "_law_has_members" = true)
    (k14 : PySem.W.keepIn K (.ref f14) = true)
    (a15 : PySem.W.nsIn K mainGlobals "law" = some (some (.ref f15)))
    (l15 : K.lookup f15 = some ⟨oc15, od15, .func (PySem.W.fnOf "law" "law" (defArgs sLaw) (defBody sLaw) (defScope sLaw) .none kV15 dc15 pm15 an15 cd15 ct15), sl15⟩)
    (c15 : PySem.W.codeIn K cd15 "law" = true)
    (k15 : PySem.W.keepIn K (.ref f15) = true)
    (a16 : PySem.W.findIn K (.ref C) "__init__" = some (some (.ref f16)))
    (i16 : PySem.W.isFn K (.ref f16) = true)
    (t16 : PySem.W.typeIn K (.ref f16) = some (.type "function"))
    (l16 : K.lookup f16 = some ⟨oc16, od16, .func (PySem.W.fnOf "__init__" "Where.__init__" (defArgs sInit) (defBody sInit) (defScope sInit) .none kV16 dc16 pm16 an16 cd16 ct16), sl16⟩)
    (c16 : PySem.W.codeIn K cd16 "Where.__init__" = true)
    (k16 : PySem.W.keepIn K (.ref f16) = true)
    (a17 : PySem.W.findIn K (.ref C) "__contains__" = some (some (.ref f17)))
    (i17 : PySem.W.isFn K (.ref f17) = true)
    (t17 : PySem.W.typeIn K (.ref f17) = some (.type "function"))
    (l17 : K.lookup f17 = some ⟨oc17, od17, .func (PySem.W.fnOf "__contains__" "Where.__contains__" (defArgs sContains) (defBody sContains) (defScope sContains) .none kV17 dc17 pm17 an17 cd17 ct17), sl17⟩)
    (c17 : PySem.W.codeIn K cd17 "Where.__contains__" = true)
    (k17 : PySem.W.keepIn K (.ref f17) = true)
    (a18 : PySem.W.findIn K (.ref C) "__bool__" = some (some (.ref f18)))
    (i18 : PySem.W.isFn K (.ref f18) = true)
    (t18 : PySem.W.typeIn K (.ref f18) = some (.type "function"))
    (l18 : K.lookup f18 = some ⟨oc18, od18, .func (PySem.W.fnOf "__bool__" "Where.__bool__" (defArgs sBool) (defBody sBool) (defScope sBool) .none kV18 dc18 pm18 an18 cd18 ct18), sl18⟩)
    (c18 : PySem.W.codeIn K cd18 "Where.__bool__" = true)
    (k18 : PySem.W.keepIn K (.ref f18) = true)
    (a19 : PySem.W.findCls K (.ref C) (.type "type") "since" = some (.get (.builtin "classmethod.__get__") (.ref p19) .none (.ref C)))
    (r19 : PySem.W.recIn K p19 "classmethod" = some (.ref f19 :: rest19))
    (i19 : PySem.W.fnIn K f19 = true)
    (l19 : K.lookup f19 = some ⟨oc19, od19, .func (PySem.W.fnOf "since" "Where.since" (defArgs sSince) (defBody sSince) (defScope sSince) .none kV19 dc19 pm19 an19 cd19 ct19), sl19⟩)
    (c19 : PySem.W.codeIn K cd19 "Where.since" = true)
    (k19 : PySem.W.keepIn K (.ref f19) = true)
    (a20 : PySem.W.findCls K (.ref C) (.type "type") "of" = some (.get (.builtin "classmethod.__get__") (.ref p20) .none (.ref C)))
    (r20 : PySem.W.recIn K p20 "classmethod" = some (.ref f20 :: rest20))
    (i20 : PySem.W.fnIn K f20 = true)
    (l20 : K.lookup f20 = some ⟨oc20, od20, .func (PySem.W.fnOf "of" "Where.of" (defArgs sOf) (defBody sOf) (defScope sOf) .none kV20 dc20 pm20 an20 cd20 ct20), sl20⟩)
    (c20 : PySem.W.codeIn K cd20 "Where.of" = true)
    (k20 : PySem.W.keepIn K (.ref f20) = true)
    (pg : PySem.W.plainGet K C Str.empty = true)
    (hd : PySem.W.hasDictIn K C = true)
    (po : PySem.W.plainOver K C = true)
    (sa : PySem.W.findIn K (.ref C) "__setattr__" = some (some (.builtin "object.__setattr__")))
    (mk : PySem.W.makesIn K C = true)
    (kc : PySem.W.keepIn K (.ref C) = true)
    (rd : PySem.W.readsIn K C (.type "type") = true)
    (ga : PySem.W.specialIn K (.ref C) "__getattribute__" = some (some (.builtin "type.__getattribute__")))
    (n0 : PySem.W.findIn K (.ref C) "period" = some none)
    (n1 : PySem.W.findIn K (.ref C) "start" = some none)
    (n2 : PySem.W.findIn K (.ref C) "rests" = some none)
    (n3 : PySem.W.findIn K (.ref C) "below" = some none)
    (n4 : PySem.W.findIn K (.ref C) "_early" = some none)
    (n5 : PySem.W.findIn K (.ref C) "_late" = some none)
    (z0 : PySem.W.nsIn K mainGlobals "int" = some none)
    (z1 : PySem.W.nsIn K mainGlobals "len" = some none)
    (z2 : PySem.W.nsIn K mainGlobals "list" = some none)
    (z3 : PySem.W.nsIn K mainGlobals "isinstance" = some none)
    (z4 : PySem.W.nsIn K mainGlobals "bool" = some none)
    (z5 : PySem.W.nsIn K mainGlobals "enumerate" = some none)
    (z6 : PySem.W.nsIn K mainGlobals "reversed" = some none)
    (z7 : PySem.W.nsIn K mainGlobals "range" = some none)
    (z8 : PySem.W.nsIn K mainGlobals "tuple" = some none)
    (z9 : PySem.W.nsIn K mainGlobals "min" = some none)
    (z10 : PySem.W.nsIn K mainGlobals "any" = some none)
    (z11 : PySem.W.nsIn K mainGlobals "zip" = some none)
    (e0 : PySem.W.nsIn K mainGlobals "MOST_PERIOD" = some (some (.int 720 tk0)))
    (e1 : PySem.W.nsIn K mainGlobals "MOST_START" = some (some (.int 10000 tk1)))
    : ∃ fd : FuncData, (∀ (s : Shared) (v : Value), BindsTo s fd ⟨[v], []⟩ [("script", v)]) ∧ ∀ base : Heap, K.In base → base.Ns mainGlobals mg → FnOk P w K mg base CX0 7 fa fd ["script"] (spLaw K) := by
  have e := hfa.symm.trans (PySem.W.mg_of X G a15)
  cases e
  have T : TxtL mg := { int := PySem.W.mg_none_of X G z0, len := PySem.W.mg_none_of X G z1, list := PySem.W.mg_none_of X G z2, isinstance := PySem.W.mg_none_of X G z3, bool := PySem.W.mg_none_of X G z4, enumerate := PySem.W.mg_none_of X G z5, reversed := PySem.W.mg_none_of X G z6, range := PySem.W.mg_none_of X G z7, tuple := PySem.W.mg_none_of X G z8, MOST_PERIOD := ⟨tk0, PySem.W.mg_of X G e0⟩, MOST_START := ⟨tk1, PySem.W.mg_of X G e1⟩, min := PySem.W.mg_none_of X G z9, any := PySem.W.mg_none_of X G z10, zip := PySem.W.mg_none_of X G z11 }
  have CW : ClsW K mg C := ⟨⟨pg, hd, po, sa⟩, PySem.W.mg_of X G aC, n0, n1, n2, n3, n4, n5⟩
  have F16 := fun_mk (st := sInit) l16 c16 k16
  have F17 := fun_mk (st := sContains) l17 c17 k17
  have F18 := fun_mk (st := sBool) l18 c18 k18
  have F19 := fun_mk (st := sSince) l19 c19 k19
  have F20 := fun_mk (st := sOf) l20 c20 k20
  have M : Mk K C f16 := ⟨mk, a16, i16, kc⟩
  have bI := F16.binds (ps := ["self", "below", "rests"]) fun _ _ _ _ _ _ us hl => match us, hl with | [_, _, _], _ => rfl
  have bC := F17.binds (ps := ["self", "x"]) fun _ _ _ _ _ _ us hl => match us, hl with | [_, _], _ => rfl
  have bB := F18.binds (ps := ["self"]) fun _ _ _ _ _ _ us hl => match us, hl with | [_], _ => rfl
  have bS := F19.binds (ps := ["cls", "low"]) fun _ _ _ _ _ _ us hl => match us, hl with | [_, _], _ => rfl
  have bO := F20.binds (ps := ["cls", "members"]) fun _ _ _ _ _ _ us hl => match us, hl with | [_, _], _ => rfl
  refine ⟨PySem.W.fnOf "law" "law" (defArgs sLaw) (defBody sLaw) (defScope sLaw) .none kV15 dc15 pm15 an15 cd15 ct15, fun s v => .of_eq rfl, fun base _ _ => ?_⟩
  have dIsInt := df_isint (P := P) (w := w) (base := base) (at_mk X G a0 l0 c0 k0) T.toTxtW
  have dFrom := df_from (P := P) (w := w) (base := base) (at_mk X G a1 l1 c1 k1) dIsInt
  have dCheck := df_check (P := P) (w := w) (base := base) (at_mk X G a2 l2 c2 k2) T.toTxtW
  have dRound := df_round (P := P) (w := w) (base := base) (at_mk X G a4 l4 c4 k4) T.toTxtW
  have dPrimes := df_primes (P := P) (w := w) (base := base) (at_mk X G a5 l5 c5 k5)
  have dLper := df_lper (P := P) (w := w) (base := base) (at_mk X G a3 l3 c3 k3) T.toTxtW dPrimes dRound
  have dLstart := df_lstart (P := P) (w := w) (base := base) (at_mk X G a6 l6 c6 k6) T.toTxtW
  have FI := ok_init (P := P) (w := w) (base := base) F16 T.toTxtI CW dCheck dLper dLstart
  have dPen := df_pen (P := P) (w := w) (base := base) (at_mk X G a7 l7 c7 k7) T.toTxtP
  have dDraw := df_draw (P := P) (w := w) (base := base) (at_mk X G a8 l8 c8 k8) T.toTxtP
  have dPick := df_pick (P := P) (w := w) (base := base) (at_mk X G a9 l9 c9 k9) T.toTxtP dDraw
  have dTruths := df_truths (P := P) (w := w) (base := base) (at_mk X G a10 l10 c10 k10) T.toTxtP T.range dDraw
  have dModel := df_model (P := P) (w := w) (base := base) (at_mk X G a11 l11 c11 k11) dDraw dPick dTruths
  have dTruth := df_truth (P := P) (w := w) (base := base) (at_mk X G a12 l12 c12 k12) T.toTxtP
  have dWhere := df_where (P := P) (w := w) (base := base) (at_mk X G a13 l13 c13 k13) T.toTxtP CW M FI bI
  have dHas := df_has (P := P) (w := w) (base := base) (at_mk X G a14 l14 c14 k14)
  have OC : Own P w K mg base 3 C "__contains__" ["self", "x"] (spContains K C) := ⟨f17, _, a17, i17, t17, k17, bC, ok_contains F17 CW dFrom⟩
  have OB : Own P w K mg base 1 C "__bool__" ["self"] (spBool K C) := ⟨f18, _, a18, i18, t18, k18, bB, ok_bool F18 CW⟩
  have GS : FnR P w K mg base CX0 5 f19 (spSince K C) := (FnOk.raw (ok_since F19 T.toTxtI M FI bI dFrom) bS .nil).imp fun vs H Q E h => by rw [List.append_nil]; exact h
  have GO : FnR P w K mg base CX0 5 f20 (spOf K C) := (FnOk.raw (ok_of F20 T.toTxtI M FI bI dFrom) bO .nil).imp fun vs H Q E h => by rw [List.append_nil]; exact h
  exact ok_law (fun_mk (st := sLaw) l15 c15 k15) T CW dPen dDraw dPick dModel dTruth dWhere dHas OC OB ⟨rd, ga⟩ ⟨a19, ⟨rest19, r19⟩, i19⟩ ⟨a20, ⟨rest20, r20⟩, i20⟩ GS GO
theorem walk {l : PySem.W.OpenLaw} {q : Program} {loose : List Str} {XP : (Str → Option Value) → Heap → Prop} {YP : World → Heap → Prop} {d : DefRec} {K : Params → PySem.W.Frag} (hn : l.most = some 63) (hdf : d.params.defaults = [])
    (hY : ∀ (w : World) (h : Heap), YP w h → (K w.params).In h)
    (F : ∀ (w : World) (mg : Str → Option Value) (fa : Addr) (h : Heap), (K w.params).In h → h.Ns mainGlobals mg → mg d.name = some (.ref fa) →
      ∃ fd : FuncData, (∀ (s : Shared) (u : Value), BindsTo s fd ⟨[u], []⟩ [("script", u)]) ∧ ∀ base : Heap, (K w.params).In base → base.Ns mainGlobals mg → FnOk l.prog w (K w.params) mg base CX0 7 fa fd ["script"] (spLaw (K w.params))) :
    PySem.W.WalkO q loose XP YP l.row.toRowW d [] (fun f vs => PySem.call f vs) :=
  L2.walk_of (n := 63) (k := 7) (x := "script") (CX := fun _ => CX0) (sp := fun w => spLaw (K w.params)) hn (by decide) hdf ⟨rfl, by decide, by decide⟩ hY F (fun _ _ a ns hl _ hS => ⟨a, ns, rfl, hS, hl, fun _ => rfl⟩) fun _ _ _ _ _ z => z
end Ef
set_option Elab.async false
set_option linter.all false
open PySem PySem.W PyProof.Rows in
set_option maxRecDepth 100000 in
set_option maxHeartbeats 0 in
theorem PySem.Challenge.cw_everyfloor_k11_whole_members_of_sets_holds : PySem.Challenge.rw_everyfloor_k11_whole_members_of_sets.Holds := by
  w_on; o_law; k_head; (case hw => w_witness2)
  k_fill
  refine Ef.walk (l := PySem.Challenge.rw_everyfloor_k11_whole_members_of_sets) rfl rfl (fun w h Y => PySem.W.kIn_of Y) ?F
  case F =>
    intro w mg fa h KX G hmg
    refine' Ef.all_mk KX G hmg ?aC ?a0 ?l0 ?c0 ?k0 ?a1 ?l1 ?c1 ?k1 ?a2 ?l2 ?c2 ?k2 ?a3 ?l3 ?c3 ?k3 ?a4 ?l4 ?c4 ?k4 ?a5 ?l5 ?c5 ?k5 ?a6 ?l6 ?c6 ?k6 ?a7 ?l7 ?c7 ?k7 ?a8 ?l8 ?c8 ?k8 ?a9 ?l9 ?c9 ?k9 ?a10 ?l10 ?c10 ?k10 ?a11 ?l11 ?c11 ?k11 ?a12 ?l12 ?c12 ?k12 ?a13 ?l13 ?c13 ?k13 ?a14 ?l14 ?c14 ?k14 ?a15 ?l15 ?c15 ?k15 ?a16 ?i16 ?t16 ?l16 ?c16 ?k16 ?a17 ?i17 ?t17 ?l17 ?c17 ?k17 ?a18 ?i18 ?t18 ?l18 ?c18 ?k18 ?a19 ?r19 ?i19 ?l19 ?c19 ?k19 ?a20 ?r20 ?i20 ?l20 ?c20 ?k20 ?pg ?hd ?po ?sa ?mk ?kc ?rd ?ga ?n0 ?n1 ?n2 ?n3 ?n4 ?n5 ?z0 ?z1 ?z2 ?z3 ?z4 ?z5 ?z6 ?z7 ?z8 ?z9 ?z10 ?z11 ?e0 ?e1
    (case aC => k_is)
    (case a0 => k_is)
    (case l0 => k_is)
    (case c0 => k_is)
    (case k0 => k_is)
    (case a1 => k_is)
    (case l1 => k_is)
    (case c1 => k_is)
    (case k1 => k_is)
    (case a2 => k_is)
    (case l2 => k_is)
    (case c2 => k_is)
    (case k2 => k_is)
    (case a3 => k_is)
    (case l3 => k_is)
    (case c3 => k_is)
    (case k3 => k_is)
    (case a4 => k_is)
    (case l4 => k_is)
    (case c4 => k_is)
    (case k4 => k_is)
    (case a5 => k_is)
    (case l5 => k_is)
    (case c5 => k_is)
    (case k5 => k_is)
    (case a6 => k_is)
    (case l6 => k_is)
    (case c6 => k_is)
    (case k6 => k_is)
    (case a7 => k_is)
    (case l7 => k_is)
    (case c7 => k_is)
    (case k7 => k_is)
    (case a8 => k_is)
    (case l8 => k_is)
    (case c8 => k_is)
    (case k8 => k_is)
    (case a9 => k_is)
    (case l9 => k_is)
    (case c9 => k_is)
    (case k9 => k_is)
    (case a10 => k_is)
    (case l10 => k_is)
    (case c10 => k_is)
    (case k10 => k_is)
    (case a11 => k_is)
    (case l11 => k_is)
    (case c11 => k_is)
    (case k11 => k_is)
    (case a12 => k_is)
    (case l12 => k_is)
    (case c12 => k_is)
    (case k12 => k_is)
    (case a13 => k_is)
    (case l13 => k_is)
    (case c13 => k_is)
    (case k13 => k_is)
    (case a14 => k_is)
    (case l14 => k_is)
    (case c14 => k_is)
    (case k14 => k_is)
    (case a15 => k_is)
    (case l15 => k_is)
    (case c15 => k_is)
    (case k15 => k_is)
    (case a16 => k_is)
    (case i16 => k_is)
    (case t16 => k_is)
    (case l16 => k_is)
    (case c16 => k_is)
    (case k16 => k_is)
    (case a17 => k_is)
    (case i17 => k_is)
    (case t17 => k_is)
    (case l17 => k_is)
    (case c17 => k_is)
    (case k17 => k_is)
    (case a18 => k_is)
    (case i18 => k_is)
    (case t18 => k_is)
    (case l18 => k_is)
    (case c18 => k_is)
    (case k18 => k_is)
    (case a19 => k_is)
    (case r19 => k_is)
    (case i19 => k_is)
    (case l19 => k_is)
    (case c19 => k_is)
    (case k19 => k_is)
    (case a20 => k_is)
    (case r20 => k_is)
    (case i20 => k_is)
    (case l20 => k_is)
    (case c20 => k_is)
    (case k20 => k_is)
    (case pg => k_is)
    (case hd => k_is)
    (case po => k_is)
    (case sa => k_is)
    (case mk => k_is)
    (case kc => k_is)
    (case rd => k_is)
    (case ga => k_is)
    (case n0 => k_is)
    (case n1 => k_is)
    (case n2 => k_is)
    (case n3 => k_is)
    (case n4 => k_is)
    (case n5 => k_is)
    (case z0 => k_is)
    (case z1 => k_is)
    (case z2 => k_is)
    (case z3 => k_is)
    (case z4 => k_is)
    (case z5 => k_is)
    (case z6 => k_is)
    (case z7 => k_is)
    (case z8 => k_is)
    (case z9 => k_is)
    (case z10 => k_is)
    (case z11 => k_is)
    (case e0 => k_is)
    (case e1 => k_is)
#print axioms PySem.Challenge.cw_everyfloor_k11_whole_members_of_sets_holds
