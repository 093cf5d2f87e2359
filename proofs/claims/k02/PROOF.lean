import PyProof.Rows.All
import Wide.All
import OpenK.AllK
import Wide.FinOn
import HandS.ForMost
import PySem.Challenge.RW_everyfloor_k02_whole_values_of_pieces
import KE.GoesEnum
import HandS.Style
import HandS.TupAny
import KE.KCallOwn
import HandS.ExcOwn
import HandS.ForExc
import HandS.TryMany
import HandS.IsInst
import HandS.Gcd
import HandS.ExcInit
import HandS.ExcField
import HandS.Property
import HandS.Conv
import HandS.Wide
import HandS.Rev
import HandS.Defaults
set_option Elab.async false
set_option linter.all false
set_option maxRecDepth 100000
set_option maxHeartbeats 4000000
namespace Ef
open PySem PySem.Spec PyProof.Rows L2
def top (i : Nat) : Stmt := PySem.Challenge.pw_everyfloor_k02_whole_values_of_pieces.main.body.getD i (.Pass ⟨0, 0, 0, 0⟩)
abbrev sPen : Stmt := top 29
abbrev sDraw : Stmt := top 30
abbrev sPick : Stmt := top 31
/-! ### the pen -/
def penD (l : Addr) (a b : Int) : List (Key × V) := [(.inr "cells", .ref l), (.inr "at", .int a), (.inr "left", .int b)]
theorem pen_cells (l : Addr) (a b : Int) : valV (penD l a b) (Sum.inr "cells") = some (.ref l) := by with_unfolding_all rfl
theorem pen_at (l : Addr) (a b : Int) : valV (penD l a b) (Sum.inr "at") = some (.int a) := by with_unfolding_all rfl
theorem pen_left (l : Addr) (a b : Int) : valV (penD l a b) (Sum.inr "left") = some (.int b) := by with_unfolding_all rfl
theorem put_at (l : Addr) (a b c : Int) : putK (penD l a b) (Sum.inr "at") (.int c) = penD l c b := by with_unfolding_all rfl
theorem put_left (l : Addr) (a b c : Int) : putK (penD l a b) (Sum.inr "left") (.int c) = penD l a c := by with_unfolding_all rfl
/-- at p stands the pen: its list of ints at l, its place a, what is left b -/
structure Pen (H : Hp) (p l : Addr) (ns : List Int) (a b : Int) : Prop where
  hd : H p = some (.dK (penD l a b))
  hl : H l = some (.lst (ns.map V.int))
  len : ns.length ≤ 63
  a0 : 0 ≤ a
  b0 : 0 ≤ b
/-- all that is tracked but p is as it was -/
def Kp (p : Addr) (H H' : Hp) : Prop := ∀ x o, x ≠ p → H x = some o → H' x = some o
theorem Kp.refl (p : Addr) (H : Hp) : Kp p H H := fun _ _ _ h => h
theorem Kp.trans {p : Addr} {H H1 H2 : Hp} (a : Kp p H H1) (b : Kp p H1 H2) : Kp p H H2 := fun x o n h => b x o n (a x o n h)
theorem Kp.put {p : Addr} {H : Hp} (o : HO) : Kp p H (upd H p o) := fun x u n h => by rw [upd_ne n]; exact h
theorem Kp.new {p q : Addr} {H : Hp} (o : HO) (hq : H q = none) : Kp p H (upd H q o) := fun x u n h => by rw [upd_ne (ne_of_none h hq)]; exact h
/-! ### data -/
theorem dp_ints {K : PySem.W.Frag} {H : Hp} : ∀ ns : List Int, DpAll K H (ns.map V.int) (ns.map PyData.int)
  | [] => .nil
  | n :: ns => .cons (.int n) (dp_ints ns)
theorem dp_bls {K : PySem.W.Frag} {H : Hp} : ∀ bs : List Bool, DpAll K H (bs.map V.bl) (bs.map PyData.bool)
  | [] => .nil
  | n :: ns => .cons (.bl n) (dp_bls ns)
theorem can_ints : ∀ ns : List Int, PyData.canLayAll0 (ns.map PyData.int) = true ∧ PyData.depthAll (ns.map PyData.int) = 0
  | [] => ⟨rfl, rfl⟩
  | n :: ns => by
    obtain ⟨h1, h2⟩ := can_ints ns
    constructor
    · show (PyData.canLay0 (.int n) && PyData.canLayAll0 (ns.map PyData.int)) = true
      rw [h1]; rfl
    · show max (PyData.depth (.int n)) (PyData.depthAll (ns.map PyData.int)) = 0
      rw [h2]; rfl
theorem can_bls : ∀ ns : List Bool, PyData.canLayAll0 (ns.map PyData.bool) = true ∧ PyData.depthAll (ns.map PyData.bool) = 0
  | [] => ⟨rfl, rfl⟩
  | n :: ns => by
    obtain ⟨h1, h2⟩ := can_bls ns
    constructor
    · show (PyData.canLay0 (.bool n) && PyData.canLayAll0 (ns.map PyData.bool)) = true
      rw [h1]; rfl
    · show max (PyData.depth (.bool n)) (PyData.depthAll (ns.map PyData.bool)) = 0
      rw [h2]; rfl
theorem sh_list {ds : List PyData} (h1 : PyData.canLayAll0 ds = true) (h2 : PyData.depthAll ds = 0) : SeqAt.shaped (.list ds) = true ∧ SeqAt.shaped (.tuple ds) = true := by
  constructor
  · show (PyData.canLayAll0 ds && decide (PyData.depthAll ds + 1 ≤ 64)) = true
    rw [h1, h2]; rfl
  · show (PyData.canLayAll0 ds && decide (PyData.depthAll ds + 1 ≤ 64)) = true
    rw [h1, h2]; rfl
theorem eqv_nil (ns : List Int) : PyData.eqv (.list (ns.map PyData.int)) (.list []) = ns.isEmpty := by
  cases ns with
  | nil => rfl
  | cons n ns => rfl
theorem eqv_bls : ∀ as bs : List Bool, PyData.eqvAll (as.map PyData.bool) (bs.map PyData.bool) = decide (as = bs)
  | [], [] => rfl
  | [], _ :: _ => rfl
  | _ :: _, [] => rfl
  | a :: as, b :: bs => by
    show (PyData.eqv (.bool a) (.bool b) && PyData.eqvAll (as.map PyData.bool) (bs.map PyData.bool)) = _
    rw [eqv_bls as bs]
    show ((a == b) && decide (as = bs)) = decide (a :: as = b :: bs)
    by_cases h1 : a = b <;> by_cases h2 : as = bs <;> simp [h1, h2]
end Ef
set_option Elab.async false
set_option linter.all false
set_option maxRecDepth 100000
set_option maxHeartbeats 4000000
namespace Ef
open PySem PySem.Spec PyProof.Rows L2
structure TxtP (mg : Str → Option Value) : Prop where
  int : mg "int" = none
  len : mg "len" = none
  list : mg "list" = none
/-- what a draw promises -/
def spDraw : Sp := fun vs H Q _ => ∃ (p l : Addr) (ns : List Int) (a b m : Int), vs = [.ref p, .int m] ∧ Pen H p l ns a b ∧ a ≤ 1073741824 ∧ 1 ≤ m ∧ m < 1073741824 ∧
  ∀ (d a' b' : Int) (H' : Hp), 0 ≤ d → d < m → a' ≤ a + 1 → Pen H' p l ns a' b' → Kp p H H' → Q (.int d) H'
theorem scDraw : FnScope ["pen", "many", "digit", "at", "cell", "mixed"] ["pen", "many"] (defScope sDraw) := ⟨rfl, rfl, rfl, by decide +kernel, rfl, by decide +kernel, by decide +kernel⟩
section
variable {P : Program} {w : World} {K : PySem.W.Frag} {mg : Str → Option Value} {base : Heap}
theorem Pen.ne {H : Hp} {p l : Addr} {ns : List Int} {a b : Int} (h : Pen H p l ns a b) : l ≠ p := ne_of h.hl h.hd (by intro q; cases q)
theorem Pen.put {H : Hp} {p l : Addr} {ns : List Int} {a b : Int} (h : Pen H p l ns a b) {a' b' : Int} (ha : 0 ≤ a') (hb : 0 ≤ b') : Pen (upd H p (.dK (penD l a' b'))) p l ns a' b' :=
  ⟨upd_same, by rw [upd_ne h.ne]; exact h.hl, h.len, ha, hb⟩
theorem Pen.kp {H H' : Hp} {p l : Addr} {ns : List Int} {a b : Int} (h : Pen H p l ns a b) (k : Kp p H H') (hp : H' p = H p) : Pen H' p l ns a b := ⟨hp.trans h.hd, k _ _ h.ne h.hl, h.len, h.a0, h.b0⟩
theorem emB (x k : Int) (h : 0 < k) (h2 : k < 2 ^ 64) : -(2 ^ 64) < x % k ∧ x % k < 2 ^ 64 := by
  have h1 := Int.emod_nonneg x (show k ≠ 0 by omega)
  have h3 := Int.emod_lt_of_pos x h
  omega
theorem Pen.gl {H : Hp} {p l : Addr} {ns : List Int} {a b : Int} (h : Pen H p l ns a b) : DGet H p (.str "left") (some (.int b)) := by
  have z := DGet.k (k := Sum.inr "left") h.hd
  rw [pen_left] at z
  exact z
theorem Pen.ga {H : Hp} {p l : Addr} {ns : List Int} {a b : Int} (h : Pen H p l ns a b) : DGet H p (.str "at") (some (.int a)) := by
  have z := DGet.k (k := Sum.inr "at") h.hd
  rw [pen_at] at z
  exact z
theorem Pen.gc {H : Hp} {p l : Addr} {ns : List Int} {a b : Int} (h : Pen H p l ns a b) : DGet H p (.str "cells") (some (.ref l)) := by
  have z := DGet.k (k := Sum.inr "cells") h.hd
  rw [pen_cells] at z
  exact z
theorem Pen.pl {H : Hp} {p l : Addr} {ns : List Int} {a b c : Int} (h : Pen H p l ns a b) : DPut H p (.str "left") (.int c) (upd H p (.dK (penD l a c))) := by
  have z := DPut.k (k := Sum.inr "left") (v := .int c) h.hd (by show 3 < sizeLine; decide)
  rw [put_left] at z
  exact z
theorem Pen.pa {H : Hp} {p l : Addr} {ns : List Int} {a b c : Int} (h : Pen H p l ns a b) : DPut H p (.str "at") (.int c) (upd H p (.dK (penD l c b))) := by
  have z := DPut.k (k := Sum.inr "at") (v := .int c) h.hd (by show 3 < sizeLine; decide)
  rw [put_at] at z
  exact z
theorem ok_draw {f : Addr} {fd : FuncData} (F : Fun K "_law_draw" "_law_draw" sDraw f fd) (T : TxtP mg) : FnOk P w K mg base CX0 1 f fd ["pen", "many"] spDraw := by
  refine F.ok scDraw (fun vs H Q E h => ?_) (fun cdv A outer s H vs Q E hr h => ?_)
  · obtain ⟨p, l, ns, a, b, m, rfl, _⟩ := h
    rfl
  · obtain ⟨p, l, ns, a, b, m, rfl, hP, ha, hm1, hm2, q⟩ := h
    have hu := hu_of hr
    refine ⟨_, (pss_cons (ps_if (pt_cmpR op_ge (pe_dget hu (pv 0) pe_str (fun _ _ => rfl)) (pv 1) (nomark _)) (pss_cons (ps_set (i := 2) scDraw.nd rfl (.inl rfl) (pe_op op_mod (pe_callTy call_int1 (by rfl) T.int (by decide +kernel) (pa_cons (pe_dget hu (pv 0) pe_str (fun _ _ => rfl)) pa_nil)) (pv 1)))
      (pss_cons (ps_dput hu (pv 0) pe_str (pe_op op_fdiv (pe_dget hu (pv 0) pe_str (fun _ _ => rfl)) (pv 1)) rfl)
      (pss_one (ps_ret (pv 2))))) pss_nil)
      (pss_cons (ps_set (i := 3) scDraw.nd rfl (.inl rfl) (pe_dget hu (pv 0) pe_str (fun _ _ => rfl)))
      (pss_cons (ps_dput hu (pv 0) pe_str (pe_op op_add (pv 3) pe_int) rfl)
      (pss_cons (ps_set (i := 4) scDraw.nd rfl (.inl rfl) (pe_op op_add (pe_op op_mul pe_int (pv 3)) pe_int))
      (pss_cons (ps_if (pt_cmpR (op_neD hr.units) (pe_dget hu (pv 0) pe_str (fun _ _ => rfl)) (pe_lst pa_nil) (nomark _)) (pss_one (ps_set (i := 4) scDraw.nd rfl (.inl rfl) (pe_ix ix_list (pe_dget hu (pv 0) pe_str (fun _ _ => rfl)) (pe_op op_mod (pe_callTy call_int1 (by rfl) T.int (by decide +kernel) (pa_cons (pv 3) pa_nil)) (pe_callB call_len_seq (by rfl) T.len PySem.boot_len (pa_cons (pe_dget hu (pv 0) pe_str (fun _ _ => rfl)) pa_nil))) (fun _ _ => rfl)))) pss_nil)
      (pss_cons (ps_if (pw_and (pt_cmpR op_lt (pv 3) (pe_callB call_len_seq (by rfl) T.len PySem.boot_len (pa_cons (pe_dget hu (pv 0) pe_str (fun _ _ => rfl)) pa_nil)) (nomark _)) (pw_and1 (pt_cmpR op_ge (pv 4) (pe_op op_pow pe_int pe_int) (nomark _)))).pt (pss_cons (ps_dput hu (pv 0) pe_str (pe_op op_fdiv (pe_op op_sub (pv 4) (pe_op op_pow pe_int pe_int)) (pv 1)) rfl)
      (pss_one (ps_ret (pe_op op_mod (pe_callTy call_int1 (by rfl) T.int (by decide +kernel) (pa_cons (pe_op op_sub (pv 4) (pe_op op_pow pe_int pe_int)) pa_nil)) (pv 1))))) pss_nil)
      (pss_cons (ps_set (i := 5) scDraw.nd rfl (.inl rfl) (pe_op op_add (pe_op op_add (pe_op op_add (pe_op op_mul (pe_op op_mod (pe_callTy call_int1 (by rfl) T.int (by decide +kernel) (pa_cons (pv 4) pa_nil)) pe_int) pe_int) (pe_op op_mul (pe_op op_mul pe_int (pv 3)) (pv 3))) (pe_op op_mul pe_int (pv 3))) pe_int))
      (pss_cons (ps_set (i := 5) scDraw.nd rfl (.inl rfl) (pe_op op_mod (pe_callTy call_int1 (by rfl) T.int (by decide +kernel) (pa_cons (pv 5) pa_nil)) pe_int))
      (pss_cons (ps_set (i := 5) scDraw.nd rfl (.inl rfl) (pe_op op_mod (pe_callTy call_int1 (by rfl) T.int (by decide +kernel) (pa_cons (pe_op op_mul (pv 5) (pe_op op_add (pv 5) pe_int)) pa_nil)) pe_int))
      (pss_one (ps_ret (pe_op op_mod (pe_callTy call_int1 (by rfl) T.int (by decide +kernel) (pa_cons (pe_op op_fdiv (pe_op op_mod (pe_callTy call_int1 (by rfl) T.int (by decide +kernel) (pa_cons (pe_op op_mul (pv 5) (pv 5)) pa_nil)) pe_int) pe_int) pa_nil)) (pv 1))))))))))))), ?_⟩
    -- if pen['left'] >= many
    refine ⟨_, rfl, p, _, rfl, hP.gl, _, rfl, _, _, rfl, rfl, _, rfl, ?_⟩
    refine ite2 (fun hb => ?_) (fun hb => ?_)
    · -- digit; pen['left']; return
      refine ⟨_, rfl, p, _, rfl, hP.gl, .inl ⟨_, rfl, ?_⟩⟩
      refine ⟨_, rfl, _, _, rfl, rfl, by omega, ?_⟩
      refine ⟨_, rfl, p, _, rfl, hP.gl, _, rfl, _, _, rfl, rfl, ⟨by omega, hm2⟩, _, rfl, p, _, rfl, hP.pl, ?_⟩
      refine ⟨_, rfl, ?_⟩
      exact q _ _ _ _ (Int.emod_nonneg _ (by omega)) (Int.emod_lt_of_pos _ (by omega)) (by omega) (hP.put hP.a0 (Int.ediv_nonneg hP.b0 (by omega))) (Kp.put _)
    · -- at = pen['at']; pen['at'] = at + 1
      refine ⟨_, rfl, p, _, rfl, hP.ga, ?_⟩
      refine ⟨_, rfl, _, _, rfl, rfl, _, rfl, p, _, rfl, hP.pa, ?_⟩
      have hP1 := hP.put (a' := a + 1) (b' := b) (by have := hP.a0; omega) hP.b0
      have a0 := hP.a0
      have b0 := hP.b0
      have k1 : Kp p H (upd H p (.dK (penD l (a + 1) b))) := Kp.put _
      have aE : ∀ {x : Int}, x = a → -(2 ^ 64) < x ∧ x < 2 ^ 64 := fun e => by subst e; constructor <;> omega
      -- cell = 37 * at + 11
      refine ⟨_, rfl, _, _, rfl, rfl, .inl ⟨by decide, by decide⟩, _, _, rfl, rfl, ?_⟩
      -- if pen['cells'] != []
      refine ⟨_, rfl, p, _, rfl, hP1.gc, Nat.zero_le _, fun t ht => ?_⟩
      have hP2 : Pen (upd (upd H p (.dK (penD l (a + 1) b))) t (.lst [])) p l ns (a + 1) b := hP1.kp (Kp.new _ ht) (upd_ne (ne_of_none hP1.hd ht))
      have k2 := k1.trans (Kp.new (.lst []) ht)
      have hT : SqL K (upd (upd H p (.dK (penD l (a + 1) b))) t (.lst [])) t [] := .inl (.inl upd_same)
      refine ⟨_, _, .lst (.inl (.inl hP2.hl)) (dp_ints ns), .lst hT .nil, (sh_list (can_ints ns).1 (can_ints ns).2).1, (sh_list rfl rfl).1, _, rfl, ?_⟩
      generalize upd (upd H p (.dK (penD l (a + 1) b))) t (.lst []) = H2 at hP2 k2 hT ⊢
      rw [eqv_nil]
      have hm0 : (0 : Int) < m := by omega
      refine ite2 ?g1 ?g2
      case' g1 =>
        intro he
        have hn : 0 < ns.length := by
          cases ns with
          | nil => exact absurd he (by decide)
          | cons n ns => exact Nat.succ_pos _
        have hlt : (a % (ns.length : Int)).toNat < ns.length := by
          have h1 := Int.emod_nonneg a (show (ns.length : Int) ≠ 0 by omega)
          have h2 := Int.emod_lt_of_pos a (show (0 : Int) < (ns.length : Int) by omega)
          omega
        refine ⟨_, rfl, p, _, rfl, hP2.gc, _, rfl, .inl ⟨_, rfl, _, rfl, p, _, rfl, hP2.gc, _, _, rfl, .inl (.inl (.inl hP2.hl)), _, _, rfl, rfl, by rw [List.length_map]; omega, l, _, _, .int ns[(a % (ns.length : Int)).toNat], rfl, rfl, .inl (.inl hP2.hl), ?_, ?_⟩⟩
        · rw [List.length_map]
          exact at_of (Int.toNat_of_nonneg (Int.emod_nonneg a (show (ns.length : Int) ≠ 0 by omega))).symm (by rw [List.getElem?_map, List.getElem?_eq_getElem hlt]; rfl)
        generalize ns[(a % (ns.length : Int)).toNat] = c
      case' g2 =>
        intro he
        generalize 37 * a + 11 = c
      all_goals
        refine ⟨_, rfl, _, rfl, p, _, rfl, hP2.gc, _, _, rfl, .inl (.inl (.inl hP2.hl)), _, _, rfl, rfl, _, rfl, ?_⟩
        refine ite2 ?_ ?_
      all_goals intro h1
      all_goals try
        (refine ⟨_, rfl, _, _, rfl, rfl, ⟨by decide, by decide, by decide⟩, _, _, rfl, rfl, _, rfl, ?_⟩
         refine ite2 ?_ ?_ <;> intro h2)
      all_goals try
        (refine ⟨_, rfl, _, _, rfl, rfl, ⟨by decide, by decide, by decide⟩, _, _, rfl, rfl, _, rfl, _, _, rfl, rfl, ⟨hm0, hm2⟩, _, rfl, p, _, rfl, hP2.pl, ?_⟩
         refine ⟨_, rfl, _, _, rfl, rfl, ⟨by decide, by decide, by decide⟩, _, _, rfl, rfl, .inl ⟨_, rfl, _, rfl, _, _, rfl, rfl, hm0, ?_⟩⟩
         exact q _ _ _ _ (Int.emod_nonneg _ (Int.ne_of_gt hm0)) (Int.emod_lt_of_pos _ hm0) (Int.le_refl _) (hP2.put hP2.a0 (Int.ediv_nonneg (Int.sub_nonneg_of_le (of_decide_eq_true h2)) (Int.le_of_lt hm0))) (k2.trans (Kp.put _)))
      all_goals try refine iteF ?_
      all_goals
        refine ⟨_, rfl, .inl ⟨_, rfl, _, _, rfl, rfl, (by show (0 : Int) < _; decide), _, _, rfl, rfl, .inr ⟨by decide, by decide⟩, _, rfl, _, _, rfl, rfl, .inl ⟨by decide, by decide⟩, _, rfl, _, _, rfl, rfl, .inr (aE rfl), _, _, rfl, rfl, _, rfl, _, _, rfl, rfl, .inl ⟨by decide, by decide⟩, _, _, rfl, rfl, _, _, rfl, rfl, ?_⟩⟩
        refine ⟨_, rfl, .inl ⟨_, rfl, _, _, rfl, rfl, (by show (0 : Int) < _; decide), ?_⟩⟩
        refine ⟨_, rfl, _, rfl, _, _, rfl, rfl, _, _, rfl, rfl, .inl (emB _ _ (by decide) (by decide)), .inl ⟨_, rfl, _, _, rfl, rfl, (by show (0 : Int) < _; decide), ?_⟩⟩
        refine ⟨_, rfl, _, rfl, _, _, rfl, rfl, .inl (emB _ _ (by decide) (by decide)), .inl ⟨_, rfl, _, _, rfl, rfl, (by show (0 : Int) < _; decide), _, _, rfl, rfl, ⟨by decide, by decide⟩, .inl ⟨_, rfl, _, rfl, _, _, rfl, rfl, hm0, ?_⟩⟩⟩
        exact q _ _ _ _ (Int.emod_nonneg _ (Int.ne_of_gt hm0)) (Int.emod_lt_of_pos _ hm0) (Int.le_refl _) hP2 k2
end
end Ef
set_option Elab.async false
set_option linter.all false
set_option maxRecDepth 100000
set_option maxHeartbeats 4000000
namespace Ef
open PySem PySem.Spec PyProof.Rows L2
/-- a def of the text, by its name -/
structure Df (P : Program) (w : World) (K : PySem.W.Frag) (mg : Str → Option Value) (base : Heap) (k : Nat) (x : Str) (ps : List Str) (sp : Sp) : Prop where
  ex : ∃ f fd, mg x = some (.ref f) ∧ PySem.W.keepIn K (.ref f) = true ∧ Binds K fd ps [] ∧ FnOk P w K mg base CX0 k f fd ps sp
theorem Df.call {X : Cx} {k : Nat} {x : Str} {ps : List Str} {sp : Sp} {e : Expr} {es : List Expr} {t : TA} {p pos : Pos} (D : Df X.prog X.w X.K X.mg X.base k x ps sp) (hr : Room k X.A) (ha : PA X (e :: es) t) (hg : Gl X x := by rfl)
    (hdb : (x == ("__debug__" : Str)) = false := by decide) (he : starEach (e :: es) X.env = (false, eval e X.env) :: starEach es X.env := by rfl) (hpl : (backTo pos (starEach es X.env)).any (·.1) = false := by rfl) :
    PE X (.Call (.Name x p) (e :: es) [] pos) (tCall sp [] E0 t) := by
  obtain ⟨f, fd, hm, hk, hb, F⟩ := D.ex
  exact pe_call F hr hg hm hk hb .nil pass0 ha hdb he hpl
/-- where the text's def stands behind the top -/
structure At (K : PySem.W.Frag) (mg : Str → Option Value) (x : Str) (st : Stmt) : Prop where
  ex : ∃ f fd, mg x = some (.ref f) ∧ Fun K x x st f fd
section
variable {P : Program} {w : World} {K : PySem.W.Frag} {mg : Str → Option Value} {base : Heap}
theorem Kp.of_same {p : Addr} {H H' : Hp} (h : Same H H') : Kp p H H' := fun x o _ e => h x o e
theorem Kp.rd {p : Addr} {H H' : Hp} {q : Addr} {u : HO} (k : Kp p H H') (n : q ≠ p) (h : Rd H q u) : Rd H' q u := by
  rcases h with h | ⟨o, h⟩
  · exact .inl (k _ _ n h)
  · exact .inr ⟨o, k _ _ n h⟩
theorem Kp.sql {p : Addr} {H H' : Hp} {q : Addr} {xs : List V} (k : Kp p H H') (n : q ≠ p) (h : SqL K H q xs) : SqL K H' q xs := by
  rcases h with h | h
  · exact .inl (k.rd n h)
  · exact .inr h
theorem Kp.sqt {p : Addr} {H H' : Hp} {q : Addr} {xs : List V} (k : Kp p H H') (n : q ≠ p) (h : SqT K H q xs) : SqT K H' q xs := by
  rcases h with h | h
  · exact .inl (k.rd n h)
  · exact .inr h
theorem Kp.free {p : Addr} {H H' : Hp} (k : Kp p H H') {q : Addr} (n : q ≠ p) (h : H' q = none) : H q = none := by
  cases e : H q with
  | none => rfl
  | some o => rw [k q o n e] at h; cases h
theorem Kp.mut {p q : Addr} {H H' : Hp} {o : HO} (k : Kp p H H') (h : H q = none) : Kp p H (upd H' q o) := fun x u n e => by
  rw [upd_ne (ne_of_none e h)]
  exact k x u n e
theorem small1000' {n : Nat} (h : n ≤ 100000) : n < sizeLine := Nat.lt_of_le_of_lt h (by decide)
theorem df_draw (A : At K mg "_law_draw" sDraw) (T : TxtP mg) : Df P w K mg base 1 "_law_draw" ["pen", "many"] spDraw := by
  obtain ⟨f, fd, hm, F⟩ := A.ex
  exact ⟨f, fd, hm, F.kp, F.binds (fun _ _ _ _ _ _ us hl => match us, hl with | [_, _], _ => rfl), ok_draw F T⟩
/-! ### _law_pen -/
def spPen (K : PySem.W.Frag) : Sp := fun vs H Q _ => ∃ (a : Addr) (ns : List Int), vs = [.ref a] ∧ SqL K H a (ns.map V.int) ∧ ns.length ≤ 63 ∧ ∀ (p l : Addr) (H' : Hp), H p = none → Same H H' → Pen H' p l ns 0 0 → Q (.ref p) H'
theorem scPen : FnScope ["script"] ["script"] (defScope sPen) := ⟨rfl, rfl, rfl, by decide +kernel, rfl, by decide +kernel, by decide +kernel⟩
theorem cut63 (xs : List V) (h : xs.length ≤ 63) : cutV xs none (some 63) = xs := by
  unfold cutV
  rw [HT.sIx_none, show HT.sIx xs.length xs.length (some 63) = min 63 xs.length from HT.sIx_nat xs.length xs.length 63, Nat.min_eq_right h]
  simp
theorem df_pen (A : At K mg "_law_pen" sPen) (T : TxtP mg) : Df P w K mg base 1 "_law_pen" ["script"] (spPen K) := by
  obtain ⟨f, fd, hm, F⟩ := A.ex
  refine ⟨f, fd, hm, F.kp, F.binds (fun _ _ _ _ _ _ us hl => match us, hl with | [_], _ => rfl), F.ok scPen (fun vs H Q E h => ?_) (fun cdv A outer s H vs Q E hr h => ?_)⟩
  · obtain ⟨a, ns, rfl, _⟩ := h
    rfl
  · obtain ⟨a, ns, rfl, hS, hlen, q⟩ := h
    refine ⟨_, (pss_one (ps_ret (pe_disp (pps_cons pe_str (pe_callTy call_list_of (by rfl) T.list (by decide +kernel) (pa_cons (pe_slice sl_list (pv 0) po_none (po_some pe_int)) pa_nil)) (pps_cons pe_str pe_int (pps_cons pe_str pe_int pps_nil))) (by rfl) (by rfl) (fun z => by cases z) (by decide)))), ?_⟩
    intro p hp
    have s1 : Same H (upd H p (.dK [])) := fun b o e => by rw [upd_ne (ne_of_none e hp)]; exact e
    refine ⟨_, rfl, 63, rfl, a, _, rfl, s1.seq hS, fun c hc => ?_⟩
    rw [cut63 _ (by rw [List.length_map]; exact hlen)]
    have s2 : Same H (upd (upd H p (.dK [])) c (.lst (ns.map V.int))) := s1.trans fun b o e => by rw [upd_ne (ne_of_none e hc)]; exact e
    refine ⟨c, _, rfl, .inl (.inl (.inl upd_same)), fun l hl => ?_⟩
    have s3 : Same H (upd (upd (upd H p (.dK [])) c (.lst (ns.map V.int))) l (.lst (ns.map V.int))) := s2.trans fun b o e => by rw [upd_ne (ne_of_none e hl)]; exact e
    have hpc : p ≠ c := fun z => by rw [← z, upd_same] at hc; cases hc
    have hpl : p ≠ l := fun z => by rw [← z, upd_ne hpc, upd_same] at hl; cases hl
    refine ⟨by rw [upd_ne hpl, upd_ne hpc, upd_same], penD l 0 0, rfl, by show 3 ≤ 15; decide, ?_⟩
    refine q p l _ hp (fun b o e => ?_) ⟨upd_same, by rw [upd_ne hpl.symm, upd_same], hlen, Int.le_refl 0, Int.le_refl 0⟩
    rw [upd_ne (ne_of_none e hp)]
    exact s3 _ _ e
/-! ### _law_pick -/
def spPick (K : PySem.W.Frag) : Sp := fun vs H Q _ => ∃ (p l q : Addr) (ns : List Int) (a b : Int) (xs : List V), vs = [.ref p, .ref q] ∧ Pen H p l ns a b ∧ a ≤ 1073741824 ∧ SqL K H q xs ∧ q ≠ p ∧ 1 ≤ xs.length ∧ xs.length ≤ 100000 ∧
  ∀ (j : Nat) (v : V) (a' b' : Int) (H' : Hp), xs[j]? = some v → a' ≤ a + 1 → Pen H' p l ns a' b' → Kp p H H' → Q v H'
theorem scPick : FnScope ["pen", "some"] ["pen", "some"] (defScope sPick) := ⟨rfl, rfl, rfl, by decide +kernel, rfl, by decide +kernel, by decide +kernel⟩
theorem df_pick (A : At K mg "_law_pick" sPick) (T : TxtP mg) (Ddraw : Df P w K mg base 1 "_law_draw" ["pen", "many"] spDraw) : Df P w K mg base 2 "_law_pick" ["pen", "some"] (spPick K) := by
  obtain ⟨f, fd, hm, F⟩ := A.ex
  refine ⟨f, fd, hm, F.kp, F.binds (fun _ _ _ _ _ _ us hl => match us, hl with | [_, _], _ => rfl), F.ok scPick (fun vs H Q E h => ?_) (fun cdv A outer s H vs Q E hr h => ?_)⟩
  · obtain ⟨p, l, q, ns, a, b, xs, rfl, _⟩ := h
    rfl
  · obtain ⟨p, l, q, ns, a, b, xs, rfl, hP, ha, hS, hqp, h1, h2, k⟩ := h
    refine ⟨_, (pss_one (ps_ret (pe_ix ix_list (pv 1) (Ddraw.call (hr.mono (by decide)) (pa_cons (pv 0) (pa_cons (pe_callB call_len_seq (by rfl) T.len PySem.boot_len (pa_cons (pv 1) pa_nil)) pa_nil))) (fun _ _ => rfl)))), ?_⟩
    refine ⟨_, rfl, _, rfl, _, rfl, _, _, rfl, .inl hS, p, l, ns, a, b, _, rfl, hP, ha, by omega, by omega, fun d a' b' H' d0 d1 ha' hP' hK => ?_⟩
    have hd : d.toNat < xs.length := by omega
    exact ⟨q, _, _, _, rfl, rfl, hK.sql hqp hS, at_of (Int.toNat_of_nonneg d0).symm (List.getElem?_eq_getElem hd), k _ _ _ _ _ (List.getElem?_eq_getElem hd) ha' hP' hK⟩
end
end Ef
set_option Elab.async false
set_option linter.all false
set_option maxRecDepth 100000
set_option maxHeartbeats 2000000
/-! for i, x in enumerate(t), t a tuple -/
namespace Ef
open PySem PySem.Spec PyProof.Rows L2
def IteT (K : PySem.W.Frag) (a : Addr) : It :=
  ⟨fun i H => ∃ (xs : List V) (x : V), SqT K H a xs ∧ xs[i]? = some x, fun i H v H' => ∃ T x, v = .ref T ∧ H T = none ∧ H' = upd H T (.tup [.int (i : Nat), x]) ∧ ∀ xs, SqT K H a xs → xs[i]? = some x, fun i H => ∃ xs : List V, SqT K H a xs ∧ xs.length ≤ i⟩
/-- at vals end -/
theorem draws_end {prog : Program} {w : World} {A : Around} (hh : A.handled = none) (it t : Addr) (items : Array Value) (n : Nat) (hn : items.size ≤ n) :
    Draws prog w A it [it, t] n (fun _ _ => True) (fun i h => i = n ∧ h.IsTupleIter it t n ∧ h.IsTuple t items) where
  live := fun _ _ sta => let ⟨o, ho, _⟩ := sta.2.1; ⟨o, ho⟩
  frame := fun _ _ _ sta hk => ⟨sta.1, sta.2.1.at fun o e => hk it (by simp) o e, sta.2.2.at fun o e => hk t (by simp) o e⟩
  item := fun i s Q E hi sta hQ => absurd sta.1 (Nat.ne_of_lt hi)
  done := fun s Q E sta hE => wpAny_nextOf_tuple_end hh sta.2.1 sta.2.2 (by simp; omega) hE
theorem turn_enumT {P : Program} {w : World} {K : PySem.W.Frag} {elts : List Expr} {kk : Nat} {tpos : Pos} (a e it : Addr) :
    Turn P w K (.Tuple elts kk tpos) (IteT K a) [e, it] e (fun i h => (∃ was, IsEnum h e it (0 + ((i : Nat) : Int)) was) ∧ h.IsTupleIter it a i ∧ e ≠ it ∧ a ≠ it ∧ a ≠ e) where
  mem := by simp
  obj := fun i h sta b hb => by
    obtain ⟨⟨was, hEn⟩, ⟨o, ho, hc, hd⟩, _⟩ := sta
    have eOr : b = e ∨ b = it := by simpa using hb
    rcases eOr with z | z
    · rw [z]; exact ⟨_, hEn, fun v q => nomatch q⟩
    · rw [z]; exact ⟨o, ho, fun v q => by rw [hd] at q; cases q⟩
  keep := fun i h h' sta k => let ⟨⟨was, hEn⟩, hi, eNi⟩ := sta; ⟨⟨was, k e (by simp) _ hEn⟩, hi.at fun o q => k it (by simp) o q, eNi⟩
  item := by
    intro X hP hw hK hc i pins s σ H E I hFp sta hGo
    subst hP hw hK
    obtain ⟨⟨was, hEn⟩, hIt, eNi, aNi, aNe⟩ := sta
    obtain ⟨xs, x, hSq, hx⟩ := hGo
    obtain ⟨vals, rVs, p, zLen⟩ := I.tuple hSq
    obtain ⟨u, hu, ru⟩ := rVs.get hx
    have eIn : e < s.heap.objs.size := Heap.lt_size hEn
    have iIn : it < s.heap.objs.size := by obtain ⟨_, q, _⟩ := hIt; exact Heap.lt_size q
    have hlt : i < vals.toArray.size := by
      rcases Nat.lt_or_ge i vals.length with q | q
      · simpa using q
      · rw [List.getElem?_eq_none q] at hu; cases hu
    refine wpAny_pyNext_enum_itemC (Draws.tuple (A := X.A.in1) (I.ok.hd hc) it a aNi vals.toArray) hEn ⟨hIt, p⟩ hlt eNi (by simp [eNi, Ne.symm aNe]) fun y h' tk hy ho hit' hT zNew hk => ?_
    refine ⟨_, rfl, wpAny_letOwnedTupleGo_enum (s := { s with heap := h', toks := tk + 1 }) ho fun h'' he' sBut => ?_⟩
    have hT2 : h''.get? s.heap.objs.size = some { cls := .type "tuple", data := .seq #[.int (0 + ((i : Nat) : Int)) tk, y] } := (sBut.2 _ (Nat.ne_of_gt eIn)).trans hT
    have ey : y = u := by
      have z : vals[i]? = some y := by simpa using hy
      exact Option.some.inj (z.symm.trans hu)
    have e0 : (0 + ((i : Nat) : Int)) = (i : Int) := Int.zero_add _
    rw [e0] at hT2
    have fresh1 : ObjOk X.prog X.w (upd H s.heap.objs.size (.tup [.int (i : Nat), x])) h'' s.heap.objs.size (.tup [.int (i : Nat), x]) :=
      ⟨by show 2 ≤ sizeLine; decide, [.int i tk, y], .cons ⟨_, rfl⟩ (.cons (ey ▸ ru) .nil), ⟨_, hT2, rfl, _, rfl⟩⟩
    have J1 : Inv X pins σ (upd H s.heap.objs.size (.tup [.int (i : Nat), x])) { s with heap := h'', toks := tk + 1 } :=
      I.turnedNew (ch := [e, it]) (fun b ob hb q => (sBut.2 b (fun z => hb (by simp [z]))).trans (hk b ob (fun z => hb (by simp [z])) (fun z => hb (by simp [z])) q)) hFp (Nat.le_refl _) fresh1
    refine ⟨.ref s.heap.objs.size, _, J1, rfl, ⟨_, x, rfl, I.hok.fresh (Nat.le_refl _), rfl, fun ys hy => by rw [I.tuple_inj hy hSq]; exact hx⟩, ⟨⟨y, ?_⟩, hit'.1.at fun o q => (sBut.2 it (Ne.symm eNi)).trans q, eNi, aNi, aNe⟩, fun b hb => ?_⟩
    · have e1 : (0 + ((i + 1 : Nat) : Int)) = 0 + (i : Int) + 1 := by omega
      rw [e1]; exact he'
    · have bIn : b < s.heap.objs.size := by
        have eOr : b = e ∨ b = it := by simpa using hb
        rcases eOr with z | z
        · rw [z]; exact eIn
        · rw [z]; exact iIn
      rw [upd_ne (Nat.ne_of_lt bIn)]
      exact (hFp b hb).1
  done := by
    intro X hP hw hK hc i pins s σ H E I hFp sta hGo
    subst hP hw hK
    obtain ⟨⟨was, hEn⟩, hIt, eNi, aNi, aNe⟩ := sta
    obtain ⟨xs, hSq, hx⟩ := hGo
    obtain ⟨vals, rVs, p, zLen⟩ := I.tuple hSq
    obtain ⟨g0, g1, g2, g3, g4, g5⟩ := hFp it (by simp)
    have hl := rVs.length
    exact wpAny_pyNext_enum_endD (draws_end (A := X.A.in1) (I.ok.hd hc) it a vals.toArray i (by simp; omega)) hEn ⟨rfl, hIt, p⟩ fun h' eb => ⟨rfl, I.turned (t' := s.toks) (fun b o hb q => eb b o hb q) g0 g1 g3 g4 g5⟩
  self := fun A i s Q E sta h => let ⟨⟨_, hEn⟩, _⟩ := sta; wpAny_pyIter_enum hEn h
def iEnumT (K : PySem.W.Frag) (ta : TA) : TI := fun σ H R => ta σ H fun vs H1 => ∃ a xs, vs = [.ref a] ∧ SqT K H1 a xs ∧ R (IteT K a) H1
/-- a list or a tuple -/
def iEnumS (K : PySem.W.Frag) (ta : TA) : TI := fun σ H R => ta σ H fun vs H1 => ∃ a xs, vs = [.ref a] ∧ ((SqL K H1 a xs ∧ R (Ite K a) H1) ∨ (SqT K H1 a xs ∧ R (IteT K a) H1))
/-- enumerate(t): vals two fresh1 cells -/
theorem call_enumerate_tuple {prog : Program} {w : World} {A : Around} {E : Value → Shared → Prop} {s : Shared} {l : Addr} {items : Array Value} {Q : Value → Shared → Prop} (hL : s.heap.IsTuple l items)
    (h : ∀ h', IsEnum h' (s.heap.objs.size + 1) s.heap.objs.size (0 + ((0 : Nat) : Int)) .none → h'.IsTupleIter s.heap.objs.size l 0 → h'.objs.size = s.heap.objs.size + 2 →
      (∀ b o, s.heap.get? b = some o → h'.get? b = some o) → Q (.ref (s.heap.objs.size + 1)) { s with heap := h' }) :
    wpAny (model prog w) A (call (.type "enumerate") [.ref l]) Q E s := by
  have B := begins_tuple l items
  have M : Meets (Builtin.«enumerate.__new__» ⟨[.type "enumerate", .ref l], []⟩) (fun _ R s => s.heap.IsTuple l items ∧
      R (.ok (.ret (.ref (s.heap.push { cls := .type "tuple_iterator", data := .fields #[.ref l, .int 0 0] }).objs.size)))
        { s with heap := (s.heap.push { cls := .type "tuple_iterator", data := .fields #[.ref l, .int 0 0] }).push { cls := .type "enumerate", data := .fields #[.none, .bool false, .ref s.heap.objs.size, rawInt 0, .none, .none] } }) :=
    .of_wp fun prog w A R s h => by
      obtain ⟨heap0, g, d, tk, os⟩ := s
      obtain ⟨h1, h⟩ := h
      have subE := sub_enumerate
      have q1 : ∀ {A' : Around} {E : Value → Shared → Prop} {Q : Value → Shared → Prop}, Q (.ref heap0.objs.size) ⟨heap0.push { cls := .type "tuple_iterator", data := .fields #[.ref l, .int 0 0] }, g, d, tk, os⟩ → wpAny (model prog w) A' (pyIter (.ref l)) Q E ⟨heap0, g, d, tk, os⟩ :=
        fun q => B.iter prog w _ _ ⟨heap0, g, d, tk, os⟩ _ h1 q
      obtain ⟨oT, hoT, hcT, nT, hdT⟩ := id h1
      wp_walk using q1, AutoSeq1.wpAny_loadPart' hoT
      refine wpAny_stack_any fun sta => wpAny_pure ?_
      split
      · rename_i c _ _ _ _ _
        cases (c == Value.type "enumerate")
        · wp_walk using q1, AutoSeq1.wpAny_loadPart' hoT
          exact ⟨_, rfl, h⟩
        · wp_walk using q1, AutoSeq1.wpAny_loadPart' hoT
          exact ⟨_, rfl, h⟩
      · wp_walk using q1, AutoSeq1.wpAny_loadPart' hoT
        exact ⟨_, rfl, h⟩
  refine callType_new F.called_enumerate (by decide) (F.typeCall_enumerate_1 _) (F.newCall_enumerate_1 _) (fun obj => F.args_object_init_2 obj _) F.entry_enumerate_new M ⟨hL, ?_⟩
  have zLen : (s.heap.push { cls := .type "tuple_iterator", data := .fields #[.ref l, .int 0 0] }).objs.size = s.heap.objs.size + 1 := Heap.size_push ..
  show _ ∧ _
  rw [zLen]
  have hEn : IsEnum ((s.heap.push { cls := .type "tuple_iterator", data := .fields #[.ref l, .int 0 0] }).push
      { cls := .type "enumerate", data := .fields #[.none, .bool false, .ref s.heap.objs.size, rawInt 0, .none, .none] }) (s.heap.objs.size + 1) s.heap.objs.size 0 .none := by
    have := Heap.get?_push_size (s.heap.push { cls := .type "tuple_iterator", data := .fields #[.ref l, .int 0 0] })
      (o := { cls := .type "enumerate", data := .fields #[.none, .bool false, .ref s.heap.objs.size, rawInt 0, .none, .none] }) rfl
    rw [zLen] at this; exact this
  refine ⟨⟨_, hEn, rfl⟩, h _ hEn ⟨_, Heap.get?_push_of_some _ (Heap.get?_push_size _ rfl), rfl, rfl⟩ (by rw [Heap.size_push, zLen]) fun b o x => Heap.get?_push_of_some _ (Heap.get?_push_of_some _ x)⟩
theorem pi_enumS {X : Cx} {e : Expr} {ta : TA} {p pos tpos : Pos} {elts : List Expr} {kk : Nat} (hGo : Gl X "enumerate") (hm : X.mg "enumerate" = none) (ha : PA X [e] ta) (hs : starEach [e] X.env = [(false, eval e X.env)] := by rfl) :
    PI X (.Tuple elts kk tpos) (.Call (.Name "enumerate" p) [e] [] pos) (iEnumS X.K ta) := by
  refine ⟨fun pins s σ H R I h => ?_⟩
  refine Call_ (ld_blt I hGo hm boot_enumerate (PyProof.Rows.callWith_type1 (thn (ha.run pos pins s σ H _ I h) fun us s1 ⟨vs, H1, J1, r1, q1⟩ => ?_) hs rfl))
  obtain ⟨a, xs, ex, q⟩ := q1
  subst ex
  cases r1 with
  | cons r rr =>
    cases rr
    cases r
    have far : ∀ b, b ∈ [s1.heap.objs.size + 1, s1.heap.objs.size] → s1.heap.objs.size ≤ b := fun b hb => by
      have eOr : b = s1.heap.objs.size + 1 ∨ b = s1.heap.objs.size := by simpa using hb
      rcases eOr with z | z
      · rw [z]; exact Nat.le_add_right _ _
      · rw [z]; exact Nat.le_refl _
    rcases q with ⟨hSq, q⟩ | ⟨hSq, q⟩
    · obtain ⟨vals, rVs, pSeq, zLen⟩ := J1.list hSq
      refine call_enumerate_list pSeq.isList fun h' hEn hIt zNew hk => wpAny_pyIter_enum hEn ?_
      have J2 : Inv X pins σ H1 { s1 with heap := h' } := J1.kept (t' := s1.toks) hk
      exact ⟨s1.heap.objs.size + 1, [s1.heap.objs.size + 1, s1.heap.objs.size], _, _, H1, rfl, J2, turn_enum a (s1.heap.objs.size + 1) s1.heap.objs.size, ⟨⟨.none, hEn⟩, hIt, Nat.succ_ne_self _⟩, fun b hb => J1.fpOk (far b hb) (J1.hok.fresh (far b hb)), q⟩
    · obtain ⟨vals, rVs, pSeq, zLen⟩ := J1.tuple hSq
      have hal : a < s1.heap.objs.size := by obtain ⟨o, ho, _⟩ := (show s1.heap.IsTuple a vals.toArray from pSeq); exact Heap.lt_size ho
      refine call_enumerate_tuple (show s1.heap.IsTuple a vals.toArray from pSeq) fun h' hEn hIt zNew hk => wpAny_pyIter_enum hEn ?_
      have J2 : Inv X pins σ H1 { s1 with heap := h' } := J1.kept (t' := s1.toks) hk
      exact ⟨s1.heap.objs.size + 1, [s1.heap.objs.size + 1, s1.heap.objs.size], _, _, H1, rfl, J2, turn_enumT a (s1.heap.objs.size + 1) s1.heap.objs.size, ⟨⟨.none, hEn⟩, hIt, Nat.succ_ne_self _, Nat.ne_of_lt hal, Nat.ne_of_lt (Nat.lt_succ_of_lt hal)⟩, fun b hb => J1.fpOk (far b hb) (J1.hok.fresh (far b hb)), q⟩
end Ef
set_option Elab.async false
set_option linter.all false
set_option maxRecDepth 100000
set_option maxHeartbeats 2000000
/-! t[::-1] of a tuple; o(..) by the class's own __call__ -/
namespace Ef
open PySem PySem.Spec PyProof.Rows L2
theorem pick_back (its : Array Value) : (List.filterMap (fun k : Nat => its[((its.size : Int) - 1 + (k : Int) * (-1)).toNat]?) (List.range its.size)).toArray = its.toList.reverse.toArray := by
  congr 1
  have e : ∀ (l : List Nat), (∀ k ∈ l, k < its.size) → List.filterMap (fun k : Nat => its[((its.size : Int) - 1 + (k : Int) * (-1)).toNat]?) l = List.filterMap (fun x : Nat => its[x]?) (l.map fun k => its.size - 1 - k) := by
    intro l hl
    induction l with
    | nil => rfl
    | cons k l ih =>
      have := hl k (List.mem_cons_self)
      have q : ((its.size : Int) - 1 + (k : Int) * (-1)).toNat = its.size - 1 - k := by omega
      rw [List.map_cons, List.filterMap_cons, List.filterMap_cons, q, ih fun k hk => hl k (List.mem_cons_of_mem _ hk)]
  rw [e _ (fun k hk => List.mem_range.mp hk), PySem.W.krv_range, List.filterMap_reverse] 
  congr 1
  exact PySem.W.krv_all its
theorem places_back (n : Nat) : Builtin.Slice.slicePlaces ((n : Int) - 1) (-1) (-1) = n := by
  unfold Builtin.Slice.slicePlaces
  rw [if_neg (by decide)]
  split
  · have : ((n : Int) - 1 - -1 - 1) / -(-1 : Int) = (n : Int) - 1 := by
      rw [Int.neg_neg, Int.ediv_one]; omega
    rw [this]; omega
  · omega
theorem sliceApplied_back {prog : Program} {w : World} {A : Around} {E : Value → Shared → Prop} {s : Shared} {sl : Addr} {vl vu vs : Value} {n : Nat} {Q : Int × Int × Nat → Shared → Prop} (hs : s.heap.IsSliceOf sl vl vu vs) (pl : IsPart vl none) (pu : IsPart vu none) (ps : IsPart vs (some (-1)))
    (h : Q ((n : Int) - 1, -1, n) s) : wpAny (model prog w) A (Builtin.Slice.sliceApplied (.ref sl) (pure ↑n)) Q E s := by
  obtain ⟨os, hos, hcs, hds⟩ := id hs
  unfold Builtin.Slice.sliceApplied
  refine wpAny_bind ?_
  unfold Builtin.Slice.sliceFields
  refine wpAny_bind (wpAny_field hos hds rfl (wpAny_bind (wpAny_field hos hds rfl (wpAny_bind (wpAny_field hos hds rfl (wpAny_pure ?_))))))
  refine wpAny_bind (HT.slicePart_ ps ?_)
  dsimp only [Option.getD]
  rw [if_neg (by decide)]
  refine wpAny_bind (HT.slicePart_ pl (wpAny_bind (HT.slicePart_ pu (wpAny_bind (wpAny_pure ?_)))))
  have e : Builtin.Slice.sliceAdjust none none (-1) (n : Int) = ((n : Int) - 1, -1) := by
    unfold Builtin.Slice.sliceAdjust
    simp
  rw [e]
  dsimp only
  rw [places_back]
  exact wpAny_pure h
theorem getItem_tuple_back {prog : Program} {w : World} {A : Around} {E : Value → Shared → Prop} {s : Shared} {t sl : Addr} {items : Array Value} {vl vu vs : Value} {Q : Value → Shared → Prop} (ht : IsTup s.heap t items) (hs : s.heap.IsSliceOf sl vl vu vs) (pl : IsPart vl none) (pu : IsPart vu none) (ps : IsPart vs (some (-1)))
    (h : Q (.ref s.heap.objs.size) { s with heap := s.heap.push { cls := .type "tuple", data := .seq items.toList.reverse.toArray } }) (hsz : items.size ≤ sizeLine) : wpAny (model prog w) A (getItem (.ref t) (.ref sl)) Q E s := by
  obtain ⟨os, hos, hcs, hds⟩ := id hs
  have hTs : s.TypeIs (.ref sl) "slice" := ⟨os, hos, hcs⟩
  unfold getItem
  refine wpAny_holding (wpAny_bind (wpAny_sequenceKey (IsTup.typeIs ht) (by decide) (wpAny_bind (wpAny_callSpecial?_slot (IsTup.typeIs ht) slot_tuple_getitem (wpAny_call_entry slot_tuple_getitem (IsTup.typeIs ht) entry_tuple_getitem ?_ (args_tuple_getitem _ _))))))
  unfold Builtin.«tuple.__getitem__»
  show wpAny _ _ (Builtin.Tuple.tupleItemsOf (.ref t) >>= fun xs => _) _ _ _
  refine wpAny_bind (tupleItemsOf_ ht (wpAny_bind (wpAny_typeOf hTs ?_)))
  rw [if_pos (by decide)]
  refine wpAny_bind (sliceApplied_back (n := items.size) hs pl pu ps ?_)
  dsimp only
  rw [if_neg (by simp)]
  rw [pick_back]
  unfold Builtin.Tuple.tupleExact
  refine wpAny_bind (wpAny_newObj_type (wpAny_pure ⟨_, rfl, wpAny_pure h⟩) ?_)
  show items.toList.reverse.toArray.size ≤ sizeLine
  simpa using hsz
def tRevT (K : PySem.W.Frag) (te : TE) : TE := fun σ H Q => te σ H fun x H1 => ∃ a xs, x = .ref a ∧ SqT K H1 a xs ∧ ∀ p, H1 p = none → Q (.ref p) (upd H1 p (.tup xs.reverse))
theorem pe_revT {X : Cx} {e : Expr} {te : TE} {k : Nat} {p1 p2 p3 pos : Pos} (he : PE X e te) : PE X (e.Subscript (Expr.Slice none none (some (Expr.UnaryOp UnaryOp.USub (Expr.Constant (Const.int 1) k p1) p2)) p3) pos) (tRevT X.K te) := by
  refine ⟨fun pins s σ H Q I h => ?_⟩
  refine Subscript_ (thn (he.run pins s σ H _ I h) fun v s1 ⟨x, H1, I1, r1, a, xs, ex, hx, q⟩ => ?_)
  subst ex
  cases r1
  have hst := po_some (pe_un (X := X) (pos := p2) un_neg (pe_int (X := X) (i := 1) (j := k) (pos := p1)))
  refine wpAny_Slice (thn (po_none.run pins s1 σ H1 (fun o H2 => o = none ∧ H2 = H1) I1 ⟨rfl, rfl⟩) fun vl s2 ⟨l, H2, I2, pl, el, e2⟩ => ?_)
  subst el e2
  refine thn (po_none.run pins s2 σ _ (fun o H3 => o = none ∧ H3 = _) I2 ⟨rfl, rfl⟩) fun vu s3 ⟨u, H3, I3, pu, eu, e3⟩ => ?_
  subst eu e3
  refine thn (hst.run pins s3 σ _ (fun o H4 => o = some (-1) ∧ H4 = _) I3 ⟨1, rfl, -1, rfl, rfl, rfl⟩) fun vs s4 ⟨o, H4, I4, ps, eo, e4⟩ => ?_
  subst eo e4
  have I5 := I4.kept (t' := s4.toks) (fun b ob q => Heap.get?_push_of_some { cls := Value.type "slice", data := Data.fields #[vl, vu, vs] } q)
  obtain ⟨its, r, ht, hz⟩ := I5.tuple hx
  have hlen := r.length
  refine tail_any (IsTup.typeIs ht) slot_tuple_getitem.lookup (getItem_tuple_back ht (Heap.IsSliceOf.new s4.heap vl vu vs) pl pu ps ?_ ?_) (Eq.refl (subscripted _ false (Value.ref a) (Value.ref s4.heap.objs.size)))
  · refine ⟨.ref _, upd _ _ (.tup xs.reverse), Inv.laid I5 (fun b ob q => Heap.get?_push_of_some _ q) (Nat.le_refl _) ?_, rfl, q _ (I5.hok.fresh (Nat.le_refl _))⟩
    exact ⟨by rw [List.length_reverse]; exact hz, its.reverse, Vals.reverse r, ⟨_, Heap.get?_push_size _ rfl, rfl, 0, rfl⟩⟩
  · rw [List.size_toArray, ← hlen]; exact hz
end Ef
set_option Elab.async false
set_option linter.all false
set_option maxRecDepth 100000
set_option maxHeartbeats 2000000
namespace Ef
open PySem PySem.Spec PyProof.Rows L2
theorem callWith_inst {M : Model} {A : Around} {E : Value → Shared → Prop} {s : Shared} {pos : Pos} {x C : Addr} {ox : Obj} {first : List Value} {Q : Value → Shared → Prop} {args : List (Bool × Sem Value)} {keywords : List (Option Str × Sem Value)}
    (hplain : ((args.any fun x => x.fst) || keywords.any fun x => x.fst.isNone) = false) (hd : ox.data = Data.plain)
    (h : wpAny M A (evalArgs (.ref x) true args keywords) (fun a s₁ => (∃ od, PySem.W.InstAt s₁.heap x ox C od) ∧ wpAny M A (call (.ref x) (first ++ a.pos) a.kw) Q E s₁) E s) : wpAny M A (callWith pos (.ref x) first args keywords) Q E s := by
  unfold callWith
  refine wpAny_bind (wpAny_holding (wpAny_mono h (fun a s₁ h₁ => ?_) fun _ _ y => y))
  obtain ⟨⟨od, J⟩, h1⟩ := h₁
  refine wpAny_bind (wpAny_standAt ?_)
  have L := PySem.W.kco_keeper (M := M) J hd
  simp only [hplain]
  refine wpAny_bind (L.here ?_)
  have tail : ∀ {t : Sem Value}, wpAny M A t Q E s₁ → wpAny M A (t >>= fun r => do holding [r] point; pure r) Q E s₁ := fun {t} ht => wpAny_bind (wpAny_mono ht (fun r s₂ hr => wpAny_bind (wpAny_holding (wpAny_point (wpAny_pure hr)))) fun _ _ y => y)
  exact tail (wpAny_operateT h1)
/-- o(e, ..), o a local name that holds an instance of the class at C -/
def tCallI (C : Addr) (i : Nat) (sp : Sp) (E : L2.St → XK) (t : TA) : TE := fun σ H Q => ∃ a dx fs, σ[i]? = some (some (.ref a)) ∧ H a = some (.ins C dx fs) ∧ t σ H fun vs H1 => (∃ fs', H1 a = some (.ins C dx fs')) ∧ sp (.ref a :: vs) H1 Q (E σ)
theorem pe_callI {X : Cx} {CX : CXT} {k i : Nat} {C f : Addr} {fd : FuncData} {ps : List Str} {sp : Sp} {E : L2.St → XK} {x : Str} {p pos : Pos} {e : Expr} {es : List Expr} {t : TA}
    (hf : PySem.W.findIn X.K (.ref C) "__call__" = some (some (.ref f))) (hi : PySem.W.isFn X.K (.ref f) = true) (hn : PySem.W.fnIn X.K f = true)
    (F : FnOk X.prog X.w X.K X.mg X.base CX k f fd ps sp) (hr : Room k X.A) (hb : Binds X.K fd ps []) (hx : ∀ σ, PassesAt CX X σ (E σ)) (ha : PA X (e :: es) t)
    (hN : X.N[i]? = some x := by rfl) (hv : Vis X.env.scope x := by first | exact Or.inl rfl | exact Or.inr (Or.inl rfl) | exact Or.inr (Or.inr rfl))
    (hdb : (x == ("__debug__" : Str)) = false := by decide) (hcd : (x == ("__classdict__" : Str)) = false := by decide)
    (hst : starEach (e :: es) X.env = (false, eval e X.env) :: starEach es X.env := by rfl) (hpl : (backTo pos (starEach es X.env)).any (·.1) = false := by rfl) : PE X (.Call (.Name x p) (e :: es) [] pos) (tCallI C i sp E t) := by
  refine ⟨fun pins s σ H Q I h => ?_⟩
  obtain ⟨a, dx, fs, hs, ea, ht⟩ := h
  have hx' := pe_var (X := X) (pos := p) hN hv hdb hcd
  refine wpAny_Call_Name_kw (thn (hx'.run pins s σ H (fun v H1 => v = .ref a ∧ H1 = H) I ⟨.ref a, hs, rfl, rfl⟩) fun u s1 ⟨v, H1, I1, r1, q1⟩ => ?_)
  obtain ⟨rfl, rfl⟩ := q1
  cases r1
  show wpAny _ _ (callWith pos (.ref a) [] (backTo pos (starEach (e :: es) X.env)) []) _ _ _
  have w1 := thn (ha.run pos pins s1 σ _ _ I1 ht) (Q' := fun us s2 => (∃ od, PySem.W.InstAt s2.heap a (PySem.W.instObj C dx) C od) ∧ wpAny (model X.prog X.w) X.A (call (.ref a) ([] ++ us)) (EP X pins σ Q) X.xe s2) fun us s2 ⟨vs, H2, I2, r, ⟨fs', ea2⟩, q⟩ => by
    obtain ⟨mA2, OM2, _⟩ := ins_get I2.hok ea2
    obtain ⟨od2, J2, _⟩ := OM2.look
    refine ⟨⟨_, J2⟩, wpAny_call (PySem.W.kco_code I2.kIn J2 rfl hf hi hn ?_)⟩
    have hl : (.ref a :: us : List Value).length = ps.length := by rw [← F.len _ _ _ _ q]; exact congrArg (· + 1) r.length.symm
    have b := hb s2 (.ref a :: us) I2.kIn (by rw [List.append_nil]; exact hl)
    rw [List.append_nil] at b
    refine codeAny_mono (F.run X.A X.stack s2 H2 { pos := .ref a :: us } (.ref a :: us) (.ref a :: vs) Q (E σ) hr I2.env0 b (.cons rfl r) q) fun res s' hq => ?_
    cases res with
    | error er => exact hx σ pins H2 s2 er s' I2 hq
    | ok fl =>
      cases fl with
      | ret u => exact I2.after hq
      | next => exact False.elim hq
      | brk => exact False.elim hq
      | cont => exact False.elim hq
  rw [hst] at w1 ⊢
  refine callWith_inst (by simp only [backTo, List.any_cons] at hpl ⊢; simpa using hpl) rfl (PySem.Calls.evalArgs_plain w1)
end Ef
set_option Elab.async false
set_option linter.all false
set_option maxRecDepth 100000
set_option maxHeartbeats 2000000
/-! try with several clauses, each with a name -/
namespace Ef
open PySem PySem.Spec PyProof.Rows L2
abbrev AsC := Value × Nat × (Addr → Value → Option Addr → TS)
/-- the ends of a named clause: its name is gone behind it -/
def EndsAs (i : Nat) (D : Ends) : Ends := { nx := fun σ' H' => D.nx (σ'.set i none) H', rt := D.rt, bk := fun σ' H' => D.bk (σ'.set i none) H', ct := fun σ' H' => D.ct (σ'.set i none) H' }
def wAsL (K : PySem.W.Frag) (Wout : WX) (D : Ends) : List AsC → WX
  | [] => Wout
  | (c, i, ts) :: r => fun cls d σ H => ∃ b, PySem.W.exmOne K cls c = some b ∧ (b = true → ∀ a, H a = none → ts a cls d (EndsAs i D) (σ.set i (some (.ref a))) H) ∧ (b = false → wAsL K Wout D r cls d σ H)
inductive HdsAs (X : Cx) : List ExceptHandler → List AsC → Prop
  | nil : HdsAs X [] []
  | cons {x n : Str} {c : Value} {i : Nat} {ts : Addr → Value → Option Addr → TS} {b₀ : Stmt} {suite : List Stmt} {np pos' : Pos} {hds : List ExceptHandler} {l : List AsC}
      (hi : X.N[i]? = some n) (hln : X.env.kindOf n = some NameKind.local) (hc : Names X x c)
      (hsu : ∀ (a : Addr) (oe : Obj) (cls : Value) (d : Option Addr) (pn : List (Addr × Obj)), Zc cls d oe → (∃ vs, oe.data = Data.fields vs) → PSs (X.suite a ((a, oe) :: pn)) (b₀ :: suite) (ts a cls d))
      (r : HdsAs X hds l) : HdsAs X (ExceptHandler.ExceptHandler (some (Expr.Name x np)) (some n) (b₀ :: suite) pos' :: hds) ((c, i, ts) :: l)
/-- what stands when a clause is looked for -/
structure LandAs (X : Cx) (pins : List (Addr × Obj)) (σ : L2.St) (H : Hp) (sI : Shared) (B : Heap) (a : Addr) (cls : Value) (d : Option Addr) (s : Shared) : Prop where
  J : Inv X pins σ H sI
  nb : ∀ (b : Addr) (o : Obj), sI.heap.get? b = some o → ¬b ∈ frs X.stack → B.get? b = some o
  up : sI.heap.UpToSlots s.heap
  fl : PySem.HandSPX.FlyingZ B (X.env :: X.outer) a (Zc cls d) s.heap
  na : H a = none
  os : s.os = sI.os
  ag : PyProof.Rows.AllBare s.gens
theorem handle_as {X : Cx} {pins : List (Addr × Obj)} {σ : L2.St} {H : Hp} {sI : Shared} {B : Heap} {a : Addr} {cls : Value} {d : Option Addr} {D : Ends} {Wout : WX} (hs : X.stack = X.env :: X.outer) (hf : X.env.frame = some X.env.locals) (hN : X.N.Nodup) (tk : Takes X Wout) :
    ∀ {hds : List ExceptHandler} {l : List AsC}, HdsAs X hds l → ∀ {s : Shared}, LandAs X pins σ H sI B a cls d s → wAsL X.K Wout D l cls d σ H →
      wpAny (model X.prog X.w) X.A (handleBy (.ref a) X.env hds) (SP X pins D) X.xe s := by
  intro hds l hh
  induction hh with
  | nil =>
    intro s L h
    have k := id L.fl
    obtain ⟨k1, k2, k3, oe, vs, T, oT, ts', he, hz, hd, h1, hr⟩ := k
    refine wpAny_handleBy_nil ?_
    refine wpAny_bind (wpAny_field he hd h1 ?_)
    rw [if_neg (by simp)]
    refine wpAny_bind ?_
    rw [hf]
    refine PySem.HandSPX.setFlight_upZ L.fl fun h4 hh4 up4 => wpAny_throw (tk _ _ ⟨a, B, sI, pins, σ, H, cls, d, rfl, L.J, L.nb, Heap.UpToSlots.trans L.up up4, Or.inr (Or.inr (by rw [hs]; exact hh4)), L.na, L.os, L.ag, h⟩)
  | @cons x n c i ts b₀ suite np pos' hds l hi hln hc hsu r ih =>
    intro s L h
    have ok := L.J.ok
    have hloc : L2.Loc X.env.scope n := Or.inl hln
    have J3 := Inv.landed L.J L.nb L.fl.1 L.up L.os L.ag
    obtain ⟨oe3, vs3, he3, hz3, hd3⟩ := L.fl.there
    have notFr : ∀ {h' : Heap} {oe : Obj} {vs : Array Value}, h'.FunFrames B (X.env :: X.outer) → h'.get? a = some oe → oe.data = Data.fields vs → a ∉ List.filterMap (fun (x : Env) => x.frame) (X.env :: X.outer) := fun ff e dd hm => by
      obtain ⟨_, o', e', hnf⟩ := Heap.FunFrames.mem ff hm
      rw [e] at e'
      cases e'
      exact hnf _ dd
    have nfr := notFr L.fl.2.2.1 he3 hd3
    have nL : a ≠ X.env.locals := fun z => nfr (List.mem_filterMap.mpr ⟨X.env, List.mem_cons_self, by rw [hf, z]⟩)
    have nF : a ∉ X.fs := fun hm => by
      obtain ⟨e, he, q⟩ := List.mem_filterMap.mp hm
      exact nfr (List.mem_filterMap.mpr ⟨e, List.mem_cons_of_mem _ he, q⟩)
    have S3 := Inv.suite J3 he3 hd3 L.na nL nF
    obtain ⟨b, hb1, hyes, hno⟩ := h
    refine wpAny_handleBy_cons (codeAny_handlers_test ?_) (fun q => nomatch q)
    have LM : PySem.W.Looks (model X.prog X.w) s.heap (excMatches (.ref a) c) b := PySem.W.exm_one J3.kIn (fun A Q E s k q => wpAny_typeOf_ref (k a oe3 he3) (by rw [hz3.1]; exact q)) hb1
    have test : ∀ {Q E}, Q c s → wpAny (model X.prog X.w) (X.suite a ((a, oe3) :: (X.pn ++ pins))).A (eval (.Name x np) X.env) Q E s := fun {Q E} q => by
      obtain ⟨hg, hdbg, hm | ⟨hm, hv, hnn⟩⟩ := hc
      · exact ld_glob S3 hg hm q hdbg
      · exact ld_blt S3 hg hm hv q hnn hdbg
    refine test (LM.here ?_)
    cases b with
    | false => exact ih L (hno rfl)
    | true =>
      refine codeAny_handlers_suite_as (PySem.HandSPX.lands_againZ L.fl fun h4 fl4 up4 => ?_)
      have J4 := Inv.landed (s' := { s with heap := h4 }) L.J L.nb fl4.1 (Heap.UpToSlots.trans L.up up4) L.os L.ag
      obtain ⟨oe4, vs4, he4, hz4, hd4⟩ := fl4.there
      have S4 := Inv.suite J4 he4 hd4 L.na nL nF
      refine store_ok (X := X.suite a ((a, oe4) :: (X.pn ++ pins))) (pins := []) (v := .ref a) S4 hN hi hloc rfl (fun s5 S5 => wpAny_mono ((hsu a oe4 cls d (X.pn ++ pins) hz4 ⟨vs4, hd4⟩).run [] s5 (σ.set i (some (.ref a))) H (EndsAs i D) S5 (hyes rfl a L.na)) (fun f s6 hsp => ?_) fun _ _ z => False.elim z) (Or.inr hln)
      have end_ : ∀ {σ6 : L2.St} {H6 : Hp} {Q : Unit → Shared → Prop}, Inv (X.suite a ((a, oe4) :: (X.pn ++ pins))) [] σ6 H6 s6 → (∀ s7, Inv X pins (σ6.set i none) H6 s7 → Q () s7) → wpAny (model X.prog X.w) X.A (do bindName X.env n Value.none; unbindBehindTheSuite X.env n pos') Q X.xe s6 := fun S6 hq => gone_ok (Inv.unsuite S6 ok) hN hi hln hq
      cases f with
      | next => obtain ⟨σ6, H6, S6, q6⟩ := hsp; exact end_ S6 fun s7 J7 => ⟨_, _, J7, q6⟩
      | brk => obtain ⟨σ6, H6, S6, q6⟩ := hsp; exact end_ S6 fun s7 J7 => ⟨_, _, J7, q6⟩
      | cont => obtain ⟨σ6, H6, S6, q6⟩ := hsp; exact end_ S6 fun s7 J7 => ⟨_, _, J7, q6⟩
      | ret u => obtain ⟨v6, σ6, H6, S6, r6, q6⟩ := hsp; exact end_ S6 fun s7 J7 => ⟨v6, _, _, J7, r6, q6⟩
theorem ps_try_asL {X : Cx} {h₀ : ExceptHandler} {hds : List ExceptHandler} {l : List AsC} {body : List Stmt} {pos : Pos} {tb : WX → TS} {Wout : WX} (hs : X.stack = X.env :: X.outer) (hf : X.env.frame = some X.env.locals) (hN : X.N.Nodup) (tk : Takes X Wout)
    (hb : ∀ (W : WX) (pn : List (Addr × Obj)) (xe : Value → Shared → Prop), Takes (X.tr pn xe) W → PassesOwn (model X.prog X.w) X.A X.env xe → PSs (X.tr pn xe) body (tb W)) (hh : HdsAs X (h₀ :: hds) l) :
    PS X (.Try body (h₀ :: hds) [] [] pos) fun D σ H => tb (wAsL X.K Wout D l) D σ H := by
  refine ⟨fun pins s σ H D I h => ?_⟩
  have ok := I.ok
  have hfr : X.A.frames = some (X.env :: X.outer) := by rw [ok.frames, hs]
  refine wpAny_Try_except (wpAny_mono ((hb (wAsL X.K Wout D l) (X.pn ++ pins) _ (fun u s' xx => ?_) PassesOwn.looking).run [] s σ H D (Inv.toTry I _) h) (fun f s1 hsp => ?_) fun e s1 he => he)
  · obtain ⟨a, B, sI, pins', σ', H', cls, d, rfl, J', nb, up, sky, na, os, ag, hw⟩ := xx
    have J := Inv.ofTry J' ok
    have sky' : Sky B (X.env :: X.outer) a (Zc cls d) X.env.locals s'.heap := by rw [← hs]; exact sky
    exact Sky.land Zc.steady hfr hf sky' fun h3 fl3 up3 => handle_as hs hf hN tk hh ⟨J, nb, Heap.UpToSlots.trans up up3, fl3, na, os, ag⟩ hw
  · cases f with
    | next => obtain ⟨σ', H', J', q⟩ := hsp; exact wpAny_execs_nil ⟨σ', H', Inv.ofTry J' ok, q⟩
    | brk => obtain ⟨σ', H', J', q⟩ := hsp; exact ⟨σ', H', Inv.ofTry J' ok, q⟩
    | cont => obtain ⟨σ', H', J', q⟩ := hsp; exact ⟨σ', H', Inv.ofTry J' ok, q⟩
    | ret u => obtain ⟨v, σ', H', J', r, q⟩ := hsp; exact ⟨v, σ', H', Inv.ofTry J' ok, r, q⟩
end Ef
set_option Elab.async false
set_option linter.all false
/-! rows of whole numbers: values, differences, divisors -/
namespace Ef
/-- the value of a row -/
def evalR : List Int → Int → Int
  | [], _ => 0
  | c :: r, n => evalR r n * n + c
/-- of a degree below d -/
def PD : Nat → (Int → Int) → Prop
  | 0, f => ∀ n, f n = 0
  | d + 1, f => PD d fun n => f (n + 1) - f n
theorem PD.congr {d : Nat} {f g : Int → Int} (h : PD d f) (e : ∀ n, f n = g n) : PD d g := by
  have : f = g := funext e
  rw [← this]; exact h
theorem PD.add : ∀ {d : Nat} {f g : Int → Int}, PD d f → PD d g → PD d fun n => f n + g n
  | 0, f, g, hf, hg => fun n => by
    have h1 := hf n
    have h2 := hg n
    show f n + g n = 0
    rw [h1, h2]; rfl
  | d + 1, f, g, hf, hg => PD.congr (d := d) (PD.add (d := d) hf hg) fun n => by
    show (f (n + 1) - f n) + (g (n + 1) - g n) = (f (n + 1) + g (n + 1)) - (f n + g n)
    omega
theorem PD.up : ∀ {d : Nat} {f : Int → Int}, PD d f → PD (d + 1) f
  | 0, f, h => fun n => by
    have h1 := h n
    have h2 := h (n + 1)
    show f (n + 1) - f n = 0
    rw [h1, h2]; rfl
  | d + 1, f, h => PD.up (d := d) (f := fun n => f (n + 1) - f n) h
theorem PD.shift : ∀ {d : Nat} {f : Int → Int}, PD d f → PD d fun n => f (n + 1)
  | 0, f, h => fun n => h (n + 1)
  | d + 1, f, h => PD.shift (d := d) (f := fun n => f (n + 1) - f n) h
theorem PD.mulx : ∀ {d : Nat} {f : Int → Int}, PD d f → PD (d + 1) fun n => f n * n
  | 0, f, h => fun n => by
    have h1 := h n
    have h2 := h (n + 1)
    show f (n + 1) * (n + 1) - f n * n = 0
    rw [h1, h2, Int.zero_mul, Int.zero_mul]; rfl
  | d + 1, f, h => by
    have h1 := PD.mulx (d := d) (f := fun n => f (n + 1) - f n) h
    have h2 : PD (d + 1) fun n => f (n + 1) := PD.shift (d := d + 1) h
    show PD (d + 1) fun n => f (n + 1) * (n + 1) - f n * n
    refine PD.congr (d := d + 1) (PD.add h1 h2) fun n => ?_
    show (f (n + 1) - f n) * n + f (n + 1) = f (n + 1) * (n + 1) - f n * n
    rw [Int.sub_mul, Int.mul_add, Int.mul_one]
    omega
theorem PD.const (c : Int) : ∀ d : Nat, PD (d + 1) fun _ => c
  | 0 => fun n => Int.sub_self c
  | d + 1 => PD.up (PD.const c d)
theorem pd_row : ∀ r : List Int, PD r.length (evalR r)
  | [] => fun n => rfl
  | c :: r => PD.congr (d := r.length + 1) (PD.add (PD.mulx (pd_row r)) (PD.const c r.length)) fun n => rfl
theorem PD.dvd {u : Int} : ∀ {d : Nat} {f : Int → Int}, PD d f → (∀ k : Nat, k < d → u ∣ f k) → ∀ n, u ∣ f n
  | 0, f, h, _, n => by rw [h n]; exact Int.dvd_zero u
  | d + 1, f, h, hk, n => by
    have hd : ∀ n, u ∣ f (n + 1) - f n := PD.dvd (d := d) (f := fun n => f (n + 1) - f n) h fun k hk' => by
      have h1 := hk (k + 1) (by omega)
      have h2 := hk k (by omega)
      exact Int.dvd_sub h1 h2
    have h0 : u ∣ f 0 := hk 0 (by omega)
    have hp : ∀ k : Nat, u ∣ f k := fun k => by
      induction k with
      | zero => exact h0
      | succ k ih =>
        have := Int.dvd_add (hd k) ih
        rw [Int.sub_add_cancel] at this
        exact this
    have hn : ∀ k : Nat, u ∣ f (-(k : Int)) := fun k => by
      induction k with
      | zero => exact h0
      | succ k ih =>
        have h1 := hd (-((k + 1 : Nat) : Int))
        have e : -((k + 1 : Nat) : Int) + 1 = -(k : Int) := by omega
        rw [e] at h1
        have := Int.dvd_sub ih h1
        rw [Int.sub_sub_self] at this
        exact this
    rcases Int.le_total 0 n with z | z
    · have := hp n.toNat
      rw [Int.toNat_of_nonneg z] at this
      exact this
    · have := hn (-n).toNat
      rw [Int.toNat_of_nonneg (by omega), Int.neg_neg] at this
      exact this
/-- divisible at as many n in a row as the row has members: divisible everywhere -/
theorem row_dvd {r : List Int} {u : Int} (h : ∀ k : Nat, k < r.length → u ∣ evalR r k) (n : Int) : u ∣ evalR r n := (pd_row r).dvd h n
theorem eval_take : ∀ (r : List Int) (k : Nat) (n : Int), (∀ j, k ≤ j → j < r.length → r[j]? = some 0) → evalR (r.take k) n = evalR r n
  | [], k, n, _ => by rw [List.take_nil]
  | c :: r, 0, n, h => by
    have h0 : c = 0 := by
      have := h 0 (Nat.le_refl 0) (Nat.succ_pos _)
      simpa using this
    have ih := eval_take r 0 n fun j _ hj => by
      have := h (j + 1) (Nat.zero_le _) (Nat.succ_lt_succ hj)
      simpa using this
    show (0 : Int) = evalR r n * n + c
    rw [← ih, h0]
    show (0 : Int) = 0 * n + 0
    rw [Int.zero_mul]; rfl
  | c :: r, k + 1, n, h => by
    have ih := eval_take r k n fun j hk hj => by
      have := h (j + 1) (Nat.succ_le_succ hk) (Nat.succ_lt_succ hj)
      simpa using this
    show evalR (r.take k) n * n + c = evalR r n * n + c
    rw [ih]
theorem eval_map : ∀ (r : List Int) (g n : Int), (∀ c ∈ r, g ∣ c) → evalR r n = g * evalR (r.map fun c => c / g) n
  | [], g, n, _ => (Int.mul_zero g).symm
  | c :: r, g, n, h => by
    have ih := eval_map r g n fun c hc => h c (List.mem_cons_of_mem _ hc)
    show evalR r n * n + c = g * (evalR (r.map fun c => c / g) n * n + c / g)
    rw [Int.mul_add, Int.mul_ediv_cancel' (h c List.mem_cons_self), ih, Int.mul_assoc]
/-- the greatest common divisor of a number and a row -/
def gcdR (f : Nat) (t : List Int) : Nat := t.foldl (fun g c => Nat.gcd g c.natAbs) f
theorem gcdR_dvd : ∀ (t : List Int) (f : Nat), gcdR f t ∣ f ∧ ∀ c ∈ t, (gcdR f t : Int) ∣ c
  | [], f => ⟨Nat.dvd_refl f, fun c hc => by cases hc⟩
  | c :: t, f => by
    obtain ⟨h1, h2⟩ := gcdR_dvd t (Nat.gcd f c.natAbs)
    refine ⟨Nat.dvd_trans h1 (Nat.gcd_dvd_left _ _), fun x hx => ?_⟩
    rcases List.mem_cons.mp hx with rfl | hx
    · exact Int.ofNat_dvd_left.mpr (Nat.dvd_trans h1 (Nat.gcd_dvd_right _ _))
    · exact h2 x hx
theorem dvd_gcdR : ∀ (t : List Int) (f d : Nat), d ∣ f → (∀ c ∈ t, (d : Int) ∣ c) → d ∣ gcdR f t
  | [], f, d, h, _ => h
  | c :: t, f, d, h, hc => dvd_gcdR t (Nat.gcd f c.natAbs) d (Nat.dvd_gcd h (Int.ofNat_dvd_left.mp (hc c List.mem_cons_self))) fun x hx => hc x (List.mem_cons_of_mem _ hx)
theorem gcdR_one : ∀ t : List Int, gcdR 1 t = 1
  | [] => rfl
  | c :: t => by
    show gcdR (Nat.gcd 1 c.natAbs) t = 1
    rw [Nat.gcd_one_left]; exact gcdR_one t
theorem gcdR_pos {t : List Int} {f : Nat} (h : 0 < f) : 0 < gcdR f t := Nat.pos_of_dvd_of_pos (gcdR_dvd t f).1 h
theorem gcdR_take_succ {t : List Int} {f i : Nat} {c : Int} (h : t[i]? = some c) : gcdR f (t.take (i + 1)) = Nat.gcd (gcdR f (t.take i)) c.natAbs := by
  unfold gcdR
  rw [List.take_succ, h, Option.toList_some, List.foldl_append]
  rfl
/-- one lowest form -/
theorem gcdR_low {t : List Int} {f : Nat} (h : 0 < f) : gcdR (f / gcdR f t) (t.map fun c => c / (gcdR f t : Int)) = 1 := by
  have hg := gcdR_pos (t := t) h
  obtain ⟨h1, h2⟩ := gcdR_dvd t f
  obtain ⟨d1, d2⟩ := gcdR_dvd (t.map fun c => c / (gcdR f t : Int)) (f / gcdR f t)
  generalize hgd : gcdR (f / gcdR f t) (t.map fun c => c / (gcdR f t : Int)) = d at d1 d2 ⊢
  have k1 : d * gcdR f t ∣ f := by
    have := Nat.mul_dvd_mul_right d1 (gcdR f t)
    rw [Nat.div_mul_cancel h1] at this
    exact this
  have k2 : ∀ c ∈ t, ((d * gcdR f t : Nat) : Int) ∣ c := fun c hc => by
    have z := d2 (c / (gcdR f t : Int)) (List.mem_map_of_mem hc)
    have z2 := Int.mul_dvd_mul_right (gcdR f t : Int) z
    rw [Int.ediv_mul_cancel (h2 c hc)] at z2
    rw [Int.natCast_mul]
    exact z2
  have k3 := dvd_gcdR t f _ k1 k2
  have k4 := Nat.le_of_dvd hg k3
  rcases Nat.lt_or_ge d 2 with z | z
  · rcases Nat.eq_zero_or_pos d with rfl | z0
    · rw [Nat.zero_mul] at k3
      have := Nat.eq_zero_of_zero_dvd k3
      omega
    · omega
  · have := Nat.mul_le_mul_right (gcdR f t) z
    omega
/-- the row without the zeros at its end -/
def TrimOk (r t : List Int) : Prop := ∃ k, k ≤ r.length ∧ t = r.take k ∧ (∀ j, k ≤ j → j < r.length → r[j]? = some 0) ∧ (k = 0 ∨ ∃ c, r[k - 1]? = some c ∧ c ≠ 0)
/-- the least form p over u of the row r over un -/
structure Low (r : List Int) (un : Nat) (p : List Int) (u : Nat) : Prop where
  ex : ∃ (k g : Nat), 0 < g ∧ k ≤ r.length ∧ p = (r.take k).map (fun c => c / (g : Int)) ∧ (∀ c ∈ r.take k, (g : Int) ∣ c) ∧ un = g * u ∧ gcdR u p = 1 ∧ (∀ j, k ≤ j → j < r.length → r[j]? = some 0) ∧ (k = 0 ∨ ∃ c, r[k - 1]? = some c ∧ c ≠ 0)
  u1 : 0 < u
theorem Low.of_trim {r t : List Int} {un : Nat} (h : TrimOk r t) (h0 : 0 < un) : Low r un (t.map fun c => c / (gcdR un t : Int)) (un / gcdR un t) := by
  obtain ⟨k, hk, rfl, hz, hl⟩ := h
  have hg := gcdR_pos (t := r.take k) h0
  obtain ⟨h1, h2⟩ := gcdR_dvd (r.take k) un
  refine ⟨⟨k, gcdR un (r.take k), hg, hk, rfl, h2, (Nat.mul_div_cancel' h1).symm, gcdR_low h0, hz, hl⟩, Nat.div_pos (Nat.le_of_dvd h0 h1) hg⟩
theorem Low.eval {r p : List Int} {un u : Nat} (h : Low r un p u) (n : Int) : ∃ g : Int, 0 < g ∧ (un : Int) = g * u ∧ evalR r n = g * evalR p n := by
  obtain ⟨k, g, hg, hk, rfl, hd, hu, _, hz, _⟩ := h.ex
  refine ⟨g, by omega, by rw [hu, Int.natCast_mul], ?_⟩
  rw [← eval_take r k n hz, eval_map _ (g : Int) n hd]
theorem Low.mod {r p : List Int} {un u : Nat} (h : Low r un p u) (n : Int) : evalR r n % (un : Int) = 0 ↔ evalR p n % (u : Int) = 0 := by
  obtain ⟨g, hg, e1, e2⟩ := h.eval n
  rw [e1, e2, Int.mul_emod_mul_of_pos _ _ hg]
  constructor
  · intro z
    rcases Int.mul_eq_zero.mp z with z | z
    · omega
    · exact z
  · intro z
    rw [z, Int.mul_zero]
theorem Low.div {r p : List Int} {un u : Nat} (h : Low r un p u) (n : Int) : evalR r n / (un : Int) = evalR p n / (u : Int) := by
  obtain ⟨g, hg, e1, e2⟩ := h.eval n
  rw [e1, e2, Int.mul_ediv_mul_of_pos _ _ hg]
theorem Low.len {r p : List Int} {un u : Nat} (h : Low r un p u) : p.length ≤ r.length := by
  obtain ⟨k, g, hg, hk, rfl, _⟩ := h.ex
  rw [List.length_map, List.length_take]
  omega
/-- whole everywhere -/
theorem Low.whole {r p : List Int} {un u : Nat} (h : Low r un p u) : (∀ k : Nat, k < p.length → evalR p k % (u : Int) = 0) ↔ ∀ n : Int, -1 ≤ n → n < (r.length : Int) + 2 → evalR r n % (un : Int) = 0 := by
  constructor
  · intro hk n _ _
    exact (h.mod n).mpr (Int.emod_eq_zero_of_dvd (row_dvd (fun k hk' => Int.dvd_of_emod_eq_zero (hk k hk')) n))
  · intro hn k hk
    have := h.len
    exact (h.mod k).mp (hn k (by omega) (by omega))
/-- of at most b bits -/
def Bd (b : Nat) (x : Int) : Prop := x.natAbs < 2 ^ b
theorem Bd.up {a b : Nat} {x : Int} (h : Bd a x) (e : a ≤ b) : Bd b x := Nat.lt_of_lt_of_le h (Nat.pow_le_pow_right (by decide) e)
theorem Bd.step {a b c w : Nat} {x y z : Int} (hx : Bd a x) (hy : Bd b y) (hz : Bd c z) (h1 : a + b + 1 ≤ w) (h2 : c + 1 ≤ w) : Bd w (x * y + z) := by
  unfold Bd at *
  have e1 : (x * y + z).natAbs ≤ x.natAbs * y.natAbs + z.natAbs := by
    have := Int.natAbs_add_le (x * y) z
    rw [Int.natAbs_mul] at this
    exact this
  have e2 : x.natAbs * y.natAbs ≤ 2 ^ a * 2 ^ b := Nat.mul_le_mul (Nat.le_of_lt hx) (Nat.le_of_lt hy)
  rw [← Nat.pow_add] at e2
  have e3 : 2 ^ (a + b) ≤ 2 ^ (w - 1) := Nat.pow_le_pow_right (by decide) (by omega)
  have e4 : 2 ^ c ≤ 2 ^ (w - 1) := Nat.pow_le_pow_right (by decide) (by omega)
  have e5 : 2 ^ w = 2 ^ (w - 1) + 2 ^ (w - 1) := by
    rw [← Nat.two_mul, ← Nat.pow_succ', Nat.succ_eq_add_one, Nat.sub_add_cancel (by omega)]
  omega
theorem Bd.zero (b : Nat) : Bd b 0 := Nat.pow_pos (by decide)
theorem bd_eval {n : Int} {b : Nat} (hn : Bd b n) : ∀ r : List Int, (∀ c ∈ r, Bd b c) → Bd ((b + 1) * r.length) (evalR r n)
  | [], _ => Bd.zero _
  | c :: r, h => by
    have ih := bd_eval hn r fun c hc => h c (List.mem_cons_of_mem _ hc)
    have := Bd.step ih hn (h c List.mem_cons_self) (w := (b + 1) * (r.length + 1)) (by rw [Nat.mul_succ]; omega) (by rw [Nat.mul_succ]; omega)
    exact this
theorem Bd.div {b : Nat} {x g : Int} (h : Bd b x) (hg : 0 < g) : Bd b (x / g) := by
  unfold Bd at *
  rcases Int.le_total 0 x with z | z
  · have h1 := Int.ediv_nonneg z (Int.le_of_lt hg)
    have h2 : x / g ≤ x := Int.ediv_le_self g z
    omega
  · have h1 : x / g ≤ 0 := Int.ediv_nonpos_of_nonpos_of_neg z hg
    have h2 : x ≤ x / g := by
      rw [Int.le_ediv_iff_mul_le hg]
      have := Int.mul_le_mul_of_nonpos_left (c := 1) (b := g) (a := x) z (by omega)
      omega
    omega
end Ef
set_option Elab.async false
set_option linter.all false
set_option maxRecDepth 100000
set_option maxHeartbeats 4000000
namespace Ef
open PySem PySem.Spec PyProof.Rows L2
abbrev sIsInt : Stmt := top 10
abbrev sFrom : Stmt := top 11
structure TxtW (mg : Str → Option Value) : Prop extends TxtP mg where
  isinstance : mg "isinstance" = none
  bool : mg "bool" = none
  enumerate : mg "enumerate" = none
  reversed : mg "reversed" = none
  range : mg "range" = none
  tuple : mg "tuple" = none
/-- no int: a value of another built-in kind, or a truth -/
def NotInt (K : PySem.W.Frag) (H : Hp) (v : V) : Prop := ∃ (n : String) (b1 b2 : Bool), TyX K H v (.type n) ∧ kitB n "int" = some b1 ∧ kitB n "bool" = some b2 ∧ (b1 && !b2) = false
section
variable {P : Program} {w : World} {K : PySem.W.Frag} {mg : Str → Option Value} {base : Heap}
def spIsInt (K : PySem.W.Frag) : Sp := fun vs H Q _ => ∃ (v : V) (n : String) (b1 b2 : Bool), vs = [v] ∧ TyX K H v (.type n) ∧ kitB n "int" = some b1 ∧ kitB n "bool" = some b2 ∧ Q (.bl (b1 && !b2)) H
theorem scIsInt : FnScope ["value"] ["value"] (defScope sIsInt) := ⟨rfl, rfl, rfl, by decide +kernel, rfl, by decide +kernel, by decide +kernel⟩
theorem df_isint (A : At K mg "is_int" sIsInt) (T : TxtW mg) : Df P w K mg base 1 "is_int" ["value"] (spIsInt K) := by
  obtain ⟨f, fd, hm, F⟩ := A.ex
  refine ⟨f, fd, hm, F.kp, F.binds (fun _ _ _ _ _ _ us hl => match us, hl with | [_], _ => rfl), F.ok scIsInt (fun vs H Q E h => ?_) (fun cdv A outer s H vs Q E hr h => ?_)⟩
  · obtain ⟨v, n, b1, b2, rfl, _⟩ := h
    rfl
  · obtain ⟨v, n, b1, b2, rfl, ht, h1, h2, q⟩ := h
    refine ⟨_, (pss_one (ps_ret (pe_and (pe_callB call_isi (by rfl) T.isinstance (by decide +kernel) (pa_cons (pv 0) (pa_cons (pe_bltn (v := .ty "int") (by rfl) T.int (by decide +kernel) rfl) pa_nil))) (pe_one (pe_not (pe_callB call_isi (by rfl) T.isinstance (by decide +kernel) (pa_cons (pv 0) (pa_cons (pe_bltn (v := .ty "bool") (by rfl) T.bool (by decide +kernel) rfl) pa_nil)))))))), ?_⟩
    refine ⟨v, rfl, _, _, _, _, _, rfl, .ty "int", ht, kit_ty h1, b1, rfl, ?_⟩
    cases b1 with
    | true =>
      refine iteT ⟨v, rfl, _, _, _, _, _, rfl, .ty "bool", ht, kit_ty h2, b2, rfl, ?_⟩
      exact q
    | false => exact iteF q
def spFrom (K : PySem.W.Frag) : Sp := fun vs H Q _ => ∃ (v : V) (low : Int), vs = [v, .int low] ∧ ((∃ i, v = .int i ∧ Q (.bl (decide (low ≤ i))) H) ∨ (NotInt K H v ∧ Q (.bl false) H))
theorem scFrom : FnScope ["value", "low"] ["value", "low"] (defScope sFrom) := ⟨rfl, rfl, rfl, by decide +kernel, rfl, by decide +kernel, by decide +kernel⟩
theorem df_from (A : At K mg "is_int_from" sFrom) (Disint : Df P w K mg base 1 "is_int" ["value"] (spIsInt K)) : Df P w K mg base 2 "is_int_from" ["value", "low"] (spFrom K) := by
  obtain ⟨f, fd, hm, F⟩ := A.ex
  refine ⟨f, fd, hm, F.kp, F.binds (fun _ _ _ _ _ _ us hl => match us, hl with | [_, _], _ => rfl), F.ok scFrom (fun vs H Q E h => ?_) (fun cdv A outer s H vs Q E hr h => ?_)⟩
  · obtain ⟨v, low, rfl, _⟩ := h
    rfl
  · obtain ⟨v, low, rfl, h⟩ := h
    refine ⟨_, (pss_one (ps_ret (pe_and (Disint.call (hr.mono (by decide)) (pa_cons (pv 0) pa_nil)) (pe_one (pe_cmpR op_ge (pv 0) (pv 1) (nomark _)))))), ?_⟩
    rcases h with ⟨i, rfl, q⟩ | ⟨⟨n, b1, b2, ht, h1, h2, hb⟩, q⟩
    · refine ⟨_, rfl, _, "int", true, false, rfl, .base (.int i), by decide +kernel, by decide +kernel, _, rfl, ?_⟩
      exact iteT ⟨_, rfl, _, rfl, _, _, rfl, rfl, q⟩
    · refine ⟨_, rfl, _, n, b1, b2, rfl, ht, h1, h2, _, rfl, ?_⟩
      rw [hb]
      exact iteF q
end
end Ef
set_option Elab.async false
set_option linter.all false
set_option maxRecDepth 100000
set_option maxHeartbeats 4000000
namespace Ef
open PySem PySem.Spec PyProof.Rows L2
abbrev sSign : Stmt := top 12
abbrev sVal : Stmt := top 13
abbrev sDiv : Stmt := top 14
abbrev sTrim : Stmt := top 15
abbrev sCom : Stmt := top 16
abbrev sCheck : Stmt := top 25
structure TxtQ (mg : Str → Option Value) : Prop extends TxtW mg where
  gcd : mg "gcd" = some (.builtin "math.gcd")
theorem Same.tup {K : PySem.W.Frag} {H H' : Hp} {a : Addr} {xs : List V} (e : Same H H') (h : SqT K H a xs) : SqT K H' a xs := by
  rcases h with (h | ⟨o, h⟩) | h
  · exact .inl (.inl (e _ _ h))
  · exact .inl (.inr ⟨o, e _ _ h⟩)
  · exact .inr h
theorem same_new {H : Hp} {p : Addr} {o : HO} (h : H p = none) : Same H (upd H p o) := fun b x e => by rw [upd_ne (ne_of_none e h)]; exact e
theorem same_mut {H0 H : Hp} {p : Addr} {o : HO} (h : Same H0 H) (hp : H0 p = none) : Same H0 (upd H p o) := fun b x e => by rw [upd_ne (ne_of_none e hp)]; exact h b x e
theorem dint (a b : Int) : decide (V.int a = V.int b) = decide (a = b) := by
  by_cases h : a = b
  · rw [decide_eq_true h, decide_eq_true (by rw [h])]
  · rw [decide_eq_false h, decide_eq_false (fun z => h (V.int.inj z))]
def sgn (n : Int) : Int := if n = 0 then 0 else if 0 < n then 1 else -1
/-- the members that are behind the i-th from the end -/
theorem eval_drop_succ {r : List Int} {i : Nat} {c : Int} (n : Int) (hi : r.reverse[i]? = some c) : evalR (r.drop (r.length - (i + 1))) n = evalR (r.drop (r.length - i)) n * n + c := by
  have hl : i < r.length := by
    rcases Nat.lt_or_ge i r.length with z | z
    · exact z
    · rw [List.getElem?_eq_none (by rw [List.length_reverse]; exact z)] at hi; cases hi
  rw [List.getElem?_reverse hl] at hi
  have hk : r.length - 1 - i < r.length := by omega
  have e1 : r.length - (i + 1) = r.length - 1 - i := by omega
  rw [e1, List.drop_eq_getElem_cons hk]
  rw [List.getElem?_eq_getElem hk] at hi
  injection hi with hi
  rw [hi, show r.length - 1 - i + 1 = r.length - i by omega]
  rfl
section
variable {P : Program} {w : World} {K : PySem.W.Frag} {mg : Str → Option Value} {base : Heap}
def spSign : Sp := fun vs H Q _ => ∃ n : Int, vs = [.int n] ∧ Q (.int (sgn n)) H
theorem scSign : FnScope ["number"] ["number"] (defScope sSign) := ⟨rfl, rfl, rfl, by decide +kernel, rfl, by decide +kernel, by decide +kernel⟩
theorem df_sign (A : At K mg "sign_of" sSign) : Df P w K mg base 1 "sign_of" ["number"] spSign := by
  obtain ⟨f, fd, hm, F⟩ := A.ex
  refine ⟨f, fd, hm, F.kp, F.binds (fun _ _ _ _ _ _ us hl => match us, hl with | [_], _ => rfl), F.ok scSign (fun vs H Q E h => ?_) (fun cdv A outer s H vs Q E hr h => ?_)⟩
  · obtain ⟨n, rfl, _⟩ := h
    rfl
  · obtain ⟨n, rfl, q⟩ := h
    refine ⟨_, (pss_cons (ps_if (pt_cmpR op_eq (pv 0) pe_int (nomark _)) (pss_one (ps_ret pe_int)) pss_nil)
      (pss_one (ps_ret (pe_ifExp (pt_cmpR op_gt (pv 0) pe_int (nomark _)) pe_int (pe_un un_neg pe_int))))), ?_⟩
    refine ⟨_, rfl, rfl, _, rfl, ?_⟩
    rw [dint]
    unfold sgn at q
    refine ite2 (fun hc => ?_) (fun hc => ?_)
    · rw [if_pos (of_decide_eq_true hc)] at q
      exact q
    · rw [if_neg (fun z => hc (decide_eq_true z))] at q
      refine ⟨_, rfl, _, _, rfl, rfl, _, rfl, ?_⟩
      refine ite2 (fun hd => ?_) (fun hd => ?_)
      · rw [if_pos (of_decide_eq_true hd)] at q
        exact q
      · rw [if_neg (fun z => hd (decide_eq_true z))] at q
        exact ⟨_, rfl, q⟩
/-! ### value_at -/
def spVal (K : PySem.W.Frag) : Sp := fun vs H Q _ => ∃ (a : Addr) (r : List Int) (n : Int), vs = [.ref a, .int n] ∧ SqT K H a (r.map V.int) ∧ r.length ≤ 100 ∧ (∀ c ∈ r, Bd 230 c) ∧ Bd 230 n ∧ ∀ H', Same H H' → Q (.int (evalR r n)) H'
theorem scVal : FnScope ["row", "n", "total", "number"] ["row", "n"] (defScope sVal) := ⟨rfl, rfl, rfl, by decide +kernel, rfl, by decide +kernel, by decide +kernel⟩
theorem df_val (A : At K mg "value_at" sVal) : Df P w K mg base 1 "value_at" ["row", "n"] (spVal K) := by
  obtain ⟨f, fd, hm, F⟩ := A.ex
  refine ⟨f, fd, hm, F.kp, F.binds (fun _ _ _ _ _ _ us hl => match us, hl with | [_, _], _ => rfl), F.ok scVal (fun vs H Q E h => ?_) (fun cdv A outer s H vs Q E hr h => ?_)⟩
  · obtain ⟨a, r, n, rfl, _⟩ := h
    rfl
  · obtain ⟨a, r, n, rfl, hS, hl, hc, hn, q⟩ := h
    refine ⟨_, (pss_cons (ps_set (i := 2) scVal.nd rfl (.inl rfl) pe_int)
      (pss_cons (ps_for PassesOwn.never rfl (pi_tup (pe_revT (pv 0))) (pg_name (i := 3) scVal.nd rfl (.inl rfl))
      (pss_one (ps_set (i := 2) scVal.nd rfl (.inl rfl) (pe_op op_add (pe_op op_mulW (pv 2) (pv 1)) (pv 3)))))
      (pss_one (ps_ret (pv 2))))), ?_⟩
    refine ⟨_, rfl, a, _, rfl, hS, fun p hp => ?_⟩
    have hT : SqT K (upd H p (.tup (r.map V.int).reverse)) p (r.reverse.map V.int) := .inl (.inl (by rw [upd_same, List.map_reverse]))
    have s1 := same_new (o := .tup (r.map V.int).reverse) hp
    generalize upd H p (.tup (r.map V.int).reverse) = H1 at hT s1 ⊢
    refine ⟨p, rfl, ⟨_, hT⟩, for_tup (K := K) (a := p) (xs := r.reverse.map V.int) (fun i σ H' => H' = H1 ∧ ∃ y : Option V, σ = [some (.ref a), some (.int n), some (.int (evalR (r.drop (r.length - i)) n)), y])
      ⟨rfl, none, by rw [Nat.sub_zero, List.drop_length]; rfl⟩ (fun i σ H' _ ⟨e, _⟩ => e ▸ hT) ?_ ?_⟩
    · rintro i x σ H' hi ⟨rfl, y, rfl⟩
      rw [List.getElem?_map] at hi
      obtain ⟨c, hc2, rfl⟩ := Option.map_eq_some_iff.mp hi
      refine ⟨_, rfl, _, rfl, _, _, rfl, rfl, wide_mul (a := 231 * 100) (b := 230) ((bd_eval hn _ fun c hc' => hc c (List.mem_of_mem_drop hc')).up (Nat.mul_le_mul (Nat.le_refl _) (by rw [List.length_drop]; omega))) hn (by decide) (by decide) (by decide), _, rfl, _, _, rfl, rfl, rfl, _, by rw [eval_drop_succ n hc2]; rfl⟩
    · rintro σ H' ⟨rfl, y, rfl⟩
      rw [List.length_map, List.length_reverse, Nat.sub_self, List.drop_zero]
      exact ⟨_, rfl, q _ s1⟩
/-! ### divisible_everywhere -/
def spDiv (K : PySem.W.Frag) : Sp := fun vs H Q _ => ∃ (a : Addr) (r : List Int) (u : Int), vs = [.ref a, .int u] ∧ SqT K H a (r.map V.int) ∧ r.length ≤ 100 ∧ 0 < u ∧ Bd 230 u ∧ ∀ H' (b : Bool), Same H H' → (b = true ↔ ∀ k : Nat, k < r.length → evalR r k % u = 0) → Q (.bl b) H'
theorem scDiv : FnScope ["row", "under", "n", "left", "number"] ["row", "under"] (defScope sDiv) := ⟨rfl, rfl, rfl, by decide +kernel, rfl, by decide +kernel, by decide +kernel⟩
theorem emod_lt_bd {x u : Int} {b : Nat} (h : 0 < u) (hu : Bd b u) : Bd b (x % u) := by
  have h1 := Int.emod_nonneg x (show u ≠ 0 by omega)
  have h2 := Int.emod_lt_of_pos x h
  unfold Bd at *
  omega
theorem mod_step (l n c u : Int) : ((l % u) * n + c) % u = (l * n + c) % u := by
  rw [Int.add_emod, Int.mul_emod, Int.emod_emod_of_dvd _ (Int.dvd_refl u), ← Int.mul_emod, ← Int.add_emod]
theorem df_div (A : At K mg "divisible_everywhere" sDiv) (T : TxtW mg) : Df P w K mg base 1 "divisible_everywhere" ["row", "under"] (spDiv K) := by
  obtain ⟨f, fd, hm, F⟩ := A.ex
  refine ⟨f, fd, hm, F.kp, F.binds (fun _ _ _ _ _ _ us hl => match us, hl with | [_, _], _ => rfl), F.ok scDiv (fun vs H Q E h => ?_) (fun cdv A outer s H vs Q E hr h => ?_)⟩
  · obtain ⟨a, r, u, rfl, _⟩ := h
    rfl
  · obtain ⟨a, r, u, rfl, hS, hl, hu, hub, q⟩ := h
    refine ⟨_, (pss_cons (ps_for PassesOwn.never rfl (pi_range1 (by rfl) T.range (pa_cons (pe_callB call_len_seq (by rfl) T.len PySem.boot_len (pa_cons (pv 0) pa_nil)) pa_nil)) (pg_name (i := 2) scDiv.nd rfl (.inl rfl))
      (pss_cons (ps_set (i := 3) scDiv.nd rfl (.inl rfl) pe_int)
      (pss_cons (ps_for PassesOwn.never rfl (pi_tup (pe_revT (pv 0))) (pg_name (i := 4) scDiv.nd rfl (.inl rfl))
      (pss_one (ps_set (i := 3) scDiv.nd rfl (.inl rfl) (pe_op op_mod (pe_op op_add (pe_op op_mulW (pv 3) (pv 2)) (pv 4)) (pv 1)))))
      (pss_one (ps_if (pt_cmpR op_ne (pv 3) pe_int (nomark _)) (pss_one (ps_ret pe_bl)) pss_nil)))))
      (pss_one (ps_ret pe_bl))), ?_⟩
    refine ⟨_, rfl, a, _, rfl, .inr hS, _, rfl, by rw [List.length_map]; omega, by rw [List.length_map]; omega, ?_⟩
    rw [List.length_map]
    refine for_range (lo := 0) (n := r.length) (fun i σ H' => Same H H' ∧ (∀ k : Nat, k < i → evalR r k % u = 0) ∧ ∃ y1 y2 y3 : Option V, σ = [some (.ref a), some (.int u), y1, y2, y3]) ⟨Same.refl H, fun k hk => absurd hk (Nat.not_lt_zero k), none, none, none, rfl⟩ ?_ ?_
    · rintro i σ H' hi ⟨s0, hk, y1, y2, y3, rfl⟩
      have e0 : (0 : Int) + ((i : Nat) : Int) = (i : Int) := Int.zero_add _
      rw [e0]
      refine ⟨_, rfl, ?_⟩
      refine ⟨a, _, rfl, Same.tup s0 hS, fun p hp => ?_⟩
      have hT : SqT K (upd H' p (.tup (r.map V.int).reverse)) p (r.reverse.map V.int) := .inl (.inl (by rw [upd_same, List.map_reverse]))
      have s1 := s0.trans (same_new (o := .tup (r.map V.int).reverse) hp)
      generalize upd H' p (.tup (r.map V.int).reverse) = H1 at hT s1 ⊢
      refine ⟨p, rfl, ⟨_, hT⟩, for_tup (K := K) (a := p) (xs := r.reverse.map V.int) (fun j σ H' => H' = H1 ∧ ∃ y : Option V, σ = [some (.ref a), some (.int u), some (.int i), some (.int (evalR (r.drop (r.length - j)) i % u)), y])
        ⟨rfl, y3, by rw [Nat.sub_zero, List.drop_length]; rfl⟩ (fun i σ H' _ ⟨e, _⟩ => e ▸ hT) ?_ ?_⟩
      · rintro j x σ H' hj ⟨rfl, y, rfl⟩
        rw [List.getElem?_map] at hj
        obtain ⟨c, hc2, rfl⟩ := Option.map_eq_some_iff.mp hj
        refine ⟨_, rfl, _, rfl, _, _, rfl, rfl, wide_mul (a := 230) (b := 64) (emod_lt_bd hu hub) (show Bd 64 (i : Int) from ?_) (by decide) (by decide) (by decide), _, rfl, _, _, rfl, rfl, _, rfl, _, _, rfl, rfl, hu, rfl, _, by rw [eval_drop_succ _ hc2, ← mod_step]; rfl⟩
        show (i : Int).natAbs < 2 ^ 64
        rw [Int.natAbs_natCast]
        exact Nat.lt_of_lt_of_le hi (Nat.le_trans hl (by decide))
      · rintro σ H' ⟨rfl, y, rfl⟩
        rw [List.length_map, List.length_reverse, Nat.sub_self, List.drop_zero]
        refine ⟨_, rfl, rfl, _, rfl, ?_⟩
        rw [dint]
        have sE : Same H H' := s1
        refine ite2 (fun hb => ?_) (fun hb => ?_)
        · refine q H' false sE ⟨fun z => absurd z Bool.false_ne_true, fun z => ?_⟩
          rw [z i hi] at hb
          exact absurd hb (by decide)
        · refine ⟨sE, fun k hk' => ?_, _, _, _, rfl⟩
          rcases Nat.lt_or_ge k i with z | z
          · exact hk k z
          · have e : k = i := by omega
            rw [e]
            exact Classical.byContradiction fun z => hb (by rw [decide_eq_false z]; rfl)
    · rintro σ H' ⟨s0, hk, y1, y2, y3, rfl⟩
      exact q H' true s0 ⟨fun _ => hk, fun _ => rfl⟩
/-! ### trimmed -/
def spTrim (K : PySem.W.Frag) : Sp := fun vs H Q _ => ∃ (a : Addr) (r : List Int), vs = [.ref a] ∧ SqL K H a (r.map V.int) ∧ r.length ≤ 100 ∧ ∀ H' l t, Same H H' → H' l = some (.lst (t.map V.int)) → TrimOk r t → Q (.ref l) H'
theorem scTrim : FnScope ["row", "size"] ["row"] (defScope sTrim) := ⟨rfl, rfl, rfl, by decide +kernel, rfl, by decide +kernel, by decide +kernel⟩
theorem get_int {r : List Int} {k : Nat} (h : k < r.length) : ∃ c, r[k]? = some c ∧ (r.map V.int)[k]? = some (.int c) := ⟨r[k], List.getElem?_eq_getElem h, by rw [List.getElem?_map, List.getElem?_eq_getElem h]; rfl⟩
theorem atI_of {xs : List V} {i : Int} {j : Nat} {v : V} (e : i = (j : Int)) (h : xs[j]? = some v) : atI xs i = some v := at_of e h
theorem cut_int (r : List Int) (k : Nat) (hk : k ≤ r.length) : cutV (r.map V.int) none (some (k : Int)) = (r.take k).map V.int := by
  unfold cutV
  rw [HT.sIx_none, HT.sIx_nat, List.length_map, Nat.min_eq_left hk, List.drop_zero, Nat.sub_zero, List.map_take]
theorem df_trim (A : At K mg "trimmed" sTrim) (T : TxtW mg) : Df P w K mg base 1 "trimmed" ["row"] (spTrim K) := by
  obtain ⟨f, fd, hm, F⟩ := A.ex
  refine ⟨f, fd, hm, F.kp, F.binds (fun _ _ _ _ _ _ us hl => match us, hl with | [_], _ => rfl), F.ok scTrim (fun vs H Q E h => ?_) (fun cdv A outer s H vs Q E hr h => ?_)⟩
  · obtain ⟨a, r, rfl, _⟩ := h
    rfl
  · obtain ⟨a, r, rfl, hS, hl, q⟩ := h
    refine ⟨_, (pss_cons (ps_set (i := 1) scTrim.nd rfl (.inl rfl) (pe_callB call_len_seq (by rfl) T.len PySem.boot_len (pa_cons (pv 0) pa_nil)))
      (pss_cons (ps_while PassesOwn.never (pw_and (pt_cmpR op_gt (pv 1) pe_int (nomark _)) (pw_and1 (pt_cmpR op_eq (pe_ix ix_seq (pv 0) (pe_op op_sub (pv 1) pe_int) (fun _ _ => rfl)) pe_int (nomark _)))).pt
      (pss_one (ps_set (i := 1) scTrim.nd rfl (.inl rfl) (pe_op op_sub (pv 1) pe_int))))
      (pss_one (ps_ret (pe_callTy call_list_of (by rfl) T.list (by decide +kernel) (pa_cons (pe_slice (sl_list.or sl_tupA) (pv 0) po_none (po_some (pv 1))) pa_nil)))))), ?_⟩
    refine ⟨_, rfl, a, _, rfl, .inl hS, ?_⟩
    refine ⟨fun m σ H' => H' = H ∧ m ≤ r.length ∧ σ = [some (.ref a), some (.int (m : Int))] ∧ ∀ j, m ≤ j → j < r.length → r[j]? = some 0, ⟨r.length, rfl, Nat.le_refl _, by rw [List.length_map]; rfl, fun j h1 h2 => absurd h2 (by omega)⟩, fun m σ H' hW => ?_⟩
    obtain ⟨rfl, hm2, rfl, hz⟩ := hW
    have fin : ∀ (hk : m = 0 ∨ ∃ c, r[m - 1]? = some c ∧ c ≠ 0) p, H' p = none → ∀ l, (upd H' p (.lst ((r.take m).map V.int))) l = none → Q (.ref l) (upd (upd H' p (.lst ((r.take m).map V.int))) l (.lst ((r.take m).map V.int))) := fun hk p hp l hl' =>
      q _ l (r.take m) ((same_new hp).trans (same_new hl')) upd_same ⟨m, hm2, rfl, hz, hk⟩
    refine ⟨_, rfl, _, _, rfl, rfl, _, rfl, ?_⟩
    cases m with
    | zero =>
      refine iteF ?_
      refine ⟨_, rfl, _, rfl, _, rfl, .inl ⟨a, _, rfl, hS, fun p hp => ?_⟩⟩
      rw [cut_int r 0 (Nat.zero_le _)]
      exact ⟨p, _, rfl, .inl (.inl (.inl upd_same)), fin (.inl rfl) p hp⟩
    | succ k =>
      rw [decide_eq_true (show (0 : Int) < ((k + 1 : Nat) : Int) by omega)]
      obtain ⟨c, hc, hc2⟩ := get_int (r := r) (k := k) (by omega)
      refine iteT ⟨_, rfl, _, rfl, _, _, rfl, rfl, .inl ⟨a, _, _, _, rfl, rfl, hS, atI_of (j := k) (by omega) hc2, rfl, _, rfl, ?_⟩⟩
      rw [dint]
      refine ite2 (fun hb => ?_) (fun hb => ?_)
      · have hc0 := of_decide_eq_true hb
        subst hc0
        refine ⟨fun σ H2 => H2 = H' ∧ σ = [some (.ref a), some (.int (k : Int))], fun σ' H2 ⟨e1, e2⟩ => ⟨k, Nat.lt_succ_self k, e1, by omega, e2, fun j h1 h2 => ?_⟩, _, rfl, _, _, rfl, rfl, rfl, by show [some (V.ref a), some (V.int (((k + 1 : Nat) : Int) - 1))] = _; rw [show ((k + 1 : Nat) : Int) - 1 = (k : Int) by omega]⟩
        rcases Nat.lt_or_ge j (k + 1) with z | z
        · have e : j = k := by omega
          rw [e]; exact hc
        · exact hz j z h2
      · refine ⟨_, rfl, _, rfl, _, rfl, .inl ⟨a, _, rfl, hS, fun p hp => ?_⟩⟩
        rw [cut_int r (k + 1) hm2]
        exact ⟨p, _, rfl, .inl (.inl (.inl upd_same)), fin (.inr ⟨c, hc, fun z => hb (decide_eq_true z)⟩) p hp⟩
end
end Ef
set_option Elab.async false
set_option linter.all false
/-! x is not True, for any x -/
namespace Ef
open PySem PySem.Spec PyProof.Rows L2
/-- no truth value -/
def NoBl : V → Prop
  | .int _ => True
  | .non => True
  | .str _ => True
  | .ref _ => True
  | _ => False
def rNotX : R2 := fun x y H Q => ∃ b : Bool, y = .bl b ∧ ((∃ a : Bool, x = .bl a ∧ Q (.bl (!decide (a = b))) H) ∨ (NoBl x ∧ Q (.bl true) H))
theorem op_notX {X : Cx} : OpR X (compareOp .IsNot) rNotX := by
  intro pins s σ H x y v u Q I rx ry h
  obtain ⟨b, rfl, ⟨a, rfl, q⟩ | ⟨hn, q⟩⟩ := h
  · exact op_notBl pins s σ H _ _ v u Q I rx ry ⟨a, b, rfl, rfl, q⟩
  · cases ry
    have fin : isSame v (.bool b) = pure false → wpAny (model X.prog X.w) X.A (compareOp .IsNot v (.bool b)) (EP X pins σ Q) X.xe s := fun e => by
      show wpAny _ _ (isSame v (.bool b) >>= fun z => pure (Value.bool !z)) _ _ _
      rw [e]
      exact wpAny_bind (wpAny_pure (wpAny_pure ⟨.bl true, H, I, rfl, q⟩))
    cases x with
    | int i =>
      obtain ⟨t, rfl⟩ := rx
      exact fin rfl
    | non => cases rx; exact fin rfl
    | str x =>
      obtain ⟨t, rfl⟩ := rx
      exact fin rfl
    | ref a => cases rx; exact fin rfl
    | _ => exact hn.elim
end Ef
set_option Elab.async false
set_option linter.all false
/-! x is not True, for any x at all -/
namespace Ef
open PySem PySem.Spec PyProof.Rows L2
def rNotA : R2 := fun x y H Q => ∃ b : Bool, y = .bl b ∧ ((∃ a : Bool, x = .bl a ∧ Q (.bl (!decide (a = b))) H) ∨ ((∀ c, x ≠ .bl c) ∧ Q (.bl true) H))
theorem op_notA {X : Cx} : OpR X (compareOp .IsNot) rNotA := by
  intro pins s σ H x y v u Q I rx ry h
  obtain ⟨b, rfl, ⟨a, rfl, q⟩ | ⟨hn, q⟩⟩ := h
  · exact op_notBl pins s σ H _ _ v u Q I rx ry ⟨a, b, rfl, rfl, q⟩
  · cases ry
    have fin : isSame v (.bool b) = pure false → wpAny (model X.prog X.w) X.A (compareOp .IsNot v (.bool b)) (EP X pins σ Q) X.xe s := fun e => by
      show wpAny _ _ (isSame v (.bool b) >>= fun z => pure (Value.bool !z)) _ _ _
      rw [e]
      exact wpAny_bind (wpAny_pure (wpAny_pure ⟨.bl true, H, I, rfl, q⟩))
    cases x with
    | bl c => exact absurd rfl (hn c)
    | int i =>
      obtain ⟨t, rfl⟩ := rx
      exact fin rfl
    | non => cases rx; exact fin rfl
    | str x =>
      obtain ⟨t, rfl⟩ := rx
      exact fin rfl
    | ref a => cases rx; exact fin rfl
    | byt x => obtain ⟨t, rfl⟩ := rx; exact fin rfl
    | flt x => obtain ⟨t, rfl⟩ := rx; exact fin rfl
    | ty x => cases rx; exact fin rfl
theorem NoBl.all {v : V} (h : NoBl v) : ∀ c, v ≠ .bl c := fun c e => by subst e; exact h
end Ef
set_option Elab.async false
set_option linter.all false
/-! x is True, for any x at all; what is no integer -/
namespace Ef
open PySem PySem.Spec PyProof.Rows L2
def rIsA : R2 := fun x y H Q => ∃ b : Bool, y = .bl b ∧ ((∃ a : Bool, x = .bl a ∧ Q (.bl (decide (a = b))) H) ∨ ((∀ c, x ≠ .bl c) ∧ Q (.bl false) H))
theorem op_isA {X : Cx} : OpR X (compareOp .Is) rIsA := by
  intro pins s σ H x y v u Q I rx ry h
  obtain ⟨b, rfl, ⟨a, rfl, q⟩ | ⟨hn, q⟩⟩ := h
  · exact op_isBl pins s σ H _ _ v u Q I rx ry ⟨a, b, rfl, rfl, q⟩
  · cases ry
    have fin : isSame v (.bool b) = pure false → wpAny (model X.prog X.w) X.A (compareOp .Is v (.bool b)) (EP X pins σ Q) X.xe s := fun e => by
      show wpAny _ _ (isSame v (.bool b) >>= fun z => pure (Value.bool z)) _ _ _
      rw [e]
      exact wpAny_bind (wpAny_pure (wpAny_pure ⟨.bl false, H, I, rfl, q⟩))
    cases x with
    | bl c => exact absurd rfl (hn c)
    | int i =>
      obtain ⟨t, rfl⟩ := rx
      exact fin rfl
    | non => cases rx; exact fin rfl
    | str x =>
      obtain ⟨t, rfl⟩ := rx
      exact fin rfl
    | ref a => cases rx; exact fin rfl
    | byt x => obtain ⟨t, rfl⟩ := rx; exact fin rfl
    | flt x => obtain ⟨t, rfl⟩ := rx; exact fin rfl
    | ty x => cases rx; exact fin rfl
theorem ty_cases {K : PySem.W.Frag} {H : Hp} {v : V} {n : String} {b1 b2 : Bool} (t : TyX K H v (.type n)) (k1 : kitB n "int" = some b1) (k2 : kitB n "bool" = some b2) (hb : (b1 && !b2) = false) :
    (∃ c, v = .bl c) ∨ (b1 = false ∧ ∀ c, v ≠ .bl c) := by
  cases b1 with
  | false =>
    by_cases h : ∃ c, v = .bl c
    · exact .inl h
    · exact .inr ⟨rfl, fun c e => h ⟨c, e⟩⟩
  | true =>
    cases b2 with
    | false => cases hb
    | true =>
      have no : ∀ {m : String}, kitB m "bool" = some false → m = n → False := fun h e => by
        rw [e, k2] at h; cases h
      cases t with
      | base b =>
        cases b with
        | bl c => exact .inl ⟨c, rfl⟩
        | non => exact (no (by decide +kernel) rfl).elim
        | int i => exact (no (by decide +kernel) rfl).elim
        | str x => exact (no (by decide +kernel) rfl).elim
        | flt x => exact (no (by decide +kernel) rfl).elim
        | lst e => exact (no (by decide +kernel) rfl).elim
        | frz e => exact (no (by decide +kernel) rfl).elim
        | tup e => exact (no (by decide +kernel) rfl).elim
        | dK e => exact (no (by decide +kernel) rfl).elim
        | dT e => exact (no (by decide +kernel) rfl).elim
      | byt b => exact (no (by decide +kernel) rfl).elim
      | set e => exact (no (by decide +kernel) rfl).elim
      | kList e c => exact (no (by decide +kernel) rfl).elim
      | kTuple e c => exact (no (by decide +kernel) rfl).elim
      | kDict e c => exact (no (by decide +kernel) rfl).elim
      | fTuple e => exact (no (by decide +kernel) rfl).elim
      | fDict e => exact (no (by decide +kernel) rfl).elim
theorem kit_int : kitB "int" "int" = some true := by decide +kernel
theorem kit_boolint : kitB "bool" "int" = some true := by decide +kernel
end Ef
set_option Elab.async false
set_option linter.all false
set_option maxRecDepth 100000
set_option maxHeartbeats 4000000
namespace Ef
open PySem PySem.Spec PyProof.Rows L2
section
variable {P : Program} {w : World} {K : PySem.W.Frag} {mg : Str → Option Value} {base : Heap}
/-! ### common_divisor -/
def spCom (K : PySem.W.Frag) : Sp := fun vs H Q _ => ∃ (a : Addr) (t : List Int) (f : Nat), vs = [.int f, .ref a] ∧ SqL K H a (t.map V.int) ∧ Q (.int (gcdR f t : Nat)) H
theorem scCom : FnScope ["first", "row", "shared", "number"] ["first", "row"] (defScope sCom) := ⟨rfl, rfl, rfl, by decide +kernel, rfl, by decide +kernel, by decide +kernel⟩
theorem df_com (A : At K mg "common_divisor" sCom) (T : TxtQ mg) : Df P w K mg base 1 "common_divisor" ["first", "row"] (spCom K) := by
  obtain ⟨f, fd, hm, F⟩ := A.ex
  refine ⟨f, fd, hm, F.kp, F.binds (fun _ _ _ _ _ _ us hl => match us, hl with | [_, _], _ => rfl), F.ok scCom (fun vs H Q E h => ?_) (fun cdv A outer s H vs Q E hr h => ?_)⟩
  · obtain ⟨a, t, f, rfl, _⟩ := h
    rfl
  · obtain ⟨a, t, f, rfl, hS, q⟩ := h
    refine ⟨_, (pss_cons (ps_set (i := 2) scCom.nd rfl (.inl rfl) (pv 0))
      (pss_cons (ps_for PassesOwn.never rfl (pi_list (pv 1)) (pg_name (i := 3) scCom.nd rfl (.inl rfl))
      (pss_cons (ps_if (pt_cmpR op_eq (pv 2) pe_int (nomark _)) (pss_one (ps_ret pe_int)) pss_nil)
      (pss_one (ps_set (i := 2) scCom.nd rfl (.inl rfl) (pe_callBfun cr_gcd (by rfl) T.gcd (pa_cons (pv 2) (pa_cons (pv 3) pa_nil)))))))
      (pss_one (ps_ret (pv 2))))), ?_⟩
    refine ⟨_, rfl, _, rfl, a, rfl, ⟨_, hS⟩, for_list (K := K) (a := a) (xs := t.map V.int) (fun i σ H' => H' = H ∧ ∃ y : Option V, σ = [some (.int f), some (.ref a), some (.int (gcdR f (t.take i) : Nat)), y])
      ⟨rfl, none, rfl⟩ (fun i σ H' _ ⟨e, _⟩ => e ▸ hS) ?_ ?_⟩
    · rintro i x σ H' hi ⟨rfl, y, rfl⟩
      rw [List.getElem?_map] at hi
      obtain ⟨c, hc, rfl⟩ := Option.map_eq_some_iff.mp hi
      refine ⟨_, rfl, rfl, _, rfl, ?_⟩
      rw [dint]
      refine ite2 (fun hb => ?_) (fun hb => ?_)
      · have h1 : gcdR f (t.take i) = 1 := by have := of_decide_eq_true hb; omega
        have h2 : gcdR f t = 1 := by
          have e : gcdR f t = gcdR (gcdR f (t.take i)) (t.drop i) := by
            unfold gcdR
            rw [← List.foldl_append, List.take_append_drop]
          rw [e, h1, gcdR_one]
        rw [h2] at q
        exact q
      · exact ⟨_, rfl, _, rfl, _, _, rfl, rfl, some (.int c), by rw [gcdR_take_succ hc]; rfl⟩
    · rintro σ H' ⟨rfl, y, rfl⟩
      rw [List.length_map, List.take_length]
      exact ⟨_, rfl, q⟩
/-! ### _check_row -/
def spCheck (K : PySem.W.Frag) : Sp := fun vs H Q _ => ∃ (a : Addr) (r : List Int), vs = [.ref a] ∧ SqL K H a (r.map V.int) ∧ ∀ H', Same H H' → Q .non H'
theorem scCheck : FnScope ["row", "index", "number"] ["row"] (defScope sCheck) := ⟨rfl, rfl, rfl, by decide +kernel, rfl, by decide +kernel, by decide +kernel⟩
theorem df_check (A : At K mg "_check_row" sCheck) (T : TxtW mg) (Disint : Df P w K mg base 1 "is_int" ["value"] (spIsInt K)) : Df P w K mg base 2 "_check_row" ["row"] (spCheck K) := by
  obtain ⟨f, fd, hm, F⟩ := A.ex
  refine ⟨f, fd, hm, F.kp, F.binds (fun _ _ _ _ _ _ us hl => match us, hl with | [_], _ => rfl), F.ok scCheck (fun vs H Q E h => ?_) (fun cdv A outer s H vs Q E hr h => ?_)⟩
  · obtain ⟨a, r, rfl, _⟩ := h
    rfl
  · obtain ⟨a, r, rfl, hB, q⟩ := h
    refine ⟨_, (pss_one (ps_for PassesOwn.never rfl (pi_enumS (by rfl) T.enumerate (pa_cons (pv 0) pa_nil)) (pg_tup (by rfl) (pgs_cons (pg_name (i := 1) scCheck.nd rfl (.inl rfl)) (pgs_cons (pg_name (i := 2) scCheck.nd rfl (.inl rfl)) pgs_nil)))
      (pss_one (ps_if (pw_or (pt_not (pt_val (pe_callB call_isi (by rfl) T.isinstance (by decide +kernel) (pa_cons (pv 2) (pa_cons (pe_bltn (v := .ty "int") (by rfl) T.int (by decide +kernel) rfl) pa_nil))))) (pw_or (pt_cmpR op_isA (pv 2) pe_bl (nomark _)) (pw_or1 (pt_cmpR op_isA (pv 2) pe_bl (nomark _))))).pt (pss_one ps_never) pss_nil)))), ?_⟩
    refine ⟨_, rfl, a, r.map V.int, rfl, .inl ⟨hB, ?_⟩⟩
    refine ⟨fun i m σ H3 => ∃ y2 y3, σ = [some (.ref a), y2, y3] ∧ i + m = r.length ∧ Same H H3, ⟨r.length, none, none, rfl, by omega, Same.refl H⟩, fun i m σ H3 hW => ?_⟩
    obtain ⟨y2, y3, rfl, em, sm⟩ := hW
    by_cases hi : i < r.length
    · obtain ⟨c, hc, g1⟩ := get_int hi
      refine .inr ⟨⟨_, _, sm.seq hB, g1⟩, fun σ' H' => ∃ y2 y3, σ' = [some (.ref a), y2, y3] ∧ Same H H', fun σ' H' hN => ?_, fun x H' hy => ?_⟩
      · obtain ⟨z2, z3, e, sm'⟩ := hN
        exact ⟨m - 1, by omega, z2, z3, e, by omega, sm'⟩
      · obtain ⟨T, x1, rfl, nT, rfl, f1⟩ := hy
        have ex1 := Option.some.inj ((f1 _ (sm.seq hB)).symm.trans g1)
        subst ex1
        have sT : Same H (upd H3 T (.tup [.int (i : Nat), .int c])) := sm.trans fun b o e => by rw [upd_ne (ne_of_none e nT)]; exact e
        refine ⟨T, _, rfl, .inl (.inl upd_same), rfl, _, _, rfl, _, _, rfl, rfl, ?_⟩
        refine ⟨_, rfl, _, _, _, _, _, rfl, .ty "int", .base (.int c), kit_ty kit_int, true, rfl, iteF ?_⟩
        refine ⟨_, rfl, _, rfl, .inr ⟨fun c e => (nomatch e), _, rfl, iteF ?_⟩⟩
        exact ⟨_, rfl, _, rfl, .inr ⟨fun c e => (nomatch e), _, rfl, iteF ⟨_, _, rfl, sT⟩⟩⟩
    · exact .inl ⟨⟨_, sm.seq hB, by rw [List.length_map]; omega⟩, q _ sm⟩
end
end Ef
set_option Elab.async false
set_option linter.all false
set_option maxRecDepth 100000
set_option maxHeartbeats 4000000
namespace Ef
open PySem PySem.Spec PyProof.Rows L2
abbrev sInit : Stmt := inClass (top 23) 0
abbrev sDeg : Stmt := inClass (top 23) 2
abbrev sEnd : Stmt := inClass (top 23) 3
abbrev sWhole : Stmt := inClass (top 23) 4
abbrev sCall : Stmt := inClass (top 23) 5
/-- the attributes -/
def pf (ra : Addr) (u : Int) : List (Str × V) := putF "under" (.int u) (putF "row" (.ref ra) [])
/-- at p a piece of the row r over u -/
def PAt (K : PySem.W.Frag) (C : Addr) (H : Hp) (p : Addr) (r : List Int) (u : Nat) : Prop := ∃ dx ra : Addr, H p = some (.ins C dx (pf ra u)) ∧ SqT K H ra (r.map V.int)
theorem PAt.same {K : PySem.W.Frag} {C : Addr} {H H' : Hp} {p : Addr} {r : List Int} {u : Nat} (h : PAt K C H p r u) (e : Same H H') : PAt K C H' p r u := by
  obtain ⟨dx, ra, h1, h2⟩ := h
  exact ⟨dx, ra, e _ _ h1, Same.tup e h2⟩
/-- the class, what the text has of it -/
structure ClsP (K : PySem.W.Frag) (mg : Str → Option Value) (C : Addr) : Prop where
  cl : Cls K C
  mgC : mg "Piece" = some (.ref C)
  nR : NoAttr K C "row"
  nU : NoAttr K C "under"
theorem sqt_upd {K : PySem.W.Frag} {H : Hp} {a p C dx : Addr} {fs : List (Str × V)} {xs : List V} {o : HO} (h : SqT K H a xs) (hp : H p = some (.ins C dx fs)) : SqT K (upd H p o) a xs := by
  rcases h with (h | ⟨z, h⟩) | h
  · exact .inl (.inl (by rw [upd_ne (ne_of h hp (by intro q; cases q))]; exact h))
  · exact .inl (.inr ⟨z, by rw [upd_ne (ne_of h hp (by intro q; cases q))]; exact h⟩)
  · exact .inr h
theorem lk_ne {f g : Str} {v : V} {fs : List (Str × V)} (h : ¬ g = f) : (putF f v fs).lookup g = fs.lookup g := by rw [lookup_putF, if_neg h]
theorem lk_eq {f : Str} {v : V} {fs : List (Str × V)} : (putF f v fs).lookup f = some v := by rw [lookup_putF, if_pos rfl]
theorem pf_under {ra : Addr} {u : Int} : (pf ra u).lookup ("under" : Str) = some (.int u) := lk_eq
theorem pf_row {ra : Addr} {u : Int} : (pf ra u).lookup ("row" : Str) = some (.ref ra) := (lk_ne (by decide +kernel)).trans lk_eq
section
variable {P : Program} {w : World} {K : PySem.W.Frag} {mg : Str → Option Value} {base : Heap}
def spInit (K : PySem.W.Frag) (C : Addr) : Sp := fun vs H Q _ => ∃ (H0 : Hp) (p dx a : Addr) (r : List Int) (un : Nat), vs = [.ref p, .ref a, .int un] ∧ Same H0 H ∧ H0 p = none ∧ H p = some (.ins C dx []) ∧ SqL K H0 a (r.map V.int) ∧ r.length ≤ 100 ∧ 0 < un ∧ Bd 230 (un : Int) ∧
  ∀ (pr : List Int) (u : Nat) (H' : Hp), Low r un pr u → Same H0 H' → PAt K C H' p pr u → Q .non H'
theorem scInit : FnScope ["self", "row", "under", "numbers", "shared", "number"] ["self", "row", "under"] (defScope sInit) := ⟨rfl, rfl, rfl, by decide +kernel, rfl, by decide +kernel, by decide +kernel⟩
theorem binds_init {f : Addr} {fd : FuncData} (F : FunD K "__init__" "Piece.__init__" (defArgs sInit) (defBody sInit) (defScope sInit) [V.int 1] [] f fd) : Binds K fd ["self", "row", "under"] [] := by
  have z : ∃ ds, Vals (List.drop 1 [V.int 1]) ds ∧ Binds K fd ["self", "row", "under"] ds := by
    refine F.binds1 (ps := ["self", "row", "under"]) 3 1 (fun z => by cases z) rfl (fun T kV doc pm an cdv ct us its hu hi => ?_)
    match us, hu, its, hi with
    | [_, _, _], _, [_], _ => exact ⟨_, rfl, rfl⟩
  obtain ⟨ds, hv, hb⟩ := z
  cases hv
  exact hb
theorem ok_init {f C : Addr} {fd : FuncData} (F : FunD K "__init__" "Piece.__init__" (defArgs sInit) (defBody sInit) (defScope sInit) [V.int 1] [] f fd) (T : TxtQ mg) (CW : ClsP K mg C)
    (Dcheckrow : Df P w K mg base 2 "_check_row" ["row"] (spCheck K)) (Disintfrom : Df P w K mg base 2 "is_int_from" ["value", "low"] (spFrom K)) (Dtrimmed : Df P w K mg base 1 "trimmed" ["row"] (spTrim K)) (Dcommondivisor : Df P w K mg base 1 "common_divisor" ["first", "row"] (spCom K)) :
    FnOk P w K mg base CX0 3 f fd ["self", "row", "under"] (spInit K C) := by
  refine FunD.ok F scInit (fun vs H Q E h => ?_) (fun cdv A outer s H vs Q E hr h => ?_)
  · obtain ⟨H0, p, dx, a, r, un, rfl, _⟩ := h
    rfl
  · obtain ⟨H0, p, dx, a, r, un, rfl, s0, p0, hp, hS, hl, hu, hub, q⟩ := h
    refine ⟨_, PSs.nox (pss_cons (ps_expr (Dcheckrow.call (hr.mono (by decide)) (pa_cons (pv 1) pa_nil)))
      (pss_cons (ps_if (pw_or (pt_not (pt_val (pe_callB call_isi (by rfl) T.isinstance (by decide +kernel) (pa_cons (pv 2) (pa_cons (pe_bltn (v := .ty "int") (by rfl) T.int (by decide +kernel) rfl) pa_nil))))) (pw_or (pt_cmpR op_isA (pv 2) pe_bl (nomark _)) (pw_or1 (pt_cmpR op_lt (pv 2) pe_int (nomark _))))).pt (pss_one ps_never) pss_nil)
      (pss_cons (ps_set (i := 3) scInit.nd rfl (.inl rfl) (Dtrimmed.call (hr.mono (by decide)) (pa_cons (pv 1) pa_nil)))
      (pss_cons (ps_set (i := 4) scInit.nd rfl (.inr rfl) (pe_ifExp (pt_cmpR op_gt (pv 2) pe_int (nomark _)) (Dcommondivisor.call (hr.mono (by decide)) (pa_cons (pv 2) (pa_cons (pv 3) pa_nil))) pe_int))
      (pss_cons (ps_fld (pv 0) (pe_callTy call_tuple_of (by rfl) T.tuple (by decide +kernel) (pa_cons (pe_ifExp (pt_cmpR op_eq (pv 4) pe_int (nomark _)) (pv 3) (pe_lc (own := [("number", 5)]) (g := gName 5) (by rfl) scInit.nd (pi_list (pv 3)) (blkOk_by (own := [("number", 5)]) (N := ["self", "row", "under", "numbers", "shared", "number"]) (sc := defScope sInit) (by decide +kernel)) (fun _ _ _ _ _ => pg_name (i := 5) scInit.nd rfl (Or.inl rfl)) (fun _ _ _ _ _ => pts_nil) (fun _ _ _ _ _ => (pe_op op_fdivW (pv 5) (pv 4))))) pa_nil)) rfl)
      (pss_one (ps_fld (pv 0) (pe_op op_fdivW (pv 2) (pv 4)) rfl))))))), ?_⟩
    refine ⟨_, rfl, a, r, rfl, s0.seq hS, fun H1 s1 => ?_⟩
    have s01 := s0.trans s1
    refine ⟨_, rfl, _, _, _, _, _, rfl, .ty "int", .base (.int (un : Int)), kit_ty kit_int, true, rfl, iteF ?_⟩
    refine ⟨_, rfl, _, rfl, .inr ⟨fun c e => (nomatch e), _, rfl, iteF ?_⟩⟩
    refine ⟨_, rfl, _, _, rfl, rfl, _, rfl, ?_⟩
    rw [decide_eq_false (show ¬ (un : Int) < 1 by omega)]
    refine iteF ?_
    refine ⟨_, rfl, a, r, rfl, s01.seq hS, hl, fun H2 l t s2 h2 ht => ?_⟩
    have s02 := s01.trans s2
    have hg := gcdR_pos (t := t) hu
    obtain ⟨gd1, gd2⟩ := gcdR_dvd t un
    have hgb : Bd 230 ((gcdR un t : Nat) : Int) := by
      have h1 := Nat.le_of_dvd hu gd1
      unfold Bd at *
      rw [Int.natAbs_natCast] at *
      exact Nat.lt_of_le_of_lt h1 hub
    have hLow := Low.of_trim ht hu
    have h1g : un = 1 → gcdR un t = 1 := fun e => by rw [e]; exact gcdR_one t
    have hp2 : H2 p = some (.ins C dx []) := s2 _ _ (s1 _ _ hp)
    have htl : t.length ≤ 100 := by
      obtain ⟨k, hk, rfl, _⟩ := ht
      rw [List.length_take]; omega
    have fin : ∀ (ra : Addr) (H4 : Hp) (g : Nat), gcdR un t = g → Same H2 H4 → SqT K H4 ra ((t.map fun c => c / (g : Int)).map V.int) →
        Q .non (upd H4 p (.ins C dx (putF "under" (.int ((un / g : Nat) : Int)) (putF "row" (.ref ra) [])))) := fun ra H4 g hgg s4 e4 => by
      subst hgg
      exact q _ _ _ hLow (same_mut (s02.trans s4) p0) ⟨dx, ra, upd_same, sqt_upd e4 (s4 _ _ hp2)⟩
    have one : ∀ (ra : Addr), H2 ra = none → SqT K (upd H2 ra (.tup (t.map V.int))) ra ((t.map fun c => c / ((1 : Nat) : Int)).map V.int) := fun ra hra => by
      rw [show (t.map fun c => c / ((1 : Nat) : Int)) = t from (List.map_congr_left fun c _ => Int.ediv_one c).trans (List.map_id _)]
      exact .inl (.inl upd_same)
    -- shared
    refine ⟨_, rfl, _, _, rfl, rfl, _, rfl, ?_⟩
    refine ite2 (fun hb => ?_) (fun hb => ?_)
    · refine ⟨_, rfl, _, rfl, l, t, un, rfl, .inl (.inl h2), ?_⟩
      generalize hgg : gcdR un t = g at hg hgb ⊢
      have hgi : (0 : Int) < (g : Int) := by omega
      -- self.row
      refine ⟨_, rfl, rfl, _, rfl, ?_⟩
      by_cases hg1 : g = 1
      · subst hg1
        refine iteT ⟨_, rfl, l, _, rfl, .inl ⟨.inl (.inl h2), fun ra hra => ?_⟩⟩
        have s4 := same_new (o := .tup (t.map V.int)) hra
        have e4 := one ra hra
        generalize upd H2 ra (.tup (t.map V.int)) = H4 at s4 e4 ⊢
        refine ⟨_, rfl, p, C, dx, _, rfl, s4 _ _ hp2, CW.cl, CW.nR, (by show 0 < 1000; decide), ?_⟩
        refine ⟨_, rfl, _, rfl, _, _, rfl, rfl, wide_div hgi hgb (by decide) (by decide), _, rfl, p, C, dx, _, rfl, upd_same, CW.cl, CW.nU, (by show 1 < 1000; decide), ?_⟩
        rw [upd_upd]
        exact fin ra H4 1 hgg s4 e4
      rw [decide_eq_false (show ¬ V.int (g : Int) = V.int 1 from fun z => hg1 (by injection z with z; omega))]
      refine iteF ⟨_, rfl, l, rfl, ⟨_, .inl (.inl h2)⟩, fun D hD => ?_⟩
      refine lc_list (K := K) (a := l) (xs := t.map V.int) (fun i H' => Same H2 H' ∧ H' D = some (.lst (((t.take i).map fun c => c / (g : Int)).map V.int))) ⟨same_new hD, upd_same⟩ (fun i H' _ hh => .inl (.inl (hh.1 _ _ h2))) ?_ ?_
      · rintro i x H' hi ⟨sx, hx⟩
        rw [List.getElem?_map] at hi
        obtain ⟨c, hc, rfl⟩ := Option.map_eq_some_iff.mp hi
        refine ⟨rfl, _, rfl, _, rfl, _, _, rfl, rfl, wide_div hgi hgb (by decide) (by decide), _, hx, ?_, same_mut sx hD, ?_⟩
        · rw [List.length_map, List.length_map, List.length_take]
          exact Nat.lt_of_le_of_lt (show min i t.length ≤ 100 by omega) (by decide)
        · rw [upd_same, List.take_succ, hc, Option.toList_some, List.map_append, List.map_append]
          rfl
      · rintro H3 ⟨s3, h3⟩
        rw [List.length_map, List.take_length] at h3
        refine ⟨D, _, rfl, .inl ⟨.inl (.inl h3), fun ra hra => ?_⟩⟩
        have s4 := s3.trans (same_new (o := .tup ((t.map fun c => c / (g : Int)).map V.int)) hra)
        have e4 : SqT K (upd H3 ra (.tup ((t.map fun c => c / (g : Int)).map V.int))) ra ((t.map fun c => c / (g : Int)).map V.int) := .inl (.inl upd_same)
        generalize upd H3 ra (.tup ((t.map fun c => c / (g : Int)).map V.int)) = H4 at s4 e4 ⊢
        refine ⟨_, rfl, p, C, dx, _, rfl, s4 _ _ hp2, CW.cl, CW.nR, (by show 0 < 1000; decide), ?_⟩
        -- self.under
        refine ⟨_, rfl, _, rfl, _, _, rfl, rfl, wide_div hgi hgb (by decide) (by decide), _, rfl, p, C, dx, _, rfl, upd_same, CW.cl, CW.nU, (by show 1 < 1000; decide), ?_⟩
        rw [upd_upd]
        exact fin ra H4 g hgg s4 e4
    · have hu1 : un = 1 := by
        have : ¬ (1 : Int) < (un : Int) := fun z => hb (decide_eq_true z)
        omega
      refine ⟨_, rfl, rfl, _, rfl, iteT ⟨_, rfl, l, _, rfl, .inl ⟨.inl (.inl h2), fun ra hra => ?_⟩⟩⟩
      have s4 := same_new (o := .tup (t.map V.int)) hra
      have e4 := one ra hra
      generalize upd H2 ra (.tup (t.map V.int)) = H4 at s4 e4 ⊢
      refine ⟨_, rfl, p, C, dx, _, rfl, s4 _ _ hp2, CW.cl, CW.nR, (by show 0 < 1000; decide), ?_⟩
      refine ⟨_, rfl, _, rfl, _, _, rfl, rfl, wide_div (b := 230) (by decide) (show Bd 230 1 from by unfold Bd; decide) (by decide) (by decide), _, rfl, p, C, dx, _, rfl, upd_same, CW.cl, CW.nU, (by show 1 < 1000; decide), ?_⟩
      rw [upd_upd]
      exact fin ra H4 1 (h1g hu1) s4 e4
/-! ### degree, end, is_whole -/
def spDeg (K : PySem.W.Frag) (C : Addr) : Sp := fun vs H Q _ => ∃ (p : Addr) (r : List Int) (u : Nat), vs = [.ref p] ∧ PAt K C H p r u ∧ Q (.int ((r.length : Int) - 1)) H
theorem scDeg : FnScope ["self"] ["self"] (defScope sDeg) := ⟨rfl, rfl, rfl, by decide +kernel, rfl, by decide +kernel, by decide +kernel⟩
theorem ok_deg {f C : Addr} {fd : FuncData} (F : Fun K "degree" "Piece.degree" sDeg f fd) (T : TxtQ mg) (CW : ClsP K mg C) : FnOk P w K mg base CX0 1 f fd ["self"] (spDeg K C) := by
  refine F.ok scDeg (fun vs H Q E h => ?_) (fun cdv A outer s H vs Q E hr h => ?_)
  · obtain ⟨p, r, u, rfl, _⟩ := h
    rfl
  · obtain ⟨p, r, u, rfl, ⟨dx, ra, h1, h2⟩, q⟩ := h
    refine ⟨_, (pss_one (ps_ret (pe_op op_sub (pe_callB call_len_seq (by rfl) T.len PySem.boot_len (pa_cons (pe_fld (pv 0) rfl) pa_nil)) pe_int))), ?_⟩
    refine ⟨_, rfl, p, C, dx, _, _, rfl, h1, CW.cl, CW.nR, pf_row, ra, _, rfl, .inr h2, _, _, rfl, rfl, ?_⟩
    rw [List.length_map]
    exact q
def spEnd (K : PySem.W.Frag) (C : Addr) : Sp := fun vs H Q _ => ∃ (p : Addr) (r : List Int) (u : Nat), vs = [.ref p] ∧ PAt K C H p r u ∧ Q (.int (sgn (r.getLastD 0))) H
theorem scEnd : FnScope ["self"] ["self"] (defScope sEnd) := ⟨rfl, rfl, rfl, by decide +kernel, rfl, by decide +kernel, by decide +kernel⟩
theorem at_last {r : List Int} (h : 0 < r.length) : atI (r.map V.int) (-1) = some (.int (r.getLastD 0)) := by
  unfold atI ixN
  rw [if_neg (by decide), if_pos (by rw [List.length_map]; omega), List.length_map]
  show (r.map V.int)[((-1 : Int) + (r.length : Int)).toNat]? = _
  rw [show ((-1 : Int) + (r.length : Int)).toNat = r.length - 1 by omega, List.getElem?_map]
  have e : r[r.length - 1]? = some (r.getLastD 0) := by
    rw [← List.getLast?_eq_getElem?, List.getLastD_eq_getLast?]
    cases r with
    | nil => exact absurd h (Nat.lt_irrefl 0)
    | cons c r => rw [List.getLast?_cons]; rfl
  rw [e]
  rfl
theorem ok_end {f C : Addr} {fd : FuncData} (F : Fun K "end" "Piece.end" sEnd f fd) (T : TxtQ mg) (CW : ClsP K mg C) (Dsignof : Df P w K mg base 1 "sign_of" ["number"] spSign) : FnOk P w K mg base CX0 2 f fd ["self"] (spEnd K C) := by
  refine F.ok scEnd (fun vs H Q E h => ?_) (fun cdv A outer s H vs Q E hr h => ?_)
  · obtain ⟨p, r, u, rfl, _⟩ := h
    rfl
  · obtain ⟨p, r, u, rfl, ⟨dx, ra, h1, h2⟩, q⟩ := h
    refine ⟨_, (pss_one (ps_ret (pe_ifExp (pt_cmpR op_gt (pe_callB call_len_seq (by rfl) T.len PySem.boot_len (pa_cons (pe_fld (pv 0) rfl) pa_nil)) pe_int (nomark _)) (Dsignof.call (hr.mono (by decide)) (pa_cons (pe_ix ix_tup (pe_fld (pv 0) rfl) (pe_un un_neg pe_int) (fun _ _ => rfl)) pa_nil)) pe_int))), ?_⟩
    refine ⟨_, rfl, p, C, dx, _, _, rfl, h1, CW.cl, CW.nR, pf_row, ra, _, rfl, .inr h2, _, _, rfl, rfl, _, rfl, ?_⟩
    rw [List.length_map]
    by_cases h0 : 0 < r.length
    · rw [decide_eq_true (show (0 : Int) < (r.length : Int) by omega)]
      refine iteT ⟨_, rfl, p, C, dx, _, _, rfl, h1, CW.cl, CW.nR, pf_row, _, rfl, ra, _, _, _, rfl, rfl, h2, at_last h0, _, rfl, q⟩
    · rw [decide_eq_false (show ¬ (0 : Int) < (r.length : Int) by omega)]
      refine iteF ?_
      have : r = [] := List.length_eq_zero_iff.mp (by omega)
      subst this
      exact q
def spWhole (K : PySem.W.Frag) (C : Addr) : Sp := fun vs H Q _ => ∃ (p : Addr) (r : List Int) (u : Nat), vs = [.ref p] ∧ PAt K C H p r u ∧ r.length ≤ 100 ∧ 0 < u ∧ Bd 230 (u : Int) ∧ ∀ H' (b : Bool), Same H H' → (b = true ↔ ∀ k : Nat, k < r.length → evalR r k % (u : Int) = 0) → Q (.bl b) H'
theorem scWhole : FnScope ["self"] ["self"] (defScope sWhole) := ⟨rfl, rfl, rfl, by decide +kernel, rfl, by decide +kernel, by decide +kernel⟩
theorem ok_whole {f C : Addr} {fd : FuncData} (F : Fun K "is_whole" "Piece.is_whole" sWhole f fd) (CW : ClsP K mg C) (Ddivisibleeverywhere : Df P w K mg base 1 "divisible_everywhere" ["row", "under"] (spDiv K)) : FnOk P w K mg base CX0 2 f fd ["self"] (spWhole K C) := by
  refine F.ok scWhole (fun vs H Q E h => ?_) (fun cdv A outer s H vs Q E hr h => ?_)
  · obtain ⟨p, r, u, rfl, _⟩ := h
    rfl
  · obtain ⟨p, r, u, rfl, ⟨dx, ra, h1, h2⟩, hl, hu, hub, q⟩ := h
    refine ⟨_, (pss_one (ps_ret (Ddivisibleeverywhere.call (hr.mono (by decide)) (pa_cons (pe_fld (pv 0) rfl) (pa_cons (pe_fld (pv 0) rfl) pa_nil))))), ?_⟩
    refine ⟨_, rfl, p, C, dx, _, _, rfl, h1, CW.cl, CW.nR, pf_row, _, rfl, p, C, dx, _, _, rfl, h1, CW.cl, CW.nU, pf_under, ra, r, u, rfl, h2, hl, (by omega), hub, fun H' b s1 hb => q H' b s1 hb⟩
end
end Ef
set_option Elab.async false
set_option linter.all false
set_option maxRecDepth 100000
set_option maxHeartbeats 4000000
namespace Ef
open PySem PySem.Spec PyProof.Rows L2
abbrev sErrB : Stmt := inClass (top 6) 0
abbrev sErrN : Stmt := inClass (top 7) 0
/-- the error class x at C with one field n -/
structure ErrC (K : PySem.W.Frag) (mg : Str → Option Value) (x : Str) (C fI : Addr) : Prop where
  oex : OexC K C
  mgC : mg x = some (.ref C)
  iC : PySem.W.findIn K (.ref C) "__init__" = some (some (.ref fI))
  tI : PySem.W.typeIn K (.ref fI) = some (.type "function")
  nN : PySem.W.findIn K (.ref C) "n" = some none
  xf : XfC K C
section
variable {P : Program} {w : World} {K : PySem.W.Frag} {mg : Str → Option Value} {base : Heap}
def spErr (K : PySem.W.Frag) (C : Addr) : Sp := fun vs H Q _ => ∃ (a : Addr) (v : V), vs = [.ref a, v] ∧ H a = some (exo a C none) ∧ ∀ dx, H dx = none → dx ≠ a → Q .non (upd (upd H dx (exd dx [("n", v)])) a (exo a C (some dx)))
theorem scErrB : FnScope ["self", "n"] ["self", "n"] (defScope sErrB) := ⟨rfl, rfl, rfl, by decide +kernel, rfl, by decide +kernel, by decide +kernel⟩
theorem scErrN : FnScope ["self", "n"] ["self", "n"] (defScope sErrN) := ⟨rfl, rfl, rfl, by decide +kernel, rfl, by decide +kernel, by decide +kernel⟩
theorem ok_errB {f C fI : Addr} {fd : FuncData} (F : Fun K "__init__" "BadPlace.__init__" sErrB f fd) (T : ErrC K mg "BadPlace" C fI) : FnOk P w K mg base CX0 1 f fd ["self", "n"] (spErr K C) := by
  refine F.ok scErrB (fun vs H Q E h => ?_) (fun cdv A outer s H vs Q E hr h => ?_)
  · obtain ⟨a, v, rfl, _⟩ := h
    rfl
  · obtain ⟨a, v, rfl, ha, q⟩ := h
    refine ⟨_, (pss_one (ps_ost (pv 0) (pv 1))), ?_⟩
    exact ⟨_, rfl, _, rfl, a, C, rfl, T.oex, T.nN, .inl ⟨ha, fun dx h1 h2 => q dx h1 h2⟩⟩
theorem ok_errN {f C fI : Addr} {fd : FuncData} (F : Fun K "__init__" "NotWhole.__init__" sErrN f fd) (T : ErrC K mg "NotWhole" C fI) : FnOk P w K mg base CX0 1 f fd ["self", "n"] (spErr K C) := by
  refine F.ok scErrN (fun vs H Q E h => ?_) (fun cdv A outer s H vs Q E hr h => ?_)
  · obtain ⟨a, v, rfl, _⟩ := h
    rfl
  · obtain ⟨a, v, rfl, ha, q⟩ := h
    refine ⟨_, (pss_one (ps_ost (pv 0) (pv 1))), ?_⟩
    exact ⟨_, rfl, _, rfl, a, C, rfl, T.oex, T.nN, .inl ⟨ha, fun dx h1 h2 => q dx h1 h2⟩⟩
/-- an error made and flying -/
theorem mk_err {C : Addr} {H : Hp} {v : V} {R : XK} (h : ∀ d H', Same H H' → H d = none → H' d = some (.xd [("n", v)]) → R (.ref C) (some d) H') :
    [v].length ≤ 1000 ∧ ∀ a, H a = none → spErr K C (.ref a :: ([v] ++ [])) (upd H a (exo a C none)) (fun v H2 => v = .non ∧ ∃ (d : Addr) (fs : List (Str × V)), H2 a = some (exo a C (some d)) ∧ H2 d = some (exd d fs) ∧ H d = none ∧ R (.ref C) (some d) (upd (del H2 a) d (.xd fs))) (fun _ _ _ => False) := by
  refine ⟨by show 1 ≤ 1000; decide, fun a ha => ⟨a, v, rfl, upd_same, fun dx h1 h2 => ⟨rfl, dx, _, upd_same, by rw [upd_ne h2, upd_same], ?_, ?_⟩⟩⟩
  · rw [upd_ne h2] at h1; exact h1
  · have hdx : H dx = none := by rw [upd_ne h2] at h1; exact h1
    refine h dx _ (fun b o e => ?_) hdx upd_same
    have nb : b ≠ dx := ne_of_none e hdx
    have na : b ≠ a := ne_of_none e ha
    rw [upd_ne nb]
    unfold del
    rw [if_neg na, upd_ne na, upd_ne nb, upd_ne na]
    exact e
/-! ### a piece called -/
def spPc (K : PySem.W.Frag) (C CN CB : Addr) : Sp := fun vs H Q E => ∃ (p : Addr) (v : V) (r : List Int) (u : Nat), vs = [.ref p, v] ∧ PAt K C H p r u ∧ r.length ≤ 100 ∧ 0 < u ∧ Bd 230 (u : Int) ∧ (∀ c ∈ r, Bd 230 c) ∧
  ((∃ n : Int, v = .int n ∧ Bd 230 n ∧ ((evalR r n % (u : Int) = 0 ∧ ∀ H', Same H H' → Q (.int (evalR r n / (u : Int))) H') ∨ (evalR r n % (u : Int) ≠ 0 ∧ ∀ d H', Same H H' → H d = none → H' d = some (.xd [("n", v)]) → E (.ref CN) (some d) H'))) ∨
   (NotInt K H v ∧ ∀ d H', Same H H' → H d = none → H' d = some (.xd [("n", v)]) → E (.ref CB) (some d) H'))
theorem scCall : FnScope ["self", "n", "total"] ["self", "n"] (defScope sCall) := ⟨rfl, rfl, rfl, by decide +kernel, rfl, by decide +kernel, by decide +kernel⟩
theorem ok_call {f C CN CB fN fB : Addr} {fd fdN fdB : FuncData} (F : Fun K "__call__" "Piece.__call__" sCall f fd) (CW : ClsP K mg C) (EN : ErrC K mg "NotWhole" CN fN) (EB : ErrC K mg "BadPlace" CB fB)
    (FN : FnOk P w K mg base CX0 1 fN fdN ["self", "n"] (spErr K CN)) (bN : Binds K fdN ["self", "n"] []) (FB : FnOk P w K mg base CX0 1 fB fdB ["self", "n"] (spErr K CB)) (bB : Binds K fdB ["self", "n"] [])
    (Disint : Df P w K mg base 1 "is_int" ["value"] (spIsInt K)) (Dvalueat : Df P w K mg base 1 "value_at" ["row", "n"] (spVal K)) :
    FnOk P w K mg base (CX P w) 3 f fd ["self", "n"] (spPc K C CN CB) := by
  refine F.okX scCall (fun vs H Q E h => ?_) (fun cdv A outer s H vs Q E hr h => ?_)
  · obtain ⟨p, v, r, u, rfl, _⟩ := h
    rfl
  · obtain ⟨p, v, r, u, rfl, ⟨dx, ra, h1, h2⟩, hl, hu, hub, hc, q⟩ := h
    refine ⟨_, (pss_cons (ps_if (pt_not (pt_val (Disint.call (hr.mono (by decide)) (pa_cons (pv 1) pa_nil)))) (pss_one (ps_raise rfl (takes_of rfl rfl rfl rfl) (pmk_oex EB.oex EB.iC EB.tI FB (hr.mono (by decide)) bB .nil pass0 (by rfl) EB.mgC (pa_cons (pv 1) pa_nil)))) pss_nil)
      (pss_cons (ps_set (i := 2) scCall.nd rfl (.inl rfl) (Dvalueat.call (hr.mono (by decide)) (pa_cons (pe_fld (pv 0) rfl) (pa_cons (pv 1) pa_nil))))
      (pss_cons (ps_if (pt_cmpR op_ne (pe_op op_mod (pv 2) (pe_fld (pv 0) rfl)) pe_int (nomark _)) (pss_one (ps_raise rfl (takes_of rfl rfl rfl rfl) (pmk_oex EN.oex EN.iC EN.tI FN (hr.mono (by decide)) bN .nil pass0 (by rfl) EN.mgC (pa_cons (pv 1) pa_nil)))) pss_nil)
      (pss_one (ps_ret (pe_op op_fdivW (pv 2) (pe_fld (pv 0) rfl))))))), ?_⟩
    rcases q with ⟨n, rfl, hn, q⟩ | ⟨⟨nm, b1, b2, ht, k1, k2, hb⟩, q⟩
    · refine ⟨_, rfl, _, "int", true, false, rfl, .base (.int n), by decide +kernel, by decide +kernel, _, rfl, ?_⟩
      refine iteF ?_
      refine ⟨_, rfl, p, C, dx, _, _, rfl, h1, CW.cl, CW.nR, pf_row, _, rfl, ra, r, n, rfl, h2, hl, hc, hn, fun H1 s1 => ?_⟩
      have hp1 := s1 _ _ h1
      refine ⟨_, rfl, _, rfl, p, C, dx, _, _, rfl, hp1, CW.cl, CW.nU, pf_under, _, _, rfl, rfl, (by omega), rfl, _, rfl, ?_⟩
      rw [dint]
      rcases q with ⟨hz, q⟩ | ⟨hz, q⟩
      · rw [decide_eq_true hz]
        refine iteF ?_
        exact ⟨_, rfl, _, rfl, p, C, dx, _, _, rfl, hp1, CW.cl, CW.nU, pf_under, _, _, rfl, rfl, wide_div (by omega) hub (by decide) (by decide), q _ s1⟩
      · rw [decide_eq_false hz]
        refine iteT ?_
        refine ⟨_, rfl, mk_err (v := .int n) (R := E) fun d H' s2 hd hx => q d H' (s1.trans s2) (s1.free hd) hx⟩
    · refine ⟨_, rfl, _, nm, b1, b2, rfl, ht, k1, k2, _, rfl, ?_⟩
      rw [hb]
      refine iteT ?_
      exact ⟨_, rfl, mk_err (v := v) (R := E) fun d H' s2 hd hx => q d H' s2 hd hx⟩
end
end Ef
set_option Elab.async false
set_option linter.all false
set_option maxRecDepth 100000
set_option maxHeartbeats 4000000
namespace Ef
open PySem PySem.Spec PyProof.Rows L2
abbrev sGcd : Stmt := top 32
abbrev sEntry : Stmt := top 33
abbrev sFrac : Stmt := top 34
abbrev sUp : Stmt := top 35
abbrev sFar : Stmt := top 39
abbrev sLsign : Stmt := top 40
structure TxtJ (mg : Str → Option Value) : Prop extends TxtQ mg where
  abs : mg "abs" = none
  max : mg "max" = none
theorem Bd.add {a b w : Nat} {x y : Int} (hx : Bd a x) (hy : Bd b y) (h1 : a + 1 ≤ w) (h2 : b + 1 ≤ w) : Bd w (x + y) := by
  unfold Bd at *
  have e1 := Int.natAbs_add_le x y
  have e3 : 2 ^ a ≤ 2 ^ (w - 1) := Nat.pow_le_pow_right (by decide) (by omega)
  have e4 : 2 ^ b ≤ 2 ^ (w - 1) := Nat.pow_le_pow_right (by decide) (by omega)
  have e5 : 2 ^ w = 2 ^ (w - 1) + 2 ^ (w - 1) := by
    rw [← Nat.two_mul, ← Nat.pow_succ', Nat.succ_eq_add_one, Nat.sub_add_cancel (by omega)]
  omega
section
variable {P : Program} {w : World} {K : PySem.W.Frag} {mg : Str → Option Value} {base : Heap}
def spGcd : Sp := fun vs H Q _ => ∃ (a b : Int), vs = [.int a, .int b] ∧ Q (.int (Nat.gcd a.natAbs b.natAbs : Nat)) H
theorem scGcd : FnScope ["a", "b"] ["a", "b"] (defScope sGcd) := ⟨rfl, rfl, rfl, by decide +kernel, rfl, by decide +kernel, by decide +kernel⟩
theorem abs_nat (a : Int) : (if a < 0 then -a else a) = (a.natAbs : Int) := by
  split <;> omega
theorem df_gcd (A : At K mg "_law_gcd" sGcd) (T : TxtJ mg) : Df P w K mg base 1 "_law_gcd" ["a", "b"] spGcd := by
  obtain ⟨f, fd, hm, F⟩ := A.ex
  refine ⟨f, fd, hm, F.kp, F.binds (fun _ _ _ _ _ _ us hl => match us, hl with | [_, _], _ => rfl), F.ok scGcd (fun vs H Q E h => ?_) (fun cdv A outer s H vs Q E hr h => ?_)⟩
  · obtain ⟨a, b, rfl, _⟩ := h
    rfl
  · obtain ⟨a, b, rfl, q⟩ := h
    refine ⟨_, (pss_cons (ps_par (i := 0) (j := 1) (by rfl) scGcd.nd rfl rfl (by decide) rfl rfl (pa_cons (pe_callB call_abs (by rfl) T.abs (by decide +kernel) (pa_cons (pv 0) pa_nil)) (pa_cons (pe_callB call_abs (by rfl) T.abs (by decide +kernel) (pa_cons (pv 1) pa_nil)) pa_nil)) (by rfl))
      (pss_cons (ps_while PassesOwn.never (pt_cmpR op_ne (pv 1) pe_int (nomark _))
      (pss_one (ps_par (i := 0) (j := 1) (by rfl) scGcd.nd rfl rfl (by decide) rfl rfl (pa_cons (pv 1) (pa_cons (pe_op op_mod (pv 0) (pv 1)) pa_nil)) (by rfl))))
      (pss_one (ps_ret (pv 0))))), ?_⟩
    refine ⟨_, rfl, _, rfl, _, rfl, _, rfl, _, _, rfl, ?_⟩
    rw [abs_nat, abs_nat]
    refine ⟨fun m σ H' => ∃ x y : Nat, H' = H ∧ σ = [some (.int (x : Int)), some (.int (y : Int))] ∧ m = y ∧ Nat.gcd x y = Nat.gcd a.natAbs b.natAbs, ⟨_, _, _, rfl, rfl, rfl, rfl⟩, fun m σ H' hW => ?_⟩
    obtain ⟨x, y, rfl, rfl, rfl, hg⟩ := hW
    refine ⟨_, rfl, rfl, _, rfl, ?_⟩
    rw [dint]
    cases m with
    | zero =>
      refine iteF ?_
      rw [Nat.gcd_zero_right] at hg
      rw [← hg] at q
      exact ⟨_, rfl, q⟩
    | succ y =>
      rw [decide_eq_false (show ¬ (((y + 1 : Nat) : Int) = 0) by omega)]
      refine iteT ⟨fun σ H2 => ∃ z : Nat, H2 = H' ∧ σ = [some (.int ((y + 1 : Nat) : Int)), some (.int (z : Int))] ∧ z < y + 1 ∧ Nat.gcd (y + 1) z = Nat.gcd a.natAbs b.natAbs, fun σ' H2 ⟨z, e1, e2, e3, e4⟩ => ⟨z, e3, y + 1, z, e1, e2, rfl, e4⟩, ?_⟩
      refine ⟨_, rfl, _, rfl, _, rfl, _, _, rfl, rfl, by omega, _, _, rfl, x % (y + 1), rfl, ?_, Nat.mod_lt _ (Nat.succ_pos y), ?_⟩
      · rfl
      · rw [← hg, Nat.gcd_comm, ← Nat.gcd_rec, Nat.gcd_comm]
/-! ### _law_entry, _law_far -/
def spEntry : Sp := fun vs H Q _ => ∃ (p l : Addr) (ns : List Int) (a b : Int), vs = [.ref p] ∧ Pen H p l ns a b ∧ a ≤ 1000000000 ∧ ∀ (c a' b' : Int) (H' : Hp), Bd 201 c → a' ≤ a + 3 → Pen H' p l ns a' b' → Kp p H H' → Q (.int c) H'
theorem scEntry : FnScope ["pen", "way"] ["pen"] (defScope sEntry) := ⟨rfl, rfl, rfl, by decide +kernel, rfl, by decide +kernel, by decide +kernel⟩
theorem bd_small {x : Int} {b : Nat} (h1 : -(2 ^ 20) < x) (h2 : x < 2 ^ 20) (hb : 20 ≤ b) : Bd b x := Bd.up (a := 20) (by unfold Bd; omega) hb
theorem Pen.newlst {H : Hp} {p l : Addr} {ns : List Int} {a b : Int} (h : Pen H p l ns a b) {q : Addr} {o : HO} (hq : H q = none) : Pen (upd H q o) p l ns a b := h.kp (Kp.new _ hq) (upd_ne (ne_of_none h.hd hq))
theorem df_entry (A : At K mg "_law_entry" sEntry) (Ddraw : Df P w K mg base 1 "_law_draw" ["pen", "many"] spDraw) (Dpick : Df P w K mg base 2 "_law_pick" ["pen", "some"] (spPick K)) : Df P w K mg base 3 "_law_entry" ["pen"] spEntry := by
  obtain ⟨f, fd, hm, F⟩ := A.ex
  refine ⟨f, fd, hm, F.kp, F.binds (fun _ _ _ _ _ _ us hl => match us, hl with | [_], _ => rfl), F.ok scEntry (fun vs H Q E h => ?_) (fun cdv A outer s H vs Q E hr h => ?_)⟩
  · obtain ⟨p, l, ns, a, b, rfl, _⟩ := h
    rfl
  · obtain ⟨p, l, ns, a, b, rfl, hP, ha, q⟩ := h
    refine ⟨_, (pss_cons (ps_set (i := 1) scEntry.nd rfl (.inl rfl) (Ddraw.call (hr.mono (by decide)) (pa_cons (pv 0) (pa_cons pe_int pa_nil))))
      (pss_cons (ps_if (pt_cmpR op_eq (pv 1) pe_int (nomark _)) (pss_one (ps_ret pe_int)) pss_nil)
      (pss_cons (ps_if (pt_cmpR op_lt (pv 1) pe_int (nomark _)) (pss_one (ps_ret (pe_op op_sub (Ddraw.call (hr.mono (by decide)) (pa_cons (pv 0) (pa_cons pe_int pa_nil))) pe_int))) pss_nil)
      (pss_one (ps_ret (pe_op op_add (Dpick.call (hr.mono (by decide)) (pa_cons (pv 0) (pa_cons (pe_lst (pa_cons (pe_op op_add (pe_op op_pow pe_int pe_int) pe_int) (pa_cons (pe_op op_sub (pe_un un_neg (pe_op op_pow pe_int pe_int)) pe_int) (pa_cons (pe_op op_pow pe_int pe_int) (pa_cons (pe_un un_neg (pe_op op_pow pe_int pe_int)) pa_nil))))) pa_nil))) (Ddraw.call (hr.mono (by decide)) (pa_cons (pv 0) (pa_cons pe_int pa_nil))))))))), ?_⟩
    refine ⟨_, rfl, p, l, ns, a, b, _, rfl, hP, by omega, by decide, by decide, fun d1 a1 b1 H1 d10 d11 ha1 hP1 hK1 => ?_⟩
    refine ⟨_, rfl, rfl, _, rfl, ?_⟩
    refine ite2 (fun _ => q _ _ _ _ (Bd.zero _) (by omega) hP1 hK1) (fun _ => ?_)
    refine ⟨_, rfl, _, _, rfl, rfl, _, rfl, ?_⟩
    refine ite2 (fun _ => ?_) (fun _ => ?_)
    · refine ⟨_, rfl, p, l, ns, a1, b1, _, rfl, hP1, by omega, by decide, by decide, fun d2 a2 b2 H2 d20 d21 ha2 hP2 hK2 => ?_⟩
      exact ⟨_, _, rfl, rfl, q _ _ _ _ (bd_small (by omega) (by omega) (by decide)) (by omega) hP2 (hK1.trans hK2)⟩
    · refine ⟨_, rfl, ?_⟩
      refine ⟨_, _, rfl, rfl, ⟨by decide, by decide, by decide⟩, _, _, rfl, rfl, ?_⟩
      refine ⟨_, _, rfl, rfl, ⟨by decide, by decide, by decide⟩, _, rfl, _, _, rfl, rfl, ?_⟩
      refine ⟨_, _, rfl, rfl, ⟨by decide, by decide, by decide⟩, ?_⟩
      refine ⟨_, _, rfl, rfl, ⟨by decide, by decide, by decide⟩, _, rfl, ?_⟩
      refine ⟨by show 4 ≤ sizeLine; decide, fun t ht => ?_⟩
      refine ⟨p, l, t, ns, a1, b1, _, rfl, hP1.newlst ht, by omega, .inl (.inl upd_same), fun z => ?_, by show 1 ≤ 4; decide, by show 4 ≤ 100000; decide, ?_⟩
      · rw [z, hP1.hd] at ht; cases ht
      · intro j v a2 b2 H2 hj ha2 hP2 hK2
        have hx : ∃ x : Int, v = .int x ∧ Bd 200 x := by
          have hm := List.mem_of_getElem? hj
          simp only [List.mem_cons, List.not_mem_nil, or_false] at hm
          rcases hm with rfl | rfl | rfl | rfl
          · exact ⟨_, rfl, by unfold Bd; decide +kernel⟩
          · exact ⟨_, rfl, by unfold Bd; decide +kernel⟩
          · exact ⟨_, rfl, by unfold Bd; decide +kernel⟩
          · exact ⟨_, rfl, by unfold Bd; decide +kernel⟩
        obtain ⟨x, rfl, hx⟩ := hx
        refine ⟨_, rfl, p, l, ns, a2, b2, _, rfl, hP2, by omega, by decide, by decide, fun d3 a3 b3 H3 d30 d31 ha3 hP3 hK3 => ?_⟩
        exact ⟨_, _, rfl, rfl, q _ _ _ _ (Bd.add hx (bd_small (b := 20) (by omega) (by omega) (by decide)) (by decide) (by decide)) (by omega) hP3 (hK1.trans (((Kp.new _ ht).trans hK2).trans hK3))⟩
def spFar : Sp := spEntry
theorem scFar : FnScope ["pen", "some"] ["pen"] (defScope sFar) := ⟨rfl, rfl, rfl, by decide +kernel, rfl, by decide +kernel, by decide +kernel⟩
theorem df_far (A : At K mg "_law_far" sFar) (Ddraw : Df P w K mg base 1 "_law_draw" ["pen", "many"] spDraw) (Dpick : Df P w K mg base 2 "_law_pick" ["pen", "some"] (spPick K)) : Df P w K mg base 3 "_law_far" ["pen"] spFar := by
  obtain ⟨f, fd, hm, F⟩ := A.ex
  refine ⟨f, fd, hm, F.kp, F.binds (fun _ _ _ _ _ _ us hl => match us, hl with | [_], _ => rfl), F.ok scFar (fun vs H Q E h => ?_) (fun cdv A outer s H vs Q E hr h => ?_)⟩
  · obtain ⟨p, l, ns, a, b, rfl, _⟩ := h
    rfl
  · obtain ⟨p, l, ns, a, b, rfl, hP, ha, q⟩ := h
    refine ⟨_, (pss_cons (ps_set (i := 1) scFar.nd rfl (.inl rfl) (pe_lst (pa_cons (pe_op op_add (pe_op op_pow pe_int pe_int) pe_int) (pa_cons (pe_un un_neg (pe_op op_pow pe_int pe_int)) (pa_cons (pe_op op_pow pe_int pe_int) (pa_cons (pe_un un_neg pe_int) (pa_cons pe_int (pa_cons (pe_op op_pow pe_int pe_int) pa_nil))))))))
      (pss_one (ps_ret (pe_op op_sub (pe_op op_add (Dpick.call (hr.mono (by decide)) (pa_cons (pv 0) (pa_cons (pv 1) pa_nil))) (Ddraw.call (hr.mono (by decide)) (pa_cons (pv 0) (pa_cons pe_int pa_nil)))) pe_int)))), ?_⟩
    refine ⟨_, _, rfl, rfl, ⟨by decide, by decide, by decide⟩, _, _, rfl, rfl, ?_⟩
    refine ⟨_, _, rfl, rfl, ⟨by decide, by decide, by decide⟩, _, rfl, ?_⟩
    refine ⟨_, _, rfl, rfl, ⟨by decide, by decide, by decide⟩, _, rfl, ?_⟩
    refine ⟨_, _, rfl, rfl, ⟨by decide, by decide, by decide⟩, ?_⟩
    refine ⟨by show 6 ≤ sizeLine; decide, fun t ht => ?_⟩
    refine ⟨_, rfl, _, rfl, p, l, t, ns, a, b, _, rfl, hP.newlst ht, by omega, .inl (.inl upd_same), fun z => ?_, by show 1 ≤ 6; decide, by show 6 ≤ 100000; decide, ?_⟩
    · rw [z, hP.hd] at ht; cases ht
    · intro j v a2 b2 H2 hj ha2 hP2 hK2
      have hx : ∃ x : Int, v = .int x ∧ Bd 200 x := by
        have hm := List.mem_of_getElem? hj
        simp only [List.mem_cons, List.not_mem_nil, or_false] at hm
        rcases hm with rfl | rfl | rfl | rfl | rfl | rfl
        all_goals exact ⟨_, rfl, by unfold Bd; decide +kernel⟩
      obtain ⟨x, rfl, hx⟩ := hx
      refine ⟨_, rfl, p, l, ns, a2, b2, _, rfl, hP2, by omega, by decide, by decide, fun d3 a3 b3 H3 d30 d31 ha3 hP3 hK3 => ?_⟩
      refine ⟨_, _, rfl, rfl, _, _, rfl, rfl, ?_⟩
      have e : x + d3 - 10 = x + (d3 - 10) := by omega
      exact q _ _ _ _ (e ▸ Bd.add hx (bd_small (b := 20) (by omega) (by omega) (by decide)) (by decide) (by decide)) (by omega) hP3 ((Kp.new _ ht).trans (hK2.trans hK3))
/-! ### _law_sign -/
theorem scLsign : FnScope ["value"] ["value"] (defScope sLsign) := ⟨rfl, rfl, rfl, by decide +kernel, rfl, by decide +kernel, by decide +kernel⟩
theorem df_lsign (A : At K mg "_law_sign" sLsign) (T : TxtJ mg) : Df P w K mg base 1 "_law_sign" ["value"] spSign := by
  obtain ⟨f, fd, hm, F⟩ := A.ex
  refine ⟨f, fd, hm, F.kp, F.binds (fun _ _ _ _ _ _ us hl => match us, hl with | [_], _ => rfl), F.ok scLsign (fun vs H Q E h => ?_) (fun cdv A outer s H vs Q E hr h => ?_)⟩
  · obtain ⟨n, rfl, _⟩ := h
    rfl
  · obtain ⟨n, rfl, q⟩ := h
    refine ⟨_, (pss_one (ps_ret (pe_op op_sub (pe_callTy call_int1 (by rfl) T.int (by decide +kernel) (pa_cons (pe_cmpR op_gt (pv 0) pe_int (nomark _)) pa_nil)) (pe_callTy call_int1 (by rfl) T.int (by decide +kernel) (pa_cons (pe_cmpR op_lt (pv 0) pe_int (nomark _)) pa_nil))))), ?_⟩
    refine ⟨_, rfl, _, _, rfl, rfl, .inr ⟨_, rfl, ?_⟩⟩
    refine ⟨_, rfl, _, _, rfl, rfl, .inr ⟨_, rfl, _, _, rfl, rfl, ?_⟩⟩
    have e : ((if decide (0 < n) = true then (1 : Int) else 0) - (if decide (n < 0) = true then (1 : Int) else 0)) = sgn n := by
      unfold sgn
      rcases Int.lt_trichotomy n 0 with z | z | z
      · simp [z, show ¬ (0 < n) by omega, show ¬ n = 0 by omega]
      · simp [z]
      · simp [z, show ¬ (n < 0) by omega, show ¬ n = 0 by omega]
    rw [← e] at q
    exact q
end
end Ef
set_option Elab.async false
set_option linter.all false
set_option maxRecDepth 100000
set_option maxHeartbeats 4000000
namespace Ef
open PySem PySem.Spec PyProof.Rows L2
abbrev sTimes : Stmt := top 37
abbrev sPlus : Stmt := top 38
abbrev sWrow : Stmt := top 42
/-- a drawn fraction: the tuple of its row and its divisor -/
structure Frac (H : Hp) (t l : Addr) (r : List Int) (un : Nat) : Prop where
  ht : H t = some (.tup [.ref l, .int un])
  hl : H l = some (.lst (r.map V.int))
  len : r.length ≤ 6
  bd : ∀ c ∈ r, Bd 225 c
  u1 : 0 < un
  ub : Bd 220 (un : Int)
def spFrac : Sp := fun vs H Q _ => ∃ (p l : Addr) (ns : List Int) (a b : Int), vs = [.ref p, .int 5] ∧ Pen H p l ns a b ∧ a ≤ 900000000 ∧
  ∀ (t rl : Addr) (r : List Int) (un : Nat) (a' b' : Int) (H' : Hp), Frac H' t rl r un → a' ≤ a + 100 → Pen H' p l ns a' b' → Kp p H H' → Q (.ref t) H'
theorem scFrac : FnScope ["pen", "most", "row", "k"] ["pen", "most"] (defScope sFrac) := ⟨rfl, rfl, rfl, by decide +kernel, rfl, by decide +kernel, by decide +kernel⟩
section
variable {P : Program} {w : World} {K : PySem.W.Frag} {mg : Str → Option Value} {base : Heap}
theorem df_frac (A : At K mg "_law_fraction" sFrac) (T : TxtJ mg) (Ddraw : Df P w K mg base 1 "_law_draw" ["pen", "many"] spDraw) (Dpick : Df P w K mg base 2 "_law_pick" ["pen", "some"] (spPick K)) (Dentry : Df P w K mg base 3 "_law_entry" ["pen"] spEntry) : Df P w K mg base 4 "_law_fraction" ["pen", "most"] spFrac := by
  obtain ⟨f, fd, hm, F⟩ := A.ex
  refine ⟨f, fd, hm, F.kp, F.binds (fun _ _ _ _ _ _ us hl => match us, hl with | [_, _], _ => rfl), F.ok scFrac (fun vs H Q E h => ?_) (fun cdv A outer s H vs Q E hr h => ?_)⟩
  · obtain ⟨p, l, ns, a, b, rfl, _⟩ := h
    rfl
  · obtain ⟨p, l, ns, a, b, rfl, hP, ha, q⟩ := h
    refine ⟨_, (pss_cons (ps_setLc (i := 2) (own := [("k", 3)]) (g := gName 3) (by rfl) scFrac.nd rfl rfl (sw_true rfl rfl rfl (by decide +kernel)) (pi_range1 (by rfl) T.range (pa_cons (Ddraw.call (hr.mono (by decide)) (pa_cons (pv 0) (pa_cons (pe_op op_add (pv 1) pe_int) pa_nil))) pa_nil)) (blkOk_by (own := [("k", 3)]) (N := ["pen", "most", "row", "k"]) (sc := defScope sFrac) (by decide +kernel)) (fun _ _ _ _ _ => pg_name (i := 3) scFrac.nd rfl (Or.inl rfl)) (fun _ _ _ _ _ => pts_nil) (fun _ _ _ _ _ => (Dentry.call (hr.mono (by decide)) (pa_cons (pv 0) pa_nil))))
      (pss_one (ps_ret (pe_tup (pa_cons (pv 2) (pa_cons (Dpick.call (hr.mono (by decide)) (pa_cons (pv 0) (pa_cons (pe_lst (pa_cons pe_int (pa_cons pe_int (pa_cons pe_int (pa_cons pe_int (pa_cons pe_int (pa_cons pe_int (pa_cons pe_int (pa_cons (pe_op op_pow pe_int pe_int) pa_nil))))))))) pa_nil))) pa_nil)))))), ?_⟩
    refine ⟨_, rfl, _, rfl, _, _, rfl, rfl, p, l, ns, a, b, _, rfl, hP, by omega, by decide, by decide, fun d1 a1 b1 H1 d10 d11 ha1 hP1 hK1 => ?_⟩
    refine ⟨d1, rfl, by omega, by omega, fun D hD => ?_⟩
    have hDH : H D = none := by
      refine hK1.free (fun z => ?_) hD
      rw [z, hP1.hd] at hD; cases hD
    have hDp : D ≠ p := fun z => by rw [z, hP.hd] at hDH; cases hDH
    refine lc_range (lo := 0) (n := d1.toNat) (fun i H' => ∃ (acc : List Int) (a' b' : Int), H' D = some (.lst (acc.map V.int)) ∧ acc.length = i ∧ (∀ c ∈ acc, Bd 201 c) ∧ Pen H' p l ns a' b' ∧ a' ≤ a + 1 + 3 * i ∧ Kp p H H')
      ⟨[], a1, b1, upd_same, rfl, fun c hc => (by cases hc), hP1.newlst hD, by omega, hK1.trans (Kp.new _ hD)⟩ ?_ ?_
    · rintro i H4 hi ⟨acc, a', b', hA, hl, hb, hP4, ha4, hK4⟩
      refine ⟨rfl, _, rfl, p, l, ns, a', b', rfl, hP4, by omega, fun c a5 b5 H5 hc ha5 hP5 hK5 => ?_⟩
      refine ⟨_, hK5 _ _ hDp hA, by rw [List.length_map]; exact small1000' (by omega), acc ++ [c], a5, b5, by rw [upd_same, List.map_append]; rfl, by rw [List.length_append, hl]; rfl, fun x hx => ?_, ?_, by omega, (hK4.trans hK5).mut hDH⟩
      · rcases List.mem_append.mp hx with z | z
        · exact hb x z
        · rw [List.mem_singleton.mp z]; exact hc
      · exact ⟨by rw [upd_ne (Ne.symm hDp)]; exact hP5.hd, by rw [upd_ne (fun z => by rw [← z, hP.hl] at hDH; cases hDH)]; exact hP5.hl, hP5.len, hP5.a0, hP5.b0⟩
    · rintro H4 ⟨acc, a', b', hA, hl, hb, hP4, ha4, hK4⟩
      refine ⟨_, rfl, _, rfl, ?_⟩
      refine ⟨_, _, rfl, rfl, ⟨by decide, by decide, by decide⟩, by show 8 ≤ sizeLine; decide, fun t ht => ?_⟩
      refine ⟨p, l, t, ns, a', b', _, rfl, hP4.newlst ht, by omega, .inl (.inl upd_same), fun z => ?_, by show 1 ≤ 8; decide, by show 8 ≤ 100000; decide, ?_⟩
      · rw [z, hP4.hd] at ht; cases ht
      · intro j v a5 b5 H5 hj ha5 hP5 hK5
        have hx : ∃ un : Nat, v = .int (un : Int) ∧ 0 < un ∧ Bd 220 (un : Int) := by
          have hm := List.mem_of_getElem? hj
          simp only [List.mem_cons, List.not_mem_nil, or_false] at hm
          rcases hm with rfl | rfl | rfl | rfl | rfl | rfl | rfl | rfl
          · exact ⟨1, rfl, by decide, by unfold Bd; decide +kernel⟩
          · exact ⟨1, rfl, by decide, by unfold Bd; decide +kernel⟩
          · exact ⟨2, rfl, by decide, by unfold Bd; decide +kernel⟩
          · exact ⟨3, rfl, by decide, by unfold Bd; decide +kernel⟩
          · exact ⟨4, rfl, by decide, by unfold Bd; decide +kernel⟩
          · exact ⟨6, rfl, by decide, by unfold Bd; decide +kernel⟩
          · exact ⟨12, rfl, by decide, by unfold Bd; decide +kernel⟩
          · exact ⟨10 ^ 20, rfl, by decide, by unfold Bd; decide +kernel⟩
        obtain ⟨un, rfl, hu, hub⟩ := hx
        refine ⟨by show 2 ≤ sizeLine; decide, fun tt htt => ?_⟩
        have hA5 := hK5 _ _ hDp (show (upd H4 t _) D = _ from by rw [upd_ne (ne_of_none hA ht)]; exact hA)
        exact q tt D acc un a5 b5 _ ⟨upd_same, by rw [upd_ne (ne_of_none hA5 htt)]; exact hA5, by omega, fun c hc => (hb c hc).up (by decide), hu, hub⟩ (by omega) (hP5.newlst htt) ((hK4.trans ((Kp.new _ ht).trans hK5)).trans (Kp.new _ htt))
/-! ### _law_upper -/
def spUp (K : PySem.W.Frag) : Sp := fun vs H Q _ => ∃ (a : Addr) (r : List Int) (n : Int), vs = [.ref a, .int n] ∧ SqL K H a (r.map V.int) ∧ r.length ≤ 100 ∧ (∀ c ∈ r, Bd 230 c) ∧ Bd 230 n ∧ ∀ H', Same H H' → Q (.int (evalR r n)) H'
theorem scUp : FnScope ["row", "n", "found", "entry"] ["row", "n"] (defScope sUp) := ⟨rfl, rfl, rfl, by decide +kernel, rfl, by decide +kernel, by decide +kernel⟩
theorem df_up (A : At K mg "_law_upper" sUp) (T : TxtJ mg) : Df P w K mg base 1 "_law_upper" ["row", "n"] (spUp K) := by
  obtain ⟨f, fd, hm, F⟩ := A.ex
  refine ⟨f, fd, hm, F.kp, F.binds (fun _ _ _ _ _ _ us hl => match us, hl with | [_, _], _ => rfl), F.ok scUp (fun vs H Q E h => ?_) (fun cdv A outer s H vs Q E hr h => ?_)⟩
  · obtain ⟨a, r, n, rfl, _⟩ := h
    rfl
  · obtain ⟨a, r, n, rfl, hS, hl, hc, hn, q⟩ := h
    refine ⟨_, (pss_cons (ps_set (i := 2) scUp.nd rfl (.inl rfl) pe_int)
      (pss_cons (ps_for PassesOwn.never rfl (pi_reversed (by rfl) T.reversed (pa_cons (pe_callTy call_list_of (by rfl) T.list (by decide +kernel) (pa_cons (pv 0) pa_nil)) pa_nil)) (pg_name (i := 3) scUp.nd rfl (.inl rfl))
      (pss_one (ps_set (i := 2) scUp.nd rfl (.inl rfl) (pe_op op_add (pe_op op_mulW (pv 2) (pv 1)) (pv 3)))))
      (pss_one (ps_ret (pv 2))))), ?_⟩
    refine ⟨_, rfl, a, _, rfl, .inl hS, fun p hp => ?_⟩
    have hT : (upd H p (.lst (r.map V.int))) p = some (.lst (r.map V.int)) := upd_same
    have s1 := same_new (o := .lst (r.map V.int)) hp
    generalize upd H p (.lst (r.map V.int)) = H1 at hT s1 ⊢
    refine ⟨p, _, rfl, .inl (.inl hT), fun i m σ H' => H' = H1 ∧ i + m = r.length ∧ ∃ y : Option V, σ = [some (.ref a), some (.int n), some (.int (evalR (r.drop (r.length - i)) n)), y], ⟨r.length, rfl, by omega, none, by rw [Nat.sub_zero, List.drop_length]; rfl⟩, fun i m σ H' hW => ?_⟩
    obtain ⟨rfl, em, y, rfl⟩ := hW
    rw [List.length_map]
    by_cases hi : i < r.length
    · obtain ⟨c, hc2, g1⟩ := get_int (r := r) (k := r.length - 1 - i) (by omega)
      have hrev : r.reverse[i]? = some c := by rw [List.getElem?_reverse hi]; exact hc2
      refine .inr ⟨⟨hi, _, _, .inl (.inl hT), g1⟩, fun σ H2 => H2 = H' ∧ ∃ y : Option V, σ = [some (.ref a), some (.int n), some (.int (evalR (r.drop (r.length - (i + 1))) n)), y], fun σ' H2 ⟨e1, e2⟩ => ⟨m - 1, by omega, e1, by omega, e2⟩, fun x H2 hy => ?_⟩
      obtain ⟨rfl, hx⟩ := hy
      have ex := Option.some.inj ((hx _ (.inl (.inl hT))).symm.trans g1)
      subst ex
      refine ⟨_, rfl, _, rfl, _, _, rfl, rfl, wide_mul (a := 231 * 100) (b := 230) ((bd_eval hn _ fun c hc' => hc c (List.mem_of_mem_drop hc')).up (Nat.mul_le_mul (Nat.le_refl _) (by rw [List.length_drop]; omega))) hn (by decide) (by decide) (by decide), _, rfl, _, _, rfl, rfl, rfl, _, by rw [eval_drop_succ n hrev]; rfl⟩
    · refine .inl ⟨by show r.length ≤ i; omega, ?_⟩
      have e : i = r.length := by omega
      subst e
      rw [Nat.sub_self, List.drop_zero]
      exact ⟨_, rfl, q _ s1⟩
/-! ### _law_times -/
def spTimes (K : PySem.W.Frag) : Sp := fun vs H Q _ => ∃ (a b : Addr) (r1 r2 : List Int) (b1 b2 : Nat), vs = [.ref a, .ref b] ∧ SqL K H a (r1.map V.int) ∧ SqL K H b (r2.map V.int) ∧ r1.length ≤ 4 ∧ r2.length ≤ 4 ∧ (∀ c ∈ r1, Bd b1 c) ∧ (∀ c ∈ r2, Bd b2 c) ∧ 0 < b1 ∧ 0 < b2 ∧ b1 + b2 ≤ 1000 ∧
  ∀ (l : Addr) (r : List Int) H', H l = none → H' l = some (.lst (r.map V.int)) → r.length = r1.length + r2.length → (∀ c ∈ r, Bd (b1 + b2 + 5) c) → Same H H' → Q (.ref l) H'
theorem scTimes : FnScope ["one", "other", "found", "k", "j"] ["one", "other"] (defScope sTimes) := ⟨rfl, rfl, rfl, by decide +kernel, rfl, by decide +kernel, by decide +kernel⟩
theorem flat_rep (k : Nat) : (List.replicate k [V.int 0]).flatten = (List.replicate k (0 : Int)).map V.int := by
  induction k with
  | zero => rfl
  | succ k ih => rw [List.replicate_succ, List.flatten_cons, ih, List.replicate_succ]; rfl
/-- all members are at most m times 2 ^ w -/
def Le (w m : Nat) (r : List Int) : Prop := ∀ c ∈ r, c.natAbs ≤ m * 2 ^ w
theorem Le.set {w m k : Nat} {r : List Int} {c x y : Int} (h : Le w m r) (hk : r[k]? = some c) (hx : (x * y).natAbs ≤ 2 ^ w) : Le w (m + 1) (r.set k (c + x * y)) := fun z hz => by
  rw [Nat.succ_mul]
  rcases List.mem_or_eq_of_mem_set hz with h1 | h1
  · have := h z h1; omega
  · have h2 := h c (List.mem_of_getElem? hk)
    have h3 := Int.natAbs_add_le c (x * y)
    rw [h1]; omega
theorem df_times (A : At K mg "_law_times" sTimes) (T : TxtJ mg) : Df P w K mg base 1 "_law_times" ["one", "other"] (spTimes K) := by
  obtain ⟨f, fd, hm, F⟩ := A.ex
  refine ⟨f, fd, hm, F.kp, F.binds (fun _ _ _ _ _ _ us hl => match us, hl with | [_, _], _ => rfl), F.ok scTimes (fun vs H Q E h => ?_) (fun cdv A outer s H vs Q E hr h => ?_)⟩
  · obtain ⟨a, b, r1, r2, b1, b2, rfl, _⟩ := h
    rfl
  · obtain ⟨a, b, r1, r2, b1, b2, rfl, hA, hB, l1, l2, hb1, hb2, p1, p2, hbb, q⟩ := h
    refine ⟨_, (pss_cons (ps_set (i := 2) scTimes.nd rfl (.inl rfl) (pe_op op_rep (pe_lst (pa_cons pe_int pa_nil)) (pe_op op_add (pe_callB call_len_seq (by rfl) T.len PySem.boot_len (pa_cons (pv 0) pa_nil)) (pe_callB call_len_seq (by rfl) T.len PySem.boot_len (pa_cons (pv 1) pa_nil)))))
      (pss_cons (ps_for PassesOwn.never rfl (pi_range1 (by rfl) T.range (pa_cons (pe_callB call_len_seq (by rfl) T.len PySem.boot_len (pa_cons (pv 0) pa_nil)) pa_nil)) (pg_name (i := 3) scTimes.nd rfl (.inl rfl))
      (pss_one (ps_for PassesOwn.never rfl (pi_range1 (by rfl) T.range (pa_cons (pe_callB call_len_seq (by rfl) T.len PySem.boot_len (pa_cons (pv 1) pa_nil)) pa_nil)) (pg_name (i := 4) scTimes.nd rfl (.inl rfl))
      (pss_one (ps_asg (pe_op op_add (pe_ix ix_seq (pv 2) (pe_op op_add (pv 3) (pv 4)) (fun _ _ => rfl)) (pe_op op_mulW (pe_ix ix_seq (pv 0) (pv 3) (fun _ _ => rfl)) (pe_ix ix_seq (pv 1) (pv 4) (fun _ _ => rfl)))) (pg_sub (pv 2) (pe_op op_add (pv 3) (pv 4)) set_list))))))
      (pss_one (ps_ret (pv 2))))), ?_⟩
    refine ⟨by show 1 ≤ sizeLine; decide, fun l0 hl0 => ?_⟩
    have s0 : Same H (upd H l0 (.lst [.int 0])) := same_new hl0
    refine ⟨_, rfl, a, _, rfl, .inl (s0.seq hA), _, rfl, b, _, rfl, .inl (s0.seq hB), _, _, rfl, rfl, ?_⟩
    rw [List.length_map, List.length_map]
    have en : (((r1.length : Nat) : Int) + ((r2.length : Nat) : Int)) = ((r1.length + r2.length : Nat) : Int) := rfl
    refine ⟨l0, _, _, rfl, rfl, upd_same, by omega, by omega, by show 1 * _ ≤ _; exact Nat.le_trans (show _ ≤ 100000 by omega) (by decide), fun l hl => ?_⟩
    have nl : H l = none := s0.free hl
    have s1 := s0.trans (same_new (o := .lst (List.replicate (((r1.length : Nat) : Int) + ((r2.length : Nat) : Int)).toNat [V.int 0]).flatten) hl)
    have e1 : (upd (upd H l0 (.lst [.int 0])) l (.lst (List.replicate (((r1.length : Nat) : Int) + ((r2.length : Nat) : Int)).toNat [V.int 0]).flatten)) l = some (.lst ((List.replicate (r1.length + r2.length) (0 : Int)).map V.int)) := by
      rw [upd_same, ← flat_rep]; rfl
    generalize upd (upd H l0 (.lst [.int 0])) l (.lst (List.replicate (((r1.length : Nat) : Int) + ((r2.length : Nat) : Int)).toNat [V.int 0]).flatten) = H1 at s1 e1 ⊢
    refine ⟨_, rfl, a, _, rfl, .inl (s1.seq hA), _, rfl, by rw [List.length_map]; omega, by rw [List.length_map]; omega, ?_⟩
    rw [List.length_map]
    refine for_range (lo := 0) (n := r1.length) (fun i σ H' => Same H H' ∧ ∃ (r : List Int) (y3 y4 : Option V), H' l = some (.lst (r.map V.int)) ∧ r.length = r1.length + r2.length ∧ Le (b1 + b2) (i * r2.length) r ∧ σ = [some (.ref a), some (.ref b), some (.ref l), y3, y4])
      ⟨s1, _, none, none, e1, List.length_replicate, fun c hc => by rw [(List.mem_replicate.mp hc).2]; exact Nat.zero_le _, rfl⟩ ?_ ?_
    · rintro i σ H2 hi ⟨s2, r, y3, y4, e2, hl2, hle, rfl⟩
      refine ⟨_, rfl, b, _, rfl, .inl (s2.seq hB), _, rfl, by rw [List.length_map]; omega, by rw [List.length_map]; omega, ?_⟩
      rw [List.length_map]
      refine for_range (lo := 0) (n := r2.length) (fun j σ H' => Same H H' ∧ ∃ (r : List Int) (y4 : Option V), H' l = some (.lst (r.map V.int)) ∧ r.length = r1.length + r2.length ∧ Le (b1 + b2) (i * r2.length + j) r ∧ σ = [some (.ref a), some (.ref b), some (.ref l), some (.int (0 + (i : Nat))), y4])
        ⟨s2, r, y4, e2, hl2, hle, rfl⟩ ?_ ?_
      · rintro j σ H3 hj ⟨s3, r3, y4, e3, hl3, hle3, rfl⟩
        obtain ⟨c, hc, gc⟩ := get_int (r := r3) (k := i + j) (by omega)
        obtain ⟨x, hx, gx⟩ := get_int (r := r1) (k := i) hi
        obtain ⟨y, hy, gy⟩ := get_int (r := r2) (k := j) hj
        have bx := hb1 x (List.mem_of_getElem? hx)
        have bY := hb2 y (List.mem_of_getElem? hy)
        have ei : (0 + (i : Nat) : Int) = ((i : Nat) : Int) := Int.zero_add _
        have ej : (0 + (j : Nat) : Int) = ((j : Nat) : Int) := Int.zero_add _
        have eij : ((0 + (i : Nat) : Int) + (0 + (j : Nat) : Int)) = ((i + j : Nat) : Int) := by omega
        refine ⟨_, rfl, _, rfl, _, rfl, _, _, rfl, rfl, .inl ⟨l, _, _, _, rfl, rfl, .inl (.inl e3), atI_of eij gc, ?_⟩⟩
        refine ⟨_, rfl, _, rfl, .inl ⟨a, _, _, _, rfl, rfl, s3.seq hA, atI_of ei gx, ?_⟩⟩
        refine ⟨_, rfl, _, rfl, .inl ⟨b, _, _, _, rfl, rfl, s3.seq hB, atI_of ej gy, ?_⟩⟩
        refine ⟨_, _, rfl, rfl, wide_mul bx bY p1 p2 (by omega), _, _, rfl, rfl, ?_⟩
        refine ⟨_, rfl, _, rfl, _, rfl, _, _, rfl, rfl, l, _, _, i + j, rfl, rfl, e3, ?_, same_mut s3 nl, r3.set (i + j) (c + x * y), _, by rw [upd_same, List.map_set], by rw [List.length_set]; exact hl3, ?_, rfl⟩
        · unfold ixN
          rw [if_pos (by omega), if_pos (by rw [List.length_map]; omega)]
          congr 1
          omega
        · refine hle3.set hc ?_
          rw [Int.natAbs_mul, Nat.pow_add]
          exact Nat.mul_le_mul (Nat.le_of_lt bx) (Nat.le_of_lt bY)
      · rintro σ H3 ⟨s3, r3, y4, e3, hl3, hle3, rfl⟩
        exact ⟨s3, r3, _, y4, e3, hl3, by rw [Nat.succ_mul]; exact hle3, rfl⟩
    · rintro σ H2 ⟨s2, r, y3, y4, e2, hl2, hle, rfl⟩
      refine ⟨_, rfl, q l r H2 nl e2 hl2 (fun c hc => ?_) s2⟩
      have h1 := hle c hc
      have h2 : r1.length * r2.length ≤ 4 * 4 := Nat.mul_le_mul l1 l2
      have h3 : (r1.length * r2.length) * 2 ^ (b1 + b2) ≤ (4 * 4) * 2 ^ (b1 + b2) := Nat.mul_le_mul_right _ h2
      unfold Bd
      rw [Nat.pow_add]
      have := Nat.two_pow_pos (b1 + b2)
      omega
end
end Ef
set_option Elab.async false
set_option linter.all false
set_option maxRecDepth 100000
set_option maxHeartbeats 4000000
namespace Ef
open PySem PySem.Spec PyProof.Rows L2
section
variable {P : Program} {w : World} {K : PySem.W.Frag} {mg : Str → Option Value} {base : Heap}
/-! ### _law_plus -/
def spPlus : Sp := fun vs H Q _ => ∃ (a b : Addr) (r1 r2 : List Int) (w : Nat), vs = [.ref a, .ref b] ∧ H a = some (.lst (r1.map V.int)) ∧ H b = some (.lst (r2.map V.int)) ∧ r1.length ≤ 6 ∧ r2.length ≤ 6 ∧ (∀ c ∈ r1, Bd w c) ∧ (∀ c ∈ r2, Bd w c) ∧
  ∀ (l : Addr) (r : List Int) H', H l = none → H' l = some (.lst (r.map V.int)) → r.length ≤ 6 → (∀ c ∈ r, Bd (w + 1) c) → Same H H' → Q (.ref l) H'
theorem scPlus : FnScope ["one", "other", "many", "first", "second", "k"] ["one", "other"] (defScope sPlus) := ⟨rfl, rfl, rfl, by decide +kernel, rfl, by decide +kernel, by decide +kernel⟩
theorem pad_bd {r : List Int} {w k : Nat} (h : ∀ c ∈ r, Bd w c) : ∀ c ∈ r ++ List.replicate k 0, Bd w c := fun c hc => by
  rcases List.mem_append.mp hc with z | z
  · exact h c z
  · rw [(List.mem_replicate.mp z).2]; exact Bd.zero _
theorem df_plus (A : At K mg "_law_plus" sPlus) (T : TxtJ mg) : Df P w K mg base 1 "_law_plus" ["one", "other"] spPlus := by
  obtain ⟨f, fd, hm, F⟩ := A.ex
  refine ⟨f, fd, hm, F.kp, F.binds (fun _ _ _ _ _ _ us hl => match us, hl with | [_, _], _ => rfl), F.ok scPlus (fun vs H Q E h => ?_) (fun cdv A outer s H vs Q E hr h => ?_)⟩
  · obtain ⟨a, b, r1, r2, w, rfl, _⟩ := h
    rfl
  · obtain ⟨a, b, r1, r2, w, rfl, hA, hB, l1, l2, hb1, hb2, q⟩ := h
    refine ⟨_, (pss_cons (ps_set (i := 2) scPlus.nd rfl (.inl rfl) (pe_callB (call_max2 rfl) (by rfl) T.max (by decide +kernel) (pa_cons (pe_callB call_len_seq (by rfl) T.len PySem.boot_len (pa_cons (pv 0) pa_nil)) (pa_cons (pe_callB call_len_seq (by rfl) T.len PySem.boot_len (pa_cons (pv 1) pa_nil)) pa_nil))))
      (pss_cons (ps_set (i := 3) scPlus.nd rfl (.inr rfl) (pe_op op_cat (pv 0) (pe_op op_rep (pe_lst (pa_cons pe_int pa_nil)) (pe_op op_sub (pv 2) (pe_callB call_len_seq (by rfl) T.len PySem.boot_len (pa_cons (pv 0) pa_nil))))))
      (pss_cons (ps_set (i := 4) scPlus.nd rfl (.inr rfl) (pe_op op_cat (pv 1) (pe_op op_rep (pe_lst (pa_cons pe_int pa_nil)) (pe_op op_sub (pv 2) (pe_callB call_len_seq (by rfl) T.len PySem.boot_len (pa_cons (pv 1) pa_nil))))))
      (pss_one (ps_ret (pe_lc (own := [("k", 5)]) (g := gName 5) (by rfl) scPlus.nd (pi_range1 (by rfl) T.range (pa_cons (pv 2) pa_nil)) (blkOk_by (own := [("k", 5)]) (N := ["one", "other", "many", "first", "second", "k"]) (sc := defScope sPlus) (by decide +kernel)) (fun _ _ _ _ _ => pg_name (i := 5) scPlus.nd rfl (Or.inl rfl)) (fun _ _ _ _ _ => pts_nil) (fun _ _ _ _ _ => (pe_op op_add (pe_ix (show IxR _ (rIx K) from ix_seq) (pv 3) (pv 5) (fun _ _ => rfl)) (pe_ix (show IxR _ (rIx K) from ix_seq) (pv 4) (pv 5) (fun _ _ => rfl)))))))))), ?_⟩
    refine ⟨_, rfl, a, _, rfl, .inl (.inl (.inl hA)), _, rfl, b, _, rfl, .inl (.inl (.inl hB)), _, _, rfl, ?_⟩
    rw [List.length_map, List.length_map]
    obtain ⟨m, em, m1, m2, m6⟩ : ∃ m : Nat, (if ((r2.length : Nat) : Int) > ((r1.length : Nat) : Int) then ((r2.length : Nat) : Int) else ((r1.length : Nat) : Int)) = (m : Int) ∧ r1.length ≤ m ∧ r2.length ≤ m ∧ m ≤ 6 := by
      split
      · exact ⟨r2.length, rfl, by omega, Nat.le_refl _, l2⟩
      · exact ⟨r1.length, rfl, Nat.le_refl _, by omega, l1⟩
    rw [em]
    -- first
    refine ⟨_, rfl, by show 1 ≤ sizeLine; decide, fun t0 ht0 => ?_⟩
    have s0 : Same H (upd H t0 (.lst [.int 0])) := same_new ht0
    have e0 : (upd H t0 (.lst [.int 0])) t0 = some (.lst [.int 0]) := upd_same
    generalize upd H t0 (.lst [.int 0]) = H0 at s0 e0 ⊢
    refine ⟨_, rfl, _, rfl, a, _, rfl, .inl (.inl (.inl (s0 _ _ hA))), _, _, rfl, rfl, t0, _, _, rfl, rfl, e0, ?_⟩
    rw [List.length_map]
    have ek : ((m : Int) - (r1.length : Int)).toNat = m - r1.length := by omega
    rw [ek]
    refine ⟨by omega, by omega, by show 1 * _ ≤ _; exact Nat.le_trans (show _ ≤ 100000 by omega) (by decide), fun t1 ht1 => ?_⟩
    have s1 := s0.trans (same_new (o := .lst (List.replicate (m - r1.length) [V.int 0]).flatten) ht1)
    have e1 : (upd H0 t1 (.lst (List.replicate (m - r1.length) [V.int 0]).flatten)) t1 = some (.lst ((List.replicate (m - r1.length) (0 : Int)).map V.int)) := by rw [upd_same, ← flat_rep]
    generalize upd H0 t1 (.lst (List.replicate (m - r1.length) [V.int 0]).flatten) = H1 at s1 e1 ⊢
    refine ⟨a, t1, _, _, rfl, rfl, s1 _ _ hA, e1, by rw [List.length_map, List.length_map, List.length_replicate]; exact Nat.le_trans (show _ ≤ 100000 by omega) (by decide), fun t2 ht2 => ?_⟩
    rw [← List.map_append]
    have s2 := s1.trans (same_new (o := .lst ((r1 ++ List.replicate (m - r1.length) 0).map V.int)) ht2)
    have e2 : (upd H1 t2 (.lst ((r1 ++ List.replicate (m - r1.length) 0).map V.int))) t2 = some (.lst ((r1 ++ List.replicate (m - r1.length) 0).map V.int)) := upd_same
    have nl2 : H t2 = none := s1.free ht2
    generalize upd H1 t2 (.lst ((r1 ++ List.replicate (m - r1.length) 0).map V.int)) = H2 at s2 e2 ⊢
    -- second
    refine ⟨_, rfl, by show 1 ≤ sizeLine; decide, fun t3 ht3 => ?_⟩
    have s3 := same_new (o := .lst [.int 0]) ht3
    have e3 : (upd H2 t3 (.lst [.int 0])) t3 = some (.lst [.int 0]) := upd_same
    generalize upd H2 t3 (.lst [.int 0]) = H3 at s3 e3 ⊢
    refine ⟨_, rfl, _, rfl, b, _, rfl, .inl (.inl (.inl (s3 _ _ (s2 _ _ hB)))), _, _, rfl, rfl, t3, _, _, rfl, rfl, e3, ?_⟩
    rw [List.length_map]
    have ek2 : ((m : Int) - (r2.length : Int)).toNat = m - r2.length := by omega
    rw [ek2]
    refine ⟨by omega, by omega, by show 1 * _ ≤ _; exact Nat.le_trans (show _ ≤ 100000 by omega) (by decide), fun t4 ht4 => ?_⟩
    have s4 := s3.trans (same_new (o := .lst (List.replicate (m - r2.length) [V.int 0]).flatten) ht4)
    have e4 : (upd H3 t4 (.lst (List.replicate (m - r2.length) [V.int 0]).flatten)) t4 = some (.lst ((List.replicate (m - r2.length) (0 : Int)).map V.int)) := by rw [upd_same, ← flat_rep]
    generalize upd H3 t4 (.lst (List.replicate (m - r2.length) [V.int 0]).flatten) = H4 at s4 e4 ⊢
    refine ⟨b, t4, _, _, rfl, rfl, s4 _ _ (s2 _ _ hB), e4, by rw [List.length_map, List.length_map, List.length_replicate]; exact Nat.le_trans (show _ ≤ 100000 by omega) (by decide), fun t5 ht5 => ?_⟩
    rw [← List.map_append]
    have s5 := s4.trans (same_new (o := .lst ((r2 ++ List.replicate (m - r2.length) 0).map V.int)) ht5)
    have e5 : (upd H4 t5 (.lst ((r2 ++ List.replicate (m - r2.length) 0).map V.int))) t5 = some (.lst ((r2 ++ List.replicate (m - r2.length) 0).map V.int)) := upd_same
    generalize upd H4 t5 (.lst ((r2 ++ List.replicate (m - r2.length) 0).map V.int)) = H5 at s5 e5 ⊢
    have f2 := s5 _ _ e2
    have sH := s2.trans s5
    have hf1 := pad_bd (k := m - r1.length) hb1
    have hf2 := pad_bd (k := m - r2.length) hb2
    have lf1 : (r1 ++ List.replicate (m - r1.length) 0).length = m := by rw [List.length_append, List.length_replicate]; omega
    have lf2 : (r2 ++ List.replicate (m - r2.length) 0).length = m := by rw [List.length_append, List.length_replicate]; omega
    generalize r1 ++ List.replicate (m - r1.length) 0 = x1 at hf1 lf1 f2 ⊢
    generalize r2 ++ List.replicate (m - r2.length) 0 = x2 at hf2 lf2 e5 ⊢
    refine ⟨_, rfl, _, rfl, by omega, by omega, fun D hD => ?_⟩
    refine lc_range (lo := 0) (n := m) (fun i H' => Same H5 H' ∧ ∃ acc : List Int, H' D = some (.lst (acc.map V.int)) ∧ acc.length = i ∧ ∀ c ∈ acc, Bd (w + 1) c) ⟨same_new hD, [], upd_same, rfl, fun c hc => (by cases hc)⟩ ?_ ?_
    · rintro i Hx hi ⟨sx, acc, ha, hl, hb⟩
      obtain ⟨x, hx, gx⟩ := get_int (r := x1) (k := i) (by omega)
      obtain ⟨y, hy, gy⟩ := get_int (r := x2) (k := i) (by omega)
      have ei : (0 + (i : Nat) : Int) = ((i : Nat) : Int) := Int.zero_add _
      refine ⟨rfl, _, rfl, _, rfl, .inl ⟨t2, _, _, _, rfl, rfl, .inl (.inl (sx _ _ f2)), atI_of ei gx, ?_⟩⟩
      refine ⟨_, rfl, _, rfl, .inl ⟨t5, _, _, _, rfl, rfl, .inl (.inl (sx _ _ e5)), atI_of ei gy, ?_⟩⟩
      refine ⟨_, _, rfl, rfl, _, ha, by rw [List.length_map]; exact small1000' (by omega), same_mut sx hD, acc ++ [x + y], by rw [upd_same, List.map_append]; rfl, by rw [List.length_append, hl]; rfl, fun z hz => ?_⟩
      rcases List.mem_append.mp hz with k | k
      · exact hb z k
      · rw [List.mem_singleton.mp k]
        exact Bd.add (hf1 x (List.mem_of_getElem? hx)) (hf2 y (List.mem_of_getElem? hy)) (Nat.le_refl _) (Nat.le_refl _)
    · rintro H6 ⟨s6, acc, ha, hl, hb⟩
      exact q D acc H6 (sH.free hD) ha (by omega) hb (sH.trans s6)
/-! ### _law_whole_row -/
def spWrow : Sp := fun vs H Q _ => ∃ (p l : Addr) (ns : List Int) (a b : Int), vs = [.ref p] ∧ Pen H p l ns a b ∧ a ≤ 900000000 ∧
  ∀ (t rl : Addr) (r : List Int) (un : Nat) (a' b' : Int) (H' : Hp), Frac H' t rl r un → a' ≤ a + 100 → Pen H' p l ns a' b' → Kp p H H' → Q (.ref t) H'
theorem scWrow : FnScope ["pen", "number", "low", "row", "entry"] ["pen"] (defScope sWrow) := ⟨rfl, rfl, rfl, by decide +kernel, rfl, by decide +kernel, by decide +kernel⟩
theorem Pen.same {H H' : Hp} {p l : Addr} {ns : List Int} {a b : Int} (h : Pen H p l ns a b) (e : Same H H') : Pen H' p l ns a b := ⟨e _ _ h.hd, e _ _ h.hl, h.len, h.a0, h.b0⟩
/-- [entry * number for entry in row] -/
theorem lc_scale {K : PySem.W.Frag} {a D : Addr} {r : List Int} {x : Int} {H1 : Hp} {σ : L2.St} {Qd : Hp → Prop} {g : TG} {te : TE} {vs : List Nat} (ha : H1 a = some (.lst (r.map V.int))) (hD : H1 D = none) (hl : r.length ≤ 100)
    (hs : ∀ (c : Int) (H : Hp) (R : VK), c ∈ r → (R (.int (c * x)) H) → g (.int c) (wipe σ vs) H fun σ2 H2 => wipe σ2 vs = wipe σ vs ∧ te σ2 H2 R)
    (hd : ∀ H', Same H1 H' → H' D = some (.lst ((r.map fun c => c * x).map V.int)) → Qd H') :
    ∃ W : Nat → Nat → Hp → Prop, (∃ m, W 0 m (upd H1 D (.lst []))) ∧ ∀ i m H, W i m H → ((Itl K a).stop i H ∧ Qd H) ∨ ((Itl K a).go i H ∧ ∃ Nx : Hp → Prop, (∀ H', Nx H' → ∃ m', m' < m ∧ W (i + 1) m' H') ∧ ∀ y H', (Itl K a).yld i H y H' → g y (wipe σ vs) H' fun σ2 H2 => wipe σ2 vs = wipe σ vs ∧ tYes σ2 H2 fun b H3 => if b = true then te σ2 H3 fun z H4 => ∃ acc, H4 D = some (.lst acc) ∧ acc.length < sizeLine ∧ Nx (upd H4 D (.lst (acc ++ [z]))) else Nx H3) := by
  refine lc_list (K := K) (a := a) (xs := r.map V.int) (tt := tYes) (fun i H' => Same H1 H' ∧ H' D = some (.lst (((r.take i).map fun c => c * x).map V.int))) ⟨same_new hD, upd_same⟩ (fun i H' _ hh => .inl (.inl (hh.1 _ _ ha))) ?_ ?_
  · rintro i y H' hi ⟨sx, hx⟩
    rw [List.getElem?_map] at hi
    obtain ⟨c, hc, rfl⟩ := Option.map_eq_some_iff.mp hi
    refine hs c H' _ (List.mem_of_getElem? hc) ⟨_, hx, ?_, same_mut sx hD, ?_⟩
    · rw [List.length_map, List.length_map, List.length_take]
      exact Nat.lt_of_le_of_lt (show min i r.length ≤ 100 by omega) (by decide)
    · rw [upd_same, List.take_succ, hc, Option.toList_some, List.map_append, List.map_append]
      rfl
  · rintro H3 ⟨s3, h3⟩
    rw [List.length_map, List.take_length] at h3
    exact hd H3 s3 h3
theorem scale_bd {r : List Int} {x : Int} {a b w : Nat} (h : ∀ c ∈ r, Bd a c) (hx : Bd b x) (e : a + b ≤ w) : ∀ c ∈ r.map (fun c => c * x), Bd w c := fun c hc => by
  obtain ⟨y, hy, rfl⟩ := List.mem_map.mp hc
  refine Bd.up (a := a + b) ?_ e
  have h1 := h y hy
  unfold Bd at *
  rw [Int.natAbs_mul, Nat.pow_add]
  exact Nat.mul_lt_mul'' h1 hx
theorem df_wrow (A : At K mg "_law_whole_row" sWrow) (T : TxtJ mg) (Ddraw : Df P w K mg base 1 "_law_draw" ["pen", "many"] spDraw) (Dentry : Df P w K mg base 3 "_law_entry" ["pen"] spEntry) (Dtimes : Df P w K mg base 1 "_law_times" ["one", "other"] (spTimes K)) (Dplus : Df P w K mg base 1 "_law_plus" ["one", "other"] spPlus) : Df P w K mg base 4 "_law_whole_row" ["pen"] spWrow := by
  obtain ⟨f, fd, hm, F⟩ := A.ex
  refine ⟨f, fd, hm, F.kp, F.binds (fun _ _ _ _ _ _ us hl => match us, hl with | [_], _ => rfl), F.ok scWrow (fun vs H Q E h => ?_) (fun cdv A outer s H vs Q E hr h => ?_)⟩
  · obtain ⟨p, l, ns, a, b, rfl, _⟩ := h
    rfl
  · obtain ⟨p, l, ns, a, b, rfl, hP, ha, q⟩ := h
    refine ⟨_, (pss_cons (ps_asg (pe_tup (pa_cons (Dentry.call (hr.mono (by decide)) (pa_cons (pv 0) pa_nil)) (pa_cons (pe_op op_sub (Ddraw.call (hr.mono (by decide)) (pa_cons (pv 0) (pa_cons pe_int pa_nil))) pe_int) pa_nil))) (pg_tup (by rfl) (pgs_cons (pg_name (i := 1) scWrow.nd rfl (.inr rfl)) (pgs_cons (pg_name (i := 2) scWrow.nd rfl (.inl rfl)) pgs_nil))))
      (pss_cons (ps_set (i := 3) scWrow.nd rfl (.inl rfl) (Dtimes.call (hr.mono (by decide)) (pa_cons (pe_lst (pa_cons (pv 2) (pa_cons pe_int pa_nil))) (pa_cons (pe_lst (pa_cons (pe_op op_add (pv 2) pe_int) (pa_cons pe_int pa_nil))) pa_nil))))
      (pss_cons (ps_if (pt_cmpR op_eq (Ddraw.call (hr.mono (by decide)) (pa_cons (pv 0) (pa_cons pe_int pa_nil))) pe_int (nomark _)) (pss_one (ps_ret (pe_tup (pa_cons (Dplus.call (hr.mono (by decide)) (pa_cons (pe_lc (own := [("entry", 4)]) (g := gName 4) (by rfl) scWrow.nd (pi_list (pv 3)) (blkOk_by (own := [("entry", 4)]) (N := ["pen", "number", "low", "row", "entry"]) (sc := defScope sWrow) (by decide +kernel)) (fun _ _ _ _ _ => pg_name (i := 4) scWrow.nd rfl (Or.inl rfl)) (fun _ _ _ _ _ => pts_nil) (fun _ _ _ _ _ => (pe_op op_mulW (pv 4) (pv 1)))) (pa_cons (pe_lst (pa_cons (pe_op op_mul pe_int (Dentry.call (hr.mono (by decide)) (pa_cons (pv 0) pa_nil))) pa_nil)) pa_nil))) (pa_cons pe_int pa_nil))))) pss_nil)
      (pss_one (ps_ret (pe_tup (pa_cons (pe_lc (own := [("entry", 4)]) (g := gName 4) (by rfl) scWrow.nd (pi_list (Dtimes.call (hr.mono (by decide)) (pa_cons (pv 3) (pa_cons (pe_lst (pa_cons (pe_op op_add (pv 2) pe_int) (pa_cons pe_int pa_nil))) pa_nil)))) (blkOk_by (own := [("entry", 4)]) (N := ["pen", "number", "low", "row", "entry"]) (sc := defScope sWrow) (by decide +kernel)) (fun _ _ _ _ _ => pg_name (i := 4) scWrow.nd rfl (Or.inl rfl)) (fun _ _ _ _ _ => pts_nil) (fun _ _ _ _ _ => (pe_op op_mulW (pv 4) (pv 1)))) (pa_cons pe_int pa_nil)))))))), ?_⟩
    refine ⟨_, rfl, p, l, ns, a, b, rfl, hP, by omega, fun x a1 b1 H1 hx ha1 hP1 hK1 => ?_⟩
    refine ⟨_, rfl, p, l, ns, a1, b1, _, rfl, hP1, by omega, by decide, by decide, fun d2 a2 b2 H2 d20 d21 ha2 hP2 hK2 => ?_⟩
    refine ⟨_, _, rfl, rfl, ?_⟩
    have hlo : -4 ≤ d2 - 4 ∧ d2 - 4 ≤ 4 := by omega
    dsimp only
    generalize d2 - 4 = low at hlo ⊢
    refine ⟨by show 2 ≤ sizeLine; decide, fun t ht => ?_⟩
    have hP3 := hP2.newlst (o := .tup [.int x, .int low]) ht
    have hK3 := (hK1.trans hK2).trans (Kp.new (.tup [.int x, .int low]) ht)
    refine ⟨t, _, rfl, .inl (.inl upd_same), rfl, _, _, rfl, _, _, rfl, rfl, ?_⟩
    generalize upd H2 t (.tup [.int x, .int low]) = H3 at hP3 hK3 ⊢
    have bl1 : ∀ c ∈ [low, 1], Bd 4 c := fun c hc => by
      rcases List.mem_cons.mp hc with rfl | hc
      · unfold Bd; omega
      · rw [List.mem_singleton.mp hc]; unfold Bd; decide
    have bl2 : ∀ c ∈ [low + 1, 1], Bd 4 c := fun c hc => by
      rcases List.mem_cons.mp hc with rfl | hc
      · unfold Bd; omega
      · rw [List.mem_singleton.mp hc]; unfold Bd; decide
    have bl3 : ∀ c ∈ [low + 2, 1], Bd 4 c := fun c hc => by
      rcases List.mem_cons.mp hc with rfl | hc
      · unfold Bd; omega
      · rw [List.mem_singleton.mp hc]; unfold Bd; decide
    -- row
    refine ⟨_, rfl, by show 2 ≤ sizeLine; decide, fun t1 ht1 => ?_⟩
    have s1 := same_new (o := .lst [.int low, .int 1]) ht1
    have e1 : (upd H3 t1 (.lst [.int low, .int 1])) t1 = some (.lst ([low, 1].map V.int)) := upd_same
    generalize upd H3 t1 (.lst [.int low, .int 1]) = H4 at s1 e1 ⊢
    refine ⟨_, rfl, _, _, rfl, rfl, by show 2 ≤ sizeLine; decide, fun t2 ht2 => ?_⟩
    have s2 := s1.trans (same_new (o := .lst [.int (low + 1), .int 1]) ht2)
    have e2 : (upd H4 t2 (.lst [.int (low + 1), .int 1])) t2 = some (.lst ([low + 1, 1].map V.int)) := upd_same
    have e1' := same_new (o := .lst [.int (low + 1), .int 1]) ht2 _ _ e1
    generalize upd H4 t2 (.lst [.int (low + 1), .int 1]) = H5 at s2 e2 e1' ⊢
    refine ⟨t1, t2, [low, 1], [low + 1, 1], 4, 4, rfl, .inl (.inl e1'), .inl (.inl e2), by show 2 ≤ 4; decide, by show 2 ≤ 4; decide, bl1, bl2, by decide, by decide, by decide, fun rl row H6 nrl hrl hlen hbd s6 => ?_⟩
    have s36 := s2.trans s6
    have hP6 := hP3.same s36
    have hK6 := hK3.trans (Kp.of_same s36)
    -- if
    refine ⟨_, rfl, p, l, ns, a2, b2, _, rfl, hP6, by omega, by decide, by decide, fun d3 a3 b3 H7 d30 d31 ha3 hP7 hK7 => ?_⟩
    have hrl7 := hK7 _ _ (ne_of hrl hP6.hd (by intro q; cases q)) hrl
    have hK67 := hK6.trans hK7
    refine ⟨rfl, _, rfl, ?_⟩
    refine ite2 (fun _ => ?_) (fun _ => ?_)
    · -- plus
      refine ⟨_, rfl, rl, rfl, ⟨_, .inl (.inl hrl7)⟩, fun D hD => ?_⟩
      refine lc_scale (x := x) hrl7 hD (by rw [hlen]; show 2 + 2 ≤ 100; decide) (fun c H R hc h => ⟨rfl, _, rfl, _, rfl, _, _, rfl, rfl, wide_mul (hbd c hc) hx (by decide) (by decide) (by decide), h⟩) fun H8 s8 h8 => ?_
      have hP8 := hP7.same s8
      refine ⟨_, rfl, p, l, ns, a3, b3, rfl, hP8, by omega, fun y a4 b4 H9 hy ha4 hP9 hK9 => ?_⟩
      have h9 := hK9 _ _ (ne_of h8 hP8.hd (by intro q; cases q)) h8
      refine ⟨_, _, rfl, rfl, .inl ⟨by decide, by decide⟩, by show 1 ≤ sizeLine; decide, fun t4 ht4 => ?_⟩
      have s10 := same_new (o := .lst [.int (2 * y)]) ht4
      have h10 := s10 _ _ h9
      have e10 : (upd H9 t4 (.lst [.int (2 * y)])) t4 = some (.lst ([2 * y].map V.int)) := upd_same
      generalize upd H9 t4 (.lst [.int (2 * y)]) = H10 at s10 h10 e10 ⊢
      refine ⟨D, t4, _, _, 215, rfl, h10, e10, by rw [List.length_map, hlen]; show 2 + 2 ≤ 6; decide, by show 1 ≤ 6; decide, scale_bd hbd hx (by decide), fun c hc => ?_, fun l5 r5 H11 n5 h11 len5 bd5 s11 => ?_⟩
      · rw [List.mem_singleton.mp hc]
        unfold Bd at *
        rw [Int.natAbs_mul]
        have : (2 : Nat) ^ 201 * 2 ≤ 2 ^ 215 := by decide
        show 2 * y.natAbs < 2 ^ 215
        omega
      · refine ⟨by show 2 ≤ sizeLine; decide, fun t6 ht6 => ?_⟩
        have s12 := s11.trans (same_new (o := .tup [.ref l5, .int 2]) ht6)
        refine q t6 l5 r5 2 a4 b4 _ ⟨upd_same, by rw [upd_ne (ne_of_none h11 ht6)]; exact h11, len5, fun c hc => (bd5 c hc).up (by decide), by decide, by unfold Bd; decide +kernel⟩ (by omega) (hP9.same (s10.trans s12)) (hK67.trans ((Kp.of_same s8).trans (hK9.trans (Kp.of_same (s10.trans s12)))))
    · -- times
      refine ⟨_, rfl, _, rfl, _, _, rfl, rfl, by show 2 ≤ sizeLine; decide, fun t3 ht3 => ?_⟩
      have s8 := same_new (o := .lst [.int (low + 2), .int 1]) ht3
      have e8 : (upd H7 t3 (.lst [.int (low + 2), .int 1])) t3 = some (.lst ([low + 2, 1].map V.int)) := upd_same
      have hrl8 := s8 _ _ hrl7
      generalize upd H7 t3 (.lst [.int (low + 2), .int 1]) = H8 at s8 e8 hrl8 ⊢
      refine ⟨rl, t3, row, [low + 2, 1], 13, 4, rfl, .inl (.inl hrl8), .inl (.inl e8), by rw [hlen]; show 2 + 2 ≤ 4; decide, by show 2 ≤ 4; decide, hbd, bl3, by decide, by decide, by decide, fun l4 r4 H9 n4 h9 len4 bd4 s9 => ?_⟩
      have len4' : r4.length = 6 := by rw [len4, hlen]; rfl
      refine ⟨l4, rfl, ⟨_, .inl (.inl h9)⟩, fun D hD => ?_⟩
      refine lc_scale (x := x) h9 hD (by rw [len4']; decide) (fun c H R hc h => ⟨rfl, _, rfl, _, rfl, _, _, rfl, rfl, wide_mul (bd4 c hc) hx (by decide) (by decide) (by decide), h⟩) fun H10 s10 h10 => ?_
      have hP10 := hP7.same (s8.trans (s9.trans s10))
      refine ⟨by show 2 ≤ sizeLine; decide, fun t6 ht6 => ?_⟩
      have s12 := (s8.trans (s9.trans s10)).trans (same_new (o := .tup [.ref D, .int 6]) ht6)
      exact q t6 D _ 6 a3 b3 _ ⟨upd_same, by rw [upd_ne (ne_of_none h10 ht6)]; exact h10, by rw [List.length_map, len4']; decide, fun c hc => (scale_bd bd4 hx (by decide) c hc), by decide, by unfold Bd; decide +kernel⟩ (by omega) (hP7.same s12) (hK67.trans (Kp.of_same s12))
end
end Ef
set_option Elab.async false
set_option linter.all false
set_option maxRecDepth 100000
set_option maxHeartbeats 4000000
namespace Ef
open PySem PySem.Spec PyProof.Rows L2
abbrev sIsp : Stmt := top 36
theorem Low.last {r p : List Int} {un u : Nat} (h : Low r un p u) (h0 : 0 < p.length) : p.getLastD 0 ≠ 0 := by
  obtain ⟨k, g, hg, hk, rfl, hd, hu, _, hz, hl⟩ := h.ex
  rw [List.length_map, List.length_take] at h0
  rcases hl with rfl | ⟨c, hc, hc0⟩
  · omega
  · have hkl : k - 1 < r.length := by omega
    have e : (r.take k)[k - 1]? = some c := by rw [List.getElem?_take, if_pos (by omega)]; exact hc
    have hm := hd c (List.mem_of_getElem? e)
    have e2 : ((r.take k).map fun c => c / (g : Int)).getLastD 0 = c / (g : Int) := by
      rw [List.getLastD_eq_getLast?, List.getLast?_eq_getElem?, List.length_map, List.length_take, Nat.min_eq_left hk, List.getElem?_map, e]
      rfl
    rw [e2]
    intro z
    have := Int.mul_ediv_cancel' hm
    rw [z, Int.mul_zero] at this
    exact hc0 this.symm
theorem Low.at {r p : List Int} {un u : Nat} (h : Low r un p u) {j : Nat} {c : Int} (hj : r[j]? = some c) : ∃ x, (p ++ List.replicate (r.length - p.length) 0)[j]? = some x ∧ x * (un : Int) = c * (u : Int) := by
  obtain ⟨k, g, hg, hk, rfl, hd, hu, _, hz, hl⟩ := h.ex
  have hlen : ((r.take k).map fun c => c / (g : Int)).length = k := by rw [List.length_map, List.length_take]; omega
  have hjl : j < r.length := by
    rcases Nat.lt_or_ge j r.length with z | z
    · exact z
    · rw [List.getElem?_eq_none z] at hj; cases hj
  rcases Nat.lt_or_ge j k with z | z
  · have e : (r.take k)[j]? = some c := by rw [List.getElem?_take, if_pos z]; exact hj
    refine ⟨c / (g : Int), ?_, ?_⟩
    · rw [List.getElem?_append_left (by rw [hlen]; exact z), List.getElem?_map, e]
      rfl
    · rw [hu, Int.natCast_mul, ← Int.mul_assoc, Int.ediv_mul_cancel (hd c (List.mem_of_getElem? e))]
  · refine ⟨0, ?_, ?_⟩
    · rw [List.getElem?_append_right (by rw [hlen]; exact z), hlen, List.getElem?_replicate, if_pos (by omega)]
    · have := hz j z hjl
      rw [hj] at this
      injection this with this
      rw [this, Int.zero_mul, Int.zero_mul]
theorem Low.gcd {r p : List Int} {un u : Nat} (h : Low r un p u) : gcdR u p = 1 := by
  obtain ⟨k, g, hg, hk, hp, hd, hu, h1, _⟩ := h.ex
  exact h1
theorem Low.bd {r p : List Int} {un u b : Nat} (h : Low r un p u) (hb : ∀ c ∈ r, Bd b c) : ∀ c ∈ p, Bd b c := fun c hc => by
  obtain ⟨k, g, hg, hk, rfl, _⟩ := h.ex
  obtain ⟨x, hx, rfl⟩ := List.mem_map.mp hc
  exact (hb x (List.mem_of_mem_take hx)).div (by omega)
theorem Low.ub {r p : List Int} {un u b : Nat} (h : Low r un p u) (hb : Bd b (un : Int)) : Bd b (u : Int) := by
  obtain ⟨k, g, hg, hk, _, _, hu, _⟩ := h.ex
  have : u ≤ un := by rw [hu]; exact Nat.le_mul_of_pos_left u hg
  unfold Bd at *
  rw [Int.natAbs_natCast] at *
  omega
structure ClsQ (K : PySem.W.Frag) (mg : Str → Option Value) (C : Addr) : Prop extends ClsP K mg C where
  cc : PySem.W.findIn K (.ref C) "__class__" = some (some (.builtin "object.__class__"))
  cg : PySem.W.specialIn K (.builtin "object.__class__") "__get__" = some (some (.builtin "getset_descriptor.__get__"))
  ct : PySem.W.takesIn K (.builtin "object.__class__") = some true
  co : PySem.W.mroIn K C (.type "object") = some true
theorem sqt_ty {K : PySem.W.Frag} {H : Hp} {a : Addr} {xs : List V} (h : SqT K H a xs) : TyX K H (.ref a) (.type "tuple") := by
  rcases h with (h | ⟨o, h⟩) | ⟨o, its, n, h1, h2, _⟩
  · exact .base (.tup h)
  · exact .fTuple h
  · exact .kTuple h1 h2
section
variable {P : Program} {w : World} {K : PySem.W.Frag} {mg : Str → Option Value} {base : Heap}
def spIsp (K : PySem.W.Frag) (C : Addr) : Sp := fun vs H Q _ => ∃ (p a : Addr) (r pr : List Int) (un u : Nat), vs = [.ref p, .ref a, .int un] ∧ PAt K C H p pr u ∧ SqL K H a (r.map V.int) ∧ Low r un pr u ∧ r.length ≤ 6 ∧ (∀ c ∈ r, Bd 225 c) ∧ Bd 225 (un : Int) ∧ ∀ H', Same H H' → Q (.bl true) H'
theorem scIsp : FnScope ["piece", "row", "under", "divisor", "entry", "told", "k"] ["piece", "row", "under"] (defScope sIsp) := ⟨rfl, rfl, rfl, by decide +kernel, rfl, by decide +kernel, by decide +kernel⟩
theorem df_isp {C : Addr} (A : At K mg "_law_is_piece" sIsp) (T : TxtJ mg) (CW : ClsQ K mg C) (hall : mg "all" = none) (Dgcd : Df P w K mg base 1 "_law_gcd" ["a", "b"] spGcd) : Df P w K mg base 2 "_law_is_piece" ["piece", "row", "under"] (spIsp K C) := by
  obtain ⟨f, fd, hm, F⟩ := A.ex
  refine ⟨f, fd, hm, F.kp, F.binds (fun _ _ _ _ _ _ us hl => match us, hl with | [_, _, _], _ => rfl), F.ok scIsp (fun vs H Q E h => ?_) (fun cdv A outer s H vs Q E hr h => ?_)⟩
  · obtain ⟨p, a, r, pr, un, u, rfl, _⟩ := h
    rfl
  · obtain ⟨p, a, r, pr, un, u, rfl, ⟨dx, ra, h1, h2⟩, hS, hL, hl, hb, hub, q⟩ := h
    refine ⟨_, (pss_cons (ps_if (pw_or (pt_not (pt_val (pe_callB call_isi (by rfl) T.isinstance (by decide +kernel) (pa_cons (pv 0) (pa_cons (pe_glob (v := .ref C) (by rfl) CW.mgC rfl) pa_nil))))) (pw_or (pt_not (pt_val (pe_callB call_isi (by rfl) T.isinstance (by decide +kernel) (pa_cons (pe_fld (pv 0) rfl) (pa_cons (pe_bltn (v := .ty "tuple") (by rfl) T.tuple (by decide +kernel) rfl) pa_nil))))) (pw_or1 (pt_cmpR op_lt (pe_fld (pv 0) rfl) pe_int (nomark _))))).pt (pss_one (ps_ret pe_bl)) pss_nil)
      (pss_cons (ps_set (i := 3) scIsp.nd rfl (.inl rfl) (pe_fld (pv 0) rfl))
      (pss_cons (ps_for PassesOwn.never rfl (pi_tup (pe_fld (pv 0) rfl)) (pg_name (i := 4) scIsp.nd rfl (.inl rfl))
      (pss_one (ps_set (i := 3) scIsp.nd rfl (.inl rfl) (Dgcd.call (hr.mono (by decide)) (pa_cons (pv 3) (pa_cons (pv 4) pa_nil))))))
      (pss_cons (ps_if (pw_or (pt_cmpR op_ne (pv 3) pe_int (nomark _)) (pw_or (pw_and (pt_cmpR op_gt (pe_callB call_len_seq (by rfl) T.len PySem.boot_len (pa_cons (pe_fld (pv 0) rfl) pa_nil)) pe_int (nomark _)) (pw_and1 (pt_cmpR op_eq (pe_ix ix_tup (pe_fld (pv 0) rfl) (pe_un un_neg pe_int) (fun _ _ => rfl)) pe_int (nomark _)))).pt (pw_or1 (pt_cmpR op_gt (pe_callB call_len_seq (by rfl) T.len PySem.boot_len (pa_cons (pe_fld (pv 0) rfl) pa_nil)) (pe_callB call_len_seq (by rfl) T.len PySem.boot_len (pa_cons (pv 1) pa_nil)) (nomark _))))).pt (pss_one (ps_ret pe_bl)) pss_nil)
      (pss_cons (ps_set (i := 5) scIsp.nd rfl (.inr rfl) (pe_op op_cat (pe_callTy call_list_of (by rfl) T.list (by decide +kernel) (pa_cons (pe_fld (pv 0) rfl) pa_nil)) (pe_op op_rep (pe_lst (pa_cons pe_int pa_nil)) (pe_op op_sub (pe_callB call_len_seq (by rfl) T.len PySem.boot_len (pa_cons (pv 1) pa_nil)) (pe_callB call_len_seq (by rfl) T.len PySem.boot_len (pa_cons (pe_fld (pv 0) rfl) pa_nil))))))
      (pss_one (ps_ret (pe_callB (cr_all rfl) (by rfl) hall (by decide +kernel) (pa_cons (pe_lc (own := [("k", 6)]) (g := gName 6) (by rfl) scIsp.nd (pi_range1 (by rfl) T.range (pa_cons (pe_callB call_len_seq (by rfl) T.len PySem.boot_len (pa_cons (pv 1) pa_nil)) pa_nil)) (blkOk_by (own := [("k", 6)]) (N := ["piece", "row", "under", "divisor", "entry", "told", "k"]) (sc := defScope sIsp) (by decide +kernel)) (fun _ _ _ _ _ => pg_name (i := 6) scIsp.nd rfl (Or.inl rfl)) (fun _ _ _ _ _ => pts_nil) (fun _ _ _ _ _ => (pe_cmpR op_eq (pe_op op_mulW (pe_ix (show IxR _ (rIx K) from ix_seq) (pv 5) (pv 6) (fun _ _ => rfl)) (pv 2)) (pe_op op_mulW (pe_ix (show IxR _ (rIx K) from ix_seq) (pv 1) (pv 6) (fun _ _ => rfl)) (show PE _ _ (tFld K (tVar 0) "under") from pe_fld (pv 0) (by rfl))) (nomark _)))) pa_nil))))))))), ?_⟩
    refine ⟨_, rfl, _, _, _, _, true, rfl, .own C, .base (.ins h1 CW.cl CW.cc CW.cg CW.ct CW.co), if_pos (by simp), ?_⟩
    refine ⟨_, rfl, iteF ?_⟩
    refine ⟨_, rfl, p, C, dx, _, _, rfl, h1, CW.cl, CW.nR, pf_row, _, _, _, _, true, rfl, .ty "tuple", sqt_ty h2, kit_ty (by decide +kernel), ?_⟩
    refine ⟨_, rfl, iteF ?_⟩
    refine ⟨_, rfl, p, C, dx, _, _, rfl, h1, CW.cl, CW.nU, pf_under, _, _, rfl, rfl, _, rfl, ?_⟩
    have hu := hL.u1
    rw [decide_eq_false (show ¬ (u : Int) < 1 by omega)]
    refine iteF ?_
    -- divisor
    refine ⟨_, rfl, p, C, dx, _, _, rfl, h1, CW.cl, CW.nU, pf_under, ?_⟩
    refine ⟨_, rfl, p, C, dx, _, _, rfl, h1, CW.cl, CW.nR, pf_row, ra, rfl, ⟨_, h2⟩, for_tup (K := K) (a := ra) (xs := pr.map V.int) (fun i σ H' => H' = H ∧ ∃ y : Option V, σ = [some (.ref p), some (.ref a), some (.int un), some (.int (gcdR u (pr.take i) : Nat)), y, none, none])
      ⟨rfl, none, rfl⟩ (fun i σ H' _ ⟨e, _⟩ => e ▸ h2) ?_ ?_⟩
    · rintro i x σ H' hi ⟨rfl, y, rfl⟩
      rw [List.getElem?_map] at hi
      obtain ⟨c, hc, rfl⟩ := Option.map_eq_some_iff.mp hi
      exact ⟨_, rfl, _, rfl, _, _, rfl, rfl, some (.int c), by rw [gcdR_take_succ hc]; rfl⟩
    rintro σ H' ⟨rfl, y, rfl⟩
    rw [List.length_map, List.take_length, hL.gcd]
    refine ⟨_, rfl, rfl, _, rfl, ?_⟩
    refine iteF ?_
    have hlen := hL.len
    refine ⟨_, rfl, p, C, dx, _, _, rfl, h1, CW.cl, CW.nR, pf_row, ra, _, rfl, .inr h2, _, _, rfl, rfl, _, rfl, ?_⟩
    rw [List.length_map]
    rcases Nat.eq_zero_or_pos pr.length with z | z
    case' inl =>
      rw [decide_eq_false (show ¬ (0 : Int) < (pr.length : Int) by omega)]
      refine iteF ?_
    case' inr =>
      rw [decide_eq_true (show (0 : Int) < (pr.length : Int) by omega)]
      refine iteT ⟨_, rfl, p, C, dx, _, _, rfl, h1, CW.cl, CW.nR, pf_row, _, rfl, ra, _, _, _, rfl, rfl, h2, at_last z, rfl, _, rfl, ?_⟩
      rw [dint, decide_eq_false (hL.last z)]
      refine iteF ?_
    all_goals
      refine ⟨_, rfl, p, C, dx, _, _, rfl, h1, CW.cl, CW.nR, pf_row, ra, _, rfl, .inr h2, _, rfl, a, _, rfl, .inl hS, _, _, rfl, rfl, _, rfl, ?_⟩
      rw [List.length_map, List.length_map, decide_eq_false (show ¬ (r.length : Int) < (pr.length : Int) by omega)]
      refine iteF ?_
      -- told
      refine ⟨_, rfl, p, C, dx, _, _, rfl, h1, CW.cl, CW.nR, pf_row, ra, _, rfl, .inr h2, fun t0 ht0 => ?_⟩
      have s0 := same_new (o := .lst (pr.map V.int)) ht0
      have e0 : (upd H' t0 (.lst (pr.map V.int))) t0 = some (.lst (pr.map V.int)) := upd_same
      generalize upd H' t0 (.lst (pr.map V.int)) = H0 at s0 e0 ⊢
      refine ⟨by show 1 ≤ sizeLine; decide, fun t3 ht3 => ?_⟩
      have s3 := s0.trans (same_new (o := .lst [.int 0]) ht3)
      have e3 : (upd H0 t3 (.lst [.int 0])) t3 = some (.lst [.int 0]) := upd_same
      have e03 := same_new (o := .lst [.int 0]) ht3 _ _ e0
      generalize upd H0 t3 (.lst [.int 0]) = H3 at s3 e3 e03 ⊢
      refine ⟨_, rfl, a, _, rfl, .inl (s3.seq hS), _, rfl, p, C, dx, _, _, rfl, s3 _ _ h1, CW.cl, CW.nR, pf_row, ra, _, rfl, .inr (Same.tup s3 h2), _, _, rfl, rfl, t3, _, _, rfl, rfl, e3, ?_⟩
      rw [List.length_map, List.length_map]
      have ek2 : ((r.length : Int) - (pr.length : Int)).toNat = r.length - pr.length := by omega
      rw [ek2]
      refine ⟨by omega, by omega, by show 1 * _ ≤ _; exact Nat.le_trans (show _ ≤ 100000 by omega) (by decide), fun t4 ht4 => ?_⟩
      have s4 := s3.trans (same_new (o := .lst (List.replicate (r.length - pr.length) [V.int 0]).flatten) ht4)
      have e04 := same_new (o := .lst (List.replicate (r.length - pr.length) [V.int 0]).flatten) ht4 _ _ e03
      have e4 : (upd H3 t4 (.lst (List.replicate (r.length - pr.length) [V.int 0]).flatten)) t4 = some (.lst ((List.replicate (r.length - pr.length) (0 : Int)).map V.int)) := by rw [upd_same, ← flat_rep]
      generalize upd H3 t4 (.lst (List.replicate (r.length - pr.length) [V.int 0]).flatten) = H4 at s4 e4 e04 ⊢
      refine ⟨t0, t4, _, _, rfl, rfl, e04, e4, by rw [List.length_map, List.length_map, List.length_replicate]; exact Nat.le_trans (show _ ≤ 100000 by omega) (by decide), fun t5 ht5 => ?_⟩
      rw [← List.map_append]
      have s5 := s4.trans (same_new (o := .lst ((pr ++ List.replicate (r.length - pr.length) 0).map V.int)) ht5)
      have e5 : (upd H4 t5 (.lst ((pr ++ List.replicate (r.length - pr.length) 0).map V.int))) t5 = some (.lst ((pr ++ List.replicate (r.length - pr.length) 0).map V.int)) := upd_same
      generalize upd H4 t5 (.lst ((pr ++ List.replicate (r.length - pr.length) 0).map V.int)) = H5 at s5 e5 ⊢
      -- all
      refine ⟨_, rfl, a, _, rfl, .inl (s5.seq hS), _, rfl, by rw [List.length_map]; omega, by rw [List.length_map]; omega, fun D hD => ?_⟩
      rw [List.length_map]
      refine lc_range (lo := 0) (n := r.length) (fun i Hx => Same H5 Hx ∧ Hx D = some (.lst ((List.replicate i true).map V.bl))) ⟨same_new hD, upd_same⟩ ?_ ?_
      · rintro i Hx hi ⟨sx, hx⟩
        obtain ⟨c, hc, gc⟩ := get_int (r := r) (k := i) hi
        obtain ⟨x, hx1, hx2⟩ := hL.at hc
        have gx : ((pr ++ List.replicate (r.length - pr.length) 0).map V.int)[i]? = some (.int x) := by rw [List.getElem?_map, hx1]; rfl
        have ei : (0 + (i : Nat) : Int) = ((i : Nat) : Int) := Int.zero_add _
        have bx : Bd 225 x := by
          rcases List.mem_append.mp (List.mem_of_getElem? hx1) with k | k
          · exact hL.bd hb x k
          · rw [(List.mem_replicate.mp k).2]; exact Bd.zero _
        refine ⟨rfl, _, rfl, _, rfl, .inl ⟨t5, _, _, _, rfl, rfl, .inl (.inl (sx _ _ e5)), atI_of ei gx, _, rfl, _, _, rfl, rfl, wide_mul bx hub (by decide) (by decide) (by decide), ?_⟩⟩
        refine ⟨_, rfl, _, rfl, .inl ⟨a, _, _, _, rfl, rfl, (s5.trans sx).seq hS, atI_of ei gc, _, rfl, p, C, dx, _, _, rfl, (s5.trans sx) _ _ h1, CW.cl, CW.nU, pf_under, _, _, rfl, rfl, wide_mul (hb c (List.mem_of_getElem? hc)) (hL.ub hub) (by decide) (by decide) (by decide), rfl, ?_⟩⟩
        dsimp only
        rw [dint, hx2, decide_eq_true rfl]
        refine ⟨_, hx, by rw [List.length_map, List.length_replicate]; exact small1000' (by omega), same_mut sx hD, ?_⟩
        rw [upd_same, List.replicate_succ', List.map_append]
        rfl
      · rintro H6 ⟨s6, h6⟩
        refine ⟨D, _, rfl, .inl (.inl h6), ?_⟩
        have : (List.replicate r.length true).all id = true := by
          rw [List.all_eq_true]
          intro b hb
          rw [(List.mem_replicate.mp hb).2]; rfl
        rw [this]
        exact q H6 (s5.trans s6)
end
end Ef
set_option Elab.async false
set_option linter.all false
set_option maxRecDepth 100000
set_option maxHeartbeats 4000000
namespace Ef
open PySem PySem.Spec PyProof.Rows L2
abbrev sTold : Stmt := top 41
structure ErrM (K : PySem.W.Frag) (CN CB : Addr) : Prop where
  nn : PySem.W.exmOne K (.ref CN) (.ref CN) = some true
  bn : PySem.W.exmOne K (.ref CB) (.ref CN) = some false
  bb : PySem.W.exmOne K (.ref CB) (.ref CB) = some true
/-- the class's own __call__ -/
structure CallC (P : Program) (w : World) (K : PySem.W.Frag) (mg : Str → Option Value) (base : Heap) (C CN CB f : Addr) (fd : FuncData) : Prop where
  cf : PySem.W.findIn K (.ref C) "__call__" = some (some (.ref f))
  ci : PySem.W.isFn K (.ref f) = true
  cn : PySem.W.fnIn K f = true
  F : FnOk P w K mg base (CX P w) 3 f fd ["self", "n"] (spPc K C CN CB)
  b : Binds K fd ["self", "n"] []
section
variable {P : Program} {w : World} {K : PySem.W.Frag} {mg : Str → Option Value} {base : Heap}
def spTold (K : PySem.W.Frag) (C : Addr) : Sp := fun vs H Q _ => ∃ (p : Addr) (v : V) (r : List Int) (u : Nat), vs = [.ref p, v] ∧ PAt K C H p r u ∧ r.length ≤ 100 ∧ 0 < u ∧ Bd 230 (u : Int) ∧ (∀ c ∈ r, Bd 230 c) ∧
  ((∃ n : Int, v = .int n ∧ Bd 230 n ∧ ((evalR r n % (u : Int) = 0 ∧ ∀ H', Same H H' → Q (.int (evalR r n / (u : Int))) H') ∨ (evalR r n % (u : Int) ≠ 0 ∧ ∀ t H', Same H H' → H' t = some (.tup [.str "fraction", v]) → Q (.ref t) H'))) ∨
   (NotInt K H v ∧ ∀ t H', Same H H' → H' t = some (.tup [.str "place", v]) → Q (.ref t) H'))
theorem scTold : FnScope ["piece", "n", "value", "e"] ["piece", "n"] (defScope sTold) := ⟨rfl, rfl, rfl, by decide +kernel, rfl, by decide +kernel, by decide +kernel⟩
theorem df_told {C CN CB fN fB fc : Addr} {fdc : FuncData} (A : At K mg "_law_told" sTold) (EN : ErrC K mg "NotWhole" CN fN) (EB : ErrC K mg "BadPlace" CB fB) (EM : ErrM K CN CB) (CC : CallC P w K mg base C CN CB fc fdc) : Df P w K mg base 4 "_law_told" ["piece", "n"] (spTold K C) := by
  obtain ⟨f, fd, hm, F⟩ := A.ex
  refine ⟨f, fd, hm, F.kp, F.binds (fun _ _ _ _ _ _ us hl => match us, hl with | [_, _], _ => rfl), F.ok scTold (fun vs H Q E h => ?_) (fun cdv A outer s H vs Q E hr h => ?_)⟩
  · obtain ⟨p, v, r, u, rfl, _⟩ := h
    rfl
  · obtain ⟨p, v, r, u, rfl, hp, hl, hu, hub, hb, q⟩ := h
    refine ⟨_, (pss_cons (ps_try_asL rfl rfl scTold.nd takes0 (fun W pn xe tk _ => pss_one (ps_set (i := 2) scTold.nd rfl (.inl rfl) (pe_callI CC.cf CC.ci CC.cn CC.F (hr.mono (by decide)) CC.b (fun σ => passAt tk σ) (pa_cons (pv 1) pa_nil) (i := 0))))
      (.cons (i := 3) rfl rfl ⟨rfl, by decide, .inl EN.mgC⟩ (fun a oe cls d pn hz hf => pss_one (ps_ret (pe_tup (pa_cons pe_str (pa_cons (pe_xf EN.xf EN.nN hz hf (pv 3)) pa_nil)))))
      (.cons (i := 3) rfl rfl ⟨rfl, by decide, .inl EB.mgC⟩ (fun a oe cls d pn hz hf => pss_one (ps_ret (pe_tup (pa_cons pe_str (pa_cons (pe_xf EB.xf EB.nN hz hf (pv 3)) pa_nil)))))
      .nil)))
      (pss_one (ps_ret (pv 2)))), ?_⟩
    obtain ⟨dx, ra, h1, h2⟩ := hp
    refine ⟨p, dx, _, rfl, h1, _, rfl, ⟨_, h1⟩, p, v, r, u, rfl, ⟨dx, ra, h1, h2⟩, hl, hu, hub, hb, ?_⟩
    rcases q with ⟨n, rfl, hn, q⟩ | ⟨hN, q⟩
    · refine .inl ⟨n, rfl, hn, ?_⟩
      rcases q with ⟨hz, q⟩ | ⟨hz, q⟩
      · exact .inl ⟨hz, fun H' s1 => ⟨_, rfl, q H' s1⟩⟩
      · refine .inr ⟨hz, fun d H' s1 hd hx => ⟨true, EM.nn, fun _ a ha => ?_, fun z => Bool.noConfusion z⟩⟩
        refine ⟨_, rfl, rfl, rfl, d, _, .int n, rfl, hx, rfl, by show 2 ≤ sizeLine; decide, fun t ht => ?_⟩
        exact q t _ (s1.trans (same_new ht)) upd_same
    · refine .inr ⟨hN, fun d H' s1 hd hx => ⟨false, EM.bn, fun z => Bool.noConfusion z, fun _ => ⟨true, EM.bb, fun _ a ha => ?_, fun z => Bool.noConfusion z⟩⟩⟩
      refine ⟨_, rfl, rfl, rfl, d, _, v, rfl, hx, rfl, by show 2 ≤ sizeLine; decide, fun t ht => ?_⟩
      exact q t _ (s1.trans (same_new ht)) upd_same
end
end Ef
set_option Elab.async false
set_option linter.all false
set_option maxRecDepth 100000
set_option maxHeartbeats 8000000
namespace Ef
open PySem PySem.Spec PyProof.Rows L2
abbrev sLaw : Stmt := top 43
structure TxtL (mg : Str → Option Value) : Prop extends TxtJ mg where
  min : mg "min" = none
  all : mg "all" = none
theorem sqt_kp {K : PySem.W.Frag} {H H' : Hp} {a p : Addr} {xs : List V} {d : List (Key × V)} (h : SqT K H a xs) (k : Kp p H H') (hp : H p = some (.dK d)) : SqT K H' a xs := by
  rcases h with (h | ⟨z, h⟩) | h
  · exact .inl (.inl (k _ _ (ne_of h hp (by intro q; cases q)) h))
  · exact .inl (.inr ⟨z, k _ _ (ne_of h hp (by intro q; cases q)) h⟩)
  · exact .inr h
theorem PAt.kp {K : PySem.W.Frag} {C : Addr} {H H' : Hp} {p q : Addr} {r : List Int} {u : Nat} {d : List (Key × V)} (h : PAt K C H q r u) (k : Kp p H H') (hp : H p = some (.dK d)) : PAt K C H' q r u := by
  obtain ⟨dx, ra, h1, h2⟩ := h
  exact ⟨dx, ra, k _ _ (ne_of h1 hp (by intro q; cases q)) h1, sqt_kp h2 k hp⟩
/-- the places of the members that are not 0 -/
def leftL (r : List Int) (i : Nat) : List Int := ((List.range i).filter fun k => decide (r.getD k 0 ≠ 0)).map fun k : Nat => (k : Int)
theorem leftL_succ (r : List Int) (i : Nat) : leftL r (i + 1) = leftL r i ++ (if r.getD i 0 ≠ 0 then [(i : Int)] else []) := by
  unfold leftL
  rw [List.range_succ, List.filter_append, List.map_append]
  congr 1
  by_cases h : r.getD i 0 ≠ 0
  · rw [if_pos h, show List.filter (fun k => decide (r.getD k 0 ≠ 0)) [i] = [i] by simp only [List.filter, decide_eq_true h]]; rfl
  · rw [if_neg h, show List.filter (fun k => decide (r.getD k 0 ≠ 0)) [i] = [] by simp only [List.filter, decide_eq_false h]]; rfl
theorem leftL_len (r : List Int) (i : Nat) : (leftL r i).length ≤ i := by
  unfold leftL
  rw [List.length_map]
  refine Nat.le_trans (List.length_filter_le _ _) ?_
  rw [List.length_range]; exact Nat.le_refl i
theorem leftL_stop {r : List Int} {k : Nat} (h : ∀ j, k ≤ j → j < r.length → r[j]? = some 0) : ∀ m, k + m ≤ r.length → leftL r (k + m) = leftL r k
  | 0, _ => rfl
  | m + 1, hm => by
    rw [← Nat.add_assoc, leftL_succ, leftL_stop h m (by omega), if_neg, List.append_nil]
    rw [List.getD_eq_getElem?_getD, h (k + m) (by omega) (by omega)]
    simp
/-- the places of the members that are not 0: the last one is the degree -/
theorem Low.left {r p : List Int} {un u : Nat} (h : Low r un p u) : (p = [] ∧ leftL r r.length = []) ∨ (∃ (M : List Int) (c : Int), 0 < p.length ∧ p.length ≤ r.length ∧ leftL r r.length = M ++ [((p.length - 1 : Nat) : Int)] ∧ r[p.length - 1]? = some c ∧ sgn c = sgn (p.getLastD 0)) := by
  obtain ⟨k, g, hg, hk, hp, hd, hu, _, hz, hl⟩ := h.ex
  have hlen : p.length = k := by rw [hp, List.length_map, List.length_take]; omega
  have e1 := leftL_stop hz (r.length - k) (by omega)
  rw [show k + (r.length - k) = r.length by omega] at e1
  rcases hl with rfl | ⟨c, hc, hc0⟩
  · exact .inl ⟨List.length_eq_zero_iff.mp hlen, e1⟩
  · have hk0 : 0 < k := by
      rcases Nat.eq_zero_or_pos k with rfl | z
      · have z := hz 0 (Nat.le_refl 0)
        rcases Nat.eq_zero_or_pos r.length with w | w
        · rw [List.length_eq_zero_iff.mp w] at hc; cases hc
        · rw [show (0 : Nat) - 1 = 0 from rfl] at hc
          rw [z w] at hc
          injection hc with hc
          exact absurd hc.symm hc0
      · exact z
    refine .inr ⟨leftL r (k - 1), c, by omega, by omega, ?_, by rw [hlen]; exact hc, ?_⟩
    · rw [e1, hlen]
      have := leftL_succ r (k - 1)
      rw [show k - 1 + 1 = k by omega] at this
      rw [this, if_pos]
      rw [List.getD_eq_getElem?_getD, hc]
      exact hc0
    · have e : (r.take k)[k - 1]? = some c := by rw [List.getElem?_take, if_pos (by omega)]; exact hc
      have e2 : p.getLastD 0 = c / (g : Int) := by
        rw [hp, List.getLastD_eq_getLast?, List.getLast?_eq_getElem?, List.length_map, List.length_take, Nat.min_eq_left hk, List.getElem?_map, e]
        rfl
      rw [e2]
      obtain ⟨x, rfl⟩ := hd c (List.mem_of_getElem? e)
      have hgi : (0 : Int) < (g : Int) := by omega
      rw [Int.mul_ediv_cancel_left _ (by omega)]
      unfold sgn
      have a1 : ((g : Int) * x = 0) ↔ x = 0 := by
        constructor
        · intro z
          rcases Int.mul_eq_zero.mp z with z | z
          · omega
          · exact z
        · intro z; rw [z, Int.mul_zero]
      have a2 : (0 < (g : Int) * x) ↔ 0 < x := by
        constructor
        · intro z
          exact Int.pos_of_mul_pos_right (a := (g:Int)) z hgi
        · intro z; exact Int.mul_pos hgi z
      by_cases z : x = 0
      · rw [if_pos (a1.mpr z), if_pos z]
      · rw [if_neg (fun w => z (a1.mp w)), if_neg z]
        by_cases w : 0 < x
        · rw [if_pos (a2.mpr w), if_pos w]
        · rw [if_neg (fun v => w (a2.mp v)), if_neg w]
theorem same_inst {H : Hp} {x dx C : Addr} {fs : List (Str × V)} (nx : H x = none) (nd : H dx = none) : Same H (upd (upd H dx (.own x)) x (.ins C dx fs)) := fun b o e => by
  rw [upd_ne (ne_of_none e nx), upd_ne (ne_of_none e nd)]
  exact e
theorem gd_int {r : List Int} {k : Nat} {c : Int} (h : r[k]? = some c) : r.getD k 0 = c := by rw [List.getD_eq_getElem?_getD, h]; rfl
theorem sh_frac (n : Int) : SeqAt.shaped (.tuple [.str "fraction", .int n]) = true := by
  refine (sh_list (ds := [.str "fraction", .int n]) ?_ ?_).2
  · have h1 : PyData.canLay0 (.str "fraction") = true := by decide +kernel
    show (PyData.canLay0 (.str "fraction") && (PyData.canLay0 (.int n) && true)) = true
    rw [h1]; rfl
  · show max (PyData.depth (.str "fraction")) (max (PyData.depth (.int n)) 0) = 0
    rfl
theorem eqv_int (i : Int) : PyData.eqv (.int i) (.int i) = true := by
  show decide (i = i) = true
  exact decide_eq_true rfl
def LeftOk (r pr : List Int) : Prop := (pr = [] ∧ leftL r r.length = []) ∨ (∃ (M : List Int) (c : Int), 0 < pr.length ∧ pr.length ≤ r.length ∧ leftL r r.length = M ++ [((pr.length - 1 : Nat) : Int)] ∧ r[pr.length - 1]? = some c ∧ sgn c = sgn (pr.getLastD 0))
/-- left != [] -/
theorem rd_ne {K : PySem.W.Frag} {σ : L2.St} {H : Hp} {Q : VK} {D : Addr} {r : List Int} (hs : σ[10]? = some (some (.ref D))) (hl : H D = some (.lst (r.map V.int))) (q : ∀ H', Same H H' → Q (.bl (!r.isEmpty)) H') : tOp (rNeD K) (tVar 10) (tLst tNil) σ H Q := by
  refine ⟨_, hs, Nat.zero_le _, fun t ht => ?_⟩
  have s1 := same_new (o := .lst []) ht
  refine ⟨_, _, .lst (.inl (.inl (s1 _ _ hl))) (dp_ints r), .lst (.inl (.inl upd_same)) .nil, (sh_list (can_ints r).1 (can_ints r).2).1, (sh_list rfl rfl).1, ?_⟩
  rw [eqv_nil]
  exact q _ s1
theorem at_lastM {M : List Int} {c : Int} : atI ((M ++ [c]).map V.int) (-1) = some (.int c) := by
  rw [at_last (by rw [List.length_append]; exact Nat.succ_pos _), List.getLastD_eq_getLast?, List.getLast?_append]
  rfl
theorem ne_nilM {M : List Int} {c : Int} : (!(M ++ [c]).isEmpty) = true := by cases M <;> rfl
theorem rd_deg {K : PySem.W.Frag} {σ : L2.St} {H : Hp} {Q : VK} {D : Addr} {r pr : List Int} (hs : σ[10]? = some (some (.ref D))) (hl : H D = some (.lst ((leftL r r.length).map V.int))) (h : LeftOk r pr) (q : ∀ H', Same H H' → Q (.int ((pr.length : Int) - 1)) H') :
    tIf (tTest (tOp (rNeD K) (tVar 10) (tLst tNil))) (tOp (rIx K) (tVar 10) (tUn (rU fun i => V.int (-i)) (tC (V.int 1)))) (tUn (rU fun i => V.int (-i)) (tC (V.int 1))) σ H Q := by
  refine rd_ne hs hl fun H1 s1 => ⟨_, rfl, ?_⟩
  rcases h with ⟨rfl, e⟩ | ⟨M, c, l0, l1, e, hc, hsg⟩
  · rw [e]
    exact iteF ⟨_, rfl, q _ s1⟩
  · have e1 := s1 _ _ hl
    rw [e] at e1 ⊢
    rw [ne_nilM]
    refine iteT ⟨_, hs, _, rfl, .inl ⟨D, _, _, _, rfl, rfl, .inl (.inl e1), at_lastM, ?_⟩⟩
    have ee : ((pr.length - 1 : Nat) : Int) = (pr.length : Int) - 1 := by omega
    rw [ee]
    exact q _ s1
theorem rd_end {K : PySem.W.Frag} {σ : L2.St} {H : Hp} {Q : VK} {D rl : Addr} {r pr : List Int} (hs : σ[10]? = some (some (.ref D))) (hr : σ[3]? = some (some (.ref rl))) (hl : H D = some (.lst ((leftL r r.length).map V.int))) (hrl : H rl = some (.lst (r.map V.int))) (h : LeftOk r pr) (q : ∀ H', Same H H' → Q (.int (sgn (pr.getLastD 0))) H') :
    tIf (tTest (tOp (rNeD K) (tVar 10) (tLst tNil))) (tCall spSign [] E0 (tCons (tOp (rIx K) (tVar 3) (tOp (rIx K) (tVar 10) (tUn (rU fun i => V.int (-i)) (tC (V.int 1))))) tNil)) (tC (V.int 0)) σ H Q := by
  refine rd_ne hs hl fun H1 s1 => ⟨_, rfl, ?_⟩
  rcases h with ⟨rfl, e⟩ | ⟨M, c, l0, l1, e, hc, hsg⟩
  · rw [e]
    exact iteF (q _ s1)
  · have e1 := s1 _ _ hl
    rw [e] at e1 ⊢
    rw [ne_nilM]
    have gc : (r.map V.int)[pr.length - 1]? = some (.int c) := by rw [List.getElem?_map, hc]; rfl
    refine iteT ⟨_, hr, _, hs, _, rfl, .inl ⟨D, _, _, _, rfl, rfl, .inl (.inl e1), at_lastM, .inl ⟨rl, _, _, _, rfl, rfl, .inl (.inl (s1 _ _ hrl)), atI_of rfl gc, c, rfl, ?_⟩⟩⟩
    rw [hsg]
    exact q _ s1
/-- whole at the places from -1 on -/
def fullL (r : List Int) (un : Nat) (i : Nat) : List Bool := (List.range i).map fun j : Nat => decide (evalR r (-1 + (j : Int)) % (un : Int) = 0)
theorem fullL_succ (r : List Int) (un i : Nat) : fullL r un (i + 1) = fullL r un i ++ [decide (evalR r (-1 + (i : Int)) % (un : Int) = 0)] := by
  unfold fullL
  rw [List.range_succ, List.map_append]
  rfl
theorem fullL_all {r p : List Int} {un u : Nat} (h : Low r un p u) : (fullL r un (r.length + 3)).all id = true ↔ ∀ k : Nat, k < p.length → evalR p k % (u : Int) = 0 := by
  rw [h.whole, List.all_eq_true]
  unfold fullL
  constructor
  · intro hh n h1 h2
    have := hh (decide (evalR r n % (un : Int) = 0)) (List.mem_map.mpr ⟨(n + 1).toNat, List.mem_range.mpr (by omega), by
      rw [Int.toNat_of_nonneg (show 0 ≤ n + 1 by omega), show -1 + (n + 1) = n by omega]⟩)
    exact of_decide_eq_true this
  · intro hh b hb
    obtain ⟨j, hj, rfl⟩ := List.mem_map.mp hb
    have := List.mem_range.mp hj
    exact decide_eq_true (hh _ (by omega) (by omega))
/-- an odd value: no int, and told as data -/
def OddOk (K : PySem.W.Frag) (H : Hp) (v : V) : Prop := NotInt K H v ∧ ∃ d, Dp K H v d ∧ SeqAt.shaped (.tuple [.str "place", d]) = true ∧ PyData.eqv (.tuple [.str "place", d]) (.tuple [.str "place", d]) = true
section
variable {P : Program} {w : World} {K : PySem.W.Frag} {mg : Str → Option Value} {base : Heap}
def spLaw (K : PySem.W.Frag) : Sp := fun vs H Q _ => ∃ (a : Addr) (ns : List Int), vs = [.ref a] ∧ SqL K H a (ns.map V.int) ∧ ns.length ≤ 63 ∧ ∀ H', Q (.bl true) H'
theorem scLaw : FnScope ["script", "pen", "turn", "row", "under", "piece", "n", "upper", "due", "told", "left", "is_full", "odd", "k"] ["script"] (defScope sLaw) := ⟨rfl, rfl, rfl, by decide +kernel, rfl, by decide +kernel, by decide +kernel⟩
theorem ok_law {f C fI gd ge gw pd pe pw : Addr} {fd fdI fdd fde fdw : FuncData} (F : Fun K "law" "law" sLaw f fd) (T : TxtL mg) (CW : ClsQ K mg C) (M : Mk K C fI) (FI : FnOk P w K mg base CX0 3 fI fdI ["self", "row", "under"] (spInit K C)) (bI : Binds K fdI ["self", "row", "under"] [])
    (PDd : PropOf K C "degree" pd gd) (FDd : FnOk P w K mg base CX0 1 gd fdd ["self"] (spDeg K C)) (bDd : Binds K fdd ["self"] []) (PDe : PropOf K C "end" pe ge) (FDe : FnOk P w K mg base CX0 2 ge fde ["self"] (spEnd K C)) (bDe : Binds K fde ["self"] []) (PDw : PropOf K C "is_whole" pw gw) (FDw : FnOk P w K mg base CX0 2 gw fdw ["self"] (spWhole K C)) (bDw : Binds K fdw ["self"] [])
    (Dpen : Df P w K mg base 1 "_law_pen" ["script"] (spPen K)) (Ddraw : Df P w K mg base 1 "_law_draw" ["pen", "many"] spDraw) (Dpick : Df P w K mg base 2 "_law_pick" ["pen", "some"] (spPick K))
    (Dfraction : Df P w K mg base 4 "_law_fraction" ["pen", "most"] spFrac) (Dwholerow : Df P w K mg base 4 "_law_whole_row" ["pen"] spWrow) (Dfar : Df P w K mg base 3 "_law_far" ["pen"] spFar) (Dupper : Df P w K mg base 1 "_law_upper" ["row", "n"] (spUp K)) (Dtold : Df P w K mg base 4 "_law_told" ["piece", "n"] (spTold K C)) (Dsign : Df P w K mg base 1 "_law_sign" ["value"] spSign) (Dispiece : Df P w K mg base 2 "_law_is_piece" ["piece", "row", "under"] (spIsp K C)) :
    FnOk P w K mg base CX0 7 f fd ["script"] (spLaw K) := by
  refine F.ok scLaw (fun vs H Q E h => ?_) (fun cdv A outer s H vs Q E hr h => ?_)
  · obtain ⟨a, ns, rfl, _⟩ := h
    rfl
  · obtain ⟨a, ns, rfl, hS, hlen, q⟩ := h
    refine ⟨_, (pss_cons (ps_set (i := 1) scLaw.nd rfl (.inl rfl) (Dpen.call (hr.mono (by decide)) (pa_cons (pv 0) pa_nil)))
      (pss_cons (ps_for PassesOwn.never rfl (pi_range1 (by rfl) T.range (pa_cons (pe_op op_add pe_int (pe_callB (call_min2 rfl) (by rfl) T.min (by decide +kernel) (pa_cons pe_int (pa_cons (pe_callB call_len_seq (by rfl) T.len PySem.boot_len (pa_cons (pv 0) pa_nil)) pa_nil)))) pa_nil)) (pg_name (i := 2) scLaw.nd rfl (.inl rfl))
      (pss_cons (ps_asg (pe_ifExp (pt_cmpR op_gt (Ddraw.call (hr.mono (by decide)) (pa_cons (pv 1) (pa_cons pe_int pa_nil))) pe_int (nomark _)) (Dfraction.call (hr.mono (by decide)) (pa_cons (pv 1) (pa_cons pe_int pa_nil))) (Dwholerow.call (hr.mono (by decide)) (pa_cons (pv 1) pa_nil))) (pg_tup (by rfl) (pgs_cons (pg_name (i := 3) scLaw.nd rfl (.inr rfl)) (pgs_cons (pg_name (i := 4) scLaw.nd rfl (.inr rfl)) pgs_nil))))
      (pss_cons (ps_set (i := 5) scLaw.nd rfl (.inl rfl) (pe_make M FI (hr.mono (by decide)) (by rfl) CW.mgC bI .nil pass0 (pa_cons (pv 3) (pa_cons (pv 4) pa_nil))))
      (pss_cons (ps_for PassesOwn.never rfl (pi_list (pe_op op_cat (pe_listRg rfl (by rfl) T.list (prg_2 (by rfl) T.range (pe_un un_neg pe_int) pe_int)) (pe_lst (pa_cons (Dfar.call (hr.mono (by decide)) (pa_cons (pv 1) pa_nil)) (pa_cons (pe_un un_neg (Dfar.call (hr.mono (by decide)) (pa_cons (pv 1) pa_nil))) pa_nil))))) (pg_name (i := 6) scLaw.nd rfl (.inl rfl))
      (pss_cons (ps_set (i := 7) scLaw.nd rfl (.inl rfl) (Dupper.call (hr.mono (by decide)) (pa_cons (pv 3) (pa_cons (pv 6) pa_nil))))
      (pss_cons (ps_set (i := 8) scLaw.nd rfl (.inl rfl) (pe_ifExp (pt_cmpR op_eq (pe_op op_mod (pe_callTy call_int1 (by rfl) T.int (by decide +kernel) (pa_cons (pv 7) pa_nil)) (pv 4)) pe_int (nomark _)) (pe_op op_fdivW (pv 7) (pv 4)) (pe_tup (pa_cons pe_str (pa_cons (pv 6) pa_nil)))))
      (pss_cons (ps_set (i := 9) scLaw.nd rfl (.inl rfl) (Dtold.call (hr.mono (by decide)) (pa_cons (pv 5) (pa_cons (pv 6) pa_nil))))
      (pss_one (ps_if (pw_or (pt_cmpR (op_neD hr.units) (pv 9) (pv 8) (nomark _)) (pw_or1 (pt_val (pe_callB call_isi (by rfl) T.isinstance (by decide +kernel) (pa_cons (pv 9) (pa_cons (pe_bltn (v := .ty "bool") (by rfl) T.bool (by decide +kernel) rfl) pa_nil)))))).pt (pss_one (ps_ret pe_bl)) pss_nil))))))
      (pss_cons (ps_setLc (i := 10) (own := [("k", 13)]) (g := gName 13) (by rfl) scLaw.nd rfl rfl (sw_true rfl rfl rfl (by decide +kernel)) (pi_range1 (by rfl) T.range (pa_cons (pe_callB call_len_seq (by rfl) T.len PySem.boot_len (pa_cons (pv 3) pa_nil)) pa_nil)) (blkOk_by (own := [("k", 13)]) (N := ["script", "pen", "turn", "row", "under", "piece", "n", "upper", "due", "told", "left", "is_full", "odd", "k"]) (sc := defScope sLaw) (by decide +kernel)) (fun _ _ _ _ _ => pg_name (i := 13) scLaw.nd rfl (Or.inl rfl)) (fun _ _ _ _ _ => (pts_one (pt_cmpR op_ne (pe_ix (show IxR _ (rIx K) from ix_seq) (pv 3) (pv 13) (fun _ _ => rfl)) pe_int (nomark _)))) (fun _ _ _ _ _ => (pv 13)))
      (pss_cons (ps_if (pt_cmpR op_ne (pe_prop (pv 5) CW.cl PDd FDd (hr.mono (by decide)) bDd .nil pass0 (by rfl)) (pe_ifExp (pt_cmpR (op_neD hr.units) (pv 10) (pe_lst pa_nil) (nomark _)) (pe_ix ix_seq (pv 10) (pe_un un_neg pe_int) (fun _ _ => rfl)) (pe_un un_neg pe_int)) (nomark _)) (pss_one (ps_ret pe_bl)) pss_nil)
      (pss_cons (ps_if (pt_cmpR op_ne (pe_prop (pv 5) CW.cl PDe FDe (hr.mono (by decide)) bDe .nil pass0 (by rfl)) (pe_ifExp (pt_cmpR (op_neD hr.units) (pv 10) (pe_lst pa_nil) (nomark _)) (Dsign.call (hr.mono (by decide)) (pa_cons (pe_ix ix_seq (pv 3) (pe_ix ix_seq (pv 10) (pe_un un_neg pe_int) (fun _ _ => rfl)) (fun _ _ => rfl)) pa_nil)) pe_int) (nomark _)) (pss_one (ps_ret pe_bl)) pss_nil)
      (pss_cons (ps_set (i := 11) scLaw.nd rfl (.inl rfl) (pe_callB (cr_all rfl) (by rfl) T.all (by decide +kernel) (pa_cons (pe_lc (own := [("n", 6)]) (g := gName 6) (by rfl) scLaw.nd (pi_range2 (by rfl) T.range (pa_cons (pe_un un_neg pe_int) (pa_cons (pe_op op_add (pe_callB call_len_seq (by rfl) T.len PySem.boot_len (pa_cons (pv 3) pa_nil)) pe_int) pa_nil))) (blkOk_by (own := [("n", 6)]) (N := ["script", "pen", "turn", "row", "under", "piece", "n", "upper", "due", "told", "left", "is_full", "odd", "k"]) (sc := defScope sLaw) (by decide +kernel)) (fun _ _ _ _ _ => pg_name (i := 6) scLaw.nd rfl (Or.inl rfl)) (fun _ _ _ _ _ => pts_nil) (fun _ _ _ _ _ => (pe_cmpR op_eq (pe_op op_mod (pe_callTy call_int1 (by rfl) T.int (by decide +kernel) (pa_cons (Dupper.call (hr.mono (by decide)) (pa_cons (pv 3) (pa_cons (pv 6) pa_nil))) pa_nil)) (pv 4)) pe_int (nomark _)))) pa_nil)))
      (pss_cons (ps_if (pw_or (pt_cmpR op_ne (pe_prop (pv 5) CW.cl PDw FDw (hr.mono (by decide)) bDw .nil pass0 (by rfl)) (pv 11) (nomark _)) (pw_or (pt_val (pe_callB call_isi (by rfl) T.isinstance (by decide +kernel) (pa_cons (pe_prop (pv 5) CW.cl PDe FDe (hr.mono (by decide)) bDe .nil pass0 (by rfl)) (pa_cons (pe_bltn (v := .ty "bool") (by rfl) T.bool (by decide +kernel) rfl) pa_nil)))) (pw_or1 (pt_not (pt_val (pe_callB call_isi (by rfl) T.isinstance (by decide +kernel) (pa_cons (pe_prop (pv 5) CW.cl PDw FDw (hr.mono (by decide)) bDw .nil pass0 (by rfl)) (pa_cons (pe_bltn (v := .ty "bool") (by rfl) T.bool (by decide +kernel) rfl) pa_nil)))))))).pt (pss_one (ps_ret pe_bl)) pss_nil)
      (pss_cons (ps_set (i := 12) scLaw.nd rfl (.inl rfl) (Dpick.call (hr.mono (by decide)) (pa_cons (pv 1) (pa_cons (pe_lst (pa_cons pe_bl (pa_cons pe_non (pa_cons pe_str (pa_cons (pe_tup (pa_cons pe_int pa_nil)) (pa_cons pe_bl pa_nil)))))) pa_nil))))
      (pss_one (ps_if (pw_or (pt_cmpR (op_neD hr.units) (Dtold.call (hr.mono (by decide)) (pa_cons (pv 5) (pa_cons (pv 12) pa_nil))) (pe_tup (pa_cons pe_str (pa_cons (pv 12) pa_nil))) (nomark _)) (pw_or1 (pt_not (pt_val (Dispiece.call (hr.mono (by decide)) (pa_cons (pv 5) (pa_cons (pv 3) (pa_cons (pv 4) pa_nil)))))))).pt (pss_one (ps_ret pe_bl)) pss_nil))))))))))))
      (pss_one (ps_ret pe_bl)))), ?_⟩
    refine ⟨_, rfl, a, ns, rfl, hS, hlen, fun p l H0 hp0 s0 hP0 => ?_⟩
    refine ⟨_, rfl, a, _, rfl, .inl (s0.seq hS), _, _, rfl, _, _, rfl, rfl, ?_⟩
    have hz : ∃ z : Int, (if (((ns.map V.int).length : Nat) : Int) < 5 then (((ns.map V.int).length : Nat) : Int) else 5) = z ∧ 0 ≤ z ∧ z ≤ 5 := by
      refine ⟨_, rfl, ?_, ?_⟩ <;> split <;> omega
    obtain ⟨z, ez, z0, z5⟩ := hz
    rw [ez]
    refine ⟨_, rfl, by omega, by omega, ?_⟩
    refine for_range (lo := 0) (n := (4 + z).toNat) (fun i σ H' => Kp p H0 H' ∧ ∃ (a' b' : Int) (y2 y3 y4 y5 y6 y7 y8 y9 y10 y11 y12 y13 : Option V), Pen H' p l ns a' b' ∧ a' ≤ 10000 * i ∧ σ = [some (.ref a), some (.ref p), y2, y3, y4, y5, y6, y7, y8, y9, y10, y11, y12, y13])
      ⟨Kp.refl _ _, 0, 0, none, none, none, none, none, none, none, none, none, none, none, none, hP0, by omega, rfl⟩ ?_ ?_
    · rintro i σ H1 hi ⟨hK1, a1, b1, y2, y3, y4, y5, y6, y7, y8, y9, y10, y11, y12, y13, hP1, ha1, rfl⟩
      have hi9 : i < 9 := by omega
      refine ⟨_, rfl, p, l, ns, a1, b1, _, rfl, hP1, by omega, by decide, by decide, fun d2 a2 b2 H2 d20 d21 ha2 hP2 hK2 => ?_⟩
      refine ⟨_, _, rfl, rfl, _, rfl, ?_⟩
      refine ite2 (fun _ => ?b1) (fun _ => ?b2)
      case' b1 => refine ⟨_, rfl, p, l, ns, a2, b2, rfl, hP2, by omega, fun tF rl r un a3 b3 H3 hF ha3 hP3 hK3 => ?_⟩
      case' b2 => refine ⟨_, rfl, p, l, ns, a2, b2, rfl, hP2, by omega, fun tF rl r un a3 b3 H3 hF ha3 hP3 hK3 => ?_⟩
      all_goals
        have hK13 := (hK1.trans hK2).trans hK3
        refine ⟨tF, _, rfl, .inl (.inl hF.ht), rfl, _, _, rfl, _, _, rfl, rfl, ?_⟩
        -- piece
        refine ⟨_, rfl, _, rfl, ?_⟩
        intro x dx nx ndx nex
        refine ⟨H3, x, dx, rl, r, un, rfl, same_inst nx ndx, nx, upd_same, .inl (.inl hF.hl), by have := hF.len; omega, hF.u1, hF.ub.up (by decide), fun pr u H4 hL s4 hPA => ⟨rfl, ?_⟩⟩
        have hP4 := hP3.same s4
        have hrl4 := s4 _ _ hF.hl
        have hrlen := hF.len
        have hrb := hF.bd
        have hu1 := hF.u1
        have hub := hF.ub
        have hK14 := hK13.trans (Kp.of_same s4)
        have hlenP := hL.len
        have hpb : ∀ c ∈ pr, Bd 230 c := fun c hc => (hL.bd hrb c hc).up (by decide)
        have hrb' : ∀ c ∈ r, Bd 230 c := fun c hc => (hrb c hc).up (by decide)
        have huu : Bd 230 (u : Int) := (hL.ub hub).up (by decide)
        -- the places
        refine ⟨_, rfl, _, _, rfl, rfl, ⟨by decide, by decide, by decide, by decide, by decide⟩, fun t1 ht1 => ?_⟩
        have s5 := same_new (o := .lst (rgV (-3) 4)) ht1
        have e5 : (upd H4 t1 (.lst (rgV (-3) 4))) t1 = some (.lst ([-3, -2, -1, 0, 1, 2, 3].map V.int)) := by rw [upd_same]; rfl
        have hP5 := hP4.same s5
        have hrl5 := s5 _ _ hrl4
        have hPA5 := hPA.same s5
        have hK15 := hK14.trans (Kp.of_same s5)
        generalize upd H4 t1 (.lst (rgV (-3) 4)) = H5 at s5 e5 hP5 hrl5 hPA5 hK15 ⊢
        refine ⟨_, rfl, p, l, ns, a3, b3, rfl, hP5, by omega, fun x1 a6 b6 H6 hx1 ha6 hP6 hK6 => ?_⟩
        have e6 := hK6 _ _ (ne_of e5 hP5.hd (by intro q; cases q)) e5
        have hrl6 := hK6 _ _ (ne_of hrl5 hP5.hd (by intro q; cases q)) hrl5
        have hPA6 := hPA5.kp hK6 hP5.hd
        have hK16 := hK15.trans hK6
        refine ⟨_, rfl, p, l, ns, a6, b6, rfl, hP6, by omega, fun x2 a7 b7 H7 hx2 ha7 hP7 hK7 => ?_⟩
        have e7 := hK7 _ _ (ne_of e6 hP6.hd (by intro q; cases q)) e6
        have hrl7 := hK7 _ _ (ne_of hrl6 hP6.hd (by intro q; cases q)) hrl6
        have hPA7 := hPA6.kp hK7 hP6.hd
        have hK17 := hK16.trans hK7
        refine ⟨_, rfl, by show 2 ≤ sizeLine; decide, fun t2 ht2 => ?_⟩
        have s8 := same_new (o := .lst [.int x1, .int (-x2)]) ht2
        have e8 := s8 _ _ e7
        have f8 : (upd H7 t2 (.lst [.int x1, .int (-x2)])) t2 = some (.lst ([x1, -x2].map V.int)) := upd_same
        have hP8 := hP7.same s8
        have hrl8 := s8 _ _ hrl7
        have hPA8 := hPA7.same s8
        have hK18 := hK17.trans (Kp.of_same s8)
        generalize upd H7 t2 (.lst [.int x1, .int (-x2)]) = H8 at s8 e8 f8 hP8 hrl8 hPA8 hK18 ⊢
        refine ⟨t1, t2, _, _, rfl, rfl, e8, f8, by show 7 + 2 ≤ sizeLine; decide, fun t3 ht3 => ?_⟩
        rw [← List.map_append]
        have hmb : ∀ m ∈ ([-3, -2, -1, 0, 1, 2, 3] ++ [x1, -x2] : List Int), Bd 230 m := fun m hm => by
          rcases List.mem_append.mp hm with hm | hm
          · simp only [List.mem_cons, List.not_mem_nil, or_false] at hm
            rcases hm with rfl | rfl | rfl | rfl | rfl | rfl | rfl <;> (unfold Bd; decide +kernel)
          · simp only [List.mem_cons, List.not_mem_nil, or_false] at hm
            rcases hm with rfl | rfl
            · exact hx1.up (by decide)
            · have := hx2.up (b := 230) (by decide)
              unfold Bd at *
              rw [Int.natAbs_neg]; exact this
        generalize ([-3, -2, -1, 0, 1, 2, 3] ++ [x1, -x2] : List Int) = ms at hmb ⊢
        have s9 := same_new (o := .lst (ms.map V.int)) ht3
        have e9 : (upd H8 t3 (.lst (ms.map V.int))) t3 = some (.lst (ms.map V.int)) := upd_same
        have hP9 := hP8.same s9
        have hrl9 := s9 _ _ hrl8
        have hPA9 := hPA8.same s9
        have hK19 := hK18.trans (Kp.of_same s9)
        generalize upd H8 t3 (.lst (ms.map V.int)) = H9 at s9 e9 hP9 hrl9 hPA9 hK19 ⊢
        have hud : 0 < u := hL.u1
        refine ⟨t3, rfl, ⟨_, .inl (.inl e9)⟩, for_list (K := K) (a := t3) (xs := ms.map V.int) (fun j σ H' => Same H9 H' ∧ ∃ (y6 y7 y8 y9 : Option V), σ = [some (.ref a), some (.ref p), some (.int (0 + (i : Nat))), some (.ref rl), some (.int un), some (.ref x), y6, y7, y8, y9, y10, y11, y12, y13])
          ⟨Same.refl _, _, _, _, _, rfl⟩ (fun j σ H' _ ⟨e, _⟩ => .inl (.inl (e _ _ e9))) ?_ ?_⟩
        · rintro j v σ H10 hj ⟨s10, z6, z7, z8, z9, rfl⟩
          rw [List.getElem?_map] at hj
          obtain ⟨n, hn, rfl⟩ := Option.map_eq_some_iff.mp hj
          have hnb := hmb n (List.mem_of_getElem? hn)
          -- upper
          refine ⟨_, rfl, _, rfl, rl, r, n, rfl, .inl (.inl (s10 _ _ hrl9)), by omega, hrb', hnb, fun H11 s11 => ?_⟩
          refine ⟨_, rfl, .inl ⟨_, rfl, _, rfl, _, _, rfl, rfl, by omega, rfl, _, rfl, ?_⟩⟩
          rw [dint]
          have s911 := s10.trans s11
          by_cases h0 : evalR r n % (un : Int) = 0
          · rw [decide_eq_true h0]
            refine iteT ⟨_, rfl, _, rfl, _, _, rfl, rfl, wide_div (by omega) hub (by decide) (by decide), ?_⟩
            refine ⟨_, rfl, _, rfl, x, .int n, pr, u, rfl, hPA9.same s911, by omega, hud, huu, hpb, .inl ⟨n, rfl, hnb, .inl ⟨(hL.mod n).mp h0, fun H12 s12 => ?_⟩⟩⟩
            refine ⟨_, rfl, _, rfl, _, _, .int _, .int _, rfl, rfl, _, rfl, ?_⟩
            rw [hL.div n, eqv_int]
            refine iteF ?_
            refine ⟨_, rfl, _, _, _, _, false, rfl, .ty "bool", .base (.int _), kit_ty (by decide +kernel), _, rfl, iteF ?_⟩
            exact ⟨s911.trans s12, _, _, _, _, rfl⟩
          · rw [decide_eq_false h0]
            refine iteF ⟨_, rfl, by show 2 ≤ sizeLine; decide, fun tD htD => ?_⟩
            have s12 := same_new (o := .tup [.str "fraction", .int n]) htD
            have e12 : (upd H11 tD (.tup [.str "fraction", .int n])) tD = some (.tup [.str "fraction", .int n]) := upd_same
            generalize upd H11 tD (.tup [.str "fraction", .int n]) = H12 at s12 e12 ⊢
            have s912 := s911.trans s12
            refine ⟨_, rfl, _, rfl, x, .int n, pr, u, rfl, hPA9.same s912, by omega, hud, huu, hpb, .inl ⟨n, rfl, hnb, .inr ⟨fun z => h0 ((hL.mod n).mpr z), fun tt H13 s13 e13 => ?_⟩⟩⟩
            refine ⟨_, rfl, _, rfl, _, _, .tup (.inl (.inl e13)) (.cons (.str _) (.cons (.int _) .nil)), .tup (.inl (.inl (s13 _ _ e12))) (.cons (.str _) (.cons (.int _) .nil)), sh_frac n, sh_frac n, _, rfl, ?_⟩
            rw [show PyData.eqv (.tuple [.str "fraction", .int n]) (.tuple [.str "fraction", .int n]) = true from (by
              show (PyData.eqv (.str "fraction") (.str "fraction") && (PyData.eqv (.int n) (.int n) && true)) = true
              rw [eqv_int]; decide)]
            refine iteF ?_
            refine ⟨_, rfl, _, _, _, _, false, rfl, .ty "bool", .base (.tup e13), kit_ty (by decide +kernel), _, rfl, iteF ?_⟩
            exact ⟨s912.trans s13, _, _, _, _, rfl⟩
        · rintro σ H10 ⟨s10, z6, z7, z8, z9, rfl⟩
          -- left
          have hrl10 := s10 _ _ hrl9
          have hPA10 := hPA9.same s10
          have hP10 := hP9.same s10
          have hK110 := hK19.trans (Kp.of_same s10)
          refine ⟨_, rfl, rl, _, rfl, .inl (.inl (.inl hrl10)), _, rfl, by rw [List.length_map]; omega, by rw [List.length_map]; omega, fun D hD => ?_⟩
          rw [List.length_map]
          refine lc_range (lo := 0) (n := r.length) (fun k Hx => Same H10 Hx ∧ Hx D = some (.lst ((leftL r k).map V.int))) ⟨same_new hD, upd_same⟩ ?_ ?_
          · rintro k Hx hk ⟨sx, hx⟩
            obtain ⟨c, hc, gc⟩ := get_int (r := r) (k := k) hk
            have ei : (0 + (k : Nat) : Int) = ((k : Nat) : Int) := Int.zero_add _
            refine ⟨rfl, _, rfl, _, rfl, .inl ⟨rl, _, _, _, rfl, rfl, .inl (.inl (sx _ _ hrl10)), atI_of ei gc, rfl, _, rfl, ?_⟩⟩
            rw [dint]
            have eg := gd_int hc
            refine ite2 (fun hb => ?_) (fun hb => ?_)
            · have hc0 : c ≠ 0 := fun z => by rw [z] at hb; exact absurd hb (by decide)
              refine ⟨_, rfl, _, hx, by rw [List.length_map]; exact small1000' (Nat.le_trans (leftL_len r k) (by omega)), same_mut sx hD, ?_⟩
              rw [upd_same, leftL_succ, eg, if_pos hc0, List.map_append, ei]
              rfl
            · have hc0 : c = 0 := Classical.byContradiction fun z => hb (by rw [decide_eq_false z]; rfl)
              refine ⟨sx, ?_⟩
              rw [hx, leftL_succ, eg, if_neg (fun z => z hc0), List.append_nil]
          · rintro H11 ⟨s11, e11⟩
            have hPA11 := hPA10.same s11
            have hrl11 := s11 _ _ hrl10
            have hP11 := hP10.same s11
            have hK111 := hK110.trans (Kp.of_same s11)
            -- degree
            have hLO : LeftOk r pr := hL.left
            obtain ⟨dx3, ra3, hi11, ht11⟩ := id hPA11
            refine ⟨_, rfl, x, dx3, _, rfl, hi11, x, pr, u, rfl, hPA11, ?_⟩
            refine rd_deg (D := D) (by rfl) e11 hLO fun H12 s12 => ?_
            refine ⟨rfl, _, rfl, ?_⟩
            rw [dint, decide_eq_true rfl]
            refine iteF ?_
            -- end
            have hPA12 := hPA11.same s12
            refine ⟨_, rfl, x, dx3, _, rfl, s12 _ _ hi11, x, pr, u, rfl, hPA12, ?_⟩
            refine rd_end (D := D) (by rfl) (by rfl) (s12 _ _ e11) (s12 _ _ hrl11) hLO fun H13 s13 => ?_
            refine ⟨rfl, _, rfl, ?_⟩
            rw [dint, decide_eq_true rfl]
            refine iteF ?_
            have s1113 := s12.trans s13
            have hPA13 := hPA11.same s1113
            have hrl13 := s1113 _ _ hrl11
            have hP13 := hP11.same s1113
            have hK113 := hK111.trans (Kp.of_same s1113)
            -- is_full
            refine ⟨_, rfl, _, rfl, rl, _, rfl, .inl (.inl (.inl hrl13)), _, _, rfl, rfl, _, _, rfl, ⟨by omega, by omega, by rw [List.length_map]; omega, by rw [List.length_map]; omega⟩, fun D2 hD2 => ?_⟩
            rw [List.length_map]
            have en : (((r.length : Nat) : Int) + 2 - -1).toNat = r.length + 3 := by omega
            rw [en]
            refine lc_range (lo := -1) (n := r.length + 3) (fun k Hx => Same H13 Hx ∧ Hx D2 = some (.lst ((fullL r un k).map V.bl))) ⟨same_new hD2, upd_same⟩ ?_ ?_
            · rintro k Hx hk ⟨sx, hx⟩
              have hkb : Bd 230 (-1 + ((k : Nat) : Int)) := bd_small (by omega) (by omega) (by decide)
              refine ⟨rfl, _, rfl, _, rfl, rl, r, _, rfl, .inl (.inl (sx _ _ hrl13)), by omega, hrb', hkb, fun Hy sy => ?_⟩
              refine .inl ⟨_, rfl, _, rfl, _, _, rfl, rfl, by omega, rfl, ?_⟩
              dsimp only
              rw [dint]
              refine ⟨_, sy _ _ hx, ?_, same_mut (sx.trans sy) hD2, ?_⟩
              · rw [List.length_map]
                unfold fullL
                rw [List.length_map, List.length_range]
                exact small1000' (by omega)
              · rw [upd_same, fullL_succ, List.map_append]
                rfl
            · rintro H14 ⟨s14, e14⟩
              refine ⟨D2, _, rfl, .inl (.inl e14), ?_⟩
              have hfl := fullL_all hL
              generalize (fullL r un (r.length + 3)).all id = bf at hfl ⊢
              have hi13 := s1113 _ _ hi11
              have hi14 := s14 _ _ hi13
              have hPA14 := hPA13.same s14
              -- is_whole
              refine ⟨_, rfl, x, dx3, _, rfl, hi14, x, pr, u, rfl, hPA14, by omega, hud, huu, fun H15 bw s15 hbw => ?_⟩
              have ebw : bw = bf := by
                rw [Bool.eq_iff_iff, hbw, hfl]
              subst ebw
              refine ⟨_, rfl, rfl, _, rfl, ?_⟩
              rw [show decide (V.bl bw = V.bl bw) = true from decide_eq_true rfl]
              refine iteF ?_
              have hi15 := s15 _ _ hi14
              have hPA15 := hPA14.same s15
              refine ⟨_, rfl, x, dx3, _, rfl, hi15, x, pr, u, rfl, hPA15, _, _, _, _, false, rfl, .ty "bool", .base (.int _), kit_ty (by decide +kernel), ?_⟩
              refine ⟨_, rfl, iteF ?_⟩
              refine ⟨_, rfl, x, dx3, _, rfl, hi15, x, pr, u, rfl, hPA15, by omega, hud, huu, fun H16 bw2 s16 _ => ?_⟩
              refine ⟨_, _, _, _, true, rfl, .ty "bool", .base (.bl _), kit_ty (by decide +kernel), ?_⟩
              refine ⟨_, rfl, iteF ?_⟩
              -- odd
              have s1316 := s14.trans (s15.trans s16)
              have hP16 := hP13.same s1316
              have hPA16 := hPA13.same s1316
              have hrl16 := s1316 _ _ hrl13
              have hK116 := hK113.trans (Kp.of_same s1316)
              refine ⟨_, rfl, by show 1 ≤ sizeLine; decide, fun tT htT => ?_⟩
              have s17 := same_new (o := .tup [.int 1]) htT
              have e17 : (upd H16 tT (.tup [.int 1])) tT = some (.tup [.int 1]) := upd_same
              generalize upd H16 tT (.tup [.int 1]) = H17 at s17 e17 ⊢
              refine ⟨by show 5 ≤ sizeLine; decide, fun tL htL => ?_⟩
              have s18 := same_new (o := .lst [.bl true, .non, .str "0", .ref tT, .bl false]) htL
              have e18 : (upd H17 tL (.lst [.bl true, .non, .str "0", .ref tT, .bl false])) tL = some (.lst [.bl true, .non, .str "0", .ref tT, .bl false]) := upd_same
              have eT18 := s18 _ _ e17
              have s1618 := s17.trans s18
              have hP18 := hP16.same s1618
              have hPA18 := hPA16.same s1618
              have hrl18 := s1618 _ _ hrl16
              have hK118 := hK116.trans (Kp.of_same s1618)
              have hneL : tL ≠ p := fun z => by rw [z, (hP16.same s17).hd] at htL; cases htL
              generalize upd H17 tL (.lst [.bl true, .non, .str "0", .ref tT, .bl false]) = H18 at s18 e18 eT18 hP18 hPA18 hrl18 hK118 ⊢
              refine ⟨p, l, tL, ns, a7, b7, _, rfl, hP18, by omega, .inl (.inl e18), hneL, by show 1 ≤ 5; decide, by show 5 ≤ 100000; decide, ?_⟩
              intro jj v a9 b9 H19 hj9 ha9 hP19 hK19'
              have eT19 := hK19' _ _ (ne_of eT18 hP18.hd (by intro q; cases q)) eT18
              have hPA19 := hPA18.kp hK19' hP18.hd
              have hrl19 := hK19' _ _ (ne_of hrl18 hP18.hd (by intro q; cases q)) hrl18
              have hK119 := hK118.trans hK19'
              have hodd : ∀ H', Same H19 H' → OddOk K H' v := fun H' sx => by
                have hm := List.mem_of_getElem? hj9
                simp only [List.mem_cons, List.not_mem_nil, or_false] at hm
                rcases hm with rfl | rfl | rfl | rfl | rfl
                · exact ⟨⟨"bool", true, true, .base (.bl _), by decide +kernel, by decide +kernel, rfl⟩, _, .bl _, by decide +kernel, by decide +kernel⟩
                · exact ⟨⟨"NoneType", false, false, .base .non, by decide +kernel, by decide +kernel, rfl⟩, _, .non, by decide +kernel, by decide +kernel⟩
                · exact ⟨⟨"str", false, false, .base (.str _), by decide +kernel, by decide +kernel, rfl⟩, _, .str _, by decide +kernel, by decide +kernel⟩
                · exact ⟨⟨"tuple", false, false, .base (.tup (sx _ _ eT19)), by decide +kernel, by decide +kernel, rfl⟩, _, .tup (.inl (.inl (sx _ _ eT19))) (.cons (.int _) .nil), by decide +kernel, by decide +kernel⟩
                · exact ⟨⟨"bool", true, true, .base (.bl _), by decide +kernel, by decide +kernel, rfl⟩, _, .bl _, by decide +kernel, by decide +kernel⟩
              refine ⟨_, rfl, _, rfl, x, v, pr, u, rfl, hPA19, by omega, hud, huu, hpb, .inr ⟨(hodd H19 (Same.refl _)).1, fun tt H20 s20 e20 => ?_⟩⟩
              refine ⟨_, rfl, by show 2 ≤ sizeLine; decide, fun tP htP => ?_⟩
              have s21 := same_new (o := .tup [.str "place", v]) htP
              have e21 : (upd H20 tP (.tup [.str "place", v])) tP = some (.tup [.str "place", v]) := upd_same
              generalize upd H20 tP (.tup [.str "place", v]) = H21 at s21 e21 ⊢
              have s1921 := s20.trans s21
              obtain ⟨_, dd, hd1, hd2, hd3⟩ := hodd H21 s1921
              refine ⟨_, _, .tup (.inl (.inl (s21 _ _ e20))) (.cons (.str _) (.cons hd1 .nil)), .tup (.inl (.inl e21)) (.cons (.str _) (.cons hd1 .nil)), hd2, hd2, _, rfl, ?_⟩
              rw [hd3]
              refine iteF ?_
              refine ⟨_, rfl, _, rfl, _, rfl, x, rl, r, pr, un, u, rfl, hPA19.same s1921, .inl (.inl (s1921 _ _ hrl19)), hL, hrlen, hrb, hub.up (by decide), fun H22 s22 => ?_⟩
              refine ⟨_, rfl, iteF ?_⟩
              refine ⟨hK119.trans (Kp.of_same (s1921.trans s22)), a9, b9, _, _, _, _, _, _, _, _, _, _, _, _, hP19.same (s1921.trans s22), ?_, rfl⟩
              have : (10000 : Int) * ((i + 1 : Nat) : Int) = 10000 * (i : Int) + 10000 := by omega
              omega
    · rintro σ H1 ⟨hK1, a1, b1, y2, y3, y4, y5, y6, y7, y8, y9, y10, y11, y12, y13, hP1, ha1, rfl⟩
      exact q _
end
end Ef
set_option Elab.async false
set_option linter.all false
set_option maxRecDepth 100000
set_option maxHeartbeats 8000000
namespace Ef
open PySem PySem.Spec PyProof.Rows L2
theorem at_mk {K : PySem.W.Frag} {h : Heap} {mg : Str → Option Value} {x : Str} {st : Stmt} {f : Addr} {oc kV doc pm cdv ct : Value} {od an : Option Addr} {osl : Array (Option Value)} (X : K.In h) (G : h.Ns mainGlobals mg) (a : PySem.W.nsIn K mainGlobals x = some (some (.ref f)))
    (l : K.lookup f = some ⟨oc, od, .func (PySem.W.fnOf x x (defArgs st) (defBody st) (defScope st) .none kV doc pm an cdv ct), osl⟩) (c : PySem.W.codeIn K cdv x = true) (k : PySem.W.keepIn K (.ref f) = true) : At K mg x st := ⟨f, _, PySem.W.mg_of X G a, fun_mk l c k⟩
theorem exm_by {K : PySem.W.Frag} {S : Addr} {c : Value} {b : Bool} (h1 : PySem.W.subIn K (.ref S) (.type "BaseException") = some true) (h2 : PySem.W.isClsIn K S = true) (h3 : PySem.W.typeIn K (.ref S) = some (.type "type")) (h4 : PySem.W.subIn K c (.ref S) = some b) :
    PySem.W.exmOne K c (.ref S) = some b := by
  unfold PySem.W.exmOne PySem.W.kitCls
  have h2' : (PySem.W.clsIn K S).isSome = true := h2
  rw [h1, if_pos (by rfl)]
  show (if ((PySem.W.clsIn K S).isSome && PySem.W.typeIn K (.ref S) == some (.type "type")) = true then PySem.W.subIn K c (.ref S) else none) = some b
  rw [h2', h3, if_pos (by rfl)]
  exact h4
theorem all_mk {P : Program} {w : World} {K : PySem.W.Frag} {h : Heap} {mg : Str → Option Value} {fa C CB CN tD f0 f1 f2 f3 f4 f5 f6 f7 f8 f9 f10 f11 f12 f13 f14 f15 f16 f17 f18 f19 f20 f21 f22 f23 f24 f25 f26 f27 f28 f29 p25 p26 p27 : Addr} (X : K.In h) (G : h.Ns mainGlobals mg) (hfa : mg "law" = some (.ref fa))
    {od0 an0 od1 an1 od2 an2 od3 an3 od4 an4 od5 an5 od6 an6 od7 an7 od8 an8 od9 an9 od10 an10 od11 an11 od12 an12 od13 an13 od14 an14 od15 an15 od16 an16 od17 an17 od18 an18 od19 an19 od20 an20 od21 an21 od22 an22 od23 an23 od24 an24 od25 an25 od26 an26 od27 an27 od28 an28 od29 an29 odD : Option Addr} {sl0 sl1 sl2 sl3 sl4 sl5 sl6 sl7 sl8 sl9 sl10 sl11 sl12 sl13 sl14 sl15 sl16 sl17 sl18 sl19 sl20 sl21 sl22 sl23 sl24 sl25 sl26 sl27 sl28 sl29 slD : Array (Option Value)} {oc0 kV0 dc0 pm0 cd0 ct0 oc1 kV1 dc1 pm1 cd1 ct1 oc2 kV2 dc2 pm2 cd2 ct2 oc3 kV3 dc3 pm3 cd3 ct3 oc4 kV4 dc4 pm4 cd4 ct4 oc5 kV5 dc5 pm5 cd5 ct5 oc6 kV6 dc6 pm6 cd6 ct6 oc7 kV7 dc7 pm7 cd7 ct7 oc8 kV8 dc8 pm8 cd8 ct8 oc9 kV9 dc9 pm9 cd9 ct9 oc10 kV10 dc10 pm10 cd10 ct10 oc11 kV11 dc11 pm11 cd11 ct11 oc12 kV12 dc12 pm12 cd12 ct12 oc13 kV13 dc13 pm13 cd13 ct13 oc14 kV14 dc14 pm14 cd14 ct14 oc15 kV15 dc15 pm15 cd15 ct15 oc16 kV16 dc16 pm16 cd16 ct16 oc17 kV17 dc17 pm17 cd17 ct17 oc18 kV18 dc18 pm18 cd18 ct18 oc19 kV19 dc19 pm19 cd19 ct19 oc20 kV20 dc20 pm20 cd20 ct20 oc21 kV21 dc21 pm21 cd21 ct21 oc22 kV22 dc22 pm22 cd22 ct22 oc23 kV23 dc23 pm23 cd23 ct23 oc24 kV24 dc24 pm24 cd24 ct24 oc25 kV25 dc25 pm25 cd25 ct25 oc26 kV26 dc26 pm26 cd26 ct26 oc27 kV27 dc27 pm27 cd27 ct27 oc28 kV28 dc28 pm28 cd28 ct28 oc29 kV29 dc29 pm29 cd29 ct29 ocD : Value} {rest25 rest26 rest27 : List Value} {tkD : Tok} {nD : Nat} {nmCB qCB : Str} {NCB : Addr} {bsCB bmCB : List Value} {snCB : List Str} {subCB : List Value} {abCB : Bool} {colCB : Option Bool} {ddCB : Option Addr} {e0CB e1CB e2CB e3CB e5CB : Option Value} {nmCN qCN : Str} {NCN : Addr} {bsCN bmCN : List Value} {snCN : List Str} {subCN : List Value} {abCN : Bool} {colCN : Option Bool} {ddCN : Option Addr} {e0CN e1CN e2CN e3CN e5CN : Option Value}
    (aC : PySem.W.nsIn K mainGlobals "Piece" = some (some (.ref C)))
    (a0 : PySem.W.nsIn K mainGlobals "is_int" = some (some (.ref f0)))
    (l0 : K.lookup f0 = some ⟨oc0, od0, .func (PySem.W.fnOf "is_int" "is_int" (defArgs sIsInt) (defBody sIsInt) (defScope sIsInt) .none kV0 dc0 pm0 an0 cd0 ct0), sl0⟩)
    (c0 : PySem.W.codeIn K cd0 "is_int" = true)
    (k0 : PySem.W.keepIn K (.ref f0) = true)
    (a1 : PySem.W.nsIn K mainGlobals "is_int_from" = some (some (.ref f1)))
    (l1 : K.lookup f1 = some ⟨oc1, od1, .func (PySem.W.fnOf "is_int_from" "is_int_from" (defArgs sFrom) (defBody sFrom) (defScope sFrom) .none kV1 dc1 pm1 an1 cd1 ct1), sl1⟩)
    (c1 : PySem.W.codeIn K cd1 "is_int_from" = true)
    (k1 : PySem.W.keepIn K (.ref f1) = true)
    (a2 : PySem.W.nsIn K mainGlobals "sign_of" = some (some (.ref f2)))
    (l2 : K.lookup f2 = some ⟨oc2, od2, .func (PySem.W.fnOf "sign_of" "sign_of" (defArgs sSign) (defBody sSign) (defScope sSign) .none kV2 dc2 pm2 an2 cd2 ct2), sl2⟩)
    (c2 : PySem.W.codeIn K cd2 "sign_of" = true)
    (k2 : PySem.W.keepIn K (.ref f2) = true)
    (a3 : PySem.W.nsIn K mainGlobals "value_at" = some (some (.ref f3)))
    (l3 : K.lookup f3 = some ⟨oc3, od3, .func (PySem.W.fnOf "value_at" "value_at" (defArgs sVal) (defBody sVal) (defScope sVal) .none kV3 dc3 pm3 an3 cd3 ct3), sl3⟩)
    (c3 : PySem.W.codeIn K cd3 "value_at" = true)
    (k3 : PySem.W.keepIn K (.ref f3) = true)
    (a4 : PySem.W.nsIn K mainGlobals "divisible_everywhere" = some (some (.ref f4)))
    (l4 : K.lookup f4 = some ⟨oc4, od4, .func (PySem.W.fnOf "divisible_everywhere" "divisible_everywhere" (defArgs sDiv) (defBody sDiv) (defScope sDiv) .none kV4 dc4 pm4 an4 cd4 ct4), sl4⟩)
    (c4 : PySem.W.codeIn K cd4 "divisible_everywhere" = true)
    (k4 : PySem.W.keepIn K (.ref f4) = true)
    (a5 : PySem.W.nsIn K mainGlobals "trimmed" = some (some (.ref f5)))
    (l5 : K.lookup f5 = some ⟨oc5, od5, .func (PySem.W.fnOf "trimmed" "trimmed" (defArgs sTrim) (defBody sTrim) (defScope sTrim) .none kV5 dc5 pm5 an5 cd5 ct5), sl5⟩)
    (c5 : PySem.W.codeIn K cd5 "trimmed" = true)
    (k5 : PySem.W.keepIn K (.ref f5) = true)
    (a6 : PySem.W.nsIn K mainGlobals "common_divisor" = some (some (.ref f6)))
    (l6 : K.lookup f6 = some ⟨oc6, od6, .func (PySem.W.fnOf "common_divisor" "common_divisor" (defArgs sCom) (defBody sCom) (defScope sCom) .none kV6 dc6 pm6 an6 cd6 ct6), sl6⟩)
    (c6 : PySem.W.codeIn K cd6 "common_divisor" = true)
    (k6 : PySem.W.keepIn K (.ref f6) = true)
    (a7 : PySem.W.nsIn K mainGlobals "_check_row" = some (some (.ref f7)))
    (l7 : K.lookup f7 = some ⟨oc7, od7, .func (PySem.W.fnOf "_check_row" "_check_row" (defArgs sCheck) (defBody sCheck) (defScope sCheck) .none kV7 dc7 pm7 an7 cd7 ct7), sl7⟩)
    (c7 : PySem.W.codeIn K cd7 "_check_row" = true)
    (k7 : PySem.W.keepIn K (.ref f7) = true)
    (a8 : PySem.W.nsIn K mainGlobals "_law_pen" = some (some (.ref f8)))
    (l8 : K.lookup f8 = some ⟨oc8, od8, .func (PySem.W.fnOf "_law_pen" "_law_pen" (defArgs sPen) (defBody sPen) (defScope sPen) .none kV8 dc8 pm8 an8 cd8 ct8), sl8⟩)
    (c8 : PySem.W.codeIn K cd8 "_law_pen" = true)
    (k8 : PySem.W.keepIn K (.ref f8) = true)
    (a9 : PySem.W.nsIn K mainGlobals "_law_draw" = some (some (.ref f9)))
    (l9 : K.lookup f9 = some ⟨oc9, od9, .func (PySem.W.fnOf "_law_draw" "_law_draw" (defArgs sDraw) (defBody sDraw) (defScope sDraw) .none kV9 dc9 pm9 an9 cd9 ct9), sl9⟩)
    (c9 : PySem.W.codeIn K cd9 "_law_draw" = true)
    (k9 : PySem.W.keepIn K (.ref f9) = true)
    (a10 : PySem.W.nsIn K mainGlobals "_law_pick" = some (some (.ref f10)))
    (l10 : K.lookup f10 = some ⟨oc10, od10, .func (PySem.W.fnOf "_law_pick" "_law_pick" (defArgs sPick) (defBody sPick) (defScope sPick) .none kV10 dc10 pm10 an10 cd10 ct10), sl10⟩)
    (c10 : PySem.W.codeIn K cd10 "_law_pick" = true)
    (k10 : PySem.W.keepIn K (.ref f10) = true)
    (a11 : PySem.W.nsIn K mainGlobals "_law_gcd" = some (some (.ref f11)))
    (l11 : K.lookup f11 = some ⟨oc11, od11, .func (PySem.W.fnOf "_law_gcd" "_law_gcd" (defArgs sGcd) (defBody sGcd) (defScope sGcd) .none kV11 dc11 pm11 an11 cd11 ct11), sl11⟩)
    (c11 : PySem.W.codeIn K cd11 "_law_gcd" = true)
    (k11 : PySem.W.keepIn K (.ref f11) = true)
    (a12 : PySem.W.nsIn K mainGlobals "_law_entry" = some (some (.ref f12)))
    (l12 : K.lookup f12 = some ⟨oc12, od12, .func (PySem.W.fnOf "_law_entry" "_law_entry" (defArgs sEntry) (defBody sEntry) (defScope sEntry) .none kV12 dc12 pm12 an12 cd12 ct12), sl12⟩)
    (c12 : PySem.W.codeIn K cd12 "_law_entry" = true)
    (k12 : PySem.W.keepIn K (.ref f12) = true)
    (a13 : PySem.W.nsIn K mainGlobals "_law_fraction" = some (some (.ref f13)))
    (l13 : K.lookup f13 = some ⟨oc13, od13, .func (PySem.W.fnOf "_law_fraction" "_law_fraction" (defArgs sFrac) (defBody sFrac) (defScope sFrac) .none kV13 dc13 pm13 an13 cd13 ct13), sl13⟩)
    (c13 : PySem.W.codeIn K cd13 "_law_fraction" = true)
    (k13 : PySem.W.keepIn K (.ref f13) = true)
    (a14 : PySem.W.nsIn K mainGlobals "_law_upper" = some (some (.ref f14)))
    (l14 : K.lookup f14 = some ⟨oc14, od14, .func (PySem.W.fnOf "_law_upper" "_law_upper" (defArgs sUp) (defBody sUp) (defScope sUp) .none kV14 dc14 pm14 an14 cd14 ct14), sl14⟩)
    (c14 : PySem.W.codeIn K cd14 "_law_upper" = true)
    (k14 : PySem.W.keepIn K (.ref f14) = true)
    (a15 : PySem.W.nsIn K mainGlobals "_law_is_piece" = some (some (.ref f15)))
    (l15 : K.lookup f15 = some ⟨oc15, od15, .func (PySem.W.fnOf "_law_is_piece" "_law_is_piece" (defArgs sIsp) (defBody sIsp) (defScope sIsp) .none kV15 dc15 pm15 an15 cd15 ct15), sl15⟩)
    (c15 : PySem.W.codeIn K cd15 "_law_is_piece" = true)
    (k15 : PySem.W.keepIn K (.ref f15) = true)
    (a16 : PySem.W.nsIn K mainGlobals "_law_times" = some (some (.ref f16)))
    (l16 : K.lookup f16 = some ⟨oc16, od16, .func (PySem.W.fnOf "_law_times" "_law_times" (defArgs sTimes) (defBody sTimes) (defScope sTimes) .none kV16 dc16 pm16 an16 cd16 ct16), sl16⟩)
    (c16 : PySem.W.codeIn K cd16 "_law_times" = true)
    (k16 : PySem.W.keepIn K (.ref f16) = true)
    (a17 : PySem.W.nsIn K mainGlobals "_law_plus" = some (some (.ref f17)))
    (l17 : K.lookup f17 = some ⟨oc17, od17, .func (PySem.W.fnOf "_law_plus" "_law_plus" (defArgs sPlus) (defBody sPlus) (defScope sPlus) .none kV17 dc17 pm17 an17 cd17 ct17), sl17⟩)
    (c17 : PySem.W.codeIn K cd17 "_law_plus" = true)
    (k17 : PySem.W.keepIn K (.ref f17) = true)
    (a18 : PySem.W.nsIn K mainGlobals "_law_far" = some (some (.ref f18)))
    (l18 : K.lookup f18 = some ⟨oc18, od18, .func (PySem.W.fnOf "_law_far" "_law_far" (defArgs sFar) (defBody sFar) (defScope sFar) .none kV18 dc18 pm18 an18 cd18 ct18), sl18⟩)
    (c18 : PySem.W.codeIn K cd18 "_law_far" = true)
    (k18 : PySem.W.keepIn K (.ref f18) = true)
    (a19 : PySem.W.nsIn K mainGlobals "_law_sign" = some (some (.ref f19)))
    (l19 : K.lookup f19 = some ⟨oc19, od19, .func (PySem.W.fnOf "_law_sign" "_law_sign" (defArgs sLsign) (defBody sLsign) (defScope sLsign) .none kV19 dc19 pm19 an19 cd19 ct19), sl19⟩)
    (c19 : PySem.W.codeIn K cd19 "_law_sign" = true)
    (k19 : PySem.W.keepIn K (.ref f19) = true)
    (a20 : PySem.W.nsIn K mainGlobals "_law_told" = some (some (.ref f20)))
    (l20 : K.lookup f20 = some ⟨oc20, od20, .func (PySem.W.fnOf "_law_told" "_law_told" (defArgs sTold) (defBody sTold) (defScope sTold) .none kV20 dc20 pm20 an20 cd20 ct20), sl20⟩)
    (c20 : PySem.W.codeIn K cd20 "_law_told" = true)
    (k20 : PySem.W.keepIn K (.ref f20) = true)
    (a21 : PySem.W.nsIn K mainGlobals "_law_whole_row" = some (some (.ref f21)))
    (l21 : K.lookup f21 = some ⟨oc21, od21, .func (PySem.W.fnOf "_law_whole_row" "_law_whole_row" (defArgs sWrow) (defBody sWrow) (defScope sWrow) .none kV21 dc21 pm21 an21 cd21 ct21), sl21⟩)
    (c21 : PySem.W.codeIn K cd21 "_law_whole_row" = true)
    (k21 : PySem.W.keepIn K (.ref f21) = true)
    (a22 : PySem.W.nsIn K mainGlobals "law" = some (some (.ref f22)))
    (l22 : K.lookup f22 = some ⟨oc22, od22, .func (PySem.W.fnOf "law" "law" (defArgs sLaw) (defBody sLaw) (defScope sLaw) .none kV22 dc22 pm22 an22 cd22 ct22), sl22⟩)
    (c22 : PySem.W.codeIn K cd22 "law" = true)
    (k22 : PySem.W.keepIn K (.ref f22) = true)
    (a23 : PySem.W.findIn K (.ref C) "__init__" = some (some (.ref f23)))
    (i23 : PySem.W.isFn K (.ref f23) = true)
    (l23 : K.lookup f23 = some ⟨oc23, od23, .func (PySem.W.fnOf "__init__" "Piece.__init__" (defArgs sInit) (defBody sInit) (defScope sInit) (.ref tD) kV23 dc23 pm23 an23 cd23 ct23), sl23⟩)
    (c23 : PySem.W.codeIn K cd23 "Piece.__init__" = true)
    (k23 : PySem.W.keepIn K (.ref f23) = true)
    (lD : K.lookup tD = some ⟨ocD, odD, .seq #[.int 1 tkD] nD, slD⟩)
    (a24 : PySem.W.findIn K (.ref C) "__call__" = some (some (.ref f24)))
    (i24 : PySem.W.isFn K (.ref f24) = true)
    (n24 : PySem.W.fnIn K f24 = true)
    (l24 : K.lookup f24 = some ⟨oc24, od24, .func (PySem.W.fnOf "__call__" "Piece.__call__" (defArgs sCall) (defBody sCall) (defScope sCall) .none kV24 dc24 pm24 an24 cd24 ct24), sl24⟩)
    (c24 : PySem.W.codeIn K cd24 "Piece.__call__" = true)
    (k24 : PySem.W.keepIn K (.ref f24) = true)
    (a25 : PySem.W.findIn K (.ref C) "degree" = some (some (.ref p25)))
    (g25 : PySem.W.specialIn K (.ref p25) "__get__" = some (some (.builtin "property.__get__")))
    (h25 : PySem.W.takesIn K (.ref p25) = some true)
    (r25 : PySem.W.recIn K p25 "property" = some (.ref f25 :: rest25))
    (l25 : K.lookup f25 = some ⟨oc25, od25, .func (PySem.W.fnOf "degree" "Piece.degree" (defArgs sDeg) (defBody sDeg) (defScope sDeg) .none kV25 dc25 pm25 an25 cd25 ct25), sl25⟩)
    (c25 : PySem.W.codeIn K cd25 "Piece.degree" = true)
    (k25 : PySem.W.keepIn K (.ref f25) = true)
    (a26 : PySem.W.findIn K (.ref C) "end" = some (some (.ref p26)))
    (g26 : PySem.W.specialIn K (.ref p26) "__get__" = some (some (.builtin "property.__get__")))
    (h26 : PySem.W.takesIn K (.ref p26) = some true)
    (r26 : PySem.W.recIn K p26 "property" = some (.ref f26 :: rest26))
    (l26 : K.lookup f26 = some ⟨oc26, od26, .func (PySem.W.fnOf "end" "Piece.end" (defArgs sEnd) (defBody sEnd) (defScope sEnd) .none kV26 dc26 pm26 an26 cd26 ct26), sl26⟩)
    (c26 : PySem.W.codeIn K cd26 "Piece.end" = true)
    (k26 : PySem.W.keepIn K (.ref f26) = true)
    (a27 : PySem.W.findIn K (.ref C) "is_whole" = some (some (.ref p27)))
    (g27 : PySem.W.specialIn K (.ref p27) "__get__" = some (some (.builtin "property.__get__")))
    (h27 : PySem.W.takesIn K (.ref p27) = some true)
    (r27 : PySem.W.recIn K p27 "property" = some (.ref f27 :: rest27))
    (l27 : K.lookup f27 = some ⟨oc27, od27, .func (PySem.W.fnOf "is_whole" "Piece.is_whole" (defArgs sWhole) (defBody sWhole) (defScope sWhole) .none kV27 dc27 pm27 an27 cd27 ct27), sl27⟩)
    (c27 : PySem.W.codeIn K cd27 "Piece.is_whole" = true)
    (k27 : PySem.W.keepIn K (.ref f27) = true)
    (mCB : PySem.W.nsIn K mainGlobals "BadPlace" = some (some (.ref CB)))
    (oCB : K.lookup CB = some (excClassObj nmCB qCB CB NCB bsCB bmCB true snCB subCB abCB colCB ddCB e0CB e1CB e2CB e3CB e5CB "ValueError.__new__"))
    (vCB : PySem.HandSPX.refsVE bmCB = true)
    (sCB : PySem.W.findIn K (.ref CB) "__setattr__" = some (some (.builtin "object.__setattr__")))
    (xCB : PySem.W.subIn K (.ref CB) (.type "BaseException") = some true)
    (tCB : PySem.W.typeIn K (.ref CB) = some (.type "type"))
    (kCB : PySem.W.keepIn K (.ref CB) = true)
    (iCB : PySem.W.findIn K (.ref CB) "__init__" = some (some (.ref f28)))
    (uCB : PySem.W.typeIn K (.ref f28) = some (.type "function"))
    (nCB : PySem.W.findIn K (.ref CB) "n" = some none)
    (gaCB : PySem.W.findIn K (.ref CB) "__getattribute__" = some (some (.builtin "BaseException.__getattribute__")))
    (ggCB : PySem.W.findIn K (.ref CB) "__getattr__" = some none)
    (hdCB : PySem.W.hasDictIn K CB = true)
    (l28 : K.lookup f28 = some ⟨oc28, od28, .func (PySem.W.fnOf "__init__" "BadPlace.__init__" (defArgs sErrB) (defBody sErrB) (defScope sErrB) .none kV28 dc28 pm28 an28 cd28 ct28), sl28⟩)
    (c28 : PySem.W.codeIn K cd28 "BadPlace.__init__" = true)
    (k28 : PySem.W.keepIn K (.ref f28) = true)
    (mCN : PySem.W.nsIn K mainGlobals "NotWhole" = some (some (.ref CN)))
    (oCN : K.lookup CN = some (excClassObj nmCN qCN CN NCN bsCN bmCN true snCN subCN abCN colCN ddCN e0CN e1CN e2CN e3CN e5CN "ValueError.__new__"))
    (vCN : PySem.HandSPX.refsVE bmCN = true)
    (sCN : PySem.W.findIn K (.ref CN) "__setattr__" = some (some (.builtin "object.__setattr__")))
    (xCN : PySem.W.subIn K (.ref CN) (.type "BaseException") = some true)
    (tCN : PySem.W.typeIn K (.ref CN) = some (.type "type"))
    (kCN : PySem.W.keepIn K (.ref CN) = true)
    (iCN : PySem.W.findIn K (.ref CN) "__init__" = some (some (.ref f29)))
    (uCN : PySem.W.typeIn K (.ref f29) = some (.type "function"))
    (nCN : PySem.W.findIn K (.ref CN) "n" = some none)
    (gaCN : PySem.W.findIn K (.ref CN) "__getattribute__" = some (some (.builtin "BaseException.__getattribute__")))
    (ggCN : PySem.W.findIn K (.ref CN) "__getattr__" = some none)
    (hdCN : PySem.W.hasDictIn K CN = true)
    (l29 : K.lookup f29 = some ⟨oc29, od29, .func (PySem.W.fnOf "__init__" "NotWhole.__init__" (defArgs sErrN) (defBody sErrN) (defScope sErrN) .none kV29 dc29 pm29 an29 cd29 ct29), sl29⟩)
    (c29 : PySem.W.codeIn K cd29 "NotWhole.__init__" = true)
    (k29 : PySem.W.keepIn K (.ref f29) = true)
    (jN : PySem.W.isClsIn K CN = true)
    (jB : PySem.W.isClsIn K CB = true)
    (xNN : PySem.W.subIn K (.ref CN) (.ref CN) = some true)
    (xBN : PySem.W.subIn K (.ref CB) (.ref CN) = some false)
    (xBB : PySem.W.subIn K (.ref CB) (.ref CB) = some true)
    (pg : PySem.W.plainGet K C Str.empty = true)
    (hd : PySem.W.hasDictIn K C = true)
    (po : PySem.W.plainOver K C = true)
    (sa : PySem.W.findIn K (.ref C) "__setattr__" = some (some (.builtin "object.__setattr__")))
    (mk : PySem.W.makesIn K C = true)
    (kc : PySem.W.keepIn K (.ref C) = true)
    (cc : PySem.W.findIn K (.ref C) "__class__" = some (some (.builtin "object.__class__")))
    (cg : PySem.W.specialIn K (.builtin "object.__class__") "__get__" = some (some (.builtin "getset_descriptor.__get__")))
    (ctk : PySem.W.takesIn K (.builtin "object.__class__") = some true)
    (co : PySem.W.mroIn K C (.type "object") = some true)
    (nr : PySem.W.findIn K (.ref C) "row" = some none)
    (nu : PySem.W.findIn K (.ref C) "under" = some none)
    (zg : PySem.W.nsIn K mainGlobals "gcd" = some (some (.builtin "math.gcd")))
    (z0 : PySem.W.nsIn K mainGlobals "int" = some none)
    (z1 : PySem.W.nsIn K mainGlobals "len" = some none)
    (z2 : PySem.W.nsIn K mainGlobals "list" = some none)
    (z3 : PySem.W.nsIn K mainGlobals "isinstance" = some none)
    (z4 : PySem.W.nsIn K mainGlobals "bool" = some none)
    (z5 : PySem.W.nsIn K mainGlobals "enumerate" = some none)
    (z6 : PySem.W.nsIn K mainGlobals "reversed" = some none)
    (z7 : PySem.W.nsIn K mainGlobals "range" = some none)
    (z8 : PySem.W.nsIn K mainGlobals "tuple" = some none)
    (z9 : PySem.W.nsIn K mainGlobals "abs" = some none)
    (z10 : PySem.W.nsIn K mainGlobals "max" = some none)
    (z11 : PySem.W.nsIn K mainGlobals "min" = some none)
    (z12 : PySem.W.nsIn K mainGlobals "all" = some none)
    : ∃ fd : FuncData, (∀ (s : Shared) (v : Value), BindsTo s fd ⟨[v], []⟩ [("script", v)]) ∧ ∀ base : Heap, K.In base → base.Ns mainGlobals mg → FnOk P w K mg base CX0 7 fa fd ["script"] (spLaw K) := by
  have e := hfa.symm.trans (PySem.W.mg_of X G a22)
  cases e
  have T : TxtL mg := { int := PySem.W.mg_none_of X G z0, len := PySem.W.mg_none_of X G z1, list := PySem.W.mg_none_of X G z2, isinstance := PySem.W.mg_none_of X G z3, bool := PySem.W.mg_none_of X G z4, enumerate := PySem.W.mg_none_of X G z5, reversed := PySem.W.mg_none_of X G z6, range := PySem.W.mg_none_of X G z7, tuple := PySem.W.mg_none_of X G z8, gcd := PySem.W.mg_of X G zg, abs := PySem.W.mg_none_of X G z9, max := PySem.W.mg_none_of X G z10, min := PySem.W.mg_none_of X G z11, all := PySem.W.mg_none_of X G z12 }
  have CP : ClsP K mg C := ⟨⟨pg, hd, po, sa⟩, PySem.W.mg_of X G aC, nr, nu⟩
  have CW : ClsQ K mg C := { toClsP := CP, cc := cc, cg := cg, ct := ctk, co := co }
  have FD : FunD K "__init__" "Piece.__init__" (defArgs sInit) (defBody sInit) (defScope sInit) [V.int 1] [] f23 _ := ⟨⟨_, _, _, _, _, _, _, _, _, _, rfl, l23, c23, .inr ⟨fun z => (by cases z), tD, _, _, _, rfl, lD, rfl, .cons ⟨_, rfl⟩ .nil⟩, .inl rfl⟩, k23⟩
  have bI := binds_init FD
  have M : Mk K C f23 := ⟨mk, a23, i23, kc⟩
  have FCB := fun_mk (st := sErrB) l28 c28 k28
  have bCB := FCB.binds (ps := ["self", "n"]) fun _ _ _ _ _ _ us hl => match us, hl with | [_, _], _ => rfl
  have ECB : ErrC K mg "BadPlace" CB f28 := ⟨⟨⟨_, _, _, _, _, _, _, _, _, _, _, _, _, _, _, oCB, vCB⟩, sCB, xCB, tCB, kCB⟩, PySem.W.mg_of X G mCB, iCB, uCB, nCB, ⟨gaCB, ggCB, xCB, hdCB⟩⟩
  have FCN := fun_mk (st := sErrN) l29 c29 k29
  have bCN := FCN.binds (ps := ["self", "n"]) fun _ _ _ _ _ _ us hl => match us, hl with | [_, _], _ => rfl
  have ECN : ErrC K mg "NotWhole" CN f29 := ⟨⟨⟨_, _, _, _, _, _, _, _, _, _, _, _, _, _, _, oCN, vCN⟩, sCN, xCN, tCN, kCN⟩, PySem.W.mg_of X G mCN, iCN, uCN, nCN, ⟨gaCN, ggCN, xCN, hdCN⟩⟩
  have FCall := fun_mk (st := sCall) l24 c24 k24
  have bC := FCall.binds (ps := ["self", "n"]) fun _ _ _ _ _ _ us hl => match us, hl with | [_, _], _ => rfl
  have F25 := fun_mk (st := sDeg) l25 c25 k25
  have b25 := F25.binds (ps := ["self"]) fun _ _ _ _ _ _ us hl => match us, hl with | [_], _ => rfl
  have PO25 : PropOf K C "degree" p25 f25 := ⟨a25, g25, h25, ⟨rest25, r25⟩⟩
  have F26 := fun_mk (st := sEnd) l26 c26 k26
  have b26 := F26.binds (ps := ["self"]) fun _ _ _ _ _ _ us hl => match us, hl with | [_], _ => rfl
  have PO26 : PropOf K C "end" p26 f26 := ⟨a26, g26, h26, ⟨rest26, r26⟩⟩
  have F27 := fun_mk (st := sWhole) l27 c27 k27
  have b27 := F27.binds (ps := ["self"]) fun _ _ _ _ _ _ us hl => match us, hl with | [_], _ => rfl
  have PO27 : PropOf K C "is_whole" p27 f27 := ⟨a27, g27, h27, ⟨rest27, r27⟩⟩
  refine ⟨PySem.W.fnOf "law" "law" (defArgs sLaw) (defBody sLaw) (defScope sLaw) .none kV22 dc22 pm22 an22 cd22 ct22, fun s v => .of_eq rfl, fun base _ _ => ?_⟩
  have dIsInt := df_isint (P := P) (w := w) (base := base) (at_mk X G a0 l0 c0 k0) T.toTxtW
  have dFrom := df_from (P := P) (w := w) (base := base) (at_mk X G a1 l1 c1 k1) dIsInt
  have dSign := df_sign (P := P) (w := w) (base := base) (at_mk X G a2 l2 c2 k2) 
  have dVal := df_val (P := P) (w := w) (base := base) (at_mk X G a3 l3 c3 k3) 
  have dDiv := df_div (P := P) (w := w) (base := base) (at_mk X G a4 l4 c4 k4) T.toTxtW
  have dTrim := df_trim (P := P) (w := w) (base := base) (at_mk X G a5 l5 c5 k5) T.toTxtW
  have dCom := df_com (P := P) (w := w) (base := base) (at_mk X G a6 l6 c6 k6) T.toTxtQ
  have dCheck := df_check (P := P) (w := w) (base := base) (at_mk X G a7 l7 c7 k7) T.toTxtW dIsInt
  have dPen := df_pen (P := P) (w := w) (base := base) (at_mk X G a8 l8 c8 k8) T.toTxtP
  have dDraw := df_draw (P := P) (w := w) (base := base) (at_mk X G a9 l9 c9 k9) T.toTxtP
  have dPick := df_pick (P := P) (w := w) (base := base) (at_mk X G a10 l10 c10 k10) T.toTxtP dDraw
  have dGcd := df_gcd (P := P) (w := w) (base := base) (at_mk X G a11 l11 c11 k11) T.toTxtJ
  have dEntry := df_entry (P := P) (w := w) (base := base) (at_mk X G a12 l12 c12 k12) dDraw dPick
  have dFrac := df_frac (P := P) (w := w) (base := base) (at_mk X G a13 l13 c13 k13) T.toTxtJ dDraw dPick dEntry
  have dUp := df_up (P := P) (w := w) (base := base) (at_mk X G a14 l14 c14 k14) T.toTxtJ
  have dTimes := df_times (P := P) (w := w) (base := base) (at_mk X G a16 l16 c16 k16) T.toTxtJ
  have dPlus := df_plus (P := P) (w := w) (base := base) (at_mk X G a17 l17 c17 k17) T.toTxtJ
  have dFar := df_far (P := P) (w := w) (base := base) (at_mk X G a18 l18 c18 k18) dDraw dPick
  have dLsign := df_lsign (P := P) (w := w) (base := base) (at_mk X G a19 l19 c19 k19) T.toTxtJ
  have dWrow := df_wrow (P := P) (w := w) (base := base) (at_mk X G a21 l21 c21 k21) T.toTxtJ dDraw dEntry dTimes dPlus
  have FI := ok_init (P := P) (w := w) (base := base) FD T.toTxtQ CP dCheck dFrom dTrim dCom
  have gB := ok_errB (P := P) (w := w) (base := base) FCB ECB
  have gN := ok_errN (P := P) (w := w) (base := base) FCN ECN
  have gC := ok_call (P := P) (w := w) (base := base) FCall CP ECN ECB gN bCN gB bCB dIsInt dVal
  have CC : CallC P w K mg base C CN CB f24 _ := ⟨a24, i24, n24, gC, bC⟩
  have dTold := df_told (P := P) (w := w) (base := base) (at_mk X G a20 l20 c20 k20) ECN ECB ⟨exm_by xCN jN tCN xNN, exm_by xCN jN tCN xBN, exm_by xCB jB tCB xBB⟩ CC
  have dIsp := df_isp (P := P) (w := w) (base := base) (at_mk X G a15 l15 c15 k15) T.toTxtJ CW T.all dGcd
  exact ok_law (fun_mk (st := sLaw) l22 c22 k22) T CW M FI bI PO25 (ok_deg F25 T.toTxtQ CP) b25 PO26 (ok_end F26 T.toTxtQ CP dSign) b26 PO27 (ok_whole F27 CP dDiv) b27 dPen dDraw dPick dFrac dWrow dFar dUp dTold dLsign dIsp
theorem walk {l : PySem.W.OpenLaw} {q : Program} {loose : List Str} {XP : (Str → Option Value) → Heap → Prop} {YP : World → Heap → Prop} {d : DefRec} {K : Params → PySem.W.Frag} (hn : l.most = some 63) (hdf : d.params.defaults = [])
    (hY : ∀ (w : World) (h : Heap), YP w h → (K w.params).In h)
    (F : ∀ (w : World) (mg : Str → Option Value) (fa : Addr) (h : Heap), (K w.params).In h → h.Ns mainGlobals mg → mg d.name = some (.ref fa) →
      ∃ fd : FuncData, (∀ (s : Shared) (u : Value), BindsTo s fd ⟨[u], []⟩ [("script", u)]) ∧ ∀ base : Heap, (K w.params).In base → base.Ns mainGlobals mg → FnOk l.prog w (K w.params) mg base CX0 7 fa fd ["script"] (spLaw (K w.params))) :
    PySem.W.WalkO q loose XP YP l.row.toRowW d [] (fun f vs => PySem.call f vs) :=
  L2.walk_of (n := 63) (k := 7) (x := "script") (CX := fun _ => CX0) (sp := fun w => spLaw (K w.params)) hn (by decide) hdf ⟨rfl, by decide, by decide⟩ hY F (fun _ _ a ns hl _ hS => ⟨a, ns, rfl, hS, hl, fun _ => rfl⟩) fun _ _ _ _ _ z => z
end Ef
set_option Elab.async false
set_option linter.all false
open PySem PySem.W PyProof.Rows in
set_option maxRecDepth 100000 in
set_option maxHeartbeats 0 in
theorem PySem.Challenge.cw_everyfloor_k02_whole_values_of_pieces_holds : PySem.Challenge.rw_everyfloor_k02_whole_values_of_pieces.Holds := by
  w_on; o_law; k_head; (case hw => w_witness2)
  k_fill
  refine Ef.walk (l := PySem.Challenge.rw_everyfloor_k02_whole_values_of_pieces) rfl rfl (fun w h Y => PySem.W.kIn_of Y) ?F
  case F =>
    intro w mg fa h KX G hmg
    refine' Ef.all_mk KX G hmg ?aC ?a0 ?l0 ?c0 ?k0 ?a1 ?l1 ?c1 ?k1 ?a2 ?l2 ?c2 ?k2 ?a3 ?l3 ?c3 ?k3 ?a4 ?l4 ?c4 ?k4 ?a5 ?l5 ?c5 ?k5 ?a6 ?l6 ?c6 ?k6 ?a7 ?l7 ?c7 ?k7 ?a8 ?l8 ?c8 ?k8 ?a9 ?l9 ?c9 ?k9 ?a10 ?l10 ?c10 ?k10 ?a11 ?l11 ?c11 ?k11 ?a12 ?l12 ?c12 ?k12 ?a13 ?l13 ?c13 ?k13 ?a14 ?l14 ?c14 ?k14 ?a15 ?l15 ?c15 ?k15 ?a16 ?l16 ?c16 ?k16 ?a17 ?l17 ?c17 ?k17 ?a18 ?l18 ?c18 ?k18 ?a19 ?l19 ?c19 ?k19 ?a20 ?l20 ?c20 ?k20 ?a21 ?l21 ?c21 ?k21 ?a22 ?l22 ?c22 ?k22 ?a23 ?i23 ?l23 ?c23 ?k23 ?lD ?a24 ?i24 ?n24 ?l24 ?c24 ?k24 ?a25 ?g25 ?h25 ?r25 ?l25 ?c25 ?k25 ?a26 ?g26 ?h26 ?r26 ?l26 ?c26 ?k26 ?a27 ?g27 ?h27 ?r27 ?l27 ?c27 ?k27 ?mCB ?oCB ?vCB ?sCB ?xCB ?tCB ?kCB ?iCB ?uCB ?nCB ?gaCB ?ggCB ?hdCB ?l28 ?c28 ?k28 ?mCN ?oCN ?vCN ?sCN ?xCN ?tCN ?kCN ?iCN ?uCN ?nCN ?gaCN ?ggCN ?hdCN ?l29 ?c29 ?k29 ?jN ?jB ?xNN ?xBN ?xBB ?pg ?hd ?po ?sa ?mk ?kc ?cc ?cg ?ctk ?co ?nr ?nu ?zg ?z0 ?z1 ?z2 ?z3 ?z4 ?z5 ?z6 ?z7 ?z8 ?z9 ?z10 ?z11 ?z12
    (case aC => k_is)
    (case a0 => k_is)
    (case l0 => k_is)
    (case c0 => k_is)
    (case k0 => k_is)
    (case a1 => k_is)
    (case l1 => k_is)
    (case c1 => k_is)
    (case k1 => k_is)
    (case a2 => k_is)
    (case l2 => k_is)
    (case c2 => k_is)
    (case k2 => k_is)
    (case a3 => k_is)
    (case l3 => k_is)
    (case c3 => k_is)
    (case k3 => k_is)
    (case a4 => k_is)
    (case l4 => k_is)
    (case c4 => k_is)
    (case k4 => k_is)
    (case a5 => k_is)
    (case l5 => k_is)
    (case c5 => k_is)
    (case k5 => k_is)
    (case a6 => k_is)
    (case l6 => k_is)
    (case c6 => k_is)
    (case k6 => k_is)
    (case a7 => k_is)
    (case l7 => k_is)
    (case c7 => k_is)
    (case k7 => k_is)
    (case a8 => k_is)
    (case l8 => k_is)
    (case c8 => k_is)
    (case k8 => k_is)
    (case a9 => k_is)
    (case l9 => k_is)
    (case c9 => k_is)
    (case k9 => k_is)
    (case a10 => k_is)
    (case l10 => k_is)
    (case c10 => k_is)
    (case k10 => k_is)
    (case a11 => k_is)
    (case l11 => k_is)
    (case c11 => k_is)
    (case k11 => k_is)
    (case a12 => k_is)
    (case l12 => k_is)
    (case c12 => k_is)
    (case k12 => k_is)
    (case a13 => k_is)
    (case l13 => k_is)
    (case c13 => k_is)
    (case k13 => k_is)
    (case a14 => k_is)
    (case l14 => k_is)
    (case c14 => k_is)
    (case k14 => k_is)
    (case a15 => k_is)
    (case l15 => k_is)
    (case c15 => k_is)
    (case k15 => k_is)
    (case a16 => k_is)
    (case l16 => k_is)
    (case c16 => k_is)
    (case k16 => k_is)
    (case a17 => k_is)
    (case l17 => k_is)
    (case c17 => k_is)
    (case k17 => k_is)
    (case a18 => k_is)
    (case l18 => k_is)
    (case c18 => k_is)
    (case k18 => k_is)
    (case a19 => k_is)
    (case l19 => k_is)
    (case c19 => k_is)
    (case k19 => k_is)
    (case a20 => k_is)
    (case l20 => k_is)
    (case c20 => k_is)
    (case k20 => k_is)
    (case a21 => k_is)
    (case l21 => k_is)
    (case c21 => k_is)
    (case k21 => k_is)
    (case a22 => k_is)
    (case l22 => k_is)
    (case c22 => k_is)
    (case k22 => k_is)
    (case a23 => k_is)
    (case i23 => k_is)
    (case l23 => k_is)
    (case c23 => k_is)
    (case k23 => k_is)
    (case lD => k_is)
    (case a24 => k_is)
    (case i24 => k_is)
    (case n24 => k_is)
    (case l24 => k_is)
    (case c24 => k_is)
    (case k24 => k_is)
    (case a25 => k_is)
    (case g25 => k_is)
    (case h25 => k_is)
    (case r25 => k_is)
    (case l25 => k_is)
    (case c25 => k_is)
    (case k25 => k_is)
    (case a26 => k_is)
    (case g26 => k_is)
    (case h26 => k_is)
    (case r26 => k_is)
    (case l26 => k_is)
    (case c26 => k_is)
    (case k26 => k_is)
    (case a27 => k_is)
    (case g27 => k_is)
    (case h27 => k_is)
    (case r27 => k_is)
    (case l27 => k_is)
    (case c27 => k_is)
    (case k27 => k_is)
    (case mCB => k_is)
    (case oCB => k_is)
    (case vCB => decide +kernel)
    (case sCB => k_is)
    (case xCB => k_is)
    (case tCB => k_is)
    (case kCB => k_is)
    (case iCB => k_is)
    (case uCB => k_is)
    (case nCB => k_is)
    (case gaCB => k_is)
    (case ggCB => k_is)
    (case hdCB => k_is)
    (case l28 => k_is)
    (case c28 => k_is)
    (case k28 => k_is)
    (case mCN => k_is)
    (case oCN => k_is)
    (case vCN => decide +kernel)
    (case sCN => k_is)
    (case xCN => k_is)
    (case tCN => k_is)
    (case kCN => k_is)
    (case iCN => k_is)
    (case uCN => k_is)
    (case nCN => k_is)
    (case gaCN => k_is)
    (case ggCN => k_is)
    (case hdCN => k_is)
    (case l29 => k_is)
    (case c29 => k_is)
    (case k29 => k_is)
    (case jN => k_is)
    (case jB => k_is)
    (case xNN => k_is)
    (case xBN => k_is)
    (case xBB => k_is)
    (case pg => k_is)
    (case hd => k_is)
    (case po => k_is)
    (case sa => k_is)
    (case mk => k_is)
    (case kc => k_is)
    (case cc => k_is)
    (case cg => k_is)
    (case ctk => k_is)
    (case co => k_is)
    (case nr => k_is)
    (case nu => k_is)
    (case zg => k_is)
    (case z0 => k_is)
    (case z1 => k_is)
    (case z2 => k_is)
    (case z3 => k_is)
    (case z4 => k_is)
    (case z5 => k_is)
    (case z6 => k_is)
    (case z7 => k_is)
    (case z8 => k_is)
    (case z9 => k_is)
    (case z10 => k_is)
    (case z11 => k_is)
    (case z12 => k_is)
#print axioms PySem.Challenge.cw_everyfloor_k02_whole_values_of_pieces_holds
