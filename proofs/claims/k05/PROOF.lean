import PyProof.Rows.All
import Wide.All
import OpenK.AllK
import Wide.FinOn
import HandS.ForMost
import PySem.Challenge.RW_everyfloor_k05_whole_pieces_stretched_an
import KE.GoesEnum
import HandS.Style
import HandS.TupAny
import KE.KCallOwn
import HandS.ExcOwn
import HandS.ForExc
import HandS.TryMany
import HandS.IsInst
import HandS.Gcd
import HandS.ExcInit
import HandS.ExcField
import HandS.Property
import HandS.Conv
import HandS.Wide
import HandS.Rev
import HandS.More
import HandS.ClsMeth
import HandS.OwnEq
import HandS.Defaults
import KE.KOpsOwn
import PyProof.FactsAll.int_1
import PyProof.TwoTypes
import HandS.Zip
import HandS.Walk
import HandS.Star
import HandS.Base
import HandS.Call
import HandS.List
import HandS.RevRange
import HandS.Lambda
import HandS.EndTab
set_option Elab.async false
set_option linter.all false
set_option maxRecDepth 100000
set_option maxHeartbeats 4000000
namespace Ef
open PySem PySem.Spec PyProof.Rows L2
def top (i : Nat) : Stmt := PySem.Challenge.pw_everyfloor_k05_whole_pieces_stretched_an.main.body.getD i (.Pass ⟨0, 0, 0, 0⟩)
abbrev sPen : Stmt := top 30
abbrev sDraw : Stmt := top 31
abbrev sPick : Stmt := top 32
/-! ### the pen -/
def penD (l : Addr) (a b : Int) : List (Key × V) := [(.inr "cells", .ref l), (.inr "at", .int a), (.inr "left", .int b)]
theorem pen_cells (l : Addr) (a b : Int) : valV (penD l a b) (Sum.inr "cells") = some (.ref l) := by with_unfolding_all rfl
theorem pen_at (l : Addr) (a b : Int) : valV (penD l a b) (Sum.inr "at") = some (.int a) := by with_unfolding_all rfl
theorem pen_left (l : Addr) (a b : Int) : valV (penD l a b) (Sum.inr "left") = some (.int b) := by with_unfolding_all rfl
theorem put_at (l : Addr) (a b c : Int) : putK (penD l a b) (Sum.inr "at") (.int c) = penD l c b := by with_unfolding_all rfl
theorem put_left (l : Addr) (a b c : Int) : putK (penD l a b) (Sum.inr "left") (.int c) = penD l a c := by with_unfolding_all rfl
/-- at p stands the pen: its list of ints at l, its place a, what is left b -/
structure Pen (H : Hp) (p l : Addr) (ns : List Int) (a b : Int) : Prop where
  hd : H p = some (.dK (penD l a b))
  hl : H l = some (.lst (ns.map V.int))
  len : ns.length ≤ 63
  a0 : 0 ≤ a
  b0 : 0 ≤ b
/-- all that is tracked but p is as it was -/
def Kp (p : Addr) (H H' : Hp) : Prop := ∀ x o, x ≠ p → H x = some o → H' x = some o
theorem Kp.refl (p : Addr) (H : Hp) : Kp p H H := fun _ _ _ h => h
theorem Kp.trans {p : Addr} {H H1 H2 : Hp} (a : Kp p H H1) (b : Kp p H1 H2) : Kp p H H2 := fun x o n h => b x o n (a x o n h)
theorem Kp.put {p : Addr} {H : Hp} (o : HO) : Kp p H (upd H p o) := fun x u n h => by rw [upd_ne n]; exact h
theorem Kp.new {p q : Addr} {H : Hp} (o : HO) (hq : H q = none) : Kp p H (upd H q o) := fun x u n h => by rw [upd_ne (ne_of_none h hq)]; exact h
/-! ### data -/
theorem dp_ints {K : PySem.W.Frag} {H : Hp} : ∀ ns : List Int, DpAll K H (ns.map V.int) (ns.map PyData.int)
  | [] => .nil
  | n :: ns => .cons (.int n) (dp_ints ns)
theorem dp_bls {K : PySem.W.Frag} {H : Hp} : ∀ bs : List Bool, DpAll K H (bs.map V.bl) (bs.map PyData.bool)
  | [] => .nil
  | n :: ns => .cons (.bl n) (dp_bls ns)
theorem can_ints : ∀ ns : List Int, PyData.canLayAll0 (ns.map PyData.int) = true ∧ PyData.depthAll (ns.map PyData.int) = 0
  | [] => ⟨rfl, rfl⟩
  | n :: ns => by
    obtain ⟨h1, h2⟩ := can_ints ns
    constructor
    · show (PyData.canLay0 (.int n) && PyData.canLayAll0 (ns.map PyData.int)) = true
      rw [h1]; rfl
    · show max (PyData.depth (.int n)) (PyData.depthAll (ns.map PyData.int)) = 0
      rw [h2]; rfl
theorem can_bls : ∀ ns : List Bool, PyData.canLayAll0 (ns.map PyData.bool) = true ∧ PyData.depthAll (ns.map PyData.bool) = 0
  | [] => ⟨rfl, rfl⟩
  | n :: ns => by
    obtain ⟨h1, h2⟩ := can_bls ns
    constructor
    · show (PyData.canLay0 (.bool n) && PyData.canLayAll0 (ns.map PyData.bool)) = true
      rw [h1]; rfl
    · show max (PyData.depth (.bool n)) (PyData.depthAll (ns.map PyData.bool)) = 0
      rw [h2]; rfl
theorem sh_list {ds : List PyData} (h1 : PyData.canLayAll0 ds = true) (h2 : PyData.depthAll ds = 0) : SeqAt.shaped (.list ds) = true ∧ SeqAt.shaped (.tuple ds) = true := by
  constructor
  · show (PyData.canLayAll0 ds && decide (PyData.depthAll ds + 1 ≤ 64)) = true
    rw [h1, h2]; rfl
  · show (PyData.canLayAll0 ds && decide (PyData.depthAll ds + 1 ≤ 64)) = true
    rw [h1, h2]; rfl
theorem eqv_nil (ns : List Int) : PyData.eqv (.list (ns.map PyData.int)) (.list []) = ns.isEmpty := by
  cases ns with
  | nil => rfl
  | cons n ns => rfl
theorem eqv_bls : ∀ as bs : List Bool, PyData.eqvAll (as.map PyData.bool) (bs.map PyData.bool) = decide (as = bs)
  | [], [] => rfl
  | [], _ :: _ => rfl
  | _ :: _, [] => rfl
  | a :: as, b :: bs => by
    show (PyData.eqv (.bool a) (.bool b) && PyData.eqvAll (as.map PyData.bool) (bs.map PyData.bool)) = _
    rw [eqv_bls as bs]
    show ((a == b) && decide (as = bs)) = decide (a :: as = b :: bs)
    by_cases h1 : a = b <;> by_cases h2 : as = bs <;> simp [h1, h2]
end Ef
set_option Elab.async false
set_option linter.all false
set_option maxRecDepth 100000
set_option maxHeartbeats 4000000
namespace Ef
open PySem PySem.Spec PyProof.Rows L2
structure TxtP (mg : Str → Option Value) : Prop where
  int : mg "int" = none
  len : mg "len" = none
  list : mg "list" = none
/-- what a draw promises -/
def spDraw : Sp := fun vs H Q _ => ∃ (p l : Addr) (ns : List Int) (a b m : Int), vs = [.ref p, .int m] ∧ Pen H p l ns a b ∧ a ≤ 1073741824 ∧ 1 ≤ m ∧ m < 1073741824 ∧
  ∀ (d a' b' : Int) (H' : Hp), 0 ≤ d → d < m → a' ≤ a + 1 → Pen H' p l ns a' b' → Kp p H H' → Q (.int d) H'
theorem scDraw : FnScope ["pen", "many", "digit", "at", "cell", "mixed"] ["pen", "many"] (defScope sDraw) := ⟨rfl, rfl, rfl, by decide +kernel, rfl, by decide +kernel, by decide +kernel⟩
section
variable {P : Program} {w : World} {K : PySem.W.Frag} {mg : Str → Option Value} {base : Heap}
theorem Pen.ne {H : Hp} {p l : Addr} {ns : List Int} {a b : Int} (h : Pen H p l ns a b) : l ≠ p := ne_of h.hl h.hd (by intro q; cases q)
theorem Pen.put {H : Hp} {p l : Addr} {ns : List Int} {a b : Int} (h : Pen H p l ns a b) {a' b' : Int} (ha : 0 ≤ a') (hb : 0 ≤ b') : Pen (upd H p (.dK (penD l a' b'))) p l ns a' b' :=
  ⟨upd_same, by rw [upd_ne h.ne]; exact h.hl, h.len, ha, hb⟩
theorem Pen.kp {H H' : Hp} {p l : Addr} {ns : List Int} {a b : Int} (h : Pen H p l ns a b) (k : Kp p H H') (hp : H' p = H p) : Pen H' p l ns a b := ⟨hp.trans h.hd, k _ _ h.ne h.hl, h.len, h.a0, h.b0⟩
theorem emB (x k : Int) (h : 0 < k) (h2 : k < 2 ^ 64) : -(2 ^ 64) < x % k ∧ x % k < 2 ^ 64 := by
  have h1 := Int.emod_nonneg x (show k ≠ 0 by omega)
  have h3 := Int.emod_lt_of_pos x h
  omega
theorem Pen.gl {H : Hp} {p l : Addr} {ns : List Int} {a b : Int} (h : Pen H p l ns a b) : DGet H p (.str "left") (some (.int b)) := by
  have z := DGet.k (k := Sum.inr "left") h.hd
  rw [pen_left] at z
  exact z
theorem Pen.ga {H : Hp} {p l : Addr} {ns : List Int} {a b : Int} (h : Pen H p l ns a b) : DGet H p (.str "at") (some (.int a)) := by
  have z := DGet.k (k := Sum.inr "at") h.hd
  rw [pen_at] at z
  exact z
theorem Pen.gc {H : Hp} {p l : Addr} {ns : List Int} {a b : Int} (h : Pen H p l ns a b) : DGet H p (.str "cells") (some (.ref l)) := by
  have z := DGet.k (k := Sum.inr "cells") h.hd
  rw [pen_cells] at z
  exact z
theorem Pen.pl {H : Hp} {p l : Addr} {ns : List Int} {a b c : Int} (h : Pen H p l ns a b) : DPut H p (.str "left") (.int c) (upd H p (.dK (penD l a c))) := by
  have z := DPut.k (k := Sum.inr "left") (v := .int c) h.hd (by show 3 < sizeLine; decide)
  rw [put_left] at z
  exact z
theorem Pen.pa {H : Hp} {p l : Addr} {ns : List Int} {a b c : Int} (h : Pen H p l ns a b) : DPut H p (.str "at") (.int c) (upd H p (.dK (penD l c b))) := by
  have z := DPut.k (k := Sum.inr "at") (v := .int c) h.hd (by show 3 < sizeLine; decide)
  rw [put_at] at z
  exact z
theorem ok_draw {f : Addr} {fd : FuncData} (F : Fun K "_law_draw" "_law_draw" sDraw f fd) (T : TxtP mg) : FnOk P w K mg base CX0 1 f fd ["pen", "many"] spDraw := by
  refine F.ok scDraw (fun vs H Q E h => ?_) (fun cdv A outer s H vs Q E hr h => ?_)
  · obtain ⟨p, l, ns, a, b, m, rfl, _⟩ := h
    rfl
  · obtain ⟨p, l, ns, a, b, m, rfl, hP, ha, hm1, hm2, q⟩ := h
    have hu := hu_of hr
    refine ⟨_, (pss_cons (ps_if (pt_cmpR op_ge (pe_dget hu (pv 0) pe_str (fun _ _ => rfl)) (pv 1) (nomark _)) (pss_cons (ps_set (i := 2) scDraw.nd rfl (.inl rfl) (pe_op op_mod (pe_callTy call_int1 (by rfl) T.int (by decide +kernel) (pa_cons (pe_dget hu (pv 0) pe_str (fun _ _ => rfl)) pa_nil)) (pv 1)))
      (pss_cons (ps_dput hu (pv 0) pe_str (pe_op op_fdiv (pe_dget hu (pv 0) pe_str (fun _ _ => rfl)) (pv 1)) rfl)
      (pss_one (ps_ret (pv 2))))) pss_nil)
      (pss_cons (ps_set (i := 3) scDraw.nd rfl (.inl rfl) (pe_dget hu (pv 0) pe_str (fun _ _ => rfl)))
      (pss_cons (ps_dput hu (pv 0) pe_str (pe_op op_add (pv 3) pe_int) rfl)
      (pss_cons (ps_set (i := 4) scDraw.nd rfl (.inl rfl) (pe_op op_add (pe_op op_mul pe_int (pv 3)) pe_int))
      (pss_cons (ps_if (pt_cmpR (op_neD hr.units) (pe_dget hu (pv 0) pe_str (fun _ _ => rfl)) (pe_lst pa_nil) (nomark _)) (pss_one (ps_set (i := 4) scDraw.nd rfl (.inl rfl) (pe_ix ix_list (pe_dget hu (pv 0) pe_str (fun _ _ => rfl)) (pe_op op_mod (pe_callTy call_int1 (by rfl) T.int (by decide +kernel) (pa_cons (pv 3) pa_nil)) (pe_callB call_len_seq (by rfl) T.len PySem.boot_len (pa_cons (pe_dget hu (pv 0) pe_str (fun _ _ => rfl)) pa_nil))) (fun _ _ => rfl)))) pss_nil)
      (pss_cons (ps_if (pw_and (pt_cmpR op_lt (pv 3) (pe_callB call_len_seq (by rfl) T.len PySem.boot_len (pa_cons (pe_dget hu (pv 0) pe_str (fun _ _ => rfl)) pa_nil)) (nomark _)) (pw_and1 (pt_cmpR op_ge (pv 4) (pe_op op_pow pe_int pe_int) (nomark _)))).pt (pss_cons (ps_dput hu (pv 0) pe_str (pe_op op_fdiv (pe_op op_sub (pv 4) (pe_op op_pow pe_int pe_int)) (pv 1)) rfl)
      (pss_one (ps_ret (pe_op op_mod (pe_callTy call_int1 (by rfl) T.int (by decide +kernel) (pa_cons (pe_op op_sub (pv 4) (pe_op op_pow pe_int pe_int)) pa_nil)) (pv 1))))) pss_nil)
      (pss_cons (ps_set (i := 5) scDraw.nd rfl (.inl rfl) (pe_op op_add (pe_op op_add (pe_op op_add (pe_op op_mul (pe_op op_mod (pe_callTy call_int1 (by rfl) T.int (by decide +kernel) (pa_cons (pv 4) pa_nil)) pe_int) pe_int) (pe_op op_mul (pe_op op_mul pe_int (pv 3)) (pv 3))) (pe_op op_mul pe_int (pv 3))) pe_int))
      (pss_cons (ps_set (i := 5) scDraw.nd rfl (.inl rfl) (pe_op op_mod (pe_callTy call_int1 (by rfl) T.int (by decide +kernel) (pa_cons (pv 5) pa_nil)) pe_int))
      (pss_cons (ps_set (i := 5) scDraw.nd rfl (.inl rfl) (pe_op op_mod (pe_callTy call_int1 (by rfl) T.int (by decide +kernel) (pa_cons (pe_op op_mul (pv 5) (pe_op op_add (pv 5) pe_int)) pa_nil)) pe_int))
      (pss_one (ps_ret (pe_op op_mod (pe_callTy call_int1 (by rfl) T.int (by decide +kernel) (pa_cons (pe_op op_fdiv (pe_op op_mod (pe_callTy call_int1 (by rfl) T.int (by decide +kernel) (pa_cons (pe_op op_mul (pv 5) (pv 5)) pa_nil)) pe_int) pe_int) pa_nil)) (pv 1))))))))))))), ?_⟩
    -- if pen['left'] >= many
    refine ⟨_, rfl, p, _, rfl, hP.gl, _, rfl, _, _, rfl, rfl, _, rfl, ?_⟩
    refine ite2 (fun hb => ?_) (fun hb => ?_)
    · -- digit; pen['left']; return
      refine ⟨_, rfl, p, _, rfl, hP.gl, .inl ⟨_, rfl, ?_⟩⟩
      refine ⟨_, rfl, _, _, rfl, rfl, by omega, ?_⟩
      refine ⟨_, rfl, p, _, rfl, hP.gl, _, rfl, _, _, rfl, rfl, ⟨by omega, hm2⟩, _, rfl, p, _, rfl, hP.pl, ?_⟩
      refine ⟨_, rfl, ?_⟩
      exact q _ _ _ _ (Int.emod_nonneg _ (by omega)) (Int.emod_lt_of_pos _ (by omega)) (by omega) (hP.put hP.a0 (Int.ediv_nonneg hP.b0 (by omega))) (Kp.put _)
    · -- at = pen['at']; pen['at'] = at + 1
      refine ⟨_, rfl, p, _, rfl, hP.ga, ?_⟩
      refine ⟨_, rfl, _, _, rfl, rfl, _, rfl, p, _, rfl, hP.pa, ?_⟩
      have hP5 := hP.put (a' := a + 1) (b' := b) (by have := hP.a0; omega) hP.b0
      have a0 := hP.a0
      have b0 := hP.b0
      have k1 : Kp p H (upd H p (.dK (penD l (a + 1) b))) := Kp.put _
      have aE : ∀ {x : Int}, x = a → -(2 ^ 64) < x ∧ x < 2 ^ 64 := fun e => by subst e; constructor <;> omega
      -- cell = 37 * at + 11
      refine ⟨_, rfl, _, _, rfl, rfl, .inl ⟨by decide, by decide⟩, _, _, rfl, rfl, ?_⟩
      -- if pen['cells'] != []
      refine ⟨_, rfl, p, _, rfl, hP5.gc, Nat.zero_le _, fun t ht => ?_⟩
      have hP2 : Pen (upd (upd H p (.dK (penD l (a + 1) b))) t (.lst [])) p l ns (a + 1) b := hP5.kp (Kp.new _ ht) (upd_ne (ne_of_none hP5.hd ht))
      have k2 := k1.trans (Kp.new (.lst []) ht)
      have hT : SqL K (upd (upd H p (.dK (penD l (a + 1) b))) t (.lst [])) t [] := .inl (.inl upd_same)
      refine ⟨_, _, .lst (.inl (.inl hP2.hl)) (dp_ints ns), .lst hT .nil, (sh_list (can_ints ns).1 (can_ints ns).2).1, (sh_list rfl rfl).1, _, rfl, ?_⟩
      generalize upd (upd H p (.dK (penD l (a + 1) b))) t (.lst []) = H2 at hP2 k2 hT ⊢
      rw [eqv_nil]
      have hm0 : (0 : Int) < m := by omega
      refine ite2 ?g1 ?g2
      case' g1 =>
        intro he
        have hn : 0 < ns.length := by
          cases ns with
          | nil => exact absurd he (by decide)
          | cons n ns => exact Nat.succ_pos _
        have hlt : (a % (ns.length : Int)).toNat < ns.length := by
          have h1 := Int.emod_nonneg a (show (ns.length : Int) ≠ 0 by omega)
          have h2 := Int.emod_lt_of_pos a (show (0 : Int) < (ns.length : Int) by omega)
          omega
        refine ⟨_, rfl, p, _, rfl, hP2.gc, _, rfl, .inl ⟨_, rfl, _, rfl, p, _, rfl, hP2.gc, _, _, rfl, .inl (.inl (.inl hP2.hl)), _, _, rfl, rfl, by rw [List.length_map]; omega, l, _, _, .int ns[(a % (ns.length : Int)).toNat], rfl, rfl, .inl (.inl hP2.hl), ?_, ?_⟩⟩
        · rw [List.length_map]
          exact at_of (Int.toNat_of_nonneg (Int.emod_nonneg a (show (ns.length : Int) ≠ 0 by omega))).symm (by rw [List.getElem?_map, List.getElem?_eq_getElem hlt]; rfl)
        generalize ns[(a % (ns.length : Int)).toNat] = c
      case' g2 =>
        intro he
        generalize 37 * a + 11 = c
      all_goals
        refine ⟨_, rfl, _, rfl, p, _, rfl, hP2.gc, _, _, rfl, .inl (.inl (.inl hP2.hl)), _, _, rfl, rfl, _, rfl, ?_⟩
        refine ite2 ?_ ?_
      all_goals intro h1
      all_goals try
        (refine ⟨_, rfl, _, _, rfl, rfl, ⟨by decide, by decide, by decide⟩, _, _, rfl, rfl, _, rfl, ?_⟩
         refine ite2 ?_ ?_ <;> intro h2)
      all_goals try
        (refine ⟨_, rfl, _, _, rfl, rfl, ⟨by decide, by decide, by decide⟩, _, _, rfl, rfl, _, rfl, _, _, rfl, rfl, ⟨hm0, hm2⟩, _, rfl, p, _, rfl, hP2.pl, ?_⟩
         refine ⟨_, rfl, _, _, rfl, rfl, ⟨by decide, by decide, by decide⟩, _, _, rfl, rfl, .inl ⟨_, rfl, _, rfl, _, _, rfl, rfl, hm0, ?_⟩⟩
         exact q _ _ _ _ (Int.emod_nonneg _ (Int.ne_of_gt hm0)) (Int.emod_lt_of_pos _ hm0) (Int.le_refl _) (hP2.put hP2.a0 (Int.ediv_nonneg (Int.sub_nonneg_of_le (of_decide_eq_true h2)) (Int.le_of_lt hm0))) (k2.trans (Kp.put _)))
      all_goals try refine iteF ?_
      all_goals
        refine ⟨_, rfl, .inl ⟨_, rfl, _, _, rfl, rfl, (by show (0 : Int) < _; decide), _, _, rfl, rfl, .inr ⟨by decide, by decide⟩, _, rfl, _, _, rfl, rfl, .inl ⟨by decide, by decide⟩, _, rfl, _, _, rfl, rfl, .inr (aE rfl), _, _, rfl, rfl, _, rfl, _, _, rfl, rfl, .inl ⟨by decide, by decide⟩, _, _, rfl, rfl, _, _, rfl, rfl, ?_⟩⟩
        refine ⟨_, rfl, .inl ⟨_, rfl, _, _, rfl, rfl, (by show (0 : Int) < _; decide), ?_⟩⟩
        refine ⟨_, rfl, _, rfl, _, _, rfl, rfl, _, _, rfl, rfl, .inl (emB _ _ (by decide) (by decide)), .inl ⟨_, rfl, _, _, rfl, rfl, (by show (0 : Int) < _; decide), ?_⟩⟩
        refine ⟨_, rfl, _, rfl, _, _, rfl, rfl, .inl (emB _ _ (by decide) (by decide)), .inl ⟨_, rfl, _, _, rfl, rfl, (by show (0 : Int) < _; decide), _, _, rfl, rfl, ⟨by decide, by decide⟩, .inl ⟨_, rfl, _, rfl, _, _, rfl, rfl, hm0, ?_⟩⟩⟩
        exact q _ _ _ _ (Int.emod_nonneg _ (Int.ne_of_gt hm0)) (Int.emod_lt_of_pos _ hm0) (Int.le_refl _) hP2 k2
end
end Ef
set_option Elab.async false
set_option linter.all false
set_option maxRecDepth 100000
set_option maxHeartbeats 4000000
namespace Ef
open PySem PySem.Spec PyProof.Rows L2
/-- a def of the text, by its name -/
structure Df (P : Program) (w : World) (K : PySem.W.Frag) (mg : Str → Option Value) (base : Heap) (k : Nat) (x : Str) (ps : List Str) (sp : Sp) : Prop where
  ex : ∃ f fd, mg x = some (.ref f) ∧ PySem.W.keepIn K (.ref f) = true ∧ Binds K fd ps [] ∧ FnOk P w K mg base CX0 k f fd ps sp
theorem Df.call {X : Cx} {k : Nat} {x : Str} {ps : List Str} {sp : Sp} {e : Expr} {es : List Expr} {t : TA} {p pos : Pos} (D : Df X.prog X.w X.K X.mg X.base k x ps sp) (hr : Room k X.A) (ha : PA X (e :: es) t) (hg : Gl X x := by rfl)
    (hdb : (x == ("__debug__" : Str)) = false := by decide) (he : starEach (e :: es) X.env = (false, eval e X.env) :: starEach es X.env := by rfl) (hpl : (backTo pos (starEach es X.env)).any (·.1) = false := by rfl) :
    PE X (.Call (.Name x p) (e :: es) [] pos) (tCall sp [] E0 t) := by
  obtain ⟨f, fd, hm, hk, hb, F⟩ := D.ex
  exact pe_call F hr hg hm hk hb .nil pass0 ha hdb he hpl
/-- where the text's def stands behind the top -/
structure At (K : PySem.W.Frag) (mg : Str → Option Value) (x : Str) (st : Stmt) : Prop where
  ex : ∃ f fd, mg x = some (.ref f) ∧ Fun K x x st f fd
section
variable {P : Program} {w : World} {K : PySem.W.Frag} {mg : Str → Option Value} {base : Heap}
theorem Kp.of_same {p : Addr} {H H' : Hp} (h : Same H H') : Kp p H H' := fun x o _ e => h x o e
theorem Kp.rd {p : Addr} {H H' : Hp} {q : Addr} {u : HO} (k : Kp p H H') (n : q ≠ p) (h : Rd H q u) : Rd H' q u := by
  rcases h with h | ⟨o, h⟩
  · exact .inl (k _ _ n h)
  · exact .inr ⟨o, k _ _ n h⟩
theorem Kp.sql {p : Addr} {H H' : Hp} {q : Addr} {xs : List V} (k : Kp p H H') (n : q ≠ p) (h : SqL K H q xs) : SqL K H' q xs := by
  rcases h with h | h
  · exact .inl (k.rd n h)
  · exact .inr h
theorem Kp.sqt {p : Addr} {H H' : Hp} {q : Addr} {xs : List V} (k : Kp p H H') (n : q ≠ p) (h : SqT K H q xs) : SqT K H' q xs := by
  rcases h with h | h
  · exact .inl (k.rd n h)
  · exact .inr h
theorem Kp.free {p : Addr} {H H' : Hp} (k : Kp p H H') {q : Addr} (n : q ≠ p) (h : H' q = none) : H q = none := by
  cases e : H q with
  | none => rfl
  | some o => rw [k q o n e] at h; cases h
theorem Kp.mut {p q : Addr} {H H' : Hp} {o : HO} (k : Kp p H H') (h : H q = none) : Kp p H (upd H' q o) := fun x u n e => by
  rw [upd_ne (ne_of_none e h)]
  exact k x u n e
theorem small1000' {n : Nat} (h : n ≤ 100000) : n < sizeLine := Nat.lt_of_le_of_lt h (by decide)
theorem df_draw (A : At K mg "_law_draw" sDraw) (T : TxtP mg) : Df P w K mg base 1 "_law_draw" ["pen", "many"] spDraw := by
  obtain ⟨f, fd, hm, F⟩ := A.ex
  exact ⟨f, fd, hm, F.kp, F.binds (fun _ _ _ _ _ _ us hl => match us, hl with | [_, _], _ => rfl), ok_draw F T⟩
/-! ### _law_pen -/
def spPen (K : PySem.W.Frag) : Sp := fun vs H Q _ => ∃ (a : Addr) (ns : List Int), vs = [.ref a] ∧ SqL K H a (ns.map V.int) ∧ ns.length ≤ 63 ∧ ∀ (p l : Addr) (H' : Hp), H p = none → Same H H' → Pen H' p l ns 0 0 → Q (.ref p) H'
theorem scPen : FnScope ["script"] ["script"] (defScope sPen) := ⟨rfl, rfl, rfl, by decide +kernel, rfl, by decide +kernel, by decide +kernel⟩
theorem cut63 (xs : List V) (h : xs.length ≤ 63) : cutV xs none (some 63) = xs := by
  unfold cutV
  rw [HT.sIx_none, show HT.sIx xs.length xs.length (some 63) = min 63 xs.length from HT.sIx_nat xs.length xs.length 63, Nat.min_eq_right h]
  simp
theorem df_pen (A : At K mg "_law_pen" sPen) (T : TxtP mg) : Df P w K mg base 1 "_law_pen" ["script"] (spPen K) := by
  obtain ⟨f, fd, hm, F⟩ := A.ex
  refine ⟨f, fd, hm, F.kp, F.binds (fun _ _ _ _ _ _ us hl => match us, hl with | [_], _ => rfl), F.ok scPen (fun vs H Q E h => ?_) (fun cdv A outer s H vs Q E hr h => ?_)⟩
  · obtain ⟨a, ns, rfl, _⟩ := h
    rfl
  · obtain ⟨a, ns, rfl, hS, hlen, q⟩ := h
    refine ⟨_, (pss_one (ps_ret (pe_disp (pps_cons pe_str (pe_callTy call_list_of (by rfl) T.list (by decide +kernel) (pa_cons (pe_slice sl_list (pv 0) po_none (po_some pe_int)) pa_nil)) (pps_cons pe_str pe_int (pps_cons pe_str pe_int pps_nil))) (by rfl) (by rfl) (fun z => by cases z) (by decide)))), ?_⟩
    intro p hp
    have s1 : Same H (upd H p (.dK [])) := fun b o e => by rw [upd_ne (ne_of_none e hp)]; exact e
    refine ⟨_, rfl, 63, rfl, a, _, rfl, s1.seq hS, fun c hc => ?_⟩
    rw [cut63 _ (by rw [List.length_map]; exact hlen)]
    have s2 : Same H (upd (upd H p (.dK [])) c (.lst (ns.map V.int))) := s1.trans fun b o e => by rw [upd_ne (ne_of_none e hc)]; exact e
    refine ⟨c, _, rfl, .inl (.inl (.inl upd_same)), fun l hl => ?_⟩
    have s3 : Same H (upd (upd (upd H p (.dK [])) c (.lst (ns.map V.int))) l (.lst (ns.map V.int))) := s2.trans fun b o e => by rw [upd_ne (ne_of_none e hl)]; exact e
    have hpc : p ≠ c := fun z => by rw [← z, upd_same] at hc; cases hc
    have hpl : p ≠ l := fun z => by rw [← z, upd_ne hpc, upd_same] at hl; cases hl
    refine ⟨by rw [upd_ne hpl, upd_ne hpc, upd_same], penD l 0 0, rfl, by show 3 ≤ 15; decide, ?_⟩
    refine q p l _ hp (fun b o e => ?_) ⟨upd_same, by rw [upd_ne hpl.symm, upd_same], hlen, Int.le_refl 0, Int.le_refl 0⟩
    rw [upd_ne (ne_of_none e hp)]
    exact s3 _ _ e
/-! ### _law_pick -/
def spPick (K : PySem.W.Frag) : Sp := fun vs H Q _ => ∃ (p l q : Addr) (ns : List Int) (a b : Int) (xs : List V), vs = [.ref p, .ref q] ∧ Pen H p l ns a b ∧ a ≤ 1073741824 ∧ SqL K H q xs ∧ q ≠ p ∧ 1 ≤ xs.length ∧ xs.length ≤ 100000 ∧
  ∀ (j : Nat) (v : V) (a' b' : Int) (H' : Hp), xs[j]? = some v → a' ≤ a + 1 → Pen H' p l ns a' b' → Kp p H H' → Q v H'
theorem scPick : FnScope ["pen", "some"] ["pen", "some"] (defScope sPick) := ⟨rfl, rfl, rfl, by decide +kernel, rfl, by decide +kernel, by decide +kernel⟩
theorem df_pick (A : At K mg "_law_pick" sPick) (T : TxtP mg) (Ddraw : Df P w K mg base 1 "_law_draw" ["pen", "many"] spDraw) : Df P w K mg base 2 "_law_pick" ["pen", "some"] (spPick K) := by
  obtain ⟨f, fd, hm, F⟩ := A.ex
  refine ⟨f, fd, hm, F.kp, F.binds (fun _ _ _ _ _ _ us hl => match us, hl with | [_, _], _ => rfl), F.ok scPick (fun vs H Q E h => ?_) (fun cdv A outer s H vs Q E hr h => ?_)⟩
  · obtain ⟨p, l, q, ns, a, b, xs, rfl, _⟩ := h
    rfl
  · obtain ⟨p, l, q, ns, a, b, xs, rfl, hP, ha, hS, hqp, h1, h2, k⟩ := h
    refine ⟨_, (pss_one (ps_ret (pe_ix ix_list (pv 1) (Ddraw.call (hr.mono (by decide)) (pa_cons (pv 0) (pa_cons (pe_callB call_len_seq (by rfl) T.len PySem.boot_len (pa_cons (pv 1) pa_nil)) pa_nil))) (fun _ _ => rfl)))), ?_⟩
    refine ⟨_, rfl, _, rfl, _, rfl, _, _, rfl, .inl hS, p, l, ns, a, b, _, rfl, hP, ha, by omega, by omega, fun d a' b' H' d0 d1 ha' hP' hK => ?_⟩
    have hd : d.toNat < xs.length := by omega
    exact ⟨q, _, _, _, rfl, rfl, hK.sql hqp hS, at_of (Int.toNat_of_nonneg d0).symm (List.getElem?_eq_getElem hd), k _ _ _ _ _ (List.getElem?_eq_getElem hd) ha' hP' hK⟩
end
end Ef
set_option Elab.async false
set_option linter.all false
set_option maxRecDepth 100000
set_option maxHeartbeats 2000000
/-! for i, x in enumerate(t), t a tuple -/
namespace Ef
open PySem PySem.Spec PyProof.Rows L2
def IteT (K : PySem.W.Frag) (a : Addr) : It :=
  ⟨fun i H => ∃ (xs : List V) (x : V), SqT K H a xs ∧ xs[i]? = some x, fun i H v H' => ∃ T x, v = .ref T ∧ H T = none ∧ H' = upd H T (.tup [.int (i : Nat), x]) ∧ ∀ xs, SqT K H a xs → xs[i]? = some x, fun i H => ∃ xs : List V, SqT K H a xs ∧ xs.length ≤ i⟩
/-- at vals end -/
theorem draws_end {prog : Program} {w : World} {A : Around} (hh : A.handled = none) (it t : Addr) (items : Array Value) (n : Nat) (hn : items.size ≤ n) :
    Draws prog w A it [it, t] n (fun _ _ => True) (fun i h => i = n ∧ h.IsTupleIter it t n ∧ h.IsTuple t items) where
  live := fun _ _ sta => let ⟨o, ho, _⟩ := sta.2.1; ⟨o, ho⟩
  frame := fun _ _ _ sta hk => ⟨sta.1, sta.2.1.at fun o e => hk it (by simp) o e, sta.2.2.at fun o e => hk t (by simp) o e⟩
  item := fun i s Q E hi sta hQ => absurd sta.1 (Nat.ne_of_lt hi)
  done := fun s Q E sta hE => wpAny_nextOf_tuple_end hh sta.2.1 sta.2.2 (by simp; omega) hE
theorem turn_enumT {P : Program} {w : World} {K : PySem.W.Frag} {elts : List Expr} {kk : Nat} {tpos : Pos} (a e it : Addr) :
    Turn P w K (.Tuple elts kk tpos) (IteT K a) [e, it] e (fun i h => (∃ was, IsEnum h e it (0 + ((i : Nat) : Int)) was) ∧ h.IsTupleIter it a i ∧ e ≠ it ∧ a ≠ it ∧ a ≠ e) where
  mem := by simp
  obj := fun i h sta b hb => by
    obtain ⟨⟨was, hEn⟩, ⟨o, ho, hc, hd⟩, _⟩ := sta
    have eOr : b = e ∨ b = it := by simpa using hb
    rcases eOr with z | z
    · rw [z]; exact ⟨_, hEn, fun v q => nomatch q⟩
    · rw [z]; exact ⟨o, ho, fun v q => by rw [hd] at q; cases q⟩
  keep := fun i h h' sta k => let ⟨⟨was, hEn⟩, hi, eNi⟩ := sta; ⟨⟨was, k e (by simp) _ hEn⟩, hi.at fun o q => k it (by simp) o q, eNi⟩
  item := by
    intro X hP hw hK hc i pins s σ H E I hFp sta hGo
    subst hP hw hK
    obtain ⟨⟨was, hEn⟩, hIt, eNi, aNi, aNe⟩ := sta
    obtain ⟨xs, x, hSq, hx⟩ := hGo
    obtain ⟨vals, rVs, p, zLen⟩ := I.tuple hSq
    obtain ⟨u, hu, ru⟩ := rVs.get hx
    have eIn : e < s.heap.objs.size := Heap.lt_size hEn
    have iIn : it < s.heap.objs.size := by obtain ⟨_, q, _⟩ := hIt; exact Heap.lt_size q
    have hlt : i < vals.toArray.size := by
      rcases Nat.lt_or_ge i vals.length with q | q
      · simpa using q
      · rw [List.getElem?_eq_none q] at hu; cases hu
    refine wpAny_pyNext_enum_itemC (Draws.tuple (A := X.A.in1) (I.ok.hd hc) it a aNi vals.toArray) hEn ⟨hIt, p⟩ hlt eNi (by simp [eNi, Ne.symm aNe]) fun y h' tk hy ho hit' hT zNew hk => ?_
    refine ⟨_, rfl, wpAny_letOwnedTupleGo_enum (s := { s with heap := h', toks := tk + 1 }) ho fun h'' he' sBut => ?_⟩
    have hT2 : h''.get? s.heap.objs.size = some { cls := .type "tuple", data := .seq #[.int (0 + ((i : Nat) : Int)) tk, y] } := (sBut.2 _ (Nat.ne_of_gt eIn)).trans hT
    have ey : y = u := by
      have z : vals[i]? = some y := by simpa using hy
      exact Option.some.inj (z.symm.trans hu)
    have e0 : (0 + ((i : Nat) : Int)) = (i : Int) := Int.zero_add _
    rw [e0] at hT2
    have fresh1 : ObjOk X.prog X.w (upd H s.heap.objs.size (.tup [.int (i : Nat), x])) h'' s.heap.objs.size (.tup [.int (i : Nat), x]) :=
      ⟨by show 2 ≤ sizeLine; decide, [.int i tk, y], .cons ⟨_, rfl⟩ (.cons (ey ▸ ru) .nil), ⟨_, hT2, rfl, _, rfl⟩⟩
    have J1 : Inv X pins σ (upd H s.heap.objs.size (.tup [.int (i : Nat), x])) { s with heap := h'', toks := tk + 1 } :=
      I.turnedNew (ch := [e, it]) (fun b ob hb q => (sBut.2 b (fun z => hb (by simp [z]))).trans (hk b ob (fun z => hb (by simp [z])) (fun z => hb (by simp [z])) q)) hFp (Nat.le_refl _) fresh1
    refine ⟨.ref s.heap.objs.size, _, J1, rfl, ⟨_, x, rfl, I.hok.fresh (Nat.le_refl _), rfl, fun ys hy => by rw [I.tuple_inj hy hSq]; exact hx⟩, ⟨⟨y, ?_⟩, hit'.1.at fun o q => (sBut.2 it (Ne.symm eNi)).trans q, eNi, aNi, aNe⟩, fun b hb => ?_⟩
    · have e1 : (0 + ((i + 1 : Nat) : Int)) = 0 + (i : Int) + 1 := by omega
      rw [e1]; exact he'
    · have bIn : b < s.heap.objs.size := by
        have eOr : b = e ∨ b = it := by simpa using hb
        rcases eOr with z | z
        · rw [z]; exact eIn
        · rw [z]; exact iIn
      rw [upd_ne (Nat.ne_of_lt bIn)]
      exact (hFp b hb).1
  done := by
    intro X hP hw hK hc i pins s σ H E I hFp sta hGo
    subst hP hw hK
    obtain ⟨⟨was, hEn⟩, hIt, eNi, aNi, aNe⟩ := sta
    obtain ⟨xs, hSq, hx⟩ := hGo
    obtain ⟨vals, rVs, p, zLen⟩ := I.tuple hSq
    obtain ⟨g0, g1, g2, g3, g4, g5⟩ := hFp it (by simp)
    have hl := rVs.length
    exact wpAny_pyNext_enum_endD (draws_end (A := X.A.in1) (I.ok.hd hc) it a vals.toArray i (by simp; omega)) hEn ⟨rfl, hIt, p⟩ fun h' eb => ⟨rfl, I.turned (t' := s.toks) (fun b o hb q => eb b o hb q) g0 g1 g3 g4 g5⟩
  self := fun A i s Q E sta h => let ⟨⟨_, hEn⟩, _⟩ := sta; wpAny_pyIter_enum hEn h
def iEnumT (K : PySem.W.Frag) (ta : TA) : TI := fun σ H R => ta σ H fun vs H1 => ∃ a xs, vs = [.ref a] ∧ SqT K H1 a xs ∧ R (IteT K a) H1
/-- a list or a tuple -/
def iEnumS (K : PySem.W.Frag) (ta : TA) : TI := fun σ H R => ta σ H fun vs H1 => ∃ a xs, vs = [.ref a] ∧ ((SqL K H1 a xs ∧ R (Ite K a) H1) ∨ (SqT K H1 a xs ∧ R (IteT K a) H1))
/-- enumerate(t): vals two fresh1 cells -/
theorem call_enumerate_tuple {prog : Program} {w : World} {A : Around} {E : Value → Shared → Prop} {s : Shared} {l : Addr} {items : Array Value} {Q : Value → Shared → Prop} (hL : s.heap.IsTuple l items)
    (h : ∀ h', IsEnum h' (s.heap.objs.size + 1) s.heap.objs.size (0 + ((0 : Nat) : Int)) .none → h'.IsTupleIter s.heap.objs.size l 0 → h'.objs.size = s.heap.objs.size + 2 →
      (∀ b o, s.heap.get? b = some o → h'.get? b = some o) → Q (.ref (s.heap.objs.size + 1)) { s with heap := h' }) :
    wpAny (model prog w) A (call (.type "enumerate") [.ref l]) Q E s := by
  have B := begins_tuple l items
  have M : Meets (Builtin.«enumerate.__new__» ⟨[.type "enumerate", .ref l], []⟩) (fun _ R s => s.heap.IsTuple l items ∧
      R (.ok (.ret (.ref (s.heap.push { cls := .type "tuple_iterator", data := .fields #[.ref l, .int 0 0] }).objs.size)))
        { s with heap := (s.heap.push { cls := .type "tuple_iterator", data := .fields #[.ref l, .int 0 0] }).push { cls := .type "enumerate", data := .fields #[.none, .bool false, .ref s.heap.objs.size, rawInt 0, .none, .none] } }) :=
    .of_wp fun prog w A R s h => by
      obtain ⟨heap0, g, d, tk, os⟩ := s
      obtain ⟨h1, h⟩ := h
      have subE := sub_enumerate
      have q1 : ∀ {A' : Around} {E : Value → Shared → Prop} {Q : Value → Shared → Prop}, Q (.ref heap0.objs.size) ⟨heap0.push { cls := .type "tuple_iterator", data := .fields #[.ref l, .int 0 0] }, g, d, tk, os⟩ → wpAny (model prog w) A' (pyIter (.ref l)) Q E ⟨heap0, g, d, tk, os⟩ :=
        fun q => B.iter prog w _ _ ⟨heap0, g, d, tk, os⟩ _ h1 q
      obtain ⟨oT, hoT, hcT, nT, hdT⟩ := id h1
      wp_walk using q1, AutoSeq1.wpAny_loadPart' hoT
      refine wpAny_stack_any fun sta => wpAny_pure ?_
      split
      · rename_i c _ _ _ _ _
        cases (c == Value.type "enumerate")
        · wp_walk using q1, AutoSeq1.wpAny_loadPart' hoT
          exact ⟨_, rfl, h⟩
        · wp_walk using q1, AutoSeq1.wpAny_loadPart' hoT
          exact ⟨_, rfl, h⟩
      · wp_walk using q1, AutoSeq1.wpAny_loadPart' hoT
        exact ⟨_, rfl, h⟩
  refine callType_new F.called_enumerate (by decide) (F.typeCall_enumerate_1 _) (F.newCall_enumerate_1 _) (fun obj => F.args_object_init_2 obj _) F.entry_enumerate_new M ⟨hL, ?_⟩
  have zLen : (s.heap.push { cls := .type "tuple_iterator", data := .fields #[.ref l, .int 0 0] }).objs.size = s.heap.objs.size + 1 := Heap.size_push ..
  show _ ∧ _
  rw [zLen]
  have hEn : IsEnum ((s.heap.push { cls := .type "tuple_iterator", data := .fields #[.ref l, .int 0 0] }).push
      { cls := .type "enumerate", data := .fields #[.none, .bool false, .ref s.heap.objs.size, rawInt 0, .none, .none] }) (s.heap.objs.size + 1) s.heap.objs.size 0 .none := by
    have := Heap.get?_push_size (s.heap.push { cls := .type "tuple_iterator", data := .fields #[.ref l, .int 0 0] })
      (o := { cls := .type "enumerate", data := .fields #[.none, .bool false, .ref s.heap.objs.size, rawInt 0, .none, .none] }) rfl
    rw [zLen] at this; exact this
  refine ⟨⟨_, hEn, rfl⟩, h _ hEn ⟨_, Heap.get?_push_of_some _ (Heap.get?_push_size _ rfl), rfl, rfl⟩ (by rw [Heap.size_push, zLen]) fun b o x => Heap.get?_push_of_some _ (Heap.get?_push_of_some _ x)⟩
theorem pi_enumS {X : Cx} {e : Expr} {ta : TA} {p pos tpos : Pos} {elts : List Expr} {kk : Nat} (hGo : Gl X "enumerate") (hm : X.mg "enumerate" = none) (ha : PA X [e] ta) (hs : starEach [e] X.env = [(false, eval e X.env)] := by rfl) :
    PI X (.Tuple elts kk tpos) (.Call (.Name "enumerate" p) [e] [] pos) (iEnumS X.K ta) := by
  refine ⟨fun pins s σ H R I h => ?_⟩
  refine Call_ (ld_blt I hGo hm boot_enumerate (PyProof.Rows.callWith_type1 (thn (ha.run pos pins s σ H _ I h) fun us s1 ⟨vs, H1, J1, r1, q1⟩ => ?_) hs rfl))
  obtain ⟨a, xs, ex, q⟩ := q1
  subst ex
  cases r1 with
  | cons r rr =>
    cases rr
    cases r
    have far : ∀ b, b ∈ [s1.heap.objs.size + 1, s1.heap.objs.size] → s1.heap.objs.size ≤ b := fun b hb => by
      have eOr : b = s1.heap.objs.size + 1 ∨ b = s1.heap.objs.size := by simpa using hb
      rcases eOr with z | z
      · rw [z]; exact Nat.le_add_right _ _
      · rw [z]; exact Nat.le_refl _
    rcases q with ⟨hSq, q⟩ | ⟨hSq, q⟩
    · obtain ⟨vals, rVs, pSeq, zLen⟩ := J1.list hSq
      refine call_enumerate_list pSeq.isList fun h' hEn hIt zNew hk => wpAny_pyIter_enum hEn ?_
      have J2 : Inv X pins σ H1 { s1 with heap := h' } := J1.kept (t' := s1.toks) hk
      exact ⟨s1.heap.objs.size + 1, [s1.heap.objs.size + 1, s1.heap.objs.size], _, _, H1, rfl, J2, turn_enum a (s1.heap.objs.size + 1) s1.heap.objs.size, ⟨⟨.none, hEn⟩, hIt, Nat.succ_ne_self _⟩, fun b hb => J1.fpOk (far b hb) (J1.hok.fresh (far b hb)), q⟩
    · obtain ⟨vals, rVs, pSeq, zLen⟩ := J1.tuple hSq
      have hal : a < s1.heap.objs.size := by obtain ⟨o, ho, _⟩ := (show s1.heap.IsTuple a vals.toArray from pSeq); exact Heap.lt_size ho
      refine call_enumerate_tuple (show s1.heap.IsTuple a vals.toArray from pSeq) fun h' hEn hIt zNew hk => wpAny_pyIter_enum hEn ?_
      have J2 : Inv X pins σ H1 { s1 with heap := h' } := J1.kept (t' := s1.toks) hk
      exact ⟨s1.heap.objs.size + 1, [s1.heap.objs.size + 1, s1.heap.objs.size], _, _, H1, rfl, J2, turn_enumT a (s1.heap.objs.size + 1) s1.heap.objs.size, ⟨⟨.none, hEn⟩, hIt, Nat.succ_ne_self _, Nat.ne_of_lt hal, Nat.ne_of_lt (Nat.lt_succ_of_lt hal)⟩, fun b hb => J1.fpOk (far b hb) (J1.hok.fresh (far b hb)), q⟩
end Ef
set_option Elab.async false
set_option linter.all false
set_option maxRecDepth 100000
set_option maxHeartbeats 2000000
/-! t[::-1] of a tuple; o(..) by the class's own __call__ -/
namespace Ef
open PySem PySem.Spec PyProof.Rows L2
theorem pick_back (its : Array Value) : (List.filterMap (fun k : Nat => its[((its.size : Int) - 1 + (k : Int) * (-1)).toNat]?) (List.range its.size)).toArray = its.toList.reverse.toArray := by
  congr 1
  have e : ∀ (l : List Nat), (∀ k ∈ l, k < its.size) → List.filterMap (fun k : Nat => its[((its.size : Int) - 1 + (k : Int) * (-1)).toNat]?) l = List.filterMap (fun x : Nat => its[x]?) (l.map fun k => its.size - 1 - k) := by
    intro l hl
    induction l with
    | nil => rfl
    | cons k l ih =>
      have := hl k (List.mem_cons_self)
      have q : ((its.size : Int) - 1 + (k : Int) * (-1)).toNat = its.size - 1 - k := by omega
      rw [List.map_cons, List.filterMap_cons, List.filterMap_cons, q, ih fun k hk => hl k (List.mem_cons_of_mem _ hk)]
  rw [e _ (fun k hk => List.mem_range.mp hk), PySem.W.krv_range, List.filterMap_reverse] 
  congr 1
  exact PySem.W.krv_all its
theorem places_back (n : Nat) : Builtin.Slice.slicePlaces ((n : Int) - 1) (-1) (-1) = n := by
  unfold Builtin.Slice.slicePlaces
  rw [if_neg (by decide)]
  split
  · have : ((n : Int) - 1 - -1 - 1) / -(-1 : Int) = (n : Int) - 1 := by
      rw [Int.neg_neg, Int.ediv_one]; omega
    rw [this]; omega
  · omega
theorem sliceApplied_back {prog : Program} {w : World} {A : Around} {E : Value → Shared → Prop} {s : Shared} {sl : Addr} {vl vu vs : Value} {n : Nat} {Q : Int × Int × Nat → Shared → Prop} (hs : s.heap.IsSliceOf sl vl vu vs) (pl : IsPart vl none) (pu : IsPart vu none) (ps : IsPart vs (some (-1)))
    (h : Q ((n : Int) - 1, -1, n) s) : wpAny (model prog w) A (Builtin.Slice.sliceApplied (.ref sl) (pure ↑n)) Q E s := by
  obtain ⟨os, hos, hcs, hds⟩ := id hs
  unfold Builtin.Slice.sliceApplied
  refine wpAny_bind ?_
  unfold Builtin.Slice.sliceFields
  refine wpAny_bind (wpAny_field hos hds rfl (wpAny_bind (wpAny_field hos hds rfl (wpAny_bind (wpAny_field hos hds rfl (wpAny_pure ?_))))))
  refine wpAny_bind (HT.slicePart_ ps ?_)
  dsimp only [Option.getD]
  rw [if_neg (by decide)]
  refine wpAny_bind (HT.slicePart_ pl (wpAny_bind (HT.slicePart_ pu (wpAny_bind (wpAny_pure ?_)))))
  have e : Builtin.Slice.sliceAdjust none none (-1) (n : Int) = ((n : Int) - 1, -1) := by
    unfold Builtin.Slice.sliceAdjust
    simp
  rw [e]
  dsimp only
  rw [places_back]
  exact wpAny_pure h
theorem getItem_tuple_back {prog : Program} {w : World} {A : Around} {E : Value → Shared → Prop} {s : Shared} {t sl : Addr} {items : Array Value} {vl vu vs : Value} {Q : Value → Shared → Prop} (ht : IsTup s.heap t items) (hs : s.heap.IsSliceOf sl vl vu vs) (pl : IsPart vl none) (pu : IsPart vu none) (ps : IsPart vs (some (-1)))
    (h : Q (.ref s.heap.objs.size) { s with heap := s.heap.push { cls := .type "tuple", data := .seq items.toList.reverse.toArray } }) (hsz : items.size ≤ sizeLine) : wpAny (model prog w) A (getItem (.ref t) (.ref sl)) Q E s := by
  obtain ⟨os, hos, hcs, hds⟩ := id hs
  have hTs : s.TypeIs (.ref sl) "slice" := ⟨os, hos, hcs⟩
  unfold getItem
  refine wpAny_holding (wpAny_bind (wpAny_sequenceKey (IsTup.typeIs ht) (by decide) (wpAny_bind (wpAny_callSpecial?_slot (IsTup.typeIs ht) slot_tuple_getitem (wpAny_call_entry slot_tuple_getitem (IsTup.typeIs ht) entry_tuple_getitem ?_ (args_tuple_getitem _ _))))))
  unfold Builtin.«tuple.__getitem__»
  show wpAny _ _ (Builtin.Tuple.tupleItemsOf (.ref t) >>= fun xs => _) _ _ _
  refine wpAny_bind (tupleItemsOf_ ht (wpAny_bind (wpAny_typeOf hTs ?_)))
  rw [if_pos (by decide)]
  refine wpAny_bind (sliceApplied_back (n := items.size) hs pl pu ps ?_)
  dsimp only
  rw [if_neg (by simp)]
  rw [pick_back]
  unfold Builtin.Tuple.tupleExact
  refine wpAny_bind (wpAny_newObj_type (wpAny_pure ⟨_, rfl, wpAny_pure h⟩) ?_)
  show items.toList.reverse.toArray.size ≤ sizeLine
  simpa using hsz
def tRevT (K : PySem.W.Frag) (te : TE) : TE := fun σ H Q => te σ H fun x H1 => ∃ a xs, x = .ref a ∧ SqT K H1 a xs ∧ ∀ p, H1 p = none → Q (.ref p) (upd H1 p (.tup xs.reverse))
theorem pe_revT {X : Cx} {e : Expr} {te : TE} {k : Nat} {p1 p2 p3 pos : Pos} (he : PE X e te) : PE X (e.Subscript (Expr.Slice none none (some (Expr.UnaryOp UnaryOp.USub (Expr.Constant (Const.int 1) k p1) p2)) p3) pos) (tRevT X.K te) := by
  refine ⟨fun pins s σ H Q I h => ?_⟩
  refine Subscript_ (thn (he.run pins s σ H _ I h) fun v s1 ⟨x, H1, I1, r1, a, xs, ex, hx, q⟩ => ?_)
  subst ex
  cases r1
  have hst := po_some (pe_un (X := X) (pos := p2) un_neg (pe_int (X := X) (i := 1) (j := k) (pos := p1)))
  refine wpAny_Slice (thn (po_none.run pins s1 σ H1 (fun o H2 => o = none ∧ H2 = H1) I1 ⟨rfl, rfl⟩) fun vl s2 ⟨l, H2, I2, pl, el, e2⟩ => ?_)
  subst el e2
  refine thn (po_none.run pins s2 σ _ (fun o H3 => o = none ∧ H3 = _) I2 ⟨rfl, rfl⟩) fun vu s3 ⟨u, H3, I3, pu, eu, e3⟩ => ?_
  subst eu e3
  refine thn (hst.run pins s3 σ _ (fun o H4 => o = some (-1) ∧ H4 = _) I3 ⟨1, rfl, -1, rfl, rfl, rfl⟩) fun vs s4 ⟨o, H4, I4, ps, eo, e4⟩ => ?_
  subst eo e4
  have I5 := I4.kept (t' := s4.toks) (fun b ob q => Heap.get?_push_of_some { cls := Value.type "slice", data := Data.fields #[vl, vu, vs] } q)
  obtain ⟨its, r, ht, hz⟩ := I5.tuple hx
  have hlen := r.length
  refine tail_any (IsTup.typeIs ht) slot_tuple_getitem.lookup (getItem_tuple_back ht (Heap.IsSliceOf.new s4.heap vl vu vs) pl pu ps ?_ ?_) (Eq.refl (subscripted _ false (Value.ref a) (Value.ref s4.heap.objs.size)))
  · refine ⟨.ref _, upd _ _ (.tup xs.reverse), Inv.laid I5 (fun b ob q => Heap.get?_push_of_some _ q) (Nat.le_refl _) ?_, rfl, q _ (I5.hok.fresh (Nat.le_refl _))⟩
    exact ⟨by rw [List.length_reverse]; exact hz, its.reverse, Vals.reverse r, ⟨_, Heap.get?_push_size _ rfl, rfl, 0, rfl⟩⟩
  · rw [List.size_toArray, ← hlen]; exact hz
end Ef
set_option Elab.async false
set_option linter.all false
set_option maxRecDepth 100000
set_option maxHeartbeats 2000000
namespace Ef
open PySem PySem.Spec PyProof.Rows L2
theorem callWith_inst {M : Model} {A : Around} {E : Value → Shared → Prop} {s : Shared} {pos : Pos} {x C : Addr} {ox : Obj} {first : List Value} {Q : Value → Shared → Prop} {args : List (Bool × Sem Value)} {keywords : List (Option Str × Sem Value)}
    (hplain : ((args.any fun x => x.fst) || keywords.any fun x => x.fst.isNone) = false) (hd : ox.data = Data.plain)
    (h : wpAny M A (evalArgs (.ref x) true args keywords) (fun a s₁ => (∃ od, PySem.W.InstAt s₁.heap x ox C od) ∧ wpAny M A (call (.ref x) (first ++ a.pos) a.kw) Q E s₁) E s) : wpAny M A (callWith pos (.ref x) first args keywords) Q E s := by
  unfold callWith
  refine wpAny_bind (wpAny_holding (wpAny_mono h (fun a s₁ h₁ => ?_) fun _ _ y => y))
  obtain ⟨⟨od, J⟩, h1⟩ := h₁
  refine wpAny_bind (wpAny_standAt ?_)
  have L := PySem.W.kco_keeper (M := M) J hd
  simp only [hplain]
  refine wpAny_bind (L.here ?_)
  have tail : ∀ {t : Sem Value}, wpAny M A t Q E s₁ → wpAny M A (t >>= fun r => do holding [r] point; pure r) Q E s₁ := fun {t} ht => wpAny_bind (wpAny_mono ht (fun r s₂ hr => wpAny_bind (wpAny_holding (wpAny_point (wpAny_pure hr)))) fun _ _ y => y)
  exact tail (wpAny_operateT h1)
/-- o(e, ..), o a local name that holds an instance of the class at C -/
def tCallI (C : Addr) (i : Nat) (sp : Sp) (E : L2.St → XK) (t : TA) : TE := fun σ H Q => ∃ a dx fs, σ[i]? = some (some (.ref a)) ∧ H a = some (.ins C dx fs) ∧ t σ H fun vs H1 => (∃ fs', H1 a = some (.ins C dx fs')) ∧ sp (.ref a :: vs) H1 Q (E σ)
theorem pe_callI {X : Cx} {CX : CXT} {k i : Nat} {C f : Addr} {fd : FuncData} {ps : List Str} {sp : Sp} {E : L2.St → XK} {x : Str} {p pos : Pos} {e : Expr} {es : List Expr} {t : TA}
    (hf : PySem.W.findIn X.K (.ref C) "__call__" = some (some (.ref f))) (hi : PySem.W.isFn X.K (.ref f) = true) (hn : PySem.W.fnIn X.K f = true)
    (F : FnOk X.prog X.w X.K X.mg X.base CX k f fd ps sp) (hr : Room k X.A) (hb : Binds X.K fd ps []) (hx : ∀ σ, PassesAt CX X σ (E σ)) (ha : PA X (e :: es) t)
    (hN : X.N[i]? = some x := by rfl) (hv : Vis X.env.scope x := by first | exact Or.inl rfl | exact Or.inr (Or.inl rfl) | exact Or.inr (Or.inr rfl))
    (hdb : (x == ("__debug__" : Str)) = false := by decide) (hcd : (x == ("__classdict__" : Str)) = false := by decide)
    (hst : starEach (e :: es) X.env = (false, eval e X.env) :: starEach es X.env := by rfl) (hpl : (backTo pos (starEach es X.env)).any (·.1) = false := by rfl) : PE X (.Call (.Name x p) (e :: es) [] pos) (tCallI C i sp E t) := by
  refine ⟨fun pins s σ H Q I h => ?_⟩
  obtain ⟨a, dx, fs, hs, ea, ht⟩ := h
  have hx' := pe_var (X := X) (pos := p) hN hv hdb hcd
  refine wpAny_Call_Name_kw (thn (hx'.run pins s σ H (fun v H1 => v = .ref a ∧ H1 = H) I ⟨.ref a, hs, rfl, rfl⟩) fun u s1 ⟨v, H1, I1, r1, q1⟩ => ?_)
  obtain ⟨rfl, rfl⟩ := q1
  cases r1
  show wpAny _ _ (callWith pos (.ref a) [] (backTo pos (starEach (e :: es) X.env)) []) _ _ _
  have w1 := thn (ha.run pos pins s1 σ _ _ I1 ht) (Q' := fun us s2 => (∃ od, PySem.W.InstAt s2.heap a (PySem.W.instObj C dx) C od) ∧ wpAny (model X.prog X.w) X.A (call (.ref a) ([] ++ us)) (EP X pins σ Q) X.xe s2) fun us s2 ⟨vs, H2, I2, r, ⟨fs', ea2⟩, q⟩ => by
    obtain ⟨mA2, OM2, _⟩ := ins_get I2.hok ea2
    obtain ⟨od2, J2, _⟩ := OM2.look
    refine ⟨⟨_, J2⟩, wpAny_call (PySem.W.kco_code I2.kIn J2 rfl hf hi hn ?_)⟩
    have hl : (.ref a :: us : List Value).length = ps.length := by rw [← F.len _ _ _ _ q]; exact congrArg (· + 1) r.length.symm
    have b := hb s2 (.ref a :: us) I2.kIn (by rw [List.append_nil]; exact hl)
    rw [List.append_nil] at b
    refine codeAny_mono (F.run X.A X.stack s2 H2 { pos := .ref a :: us } (.ref a :: us) (.ref a :: vs) Q (E σ) hr I2.env0 b (.cons rfl r) q) fun res s' hq => ?_
    cases res with
    | error er => exact hx σ pins H2 s2 er s' I2 hq
    | ok fl =>
      cases fl with
      | ret u => exact I2.after hq
      | next => exact False.elim hq
      | brk => exact False.elim hq
      | cont => exact False.elim hq
  rw [hst] at w1 ⊢
  refine callWith_inst (by simp only [backTo, List.any_cons] at hpl ⊢; simpa using hpl) rfl (PySem.Calls.evalArgs_plain w1)
end Ef
set_option Elab.async false
set_option linter.all false
set_option maxRecDepth 100000
set_option maxHeartbeats 2000000
/-! try with several clauses, each with a name -/
namespace Ef
open PySem PySem.Spec PyProof.Rows L2
abbrev AsC := Value × Nat × (Addr → Value → Option Addr → TS)
/-- the ends of a named clause: its name is gone behind it -/
def EndsAs (i : Nat) (D : Ends) : Ends := { nx := fun σ' H' => D.nx (σ'.set i none) H', rt := D.rt, bk := fun σ' H' => D.bk (σ'.set i none) H', ct := fun σ' H' => D.ct (σ'.set i none) H' }
def wAsL (K : PySem.W.Frag) (Wout : WX) (D : Ends) : List AsC → WX
  | [] => Wout
  | (c, i, ts) :: r => fun cls d σ H => ∃ b, PySem.W.exmOne K cls c = some b ∧ (b = true → ∀ a, H a = none → ts a cls d (EndsAs i D) (σ.set i (some (.ref a))) H) ∧ (b = false → wAsL K Wout D r cls d σ H)
inductive HdsAs (X : Cx) : List ExceptHandler → List AsC → Prop
  | nil : HdsAs X [] []
  | cons {x n : Str} {c : Value} {i : Nat} {ts : Addr → Value → Option Addr → TS} {b₀ : Stmt} {suite : List Stmt} {np pos' : Pos} {hds : List ExceptHandler} {l : List AsC}
      (hi : X.N[i]? = some n) (hln : X.env.kindOf n = some NameKind.local) (hc : Names X x c)
      (hsu : ∀ (a : Addr) (oe : Obj) (cls : Value) (d : Option Addr) (pn : List (Addr × Obj)), Zc cls d oe → (∃ vs, oe.data = Data.fields vs) → PSs (X.suite a ((a, oe) :: pn)) (b₀ :: suite) (ts a cls d))
      (r : HdsAs X hds l) : HdsAs X (ExceptHandler.ExceptHandler (some (Expr.Name x np)) (some n) (b₀ :: suite) pos' :: hds) ((c, i, ts) :: l)
/-- what stands when a clause is looked for -/
structure LandAs (X : Cx) (pins : List (Addr × Obj)) (σ : L2.St) (H : Hp) (sI : Shared) (B : Heap) (a : Addr) (cls : Value) (d : Option Addr) (s : Shared) : Prop where
  J : Inv X pins σ H sI
  nb : ∀ (b : Addr) (o : Obj), sI.heap.get? b = some o → ¬b ∈ frs X.stack → B.get? b = some o
  up : sI.heap.UpToSlots s.heap
  fl : PySem.HandSPX.FlyingZ B (X.env :: X.outer) a (Zc cls d) s.heap
  na : H a = none
  os : s.os = sI.os
  ag : PyProof.Rows.AllBare s.gens
theorem handle_as {X : Cx} {pins : List (Addr × Obj)} {σ : L2.St} {H : Hp} {sI : Shared} {B : Heap} {a : Addr} {cls : Value} {d : Option Addr} {D : Ends} {Wout : WX} (hs : X.stack = X.env :: X.outer) (hf : X.env.frame = some X.env.locals) (hN : X.N.Nodup) (tk : Takes X Wout) :
    ∀ {hds : List ExceptHandler} {l : List AsC}, HdsAs X hds l → ∀ {s : Shared}, LandAs X pins σ H sI B a cls d s → wAsL X.K Wout D l cls d σ H →
      wpAny (model X.prog X.w) X.A (handleBy (.ref a) X.env hds) (SP X pins D) X.xe s := by
  intro hds l hh
  induction hh with
  | nil =>
    intro s L h
    have k := id L.fl
    obtain ⟨k1, k2, k3, oe, vs, T, oT, ts', he, hz, hd, h1, hr⟩ := k
    refine wpAny_handleBy_nil ?_
    refine wpAny_bind (wpAny_field he hd h1 ?_)
    rw [if_neg (by simp)]
    refine wpAny_bind ?_
    rw [hf]
    refine PySem.HandSPX.setFlight_upZ L.fl fun h4 hh4 up4 => wpAny_throw (tk _ _ ⟨a, B, sI, pins, σ, H, cls, d, rfl, L.J, L.nb, Heap.UpToSlots.trans L.up up4, Or.inr (Or.inr (by rw [hs]; exact hh4)), L.na, L.os, L.ag, h⟩)
  | @cons x n c i ts b₀ suite np pos' hds l hi hln hc hsu r ih =>
    intro s L h
    have ok := L.J.ok
    have hloc : L2.Loc X.env.scope n := Or.inl hln
    have J3 := Inv.landed L.J L.nb L.fl.1 L.up L.os L.ag
    obtain ⟨oe3, vs3, he3, hz3, hd3⟩ := L.fl.there
    have notFr : ∀ {h' : Heap} {oe : Obj} {vs : Array Value}, h'.FunFrames B (X.env :: X.outer) → h'.get? a = some oe → oe.data = Data.fields vs → a ∉ List.filterMap (fun (x : Env) => x.frame) (X.env :: X.outer) := fun ff e dd hm => by
      obtain ⟨_, o', e', hnf⟩ := Heap.FunFrames.mem ff hm
      rw [e] at e'
      cases e'
      exact hnf _ dd
    have nfr := notFr L.fl.2.2.1 he3 hd3
    have nL : a ≠ X.env.locals := fun z => nfr (List.mem_filterMap.mpr ⟨X.env, List.mem_cons_self, by rw [hf, z]⟩)
    have nF : a ∉ X.fs := fun hm => by
      obtain ⟨e, he, q⟩ := List.mem_filterMap.mp hm
      exact nfr (List.mem_filterMap.mpr ⟨e, List.mem_cons_of_mem _ he, q⟩)
    have S3 := Inv.suite J3 he3 hd3 L.na nL nF
    obtain ⟨b, hb1, hyes, hno⟩ := h
    refine wpAny_handleBy_cons (codeAny_handlers_test ?_) (fun q => nomatch q)
    have LM : PySem.W.Looks (model X.prog X.w) s.heap (excMatches (.ref a) c) b := PySem.W.exm_one J3.kIn (fun A Q E s k q => wpAny_typeOf_ref (k a oe3 he3) (by rw [hz3.1]; exact q)) hb1
    have test : ∀ {Q E}, Q c s → wpAny (model X.prog X.w) (X.suite a ((a, oe3) :: (X.pn ++ pins))).A (eval (.Name x np) X.env) Q E s := fun {Q E} q => by
      obtain ⟨hg, hdbg, hm | ⟨hm, hv, hnn⟩⟩ := hc
      · exact ld_glob S3 hg hm q hdbg
      · exact ld_blt S3 hg hm hv q hnn hdbg
    refine test (LM.here ?_)
    cases b with
    | false => exact ih L (hno rfl)
    | true =>
      refine codeAny_handlers_suite_as (PySem.HandSPX.lands_againZ L.fl fun h4 fl4 up4 => ?_)
      have J4 := Inv.landed (s' := { s with heap := h4 }) L.J L.nb fl4.1 (Heap.UpToSlots.trans L.up up4) L.os L.ag
      obtain ⟨oe4, vs4, he4, hz4, hd4⟩ := fl4.there
      have S4 := Inv.suite J4 he4 hd4 L.na nL nF
      refine store_ok (X := X.suite a ((a, oe4) :: (X.pn ++ pins))) (pins := []) (v := .ref a) S4 hN hi hloc rfl (fun s5 S5 => wpAny_mono ((hsu a oe4 cls d (X.pn ++ pins) hz4 ⟨vs4, hd4⟩).run [] s5 (σ.set i (some (.ref a))) H (EndsAs i D) S5 (hyes rfl a L.na)) (fun f s6 hsp => ?_) fun _ _ z => False.elim z) (Or.inr hln)
      have end_ : ∀ {σ6 : L2.St} {H6 : Hp} {Q : Unit → Shared → Prop}, Inv (X.suite a ((a, oe4) :: (X.pn ++ pins))) [] σ6 H6 s6 → (∀ s7, Inv X pins (σ6.set i none) H6 s7 → Q () s7) → wpAny (model X.prog X.w) X.A (do bindName X.env n Value.none; unbindBehindTheSuite X.env n pos') Q X.xe s6 := fun S6 hq => gone_ok (Inv.unsuite S6 ok) hN hi hln hq
      cases f with
      | next => obtain ⟨σ6, H6, S6, q6⟩ := hsp; exact end_ S6 fun s7 J7 => ⟨_, _, J7, q6⟩
      | brk => obtain ⟨σ6, H6, S6, q6⟩ := hsp; exact end_ S6 fun s7 J7 => ⟨_, _, J7, q6⟩
      | cont => obtain ⟨σ6, H6, S6, q6⟩ := hsp; exact end_ S6 fun s7 J7 => ⟨_, _, J7, q6⟩
      | ret u => obtain ⟨v6, σ6, H6, S6, r6, q6⟩ := hsp; exact end_ S6 fun s7 J7 => ⟨v6, _, _, J7, r6, q6⟩
theorem ps_try_asL {X : Cx} {h₀ : ExceptHandler} {hds : List ExceptHandler} {l : List AsC} {body : List Stmt} {pos : Pos} {tb : WX → TS} {Wout : WX} (hs : X.stack = X.env :: X.outer) (hf : X.env.frame = some X.env.locals) (hN : X.N.Nodup) (tk : Takes X Wout)
    (hb : ∀ (W : WX) (pn : List (Addr × Obj)) (xe : Value → Shared → Prop), Takes (X.tr pn xe) W → PassesOwn (model X.prog X.w) X.A X.env xe → PSs (X.tr pn xe) body (tb W)) (hh : HdsAs X (h₀ :: hds) l) :
    PS X (.Try body (h₀ :: hds) [] [] pos) fun D σ H => tb (wAsL X.K Wout D l) D σ H := by
  refine ⟨fun pins s σ H D I h => ?_⟩
  have ok := I.ok
  have hfr : X.A.frames = some (X.env :: X.outer) := by rw [ok.frames, hs]
  refine wpAny_Try_except (wpAny_mono ((hb (wAsL X.K Wout D l) (X.pn ++ pins) _ (fun u s' xx => ?_) PassesOwn.looking).run [] s σ H D (Inv.toTry I _) h) (fun f s1 hsp => ?_) fun e s1 he => he)
  · obtain ⟨a, B, sI, pins', σ', H', cls, d, rfl, J', nb, up, sky, na, os, ag, hw⟩ := xx
    have J := Inv.ofTry J' ok
    have sky' : Sky B (X.env :: X.outer) a (Zc cls d) X.env.locals s'.heap := by rw [← hs]; exact sky
    exact Sky.land Zc.steady hfr hf sky' fun h3 fl3 up3 => handle_as hs hf hN tk hh ⟨J, nb, Heap.UpToSlots.trans up up3, fl3, na, os, ag⟩ hw
  · cases f with
    | next => obtain ⟨σ', H', J', q⟩ := hsp; exact wpAny_execs_nil ⟨σ', H', Inv.ofTry J' ok, q⟩
    | brk => obtain ⟨σ', H', J', q⟩ := hsp; exact ⟨σ', H', Inv.ofTry J' ok, q⟩
    | cont => obtain ⟨σ', H', J', q⟩ := hsp; exact ⟨σ', H', Inv.ofTry J' ok, q⟩
    | ret u => obtain ⟨v, σ', H', J', r, q⟩ := hsp; exact ⟨v, σ', H', Inv.ofTry J' ok, r, q⟩
end Ef
set_option Elab.async false
set_option linter.all false
/-! rows of whole numbers: values, differences, divisors -/
namespace Ef
/-- the value of a row -/
def evalR : List Int → Int → Int
  | [], _ => 0
  | c :: r, n => evalR r n * n + c
/-- of a degree below d -/
def PD : Nat → (Int → Int) → Prop
  | 0, f => ∀ n, f n = 0
  | d + 1, f => PD d fun n => f (n + 1) - f n
theorem PD.congr {d : Nat} {f g : Int → Int} (h : PD d f) (e : ∀ n, f n = g n) : PD d g := by
  have : f = g := funext e
  rw [← this]; exact h
theorem PD.add : ∀ {d : Nat} {f g : Int → Int}, PD d f → PD d g → PD d fun n => f n + g n
  | 0, f, g, hf, hg => fun n => by
    have h1 := hf n
    have h2 := hg n
    show f n + g n = 0
    rw [h1, h2]; rfl
  | d + 1, f, g, hf, hg => PD.congr (d := d) (PD.add (d := d) hf hg) fun n => by
    show (f (n + 1) - f n) + (g (n + 1) - g n) = (f (n + 1) + g (n + 1)) - (f n + g n)
    omega
theorem PD.up : ∀ {d : Nat} {f : Int → Int}, PD d f → PD (d + 1) f
  | 0, f, h => fun n => by
    have h1 := h n
    have h2 := h (n + 1)
    show f (n + 1) - f n = 0
    rw [h1, h2]; rfl
  | d + 1, f, h => PD.up (d := d) (f := fun n => f (n + 1) - f n) h
theorem PD.shift : ∀ {d : Nat} {f : Int → Int}, PD d f → PD d fun n => f (n + 1)
  | 0, f, h => fun n => h (n + 1)
  | d + 1, f, h => PD.shift (d := d) (f := fun n => f (n + 1) - f n) h
theorem PD.mulx : ∀ {d : Nat} {f : Int → Int}, PD d f → PD (d + 1) fun n => f n * n
  | 0, f, h => fun n => by
    have h1 := h n
    have h2 := h (n + 1)
    show f (n + 1) * (n + 1) - f n * n = 0
    rw [h1, h2, Int.zero_mul, Int.zero_mul]; rfl
  | d + 1, f, h => by
    have h1 := PD.mulx (d := d) (f := fun n => f (n + 1) - f n) h
    have h2 : PD (d + 1) fun n => f (n + 1) := PD.shift (d := d + 1) h
    show PD (d + 1) fun n => f (n + 1) * (n + 1) - f n * n
    refine PD.congr (d := d + 1) (PD.add h1 h2) fun n => ?_
    show (f (n + 1) - f n) * n + f (n + 1) = f (n + 1) * (n + 1) - f n * n
    rw [Int.sub_mul, Int.mul_add, Int.mul_one]
    omega
theorem PD.const (c : Int) : ∀ d : Nat, PD (d + 1) fun _ => c
  | 0 => fun n => Int.sub_self c
  | d + 1 => PD.up (PD.const c d)
theorem pd_row : ∀ r : List Int, PD r.length (evalR r)
  | [] => fun n => rfl
  | c :: r => PD.congr (d := r.length + 1) (PD.add (PD.mulx (pd_row r)) (PD.const c r.length)) fun n => rfl
theorem PD.dvd {u : Int} : ∀ {d : Nat} {f : Int → Int}, PD d f → (∀ k : Nat, k < d → u ∣ f k) → ∀ n, u ∣ f n
  | 0, f, h, _, n => by rw [h n]; exact Int.dvd_zero u
  | d + 1, f, h, hk, n => by
    have hd : ∀ n, u ∣ f (n + 1) - f n := PD.dvd (d := d) (f := fun n => f (n + 1) - f n) h fun k hk' => by
      have h1 := hk (k + 1) (by omega)
      have h2 := hk k (by omega)
      exact Int.dvd_sub h1 h2
    have h0 : u ∣ f 0 := hk 0 (by omega)
    have hp : ∀ k : Nat, u ∣ f k := fun k => by
      induction k with
      | zero => exact h0
      | succ k ih =>
        have := Int.dvd_add (hd k) ih
        rw [Int.sub_add_cancel] at this
        exact this
    have hn : ∀ k : Nat, u ∣ f (-(k : Int)) := fun k => by
      induction k with
      | zero => exact h0
      | succ k ih =>
        have h1 := hd (-((k + 1 : Nat) : Int))
        have e : -((k + 1 : Nat) : Int) + 1 = -(k : Int) := by omega
        rw [e] at h1
        have := Int.dvd_sub ih h1
        rw [Int.sub_sub_self] at this
        exact this
    rcases Int.le_total 0 n with z | z
    · have := hp n.toNat
      rw [Int.toNat_of_nonneg z] at this
      exact this
    · have := hn (-n).toNat
      rw [Int.toNat_of_nonneg (by omega), Int.neg_neg] at this
      exact this
/-- divisible at as many n in a row as the row has members: divisible everywhere -/
theorem row_dvd {r : List Int} {u : Int} (h : ∀ k : Nat, k < r.length → u ∣ evalR r k) (n : Int) : u ∣ evalR r n := (pd_row r).dvd h n
theorem eval_take : ∀ (r : List Int) (k : Nat) (n : Int), (∀ j, k ≤ j → j < r.length → r[j]? = some 0) → evalR (r.take k) n = evalR r n
  | [], k, n, _ => by rw [List.take_nil]
  | c :: r, 0, n, h => by
    have h0 : c = 0 := by
      have := h 0 (Nat.le_refl 0) (Nat.succ_pos _)
      simpa using this
    have ih := eval_take r 0 n fun j _ hj => by
      have := h (j + 1) (Nat.zero_le _) (Nat.succ_lt_succ hj)
      simpa using this
    show (0 : Int) = evalR r n * n + c
    rw [← ih, h0]
    show (0 : Int) = 0 * n + 0
    rw [Int.zero_mul]; rfl
  | c :: r, k + 1, n, h => by
    have ih := eval_take r k n fun j hk hj => by
      have := h (j + 1) (Nat.succ_le_succ hk) (Nat.succ_lt_succ hj)
      simpa using this
    show evalR (r.take k) n * n + c = evalR r n * n + c
    rw [ih]
theorem eval_map : ∀ (r : List Int) (g n : Int), (∀ c ∈ r, g ∣ c) → evalR r n = g * evalR (r.map fun c => c / g) n
  | [], g, n, _ => (Int.mul_zero g).symm
  | c :: r, g, n, h => by
    have ih := eval_map r g n fun c hc => h c (List.mem_cons_of_mem _ hc)
    show evalR r n * n + c = g * (evalR (r.map fun c => c / g) n * n + c / g)
    rw [Int.mul_add, Int.mul_ediv_cancel' (h c List.mem_cons_self), ih, Int.mul_assoc]
/-- the greatest common divisor of a number and a row -/
def gcdR (f : Nat) (t : List Int) : Nat := t.foldl (fun g c => Nat.gcd g c.natAbs) f
theorem gcdR_dvd : ∀ (t : List Int) (f : Nat), gcdR f t ∣ f ∧ ∀ c ∈ t, (gcdR f t : Int) ∣ c
  | [], f => ⟨Nat.dvd_refl f, fun c hc => by cases hc⟩
  | c :: t, f => by
    obtain ⟨h1, h2⟩ := gcdR_dvd t (Nat.gcd f c.natAbs)
    refine ⟨Nat.dvd_trans h1 (Nat.gcd_dvd_left _ _), fun x hx => ?_⟩
    rcases List.mem_cons.mp hx with rfl | hx
    · exact Int.ofNat_dvd_left.mpr (Nat.dvd_trans h1 (Nat.gcd_dvd_right _ _))
    · exact h2 x hx
theorem dvd_gcdR : ∀ (t : List Int) (f d : Nat), d ∣ f → (∀ c ∈ t, (d : Int) ∣ c) → d ∣ gcdR f t
  | [], f, d, h, _ => h
  | c :: t, f, d, h, hc => dvd_gcdR t (Nat.gcd f c.natAbs) d (Nat.dvd_gcd h (Int.ofNat_dvd_left.mp (hc c List.mem_cons_self))) fun x hx => hc x (List.mem_cons_of_mem _ hx)
theorem gcdR_one : ∀ t : List Int, gcdR 1 t = 1
  | [] => rfl
  | c :: t => by
    show gcdR (Nat.gcd 1 c.natAbs) t = 1
    rw [Nat.gcd_one_left]; exact gcdR_one t
theorem gcdR_pos {t : List Int} {f : Nat} (h : 0 < f) : 0 < gcdR f t := Nat.pos_of_dvd_of_pos (gcdR_dvd t f).1 h
theorem gcdR_take_succ {t : List Int} {f i : Nat} {c : Int} (h : t[i]? = some c) : gcdR f (t.take (i + 1)) = Nat.gcd (gcdR f (t.take i)) c.natAbs := by
  unfold gcdR
  rw [List.take_succ, h, Option.toList_some, List.foldl_append]
  rfl
/-- one lowest form -/
theorem gcdR_low {t : List Int} {f : Nat} (h : 0 < f) : gcdR (f / gcdR f t) (t.map fun c => c / (gcdR f t : Int)) = 1 := by
  have hg := gcdR_pos (t := t) h
  obtain ⟨h1, h2⟩ := gcdR_dvd t f
  obtain ⟨d1, d2⟩ := gcdR_dvd (t.map fun c => c / (gcdR f t : Int)) (f / gcdR f t)
  generalize hgd : gcdR (f / gcdR f t) (t.map fun c => c / (gcdR f t : Int)) = d at d1 d2 ⊢
  have k1 : d * gcdR f t ∣ f := by
    have := Nat.mul_dvd_mul_right d1 (gcdR f t)
    rw [Nat.div_mul_cancel h1] at this
    exact this
  have k2 : ∀ c ∈ t, ((d * gcdR f t : Nat) : Int) ∣ c := fun c hc => by
    have z := d2 (c / (gcdR f t : Int)) (List.mem_map_of_mem hc)
    have z2 := Int.mul_dvd_mul_right (gcdR f t : Int) z
    rw [Int.ediv_mul_cancel (h2 c hc)] at z2
    rw [Int.natCast_mul]
    exact z2
  have k3 := dvd_gcdR t f _ k1 k2
  have k4 := Nat.le_of_dvd hg k3
  rcases Nat.lt_or_ge d 2 with z | z
  · rcases Nat.eq_zero_or_pos d with rfl | z0
    · rw [Nat.zero_mul] at k3
      have := Nat.eq_zero_of_zero_dvd k3
      omega
    · omega
  · have := Nat.mul_le_mul_right (gcdR f t) z
    omega
/-- the row without the zeros at its end -/
def TrimOk (r t : List Int) : Prop := ∃ k, k ≤ r.length ∧ t = r.take k ∧ (∀ j, k ≤ j → j < r.length → r[j]? = some 0) ∧ (k = 0 ∨ ∃ c, r[k - 1]? = some c ∧ c ≠ 0)
/-- the least form p over u of the row r over un -/
structure Low (r : List Int) (un : Nat) (p : List Int) (u : Nat) : Prop where
  ex : ∃ (k g : Nat), 0 < g ∧ k ≤ r.length ∧ p = (r.take k).map (fun c => c / (g : Int)) ∧ (∀ c ∈ r.take k, (g : Int) ∣ c) ∧ un = g * u ∧ gcdR u p = 1 ∧ (∀ j, k ≤ j → j < r.length → r[j]? = some 0) ∧ (k = 0 ∨ ∃ c, r[k - 1]? = some c ∧ c ≠ 0)
  u1 : 0 < u
theorem Low.of_trim {r t : List Int} {un : Nat} (h : TrimOk r t) (h0 : 0 < un) : Low r un (t.map fun c => c / (gcdR un t : Int)) (un / gcdR un t) := by
  obtain ⟨k, hk, rfl, hz, hl⟩ := h
  have hg := gcdR_pos (t := r.take k) h0
  obtain ⟨h1, h2⟩ := gcdR_dvd (r.take k) un
  refine ⟨⟨k, gcdR un (r.take k), hg, hk, rfl, h2, (Nat.mul_div_cancel' h1).symm, gcdR_low h0, hz, hl⟩, Nat.div_pos (Nat.le_of_dvd h0 h1) hg⟩
theorem Low.eval {r p : List Int} {un u : Nat} (h : Low r un p u) (n : Int) : ∃ g : Int, 0 < g ∧ (un : Int) = g * u ∧ evalR r n = g * evalR p n := by
  obtain ⟨k, g, hg, hk, rfl, hd, hu, _, hz, _⟩ := h.ex
  refine ⟨g, by omega, by rw [hu, Int.natCast_mul], ?_⟩
  rw [← eval_take r k n hz, eval_map _ (g : Int) n hd]
theorem Low.mod {r p : List Int} {un u : Nat} (h : Low r un p u) (n : Int) : evalR r n % (un : Int) = 0 ↔ evalR p n % (u : Int) = 0 := by
  obtain ⟨g, hg, e1, e2⟩ := h.eval n
  rw [e1, e2, Int.mul_emod_mul_of_pos _ _ hg]
  constructor
  · intro z
    rcases Int.mul_eq_zero.mp z with z | z
    · omega
    · exact z
  · intro z
    rw [z, Int.mul_zero]
theorem Low.div {r p : List Int} {un u : Nat} (h : Low r un p u) (n : Int) : evalR r n / (un : Int) = evalR p n / (u : Int) := by
  obtain ⟨g, hg, e1, e2⟩ := h.eval n
  rw [e1, e2, Int.mul_ediv_mul_of_pos _ _ hg]
theorem Low.len {r p : List Int} {un u : Nat} (h : Low r un p u) : p.length ≤ r.length := by
  obtain ⟨k, g, hg, hk, rfl, _⟩ := h.ex
  rw [List.length_map, List.length_take]
  omega
/-- whole everywhere -/
theorem Low.whole {r p : List Int} {un u : Nat} (h : Low r un p u) : (∀ k : Nat, k < p.length → evalR p k % (u : Int) = 0) ↔ ∀ n : Int, -1 ≤ n → n < (r.length : Int) + 2 → evalR r n % (un : Int) = 0 := by
  constructor
  · intro hk n _ _
    exact (h.mod n).mpr (Int.emod_eq_zero_of_dvd (row_dvd (fun k hk' => Int.dvd_of_emod_eq_zero (hk k hk')) n))
  · intro hn k hk
    have := h.len
    exact (h.mod k).mp (hn k (by omega) (by omega))
/-- of at most b bits -/
def Bd (b : Nat) (x : Int) : Prop := x.natAbs < 2 ^ b
theorem Bd.up {a b : Nat} {x : Int} (h : Bd a x) (e : a ≤ b) : Bd b x := Nat.lt_of_lt_of_le h (Nat.pow_le_pow_right (by decide) e)
theorem Bd.step {a b c w : Nat} {x y z : Int} (hx : Bd a x) (hy : Bd b y) (hz : Bd c z) (h1 : a + b + 1 ≤ w) (h2 : c + 1 ≤ w) : Bd w (x * y + z) := by
  unfold Bd at *
  have e1 : (x * y + z).natAbs ≤ x.natAbs * y.natAbs + z.natAbs := by
    have := Int.natAbs_add_le (x * y) z
    rw [Int.natAbs_mul] at this
    exact this
  have e2 : x.natAbs * y.natAbs ≤ 2 ^ a * 2 ^ b := Nat.mul_le_mul (Nat.le_of_lt hx) (Nat.le_of_lt hy)
  rw [← Nat.pow_add] at e2
  have e3 : 2 ^ (a + b) ≤ 2 ^ (w - 1) := Nat.pow_le_pow_right (by decide) (by omega)
  have e4 : 2 ^ c ≤ 2 ^ (w - 1) := Nat.pow_le_pow_right (by decide) (by omega)
  have e5 : 2 ^ w = 2 ^ (w - 1) + 2 ^ (w - 1) := by
    rw [← Nat.two_mul, ← Nat.pow_succ', Nat.succ_eq_add_one, Nat.sub_add_cancel (by omega)]
  omega
theorem Bd.zero (b : Nat) : Bd b 0 := Nat.pow_pos (by decide)
theorem bd_eval {n : Int} {b : Nat} (hn : Bd b n) : ∀ r : List Int, (∀ c ∈ r, Bd b c) → Bd ((b + 1) * r.length) (evalR r n)
  | [], _ => Bd.zero _
  | c :: r, h => by
    have ih := bd_eval hn r fun c hc => h c (List.mem_cons_of_mem _ hc)
    have := Bd.step ih hn (h c List.mem_cons_self) (w := (b + 1) * (r.length + 1)) (by rw [Nat.mul_succ]; omega) (by rw [Nat.mul_succ]; omega)
    exact this
theorem Bd.div {b : Nat} {x g : Int} (h : Bd b x) (hg : 0 < g) : Bd b (x / g) := by
  unfold Bd at *
  rcases Int.le_total 0 x with z | z
  · have h1 := Int.ediv_nonneg z (Int.le_of_lt hg)
    have h2 : x / g ≤ x := Int.ediv_le_self g z
    omega
  · have h1 : x / g ≤ 0 := Int.ediv_nonpos_of_nonpos_of_neg z hg
    have h2 : x ≤ x / g := by
      rw [Int.le_ediv_iff_mul_le hg]
      have := Int.mul_le_mul_of_nonpos_left (c := 1) (b := g) (a := x) z (by omega)
      omega
    omega
end Ef
set_option Elab.async false
set_option linter.all false
set_option maxRecDepth 100000
set_option maxHeartbeats 4000000
namespace Ef
open PySem PySem.Spec PyProof.Rows L2
abbrev sIsInt : Stmt := top 10
abbrev sFrom : Stmt := top 11
structure TxtW (mg : Str → Option Value) : Prop extends TxtP mg where
  isinstance : mg "isinstance" = none
  bool : mg "bool" = none
  enumerate : mg "enumerate" = none
  reversed : mg "reversed" = none
  range : mg "range" = none
  tuple : mg "tuple" = none
/-- no int: a value of another built-in kind, or a truth -/
def NotInt (K : PySem.W.Frag) (H : Hp) (v : V) : Prop := ∃ (n : String) (b1 b2 : Bool), TyX K H v (.type n) ∧ kitB n "int" = some b1 ∧ kitB n "bool" = some b2 ∧ (b1 && !b2) = false
section
variable {P : Program} {w : World} {K : PySem.W.Frag} {mg : Str → Option Value} {base : Heap}
def spIsInt (K : PySem.W.Frag) : Sp := fun vs H Q _ => ∃ (v : V) (n : String) (b1 b2 : Bool), vs = [v] ∧ TyX K H v (.type n) ∧ kitB n "int" = some b1 ∧ kitB n "bool" = some b2 ∧ Q (.bl (b1 && !b2)) H
theorem scIsInt : FnScope ["value"] ["value"] (defScope sIsInt) := ⟨rfl, rfl, rfl, by decide +kernel, rfl, by decide +kernel, by decide +kernel⟩
theorem df_isint (A : At K mg "is_int" sIsInt) (T : TxtW mg) : Df P w K mg base 1 "is_int" ["value"] (spIsInt K) := by
  obtain ⟨f, fd, hm, F⟩ := A.ex
  refine ⟨f, fd, hm, F.kp, F.binds (fun _ _ _ _ _ _ us hl => match us, hl with | [_], _ => rfl), F.ok scIsInt (fun vs H Q E h => ?_) (fun cdv A outer s H vs Q E hr h => ?_)⟩
  · obtain ⟨v, n, b1, b2, rfl, _⟩ := h
    rfl
  · obtain ⟨v, n, b1, b2, rfl, ht, h1, h2, q⟩ := h
    refine ⟨_, (pss_one (ps_ret (pe_and (pe_callB call_isi (by rfl) T.isinstance (by decide +kernel) (pa_cons (pv 0) (pa_cons (pe_bltn (v := .ty "int") (by rfl) T.int (by decide +kernel) rfl) pa_nil))) (pe_one (pe_not (pe_callB call_isi (by rfl) T.isinstance (by decide +kernel) (pa_cons (pv 0) (pa_cons (pe_bltn (v := .ty "bool") (by rfl) T.bool (by decide +kernel) rfl) pa_nil)))))))), ?_⟩
    refine ⟨v, rfl, _, _, _, _, _, rfl, .ty "int", ht, kit_ty h1, b1, rfl, ?_⟩
    cases b1 with
    | true =>
      refine iteT ⟨v, rfl, _, _, _, _, _, rfl, .ty "bool", ht, kit_ty h2, b2, rfl, ?_⟩
      exact q
    | false => exact iteF q
def spFrom (K : PySem.W.Frag) : Sp := fun vs H Q _ => ∃ (v : V) (low : Int), vs = [v, .int low] ∧ ((∃ i, v = .int i ∧ Q (.bl (decide (low ≤ i))) H) ∨ (NotInt K H v ∧ Q (.bl false) H))
theorem scFrom : FnScope ["value", "low"] ["value", "low"] (defScope sFrom) := ⟨rfl, rfl, rfl, by decide +kernel, rfl, by decide +kernel, by decide +kernel⟩
theorem df_from (A : At K mg "is_int_from" sFrom) (Disint : Df P w K mg base 1 "is_int" ["value"] (spIsInt K)) : Df P w K mg base 2 "is_int_from" ["value", "low"] (spFrom K) := by
  obtain ⟨f, fd, hm, F⟩ := A.ex
  refine ⟨f, fd, hm, F.kp, F.binds (fun _ _ _ _ _ _ us hl => match us, hl with | [_, _], _ => rfl), F.ok scFrom (fun vs H Q E h => ?_) (fun cdv A outer s H vs Q E hr h => ?_)⟩
  · obtain ⟨v, low, rfl, _⟩ := h
    rfl
  · obtain ⟨v, low, rfl, h⟩ := h
    refine ⟨_, (pss_one (ps_ret (pe_and (Disint.call (hr.mono (by decide)) (pa_cons (pv 0) pa_nil)) (pe_one (pe_cmpR op_ge (pv 0) (pv 1) (nomark _)))))), ?_⟩
    rcases h with ⟨i, rfl, q⟩ | ⟨⟨n, b1, b2, ht, h1, h2, hb⟩, q⟩
    · refine ⟨_, rfl, _, "int", true, false, rfl, .base (.int i), by decide +kernel, by decide +kernel, _, rfl, ?_⟩
      exact iteT ⟨_, rfl, _, rfl, _, _, rfl, rfl, q⟩
    · refine ⟨_, rfl, _, n, b1, b2, rfl, ht, h1, h2, _, rfl, ?_⟩
      rw [hb]
      exact iteF q
end
end Ef
set_option Elab.async false
set_option linter.all false
set_option maxRecDepth 100000
set_option maxHeartbeats 2000000
/-! in, not, bool(..) by a class's own methods; a class that a local name holds, called -/
namespace Ef
open PySem PySem.Spec PyProof.Rows L2
/-- the class at C has its own method m: the def at f, which keeps sp -/
structure Own (P : Program) (w : World) (K : PySem.W.Frag) (mg : Str → Option Value) (base : Heap) (k : Nat) (C : Addr) (m : Str) (ps : List Str) (sp : Sp) : Prop where
  ex : ∃ f fd, PySem.W.findIn K (.ref C) m = some (some (.ref f)) ∧ PySem.W.isFn K (.ref f) = true ∧ PySem.W.typeIn K (.ref f) = some (.type "function") ∧ PySem.W.keepIn K (.ref f) = true ∧ Binds K fd ps [] ∧ FnOk P w K mg base CX0 k f fd ps sp
section
variable {X : Cx} {pins : List (Addr × Obj)} {σ : L2.St} {H : Hp} {s : Shared} {Q : VK} {k : Nat} {C a dx : Addr} {fs : List (Str × V)} {m : Str} {ps : List Str} {sp : Sp} {A : Around} {E' : Value → Shared → Prop}
/-- the call of a def from below the body that runs -/
theorem run_low {f : Addr} {fd : FuncData} {us : List Value} {vs : List V} (F : FnOk X.prog X.w X.K X.mg X.base CX0 k f fd ps sp) (hr : Room k A) (hfr : A.frames = X.A.frames) (hb : Binds X.K fd ps []) (I : Inv X pins σ H s) (r : Vals vs us) (h : sp vs H Q E0) :
    wpAny (model X.prog X.w) A (call (.ref f) us) (EP X pins σ Q) E' s := by
  have e0 : Env0 X.prog X.w X.K X.mg X.base A X.stack s H := by
    have e := I.env0
    exact ⟨hfr.trans e.frames, e.mod, e.bs, e.bsz, e.funs, e.frf, e.hok, e.bare⟩
  have hl : (us ++ []).length = ps.length := by rw [List.append_nil, ← r.length]; exact F.len _ _ _ _ h
  have hbt := hb s us I.kIn hl
  rw [List.append_nil] at hbt
  refine wpAny_call (codeAny_mono (F.run A X.stack s H ⟨us, []⟩ us vs Q E0 hr e0 hbt r h) fun res s' hq => ?_)
  cases res with
  | error e => exact False.elim hq
  | ok fl =>
    cases fl with
    | ret u => exact I.after hq
    | next => exact False.elim hq
    | brk => exact False.elim hq
    | cont => exact False.elim hq
/-- callSpecial? of such a method -/
theorem own_special {args : List Value} {vs : List V} {R : Option Value → Shared → Prop} (O : Own X.prog X.w X.K X.mg X.base k C m ps sp) (hr : Room k A) (hfr : A.frames = X.A.frames) (I : Inv X pins σ H s) (ea : H a = some (.ins C dx fs)) (r : Vals vs args)
    (h : sp (.ref a :: vs) H Q E0) (hR : ∀ u s', EP X pins σ Q u s' → R (some u) s') : wpAny (model X.prog X.w) A (callSpecial? (.ref a) m args) R E' s := by
  obtain ⟨f, fd, hf, hi, ht, hk, hb, F⟩ := O.ex
  obtain ⟨mA, OM, _⟩ := ins_get I.hok ea
  obtain ⟨od, J, _⟩ := OM.look
  refine PySem.W.special_fn I.kIn J hf ht ?_
  exact wpAny_mono (run_low (us := .ref a :: args) (vs := .ref a :: vs) F hr hfr hb I (.cons rfl r) h) (fun u s' z => hR u s' z) fun _ _ z => z
theorem own_unless {args : List Value} {vs : List V} {refuse : Sem Value} {R : Option Value → Shared → Prop} (O : Own X.prog X.w X.K X.mg X.base k C m ps sp) (hr : Room k A) (hfr : A.frames = X.A.frames) (I : Inv X pins σ H s) (ea : H a = some (.ins C dx fs)) (r : Vals vs args)
    (h : sp (.ref a :: vs) H Q E0) (hR : ∀ u s', EP X pins σ Q u s' → R (some u) s') : wpAny (model X.prog X.w) A (callSpecialUnlessNone? (.ref a) m args refuse) R E' s := by
  obtain ⟨f, fd, hf, hi, ht, hk, hb, F⟩ := O.ex
  obtain ⟨mA, OM, _⟩ := ins_get I.hok ea
  obtain ⟨od, J, _⟩ := OM.look
  unfold callSpecialUnlessNone? specialOf
  refine wpAny_bind (wpAny_bind (J.type.here ((PySem.W.looks_findIn I.kIn hf).here ?_)))
  refine wpAny_holding (wpAny_bind ((PySem.W.bind_fn I.kIn _ ht).here ?_))
  show wpAny _ _ (if (Value.ref f == Value.none) = true then _ else _) _ _ _
  rw [if_neg (show ¬ ((Value.ref f == Value.none) = true) from Bool.false_ne_true)]
  refine wpAny_bind (wpAny_mono (run_low (us := .ref a :: args) (vs := .ref a :: vs) F hr hfr hb I (.cons rfl r) h) (fun u s' z => wpAny_pure (hR u s' z)) fun _ _ z => z)
/-- x in o, x not in o, by o's own __contains__ -/
def rOwnIn (C : Addr) (sp : Sp) (neg : Bool) : R2 := fun x y H Q => ∃ (a dx : Addr) (fs : List (Str × V)), y = .ref a ∧ H a = some (.ins C dx fs) ∧ sp [.ref a, x] H (fun v H' => ∃ b, v = .bl b ∧ Q (.bl (if neg = true then !b else b)) H') E0
theorem contains_own {x : V} {u : Value} {R : Bool → Shared → Prop} {Qb : Bool → Hp → Prop} (O : Own X.prog X.w X.K X.mg X.base k C "__contains__" ps sp) (hr : Room k A) (hfr : A.frames = X.A.frames) (I : Inv X pins σ H s) (ea : H a = some (.ins C dx fs)) (r : RelV x u)
    (h : sp [.ref a, x] H (fun v H' => ∃ b, v = .bl b ∧ Qb b H') E0) (hR : ∀ b H' s', Inv X pins σ H' s' → Qb b H' → R b s') : wpAny (model X.prog X.w) A (contains (.ref a) u) R E' s := by
  obtain ⟨f, fd, hf, _⟩ := id O.ex
  obtain ⟨mA, OM, _⟩ := ins_get I.hok ea
  obtain ⟨od, J, _⟩ := OM.look
  unfold contains
  refine wpAny_holding ?_
  have e1 : stdlibNamesSay? (.ref a) u = none := by cases u <;> rfl
  rw [e1]
  dsimp only
  refine wpAny_bind ?_
  unfold specialOf
  refine wpAny_bind (J.type.here ((PySem.W.looks_findIn I.kIn hf).here ?_))
  show wpAny _ _ (if (some (Value.ref f) == some Value.none) = true then _ else _) _ _ _
  rw [if_neg (show ¬ ((some (Value.ref f) == some Value.none) = true) from Bool.false_ne_true)]
  refine wpAny_bind (own_unless (vs := [x]) O hr hfr I ea (.cons r .nil) h fun w' s' hz => ?_)
  obtain ⟨v, H', I', rv, b, rfl, q⟩ := hz
  cases rv
  exact wpAny_truthy_bool (hR b H' s' I' q)
theorem op_in_own (O : Own X.prog X.w X.K X.mg X.base k C "__contains__" ps sp) (hr : Room k X.A) : OpR X (compareOp .In) (rOwnIn C sp false) := by
  intro pins s σ H x y v u Q I rx ry h
  obtain ⟨a, dx, fs, rfl, ea, q⟩ := h
  cases ry
  show wpAny _ _ (contains (.ref a) v >>= fun z => pure (Value.bool z)) _ _ _
  exact wpAny_bind (contains_own O hr rfl I ea rx q fun b H' s' I' z => wpAny_pure ⟨.bl b, H', I', rfl, z⟩)
theorem op_notin_own (O : Own X.prog X.w X.K X.mg X.base k C "__contains__" ps sp) (hr : Room k X.A) : OpR X (compareOp .NotIn) (rOwnIn C sp true) := by
  intro pins s σ H x y v u Q I rx ry h
  obtain ⟨a, dx, fs, rfl, ea, q⟩ := h
  cases ry
  show wpAny _ _ (contains (.ref a) v >>= fun z => pure (Value.bool (!z))) _ _ _
  exact wpAny_bind (contains_own O hr rfl I ea rx q fun b H' s' I' z => wpAny_pure ⟨.bl (!b), H', I', rfl, z⟩)
/-- truth by an own __bool__ -/
theorem truthy_own {R : Bool → Shared → Prop} {Qb : Bool → Hp → Prop} (O : Own X.prog X.w X.K X.mg X.base k C "__bool__" ps sp) (hr : Room k A) (hfr : A.frames = X.A.frames) (I : Inv X pins σ H s) (ea : H a = some (.ins C dx fs))
    (h : sp [.ref a] H (fun v H' => ∃ b, v = .bl b ∧ Qb b H') E0) (hR : ∀ b H' s', Inv X pins σ H' s' → Qb b H' → R b s') : wpAny (model X.prog X.w) A (truthy (.ref a)) R E' s := by
  unfold truthy
  refine wpAny_bind (own_special (vs := []) (args := []) O hr hfr I ea .nil h fun w' s' hz => ?_)
  obtain ⟨v, H', I', rv, b, rfl, q⟩ := hz
  cases rv
  exact wpAny_pure (hR b H' s' I' q)
def rOwnTr (C : Addr) (sp : Sp) : V → Hp → (Bool → Hp → Prop) → Prop := fun x H Q => ∃ (a dx : Addr) (fs : List (Str × V)), x = .ref a ∧ H a = some (.ins C dx fs) ∧ sp [.ref a] H (fun v H' => ∃ b, v = .bl b ∧ Q b H') E0
/-- not o -/
theorem un_not_own (O : Own X.prog X.w X.K X.mg X.base k C "__bool__" ps sp) (hr : Room k X.A) : UnR X (unaryOp .Not) (fun x H Q => rOwnTr C sp x H fun b H' => Q (.bl (!b)) H') := by
  intro pins s σ H x v Q I rx h
  obtain ⟨a, dx, fs, rfl, ea, q⟩ := h
  cases rx
  unfold unaryOp
  refine wpAny_holding ?_
  show wpAny _ _ (truthy (.ref a) >>= fun z => pure (Value.bool (!z))) _ _ _
  exact wpAny_bind (truthy_own O hr rfl I ea q fun b H' s' I' z => wpAny_pure ⟨.bl (!b), H', I', rfl, z⟩)
theorem mono_truthy {M : Model} {E1 : Value → Shared → Prop} {x : Value} {R R' : Bool → Shared → Prop} (h : wpAny M A (truthy x) R E1 s) (hR : ∀ b s', R b s' → R' b s') : wpAny M A (truthy x) R' E1 s := wpAny_mono h (fun b s' z => hR b s' z) fun _ _ z => z
theorem bool_new_in (prog : Program) (w : World) (a : Addr) : MeetsIn prog w (Builtin.«bool.__new__» ⟨[.type "bool", .ref a], []⟩)
    (fun A R s => wpAny (model prog w) A.in1 (truthy (.ref a)) (fun b s' => R (.ok (.ret (.bool b))) s') (fun e s' => R (.error e) s') s) :=
  MeetsIn.of_wp fun A R s hs => by
    have f1 := F.conv_sub_bool
    repeat (any_goals (first | (with_reducible refine mono_truthy hs fun b s' hz => ?_) | wp_step))
    all_goals first | exact ⟨_, rfl, by assumption⟩ | skip
/-- bool(o) -/
theorem call_bool_own (O : Own X.prog X.w X.K X.mg X.base k C "__bool__" ps sp) (hr : Room (k + 2) X.A) : CallR X (.type "bool") (fun xs H Q => ∃ x, xs = [x] ∧ rOwnTr C sp x H fun b H' => Q (.bl b) H') := by
  intro pins s σ H xs us Q I r h
  obtain ⟨x, rfl, a, dx, fs, rfl, ea, q⟩ := h
  obtain rfl := Vals.ref1 r
  refine callType_newIn F.called_bool F.newNe_bool (F.typeCall_bool_1 _) (F.newCall_bool_1 _) (fun obj => F.args_object_init_2 obj _) F.entry_bool_new (bool_new_in X.prog X.w a) ?_
  exact truthy_own O hr.in1.in1 rfl I ea q fun b H' s' I' z => ⟨rfl, .bl b, H', I', rfl, z⟩
/-- C(e, ..) by a local name that holds the class -/
def tMakeL (i : Nat) (C : Addr) (sp : Sp) (t : TA) : TE := fun σ H Q => σ[i]? = some (some (.ref C)) ∧ tMake C sp [] E0 t σ H Q
theorem pe_makeL {f : Addr} {fd : FuncData} {i : Nat} {x : Str} {p pos : Pos} {e : Expr} {es : List Expr} {t : TA} (M : Mk X.K C f) (F : FnOk X.prog X.w X.K X.mg X.base CX0 k f fd ps sp) (hr : Room (k + 1) X.A) (hb : Binds X.K fd ps []) (ha : PA X (e :: es) t)
    (hN : X.N[i]? = some x := by rfl) (hv : Vis X.env.scope x := by first | exact Or.inl rfl | exact Or.inr (Or.inl rfl) | exact Or.inr (Or.inr rfl))
    (hdb : (x == ("__debug__" : Str)) = false := by decide) (hcd : (x == ("__classdict__" : Str)) = false := by decide)
    (hst : starEach (e :: es) X.env = (false, eval e X.env) :: starEach es X.env := by rfl) (hpl : (backTo pos (starEach es X.env)).any (·.1) = false := by rfl) : PE X (.Call (.Name x p) (e :: es) [] pos) (tMakeL i C sp t) := by
  refine ⟨fun pins s σ H Q I h => ?_⟩
  obtain ⟨hs, ht⟩ := h
  have hx := pe_var (X := X) (pos := p) hN hv hdb hcd
  refine wpAny_Call_Name_kw (thn (hx.run pins s σ H (fun v H1 => v = .ref C ∧ H1 = H) I ⟨.ref C, hs, rfl, rfl⟩) fun u s1 ⟨v, H1, I1, r1, q1⟩ => ?_)
  obtain ⟨rfl, rfl⟩ := q1
  cases r1
  exact PySem.W.callWith_K (h₀ := X.base) I.ok.mod.kin M.kp (thn (ha.run pos pins s1 σ _ _ I1 ht) fun us s2 ⟨vs, H2, I2, r, q⟩ => ⟨I2.kIn, run_make M F hr hb .nil pass0 I2 r q⟩) hst hpl
end
end Ef
set_option Elab.async false
set_option linter.all false
set_option maxRecDepth 100000
set_option maxHeartbeats 2000000
/-! comparisons by a class's own methods -/
namespace Ef
open PySem PySem.Spec PyProof.Rows L2
section
variable {X : Cx} {pins : List (Addr × Obj)} {σ : L2.St} {H : Hp} {s : Shared} {Q : VK} {k : Nat} {C a dx : Addr} {fs : List (Str × V)} {m : Str} {ps : List Str} {sp : Sp} {A : Around} {E' : Value → Shared → Prop}
/-- a slot of the class that holds a def: its call as a special one -/
theorem own_ifBound {args : List Value} {vs : List V} {R : Option Value → Shared → Prop} (O : Own X.prog X.w X.K X.mg X.base k C m ps sp) (hr : Room k A) (hfr : A.frames = X.A.frames) (I : Inv X pins σ H s) (ea : H a = some (.ins C dx fs)) (r : Vals vs args)
    (h : sp (.ref a :: vs) H Q E0) (hR : ∀ u s', EP X pins σ Q u s' → R (some u) s') : wpAny (model X.prog X.w) A (callSpecialIfBound? (.ref a) m args) R E' s := by
  obtain ⟨f, fd, hf, hi, ht, hk, hb, F⟩ := O.ex
  obtain ⟨mA, OM, _⟩ := ins_get I.hok ea
  obtain ⟨od, J, _⟩ := OM.look
  exact PySem.W.ifBound_K I.kIn J hf hi (wpAny_mono (run_low (us := .ref a :: args) (vs := .ref a :: vs) F hr hfr hb I (.cons rfl r) h) (fun u s' z => hR u s' z) fun _ _ z => z)
/-- what stands on the other side: of the same class, or a value of a built-in type -/
def Side (K : PySem.W.Frag) (C : Addr) (H : Hp) (y : V) : Prop := (∃ b dx fs, y = .ref b ∧ H b = some (.ins C dx fs)) ∨ (∃ b xs, y = .ref b ∧ H b = some (.lst xs))
/-- its type, and whether that is below the class -/
theorem side_type {y : V} {u : Value} {M : Model} (I : Inv X pins σ H s) (r : RelV y u) (h : Side X.K C H y) (hsub : PySem.W.subIn X.K (.type "list") (.ref C) = some false) : ∃ t : Value, PySem.W.Looks M s.heap (typeOf u) t ∧ ((t = .ref C) ∨ ((t != .ref C) = true ∧ PySem.W.Looks M s.heap (isSubtype t (.ref C)) false)) := by
  rcases h with ⟨b, dx, fs, rfl, e⟩ | ⟨b, xs, rfl, e⟩
  · cases r
    obtain ⟨mA, OM, _⟩ := ins_get I.hok e
    obtain ⟨od, J, _⟩ := OM.look
    exact ⟨.ref C, J.type, .inl rfl⟩
  · cases r
    obtain ⟨its, _, ht, _⟩ := I.list (.inl (.inl e))
    obtain ⟨o, ho, hc, _⟩ := ht.isList
    exact ⟨.type "list", fun A Q E s k q => wpAny_typeOf_ref (k b o ho) (by rw [hc]; exact q), .inr ⟨rfl, PySem.W.looks_subIn I.kIn hsub⟩⟩
def rOwnCmp (C : Addr) (sp : Sp) (K : PySem.W.Frag) (neg : Bool) : R2 := fun x y H Q => ∃ (a dx : Addr) (fs : List (Str × V)), x = .ref a ∧ H a = some (.ins C dx fs) ∧ Side K C H y ∧ sp [.ref a, y] H (fun v H' => ∃ b, v = .bl b ∧ Q (.bl (if neg = true then !b else b)) H') E0
/-- a op y by the left one's own method -/
theorem rich_own {op : CmpOp} {sym : String} {f r : Str} {y : V} {u : Value} {R : Value → Shared → Prop} {Qb : Bool → Hp → Prop} (hop : cmpInfo op = (sym, f, r)) (O : Own X.prog X.w X.K X.mg X.base k C f ps sp) (hr : Room k A) (hfr : A.frames = X.A.frames) (hsub : PySem.W.subIn X.K (.type "list") (.ref C) = some false)
    (I : Inv X pins σ H s) (ea : H a = some (.ins C dx fs)) (ry : RelV y u) (hs : Side X.K C H y) (h : sp [.ref a, y] H (fun v H' => ∃ b, v = .bl b ∧ Qb b H') E0) (hR : ∀ b H' s', Inv X pins σ H' s' → Qb b H' → R (.bool b) s') :
    wpAny (model X.prog X.w) A (richCompare op (.ref a) u) R E' s := by
  obtain ⟨mA, OM, _⟩ := ins_get I.hok ea
  obtain ⟨od, J, _⟩ := OM.look
  obtain ⟨t, Lt, ht⟩ := side_type (M := model X.prog X.w) I ry hs hsub
  have fin : wpAny (model X.prog X.w) A (tryCompare (.ref a) f u) (fun o s' => ∃ b H', o = some (.bool b) ∧ Inv X pins σ H' s' ∧ Qb b H') E' s := by
    unfold tryCompare
    refine wpAny_bind (own_ifBound (vs := [y]) O hr hfr I ea (.cons ry .nil) h fun w' s' hz => ?_)
    obtain ⟨v, H', I', rv, b, rfl, q⟩ := hz
    cases rv
    exact wpAny_pure ⟨b, H', rfl, I', q⟩
  unfold richCompare
  refine wpAny_holding (wpAny_bind (wpAny_cRoomFor (by have := hr.un; omega) ?_))
  rw [oneThing_ref]
  dsimp only
  rw [hop]
  dsimp only
  refine wpAny_bind (J.type.here (wpAny_bind (Lt.here ?_)))
  rcases ht with rfl | ⟨hne, Ls⟩
  · rw [if_neg (by simp)]
    refine wpAny_bind (wpAny_pure ?_)
    rw [if_neg (by decide)]
    refine wpAny_bind (wpAny_mono fin (fun o s' ⟨b, H', e, I', q⟩ => ?_) fun _ _ z => z)
    subst e
    exact wpAny_pure (hR b H' s' I' q)
  · have hne' : (Value.ref C != t) = true := by
      rw [bne_iff_ne] at hne ⊢
      exact fun z => hne z.symm
    rw [if_pos hne']
    refine wpAny_bind (Ls.here ?_)
    rw [if_neg (by decide)]
    refine wpAny_bind (wpAny_mono fin (fun o s' ⟨b, H', e, I', q⟩ => ?_) fun _ _ z => z)
    subst e
    exact wpAny_pure (hR b H' s' I' q)
/-- a op b by the left one's own method -/
theorem op_own {op : CmpOp} {sym : String} {f r : Str} (hop : cmpInfo op = (sym, f, r)) (hc : compareOp op = richCompare op) (O : Own X.prog X.w X.K X.mg X.base k C f ps sp) (hr : Room k X.A) (hsub : PySem.W.subIn X.K (.type "list") (.ref C) = some false) : OpR X (compareOp op) (rOwnCmp C sp X.K false) := by
  intro pins s σ H x y v u Q I rx ry h
  obtain ⟨a, dx, fs, rfl, ea, hs, q⟩ := h
  cases rx
  rw [hc]
  exact rich_own hop O hr rfl hsub I ea ry hs q fun b H' s' I' z => ⟨.bl b, H', I', rfl, z⟩
/-- a != b by the left one's own __eq__, where the class has no own __ne__ -/
theorem try_ne {y : V} {u : Value} {Qb : Bool → Hp → Prop} (O : Own X.prog X.w X.K X.mg X.base k C "__eq__" ps sp) (hr : Room (k + 1) A) (hfr : A.frames = X.A.frames) (hne : PySem.W.findIn X.K (.ref C) "__ne__" = some (some (.builtin "object.__ne__"))) (hmro : PySem.W.mroIn X.K C (.type "object") = some true)
    (I : Inv X pins σ H s) (ea : H a = some (.ins C dx fs)) (ry : RelV y u) (h : sp [.ref a, y] H (fun v H' => ∃ b, v = .bl b ∧ Qb b H') E0) :
    wpAny (model X.prog X.w) A (tryCompare (.ref a) "__ne__" u) (fun o s' => ∃ b H', o = some (.bool (!b)) ∧ Inv X pins σ H' s' ∧ Qb b H') E' s := by
  obtain ⟨mA, OM, _⟩ := ins_get I.hok ea
  obtain ⟨od, J, _⟩ := OM.look
  have body : wpAny (model X.prog X.w) A.in1 (Builtin.«object.__ne__» ⟨[.ref a, u], []⟩) (fun fin s' => ∃ b H', fin = Fin.done (Flow.ret (.bool (!b))) ∧ Inv X pins σ H' s' ∧ Qb b H') E' s := by
    unfold Builtin.«object.__ne__»
    refine wpAny_bind ?_
    unfold slotArgs
    refine wpAny_ite_false rfl (wpAny_ite_false rfl (wpAny_pure ?_))
    refine wpAny_bind (wpAny_cRoomFor (by have := hr.in1.un; omega) ?_)
    refine wpAny_bind (own_ifBound (vs := [y]) O hr.in1 (hfr) I ea (.cons ry .nil) h fun w' s' hz => ?_)
    obtain ⟨v, H', I', rv, b, rfl, q⟩ := hz
    cases rv
    refine wpAny_bind (wpAny_truthy_bool ?_)
    exact wpAny_pure ⟨b, H', rfl, I', q⟩
  have cl : wpAny (model X.prog X.w) A (call (.builtin "object.__ne__") [.ref a, u]) (fun v s' => ∃ b H', v = .bool (!b) ∧ Inv X pins σ H' s' ∧ Qb b H') E' s := by
    refine wpAny_call (codeAny_call_builtin F.cmp_object.ne.plain F.cmpEntry_ne (PySem.W.check_slot F.cmpKind_ne F.cmpSplit_ne (PySem.W.Looks.andThen J.type (PySem.W.looks_mroIn I.kIn hmro)) (F.cmpArgs_ne (.ref a) u) (wpAny_mono body (fun fin s' ⟨b, H', e, I', q⟩ => ?_) fun _ _ z => z)))
    subst e
    exact ⟨b, H', rfl, I', q⟩
  unfold tryCompare callSpecialIfBound? bindSpecialIfBound?
  refine wpAny_bind (wpAny_holding (wpAny_bind (wpAny_bind (wpAny_bind (J.type.here ((PySem.W.looks_findIn I.kIn hne).here ?_))))))
  have fin : wpAny (model X.prog X.w) A (do let r ← call (.builtin "object.__ne__") [.ref a, u]; pure (some r)) (fun o s' => wpAny (model X.prog X.w) A (match o with | some Value.notImplemented => pure none | none => pure none | some v => pure (some v)) (fun o s' => ∃ b H', o = some (.bool (!b)) ∧ Inv X pins σ H' s' ∧ Qb b H') E' s') E' s := by
    refine wpAny_bind (wpAny_mono cl (fun v s' ⟨b, H', e, I', q⟩ => wpAny_pure ?_) fun _ _ z => z)
    subst e
    exact wpAny_pure ⟨b, H', rfl, I', q⟩
  refine wpAny_bind (wpAny_askSetting (wpAny_ite ?_))
  split
  · exact wpAny_bind (wpAny_of_eq (F.cmp_object.ne.bind (.ref a)) (wpAny_pure fin))
  · exact wpAny_tryCatch (wpAny_bind (wpAny_of_eq (F.cmp_object.ne.bind (.ref a)) (wpAny_pure fin)))
theorem op_ne_own (O : Own X.prog X.w X.K X.mg X.base k C "__eq__" ps sp) (hr : Room (k + 1) X.A) (hsub : PySem.W.subIn X.K (.type "list") (.ref C) = some false) (hne : PySem.W.findIn X.K (.ref C) "__ne__" = some (some (.builtin "object.__ne__"))) (hmro : PySem.W.mroIn X.K C (.type "object") = some true) : OpR X (compareOp .NotEq) (rOwnCmp C sp X.K true) := by
  intro pins s σ H x y v u Q I rx ry h
  obtain ⟨a, dx, fs, rfl, ea, hs, q⟩ := h
  cases rx
  show wpAny _ _ (richCompare .NotEq (.ref a) u) _ _ _
  obtain ⟨mA, OM, _⟩ := ins_get I.hok ea
  obtain ⟨od, J, _⟩ := OM.look
  obtain ⟨t, Lt, ht⟩ := side_type (M := model X.prog X.w) I ry hs hsub
  have fin := try_ne (E' := X.xe) O hr rfl hne hmro I ea ry q
  unfold richCompare
  refine wpAny_holding (wpAny_bind (wpAny_cRoomFor (by have := hr.un; omega) ?_))
  rw [oneThing_ref]
  dsimp only [cmpInfo]
  refine wpAny_bind (J.type.here (wpAny_bind (Lt.here ?_)))
  rcases ht with rfl | ⟨hne, Ls⟩
  · rw [if_neg (by simp)]
    refine wpAny_bind (wpAny_pure ?_)
    rw [if_neg (by decide)]
    refine wpAny_bind (wpAny_mono fin (fun o s' ⟨b, H', e, I', q⟩ => ?_) fun _ _ z => z)
    subst e
    exact wpAny_pure ⟨.bl (!b), H', I', rfl, q⟩
  · have hne' : (Value.ref C != t) = true := by
      rw [bne_iff_ne] at hne ⊢
      exact fun z => hne z.symm
    rw [if_pos hne']
    refine wpAny_bind (Ls.here ?_)
    rw [if_neg (by decide)]
    refine wpAny_bind (wpAny_mono fin (fun o s' ⟨b, H', e, I', q⟩ => ?_) fun _ _ z => z)
    subst e
    exact wpAny_pure ⟨.bl (!b), H', I', rfl, q⟩
end
end Ef
set_option Elab.async false
set_option linter.all false
set_option maxRecDepth 100000
set_option maxHeartbeats 4000000
namespace Ef
open PySem PySem.Spec PyProof.Rows L2
abbrev sTrim : Stmt := top 14
abbrev sCom : Stmt := top 15
abbrev sCheck : Stmt := top 26
structure TxtQ (mg : Str → Option Value) : Prop extends TxtW mg where
  gcd : mg "gcd" = some (.builtin "math.gcd")
theorem Same.tup {K : PySem.W.Frag} {H H' : Hp} {a : Addr} {xs : List V} (e : Same H H') (h : SqT K H a xs) : SqT K H' a xs := by
  rcases h with (h | ⟨o, h⟩) | h
  · exact .inl (.inl (e _ _ h))
  · exact .inl (.inr ⟨o, e _ _ h⟩)
  · exact .inr h
theorem same_new {H : Hp} {p : Addr} {o : HO} (h : H p = none) : Same H (upd H p o) := fun b x e => by rw [upd_ne (ne_of_none e h)]; exact e
theorem same_mut {H0 H : Hp} {p : Addr} {o : HO} (h : Same H0 H) (hp : H0 p = none) : Same H0 (upd H p o) := fun b x e => by rw [upd_ne (ne_of_none e hp)]; exact h b x e
theorem dint (a b : Int) : decide (V.int a = V.int b) = decide (a = b) := by
  by_cases h : a = b
  · rw [decide_eq_true h, decide_eq_true (by rw [h])]
  · rw [decide_eq_false h, decide_eq_false (fun z => h (V.int.inj z))]
/-- a list or a tuple -/
def Seqs (K : PySem.W.Frag) (H : Hp) (a : Addr) (xs : List V) : Prop := SqL K H a xs ∨ SqT K H a xs
theorem Seqs.same {K : PySem.W.Frag} {H H' : Hp} {a : Addr} {xs : List V} (h : Seqs K H a xs) (e : Same H H') : Seqs K H' a xs := h.elim (fun h => .inl (e.seq h)) fun h => .inr (Same.tup e h)
theorem get_int {r : List Int} {k : Nat} (h : k < r.length) : ∃ c, r[k]? = some c ∧ (r.map V.int)[k]? = some (.int c) := ⟨r[k], List.getElem?_eq_getElem h, by rw [List.getElem?_map, List.getElem?_eq_getElem h]; rfl⟩
theorem atI_of {xs : List V} {i : Int} {j : Nat} {v : V} (e : i = (j : Int)) (h : xs[j]? = some v) : atI xs i = some v := at_of e h
theorem cut_hi (xs : List V) (k : Nat) (hk : k ≤ xs.length) : cutV xs none (some (k : Int)) = xs.take k := by
  unfold cutV
  rw [HT.sIx_none, HT.sIx_nat, Nat.min_eq_left hk, List.drop_zero, Nat.sub_zero]
theorem sl_seqs {K : PySem.W.Frag} {H : Hp} {a : Addr} {xs : List V} {lo hi : Option Int} {Q : VK} (h : Seqs K H a xs) (q : ∀ p H', Same H H' → Seqs K H' p (cutV xs lo hi) → Q (.ref p) H') : rSlL K (.ref a) lo hi H Q ∨ rSlA K (.ref a) lo hi H Q := by
  rcases h with h | h
  · exact .inl ⟨a, _, rfl, h, fun p hp => q p _ (same_new hp) (.inl (.inl (.inl upd_same)))⟩
  · refine .inr ⟨a, _, rfl, h, fun hw => ?_, fun hw p hp => q p _ (same_new hp) (.inr (.inl (.inl upd_same)))⟩
    refine q a H (Same.refl H) ?_
    have e2 : cutV xs lo hi = xs := by
      unfold cutV
      rw [hw.1, hw.2, List.drop_zero, Nat.sub_zero, List.take_length]
    rw [e2]
    exact .inr h
theorem ix_seqs {K : PySem.W.Frag} {H : Hp} {a : Addr} {xs : List V} {i : Int} {v : V} {Q : VK} (h : Seqs K H a xs) (e : atI xs i = some v) (q : Q v H) : rIx K (.ref a) (.int i) H Q := by
  rcases h with h | h
  · exact .inl ⟨a, _, _, _, rfl, rfl, h, e, q⟩
  · exact .inr (.inl ⟨a, _, _, _, rfl, rfl, h, e, q⟩)
section
variable {P : Program} {w : World} {K : PySem.W.Frag} {mg : Str → Option Value} {base : Heap}
/-! ### trimmed -/
def spTrim (K : PySem.W.Frag) : Sp := fun vs H Q _ => ∃ (a : Addr) (r : List Int), vs = [.ref a] ∧ Seqs K H a (r.map V.int) ∧ r.length ≤ 100 ∧ ∀ H' l t, Same H H' → H' l = some (.lst (t.map V.int)) → TrimOk r t → Q (.ref l) H'
theorem scTrim : FnScope ["row", "size"] ["row"] (defScope sTrim) := ⟨rfl, rfl, rfl, by decide +kernel, rfl, by decide +kernel, by decide +kernel⟩
theorem df_trim (A : At K mg "trimmed" sTrim) (T : TxtW mg) : Df P w K mg base 1 "trimmed" ["row"] (spTrim K) := by
  obtain ⟨f, fd, hm, F⟩ := A.ex
  refine ⟨f, fd, hm, F.kp, F.binds (fun _ _ _ _ _ _ us hl => match us, hl with | [_], _ => rfl), F.ok scTrim (fun vs H Q E h => ?_) (fun cdv A outer s H vs Q E hr h => ?_)⟩
  · obtain ⟨a, r, rfl, _⟩ := h
    rfl
  · obtain ⟨a, r, rfl, hS, hl, q⟩ := h
    refine ⟨_, (pss_cons (ps_set (i := 1) scTrim.nd rfl (.inl rfl) (pe_callB call_len_seq (by rfl) T.len PySem.boot_len (pa_cons (pv 0) pa_nil)))
      (pss_cons (ps_while PassesOwn.never (pw_and (pt_cmpR op_gt (pv 1) pe_int (nomark _)) (pw_and1 (pt_cmpR op_eq (pe_ix ix_seq (pv 0) (pe_op op_sub (pv 1) pe_int) (fun _ _ => rfl)) pe_int (nomark _)))).pt
      (pss_one (ps_set (i := 1) scTrim.nd rfl (.inl rfl) (pe_op op_sub (pv 1) pe_int))))
      (pss_one (ps_ret (pe_callTy call_list_of (by rfl) T.list (by decide +kernel) (pa_cons (pe_slice (sl_list.or sl_tupA) (pv 0) po_none (po_some (pv 1))) pa_nil)))))), ?_⟩
    refine ⟨_, rfl, a, _, rfl, hS, ?_⟩
    refine ⟨fun m σ H' => H' = H ∧ m ≤ r.length ∧ σ = [some (.ref a), some (.int (m : Int))] ∧ ∀ j, m ≤ j → j < r.length → r[j]? = some 0, ⟨r.length, rfl, Nat.le_refl _, by rw [List.length_map]; rfl, fun j h1 h2 => absurd h2 (by omega)⟩, fun m σ H' hW => ?_⟩
    obtain ⟨rfl, hm2, rfl, hz⟩ := hW
    have fin : ∀ (hk : m = 0 ∨ ∃ c, r[m - 1]? = some c ∧ c ≠ 0) (xs : List V), xs = (r.take m).map V.int → ∀ H1, Same H' H1 → ∀ l, H1 l = none → Q (.ref l) (upd H1 l (.lst xs)) := fun hk xs ex H1 s1 l hl' =>
      q _ l (r.take m) (s1.trans (same_new hl')) (by rw [upd_same, ex]) ⟨m, hm2, rfl, hz, hk⟩
    have ecut : cutV (r.map V.int) none (some (m : Int)) = (r.take m).map V.int := by rw [cut_hi _ m (by rw [List.length_map]; exact hm2), List.map_take]
    refine ⟨_, rfl, _, _, rfl, rfl, _, rfl, ?_⟩
    cases m with
    | zero =>
      refine iteF ?_
      refine ⟨_, rfl, _, rfl, _, rfl, sl_seqs hS fun p H1 s1 hp => ?_⟩
      exact ⟨p, _, rfl, hp, fin (.inl rfl) _ ecut H1 s1⟩
    | succ k =>
      rw [decide_eq_true (show (0 : Int) < ((k + 1 : Nat) : Int) by omega)]
      obtain ⟨c, hc, hc2⟩ := get_int (r := r) (k := k) (by omega)
      refine iteT ⟨_, rfl, _, rfl, _, _, rfl, rfl, ix_seqs hS (atI_of (j := k) (by omega) hc2) ⟨rfl, _, rfl, ?_⟩⟩
      rw [dint]
      refine ite2 (fun hb => ?_) (fun hb => ?_)
      · have hc0 := of_decide_eq_true hb
        subst hc0
        refine ⟨fun σ H2 => H2 = H' ∧ σ = [some (.ref a), some (.int (k : Int))], fun σ' H2 ⟨e1, e2⟩ => ⟨k, Nat.lt_succ_self k, e1, by omega, e2, fun j h1 h2 => ?_⟩, _, rfl, _, _, rfl, rfl, rfl, by show [some (V.ref a), some (V.int (((k + 1 : Nat) : Int) - 1))] = _; rw [show ((k + 1 : Nat) : Int) - 1 = (k : Int) by omega]⟩
        rcases Nat.lt_or_ge j (k + 1) with z | z
        · have e : j = k := by omega
          rw [e]; exact hc
        · exact hz j z h2
      · refine ⟨_, rfl, _, rfl, _, rfl, sl_seqs hS fun p H1 s1 hp => ?_⟩
        exact ⟨p, _, rfl, hp, fin (.inr ⟨c, hc, fun z => hb (decide_eq_true z)⟩) _ ecut H1 s1⟩
/-! ### common_divisor -/
def spCom (K : PySem.W.Frag) : Sp := fun vs H Q _ => ∃ (a : Addr) (t : List Int) (f : Nat), vs = [.int f, .ref a] ∧ SqL K H a (t.map V.int) ∧ Q (.int (gcdR f t : Nat)) H
theorem scCom : FnScope ["first", "row", "shared", "number"] ["first", "row"] (defScope sCom) := ⟨rfl, rfl, rfl, by decide +kernel, rfl, by decide +kernel, by decide +kernel⟩
theorem df_com (A : At K mg "common_divisor" sCom) (T : TxtQ mg) : Df P w K mg base 1 "common_divisor" ["first", "row"] (spCom K) := by
  obtain ⟨f, fd, hm, F⟩ := A.ex
  refine ⟨f, fd, hm, F.kp, F.binds (fun _ _ _ _ _ _ us hl => match us, hl with | [_, _], _ => rfl), F.ok scCom (fun vs H Q E h => ?_) (fun cdv A outer s H vs Q E hr h => ?_)⟩
  · obtain ⟨a, t, f, rfl, _⟩ := h
    rfl
  · obtain ⟨a, t, f, rfl, hS, q⟩ := h
    refine ⟨_, (pss_cons (ps_set (i := 2) scCom.nd rfl (.inl rfl) (pv 0))
      (pss_cons (ps_for PassesOwn.never rfl (pi_list (pv 1)) (pg_name (i := 3) scCom.nd rfl (.inl rfl))
      (pss_cons (ps_if (pt_cmpR op_eq (pv 2) pe_int (nomark _)) (pss_one (ps_ret pe_int)) pss_nil)
      (pss_one (ps_set (i := 2) scCom.nd rfl (.inl rfl) (pe_callBfun cr_gcd (by rfl) T.gcd (pa_cons (pv 2) (pa_cons (pv 3) pa_nil)))))))
      (pss_one (ps_ret (pv 2))))), ?_⟩
    refine ⟨_, rfl, _, rfl, a, rfl, ⟨_, hS⟩, for_list (K := K) (a := a) (xs := t.map V.int) (fun i σ H' => H' = H ∧ ∃ y : Option V, σ = [some (.int f), some (.ref a), some (.int (gcdR f (t.take i) : Nat)), y])
      ⟨rfl, none, rfl⟩ (fun i σ H' _ ⟨e, _⟩ => e ▸ hS) ?_ ?_⟩
    · rintro i x σ H' hi ⟨rfl, y, rfl⟩
      rw [List.getElem?_map] at hi
      obtain ⟨c, hc, rfl⟩ := Option.map_eq_some_iff.mp hi
      refine ⟨_, rfl, rfl, _, rfl, ?_⟩
      rw [dint]
      refine ite2 (fun hb => ?_) (fun hb => ?_)
      · have h1 : gcdR f (t.take i) = 1 := by have := of_decide_eq_true hb; omega
        have h2 : gcdR f t = 1 := by
          have e : gcdR f t = gcdR (gcdR f (t.take i)) (t.drop i) := by
            unfold gcdR
            rw [← List.foldl_append, List.take_append_drop]
          rw [e, h1, gcdR_one]
        rw [h2] at q
        exact q
      · exact ⟨_, rfl, _, rfl, _, _, rfl, rfl, some (.int c), by rw [gcdR_take_succ hc]; rfl⟩
    · rintro σ H' ⟨rfl, y, rfl⟩
      rw [List.length_map, List.take_length]
      exact ⟨_, rfl, q⟩
/-! ### errors with one field -/
/-- the error class x at C with one field f -/
structure ErrF (K : PySem.W.Frag) (mg : Str → Option Value) (x fl : Str) (C fI : Addr) : Prop where
  oex : OexC K C
  mgC : mg x = some (.ref C)
  iC : PySem.W.findIn K (.ref C) "__init__" = some (some (.ref fI))
  tI : PySem.W.typeIn K (.ref fI) = some (.type "function")
  nN : PySem.W.findIn K (.ref C) fl = some none
  xf : XfC K C
def spErr (K : PySem.W.Frag) (C : Addr) (fl : Str) : Sp := fun vs H Q _ => ∃ (a : Addr) (v : V), vs = [.ref a, v] ∧ H a = some (exo a C none) ∧ ∀ dx, H dx = none → dx ≠ a → Q .non (upd (upd H dx (exd dx [(fl, v)])) a (exo a C (some dx)))
/-- an error made and flying -/
theorem mk_err {C : Addr} {fl : Str} {H : Hp} {v : V} {R : XK} (h : ∀ d H', Same H H' → H d = none → H' d = some (.xd [(fl, v)]) → R (.ref C) (some d) H') :
    [v].length ≤ 1000 ∧ ∀ a, H a = none → spErr K C fl (.ref a :: ([v] ++ [])) (upd H a (exo a C none)) (fun v H2 => v = .non ∧ ∃ (d : Addr) (fs : List (Str × V)), H2 a = some (exo a C (some d)) ∧ H2 d = some (exd d fs) ∧ H d = none ∧ R (.ref C) (some d) (upd (del H2 a) d (.xd fs))) (fun _ _ _ => False) := by
  refine ⟨by show 1 ≤ 1000; decide, fun a ha => ⟨a, v, rfl, upd_same, fun dx h1 h2 => ⟨rfl, dx, _, upd_same, by rw [upd_ne h2, upd_same], ?_, ?_⟩⟩⟩
  · rw [upd_ne h2] at h1; exact h1
  · have hdx : H dx = none := by rw [upd_ne h2] at h1; exact h1
    refine h dx _ (fun b o e => ?_) hdx upd_same
    have nb : b ≠ dx := ne_of_none e hdx
    have na : b ≠ a := ne_of_none e ha
    rw [upd_ne nb]
    unfold del
    rw [if_neg na, upd_ne na, upd_ne nb, upd_ne na]
    exact e
theorem NotInt.same {H H' : Hp} {v : V} (h : NotInt K H v) (e : Same H H') : NotInt K H' v := by
  obtain ⟨n, b1, b2, ht, h1, h2, h3⟩ := h
  refine ⟨n, b1, b2, ?_, h1, h2, h3⟩
  cases ht with
  | base hb =>
    cases hb with
    | non => exact .base .non
    | bl x => exact .base (.bl x)
    | int x => exact .base (.int x)
    | str x => exact .base (.str x)
    | flt x => exact .base (.flt x)
    | lst h => exact .base (.lst (e _ _ h))
    | frz h => exact .base (.frz (e _ _ h))
    | tup h => exact .base (.tup (e _ _ h))
    | dK h => exact .base (.dK (e _ _ h))
    | dT h => exact .base (.dT (e _ _ h))
  | byt b => exact .byt b
  | set h => exact .set (e _ _ h)
  | kList h h' => exact .kList h h'
  | kTuple h h' => exact .kTuple h h'
  | kDict h h' => exact .kDict h h'
  | fTuple h => exact .fTuple (e _ _ h)
  | fDict h => exact .fDict (e _ _ h)
/-! ### _check_row -/
def spCheck (K : PySem.W.Frag) (CR : Addr) : Sp := fun vs H Q E => ∃ (a : Addr) (xs : List V), vs = [.ref a] ∧ Seqs K H a xs ∧ xs.length ≤ 1000 ∧
  ((∃ r : List Int, xs = r.map V.int ∧ ∀ H', Same H H' → Q .non H') ∨ (∃ (r : List Int) (v : V) (ys : List V), xs = r.map V.int ++ v :: ys ∧ NotInt K H v ∧ ∀ d H', Same H H' → H d = none → H' d = some (.xd [("index", .int (r.length : Int))]) → E (.ref CR) (some d) H'))
theorem scCheck : FnScope ["row", "index", "number"] ["row"] (defScope sCheck) := ⟨rfl, rfl, rfl, by decide +kernel, rfl, by decide +kernel, by decide +kernel⟩
/-- the first members are whole numbers -/
theorem check_step {K : PySem.W.Frag} {H H3 : Hp} {CR : Addr} {xs : List V} {i : Nat} {x : V} {Q : VK} {E : XK} (hx : xs[i]? = some x) (sm : Same H H3)
    (q : (∃ r : List Int, xs = r.map V.int ∧ ∀ H', Same H H' → Q .non H') ∨ (∃ (r : List Int) (v : V) (ys : List V), xs = r.map V.int ++ v :: ys ∧ NotInt K H v ∧ ∀ d H', Same H H' → H d = none → H' d = some (.xd [("index", .int (r.length : Int))]) → E (.ref CR) (some d) H'))
    (hi : ∀ (r : List Int) (v : V) (ys : List V), xs = r.map V.int ++ v :: ys → NotInt K H v → i ≤ r.length) :
    (∃ c, x = .int c ∧ ∀ (r : List Int) (v : V) (ys : List V), xs = r.map V.int ++ v :: ys → NotInt K H v → i + 1 ≤ r.length) ∨ (NotInt K H x ∧ ∀ d H', Same H H' → H d = none → H' d = some (.xd [("index", .int (i : Int))]) → E (.ref CR) (some d) H') := by
  rcases q with ⟨r, rfl, q⟩ | ⟨r, v, ys, rfl, hN, q⟩
  · rw [List.getElem?_map] at hx
    obtain ⟨c, hc, rfl⟩ := Option.map_eq_some_iff.mp hx
    refine .inl ⟨c, rfl, fun r2 v ys e hN => ?_⟩
    have h1 := hi r2 v ys e hN
    rcases Nat.lt_or_ge i r2.length with z | z
    · exact z
    · have ei : i = r2.length := by omega
      have e2 : (r.map V.int)[i]? = some v := by rw [e, ei, List.getElem?_append_right (by rw [List.length_map]; exact Nat.le_refl _), List.length_map, Nat.sub_self]; rfl
      rw [List.getElem?_map, hc] at e2
      injection e2 with e2
      obtain ⟨n, b1, b2, ht, k1, k2, k3⟩ := hN
      rw [← e2] at ht
      cases ht with
      | base hb =>
        cases hb
        have h1 : kitB "int" "int" = some true := by decide +kernel
        have h2 : kitB "int" "bool" = some false := by decide +kernel
        rw [h1] at k1; rw [h2] at k2
        injection k1 with k1; injection k2 with k2
        rw [← k1, ← k2] at k3
        cases k3
  · have h1 := hi r v ys rfl hN
    rcases Nat.lt_or_ge i r.length with z | z
    · rw [List.getElem?_append_left (by rw [List.length_map]; exact z), List.getElem?_map] at hx
      obtain ⟨c, hc, rfl⟩ := Option.map_eq_some_iff.mp hx
      refine .inl ⟨c, rfl, fun r2 v2 ys2 e hN2 => ?_⟩
      have h2 := hi r2 v2 ys2 e hN2
      rcases Nat.lt_or_ge i r2.length with w | w
      · exact w
      · have ei : i = r2.length := by omega
        have e2 : (r.map V.int ++ v :: ys)[i]? = some v2 := by rw [e, ei, List.getElem?_append_right (by rw [List.length_map]; exact Nat.le_refl _), List.length_map, Nat.sub_self]; rfl
        rw [List.getElem?_append_left (by rw [List.length_map]; exact z), List.getElem?_map, hc] at e2
        injection e2 with e2
        obtain ⟨n, b1, b2, ht, k1, k2, k3⟩ := hN2
        rw [← e2] at ht
        cases ht with
        | base hb =>
          cases hb
          have h1 : kitB "int" "int" = some true := by decide +kernel
          have h2 : kitB "int" "bool" = some false := by decide +kernel
          rw [h1] at k1; rw [h2] at k2
          injection k1 with k1; injection k2 with k2
          rw [← k1, ← k2] at k3
          cases k3
    · have ei : i = r.length := by omega
      subst ei
      rw [List.getElem?_append_right (by rw [List.length_map]; exact Nat.le_refl _), List.length_map, Nat.sub_self] at hx
      injection hx with hx
      rw [← hx]
      exact .inr ⟨hN, q⟩
end
end Ef
set_option Elab.async false
set_option linter.all false
/-! x is not True, for any x -/
namespace Ef
open PySem PySem.Spec PyProof.Rows L2
/-- no truth value -/
def NoBl : V → Prop
  | .int _ => True
  | .non => True
  | .str _ => True
  | .ref _ => True
  | _ => False
def rNotX : R2 := fun x y H Q => ∃ b : Bool, y = .bl b ∧ ((∃ a : Bool, x = .bl a ∧ Q (.bl (!decide (a = b))) H) ∨ (NoBl x ∧ Q (.bl true) H))
theorem op_notX {X : Cx} : OpR X (compareOp .IsNot) rNotX := by
  intro pins s σ H x y v u Q I rx ry h
  obtain ⟨b, rfl, ⟨a, rfl, q⟩ | ⟨hn, q⟩⟩ := h
  · exact op_notBl pins s σ H _ _ v u Q I rx ry ⟨a, b, rfl, rfl, q⟩
  · cases ry
    have fin : isSame v (.bool b) = pure false → wpAny (model X.prog X.w) X.A (compareOp .IsNot v (.bool b)) (EP X pins σ Q) X.xe s := fun e => by
      show wpAny _ _ (isSame v (.bool b) >>= fun z => pure (Value.bool !z)) _ _ _
      rw [e]
      exact wpAny_bind (wpAny_pure (wpAny_pure ⟨.bl true, H, I, rfl, q⟩))
    cases x with
    | int i =>
      obtain ⟨t, rfl⟩ := rx
      exact fin rfl
    | non => cases rx; exact fin rfl
    | str x =>
      obtain ⟨t, rfl⟩ := rx
      exact fin rfl
    | ref a => cases rx; exact fin rfl
    | _ => exact hn.elim
end Ef
set_option Elab.async false
set_option linter.all false
/-! x is not True, for any x at all -/
namespace Ef
open PySem PySem.Spec PyProof.Rows L2
def rNotA : R2 := fun x y H Q => ∃ b : Bool, y = .bl b ∧ ((∃ a : Bool, x = .bl a ∧ Q (.bl (!decide (a = b))) H) ∨ ((∀ c, x ≠ .bl c) ∧ Q (.bl true) H))
theorem op_notA {X : Cx} : OpR X (compareOp .IsNot) rNotA := by
  intro pins s σ H x y v u Q I rx ry h
  obtain ⟨b, rfl, ⟨a, rfl, q⟩ | ⟨hn, q⟩⟩ := h
  · exact op_notBl pins s σ H _ _ v u Q I rx ry ⟨a, b, rfl, rfl, q⟩
  · cases ry
    have fin : isSame v (.bool b) = pure false → wpAny (model X.prog X.w) X.A (compareOp .IsNot v (.bool b)) (EP X pins σ Q) X.xe s := fun e => by
      show wpAny _ _ (isSame v (.bool b) >>= fun z => pure (Value.bool !z)) _ _ _
      rw [e]
      exact wpAny_bind (wpAny_pure (wpAny_pure ⟨.bl true, H, I, rfl, q⟩))
    cases x with
    | bl c => exact absurd rfl (hn c)
    | int i =>
      obtain ⟨t, rfl⟩ := rx
      exact fin rfl
    | non => cases rx; exact fin rfl
    | str x =>
      obtain ⟨t, rfl⟩ := rx
      exact fin rfl
    | ref a => cases rx; exact fin rfl
    | byt x => obtain ⟨t, rfl⟩ := rx; exact fin rfl
    | flt x => obtain ⟨t, rfl⟩ := rx; exact fin rfl
    | ty x => cases rx; exact fin rfl
theorem NoBl.all {v : V} (h : NoBl v) : ∀ c, v ≠ .bl c := fun c e => by subst e; exact h
end Ef
set_option Elab.async false
set_option linter.all false
/-! x is True, for any x at all; what is no integer -/
namespace Ef
open PySem PySem.Spec PyProof.Rows L2
def rIsA : R2 := fun x y H Q => ∃ b : Bool, y = .bl b ∧ ((∃ a : Bool, x = .bl a ∧ Q (.bl (decide (a = b))) H) ∨ ((∀ c, x ≠ .bl c) ∧ Q (.bl false) H))
theorem op_isA {X : Cx} : OpR X (compareOp .Is) rIsA := by
  intro pins s σ H x y v u Q I rx ry h
  obtain ⟨b, rfl, ⟨a, rfl, q⟩ | ⟨hn, q⟩⟩ := h
  · exact op_isBl pins s σ H _ _ v u Q I rx ry ⟨a, b, rfl, rfl, q⟩
  · cases ry
    have fin : isSame v (.bool b) = pure false → wpAny (model X.prog X.w) X.A (compareOp .Is v (.bool b)) (EP X pins σ Q) X.xe s := fun e => by
      show wpAny _ _ (isSame v (.bool b) >>= fun z => pure (Value.bool z)) _ _ _
      rw [e]
      exact wpAny_bind (wpAny_pure (wpAny_pure ⟨.bl false, H, I, rfl, q⟩))
    cases x with
    | bl c => exact absurd rfl (hn c)
    | int i =>
      obtain ⟨t, rfl⟩ := rx
      exact fin rfl
    | non => cases rx; exact fin rfl
    | str x =>
      obtain ⟨t, rfl⟩ := rx
      exact fin rfl
    | ref a => cases rx; exact fin rfl
    | byt x => obtain ⟨t, rfl⟩ := rx; exact fin rfl
    | flt x => obtain ⟨t, rfl⟩ := rx; exact fin rfl
    | ty x => cases rx; exact fin rfl
theorem ty_cases {K : PySem.W.Frag} {H : Hp} {v : V} {n : String} {b1 b2 : Bool} (t : TyX K H v (.type n)) (k1 : kitB n "int" = some b1) (k2 : kitB n "bool" = some b2) (hb : (b1 && !b2) = false) :
    (∃ c, v = .bl c) ∨ (b1 = false ∧ ∀ c, v ≠ .bl c) := by
  cases b1 with
  | false =>
    by_cases h : ∃ c, v = .bl c
    · exact .inl h
    · exact .inr ⟨rfl, fun c e => h ⟨c, e⟩⟩
  | true =>
    cases b2 with
    | false => cases hb
    | true =>
      have no : ∀ {m : String}, kitB m "bool" = some false → m = n → False := fun h e => by
        rw [e, k2] at h; cases h
      cases t with
      | base b =>
        cases b with
        | bl c => exact .inl ⟨c, rfl⟩
        | non => exact (no (by decide +kernel) rfl).elim
        | int i => exact (no (by decide +kernel) rfl).elim
        | str x => exact (no (by decide +kernel) rfl).elim
        | flt x => exact (no (by decide +kernel) rfl).elim
        | lst e => exact (no (by decide +kernel) rfl).elim
        | frz e => exact (no (by decide +kernel) rfl).elim
        | tup e => exact (no (by decide +kernel) rfl).elim
        | dK e => exact (no (by decide +kernel) rfl).elim
        | dT e => exact (no (by decide +kernel) rfl).elim
      | byt b => exact (no (by decide +kernel) rfl).elim
      | set e => exact (no (by decide +kernel) rfl).elim
      | kList e c => exact (no (by decide +kernel) rfl).elim
      | kTuple e c => exact (no (by decide +kernel) rfl).elim
      | kDict e c => exact (no (by decide +kernel) rfl).elim
      | fTuple e => exact (no (by decide +kernel) rfl).elim
      | fDict e => exact (no (by decide +kernel) rfl).elim
theorem kit_int : kitB "int" "int" = some true := by decide +kernel
theorem kit_boolint : kitB "bool" "int" = some true := by decide +kernel
end Ef
set_option Elab.async false
set_option linter.all false
set_option maxRecDepth 100000
set_option maxHeartbeats 4000000
namespace Ef
open PySem PySem.Spec PyProof.Rows L2
abbrev sErrR : Stmt := inClass (top 4) 0
abbrev sErrU : Stmt := inClass (top 5) 0
section
variable {P : Program} {w : World} {K : PySem.W.Frag} {mg : Str → Option Value} {base : Heap}
theorem scErrR : FnScope ["self", "index"] ["self", "index"] (defScope sErrR) := ⟨rfl, rfl, rfl, by decide +kernel, rfl, by decide +kernel, by decide +kernel⟩
theorem scErrU : FnScope ["self", "under"] ["self", "under"] (defScope sErrU) := ⟨rfl, rfl, rfl, by decide +kernel, rfl, by decide +kernel, by decide +kernel⟩
theorem ok_errR {f C fI : Addr} {fd : FuncData} (F : Fun K "__init__" "BadRow.__init__" sErrR f fd) (T : ErrF K mg "BadRow" "index" C fI) : FnOk P w K mg base CX0 1 f fd ["self", "index"] (spErr K C "index") := by
  refine F.ok scErrR (fun vs H Q E h => ?_) (fun cdv A outer s H vs Q E hr h => ?_)
  · obtain ⟨a, v, rfl, _⟩ := h
    rfl
  · obtain ⟨a, v, rfl, ha, q⟩ := h
    refine ⟨_, (pss_one (ps_ost (pv 0) (pv 1))), ?_⟩
    exact ⟨_, rfl, _, rfl, a, C, rfl, T.oex, T.nN, .inl ⟨ha, fun dx h1 h2 => q dx h1 h2⟩⟩
theorem ok_errU {f C fI : Addr} {fd : FuncData} (F : Fun K "__init__" "BadUnder.__init__" sErrU f fd) (T : ErrF K mg "BadUnder" "under" C fI) : FnOk P w K mg base CX0 1 f fd ["self", "under"] (spErr K C "under") := by
  refine F.ok scErrU (fun vs H Q E h => ?_) (fun cdv A outer s H vs Q E hr h => ?_)
  · obtain ⟨a, v, rfl, _⟩ := h
    rfl
  · obtain ⟨a, v, rfl, ha, q⟩ := h
    refine ⟨_, (pss_one (ps_ost (pv 0) (pv 1))), ?_⟩
    exact ⟨_, rfl, _, rfl, a, C, rfl, T.oex, T.nN, .inl ⟨ha, fun dx h1 h2 => q dx h1 h2⟩⟩
/-- a def that may raise, by its name -/
structure DfX (P : Program) (w : World) (K : PySem.W.Frag) (mg : Str → Option Value) (base : Heap) (k : Nat) (x : Str) (ps : List Str) (sp : Sp) (f : Addr) (fd : FuncData) : Prop where
  at_ : mg x = some (.ref f)
  kp : PySem.W.keepIn K (.ref f) = true
  b : Binds K fd ps []
  F : FnOk P w K mg base (CX P w) k f fd ps sp
theorem dx_check {f CR fR : Addr} {fd fdR : FuncData} (hm : mg "_check_row" = some (.ref f)) (F : Fun K "_check_row" "_check_row" sCheck f fd) (T : TxtW mg) (ER : ErrF K mg "BadRow" "index" CR fR) (FR : FnOk P w K mg base CX0 1 fR fdR ["self", "index"] (spErr K CR "index")) (bR : Binds K fdR ["self", "index"] [])
    (Disint : Df P w K mg base 1 "is_int" ["value"] (spIsInt K)) : DfX P w K mg base 3 "_check_row" ["row"] (spCheck K CR) f fd := by
  refine ⟨hm, F.kp, F.binds (fun _ _ _ _ _ _ us hl => match us, hl with | [_], _ => rfl), F.okX scCheck (fun vs H Q E h => ?_) (fun cdv A outer s H vs Q E hr h => ?_)⟩
  · obtain ⟨a, xs, rfl, _⟩ := h
    rfl
  · obtain ⟨a, xs, rfl, hB, hl, q⟩ := h
    refine ⟨_, (pss_one (ps_for (passes_of rfl) rfl (pi_enumS (by rfl) T.enumerate (pa_cons (pv 0) pa_nil)) (pg_tup (by rfl) (pgs_cons (pg_name (i := 1) scCheck.nd rfl (.inl rfl)) (pgs_cons (pg_name (i := 2) scCheck.nd rfl (.inl rfl)) pgs_nil)))
      (pss_one (ps_if (pw_or (pt_not (pt_val (pe_callB call_isi (by rfl) T.isinstance (by decide +kernel) (pa_cons (pv 2) (pa_cons (pe_bltn (v := .ty "int") (by rfl) T.int (by decide +kernel) rfl) pa_nil))))) (pw_or (pt_cmpR op_isA (pv 2) pe_bl (nomark _)) (pw_or1 (pt_cmpR op_isA (pv 2) pe_bl (nomark _))))).pt (pss_one (ps_raise rfl (takes_of rfl rfl rfl rfl) (pmk_oex ER.oex ER.iC ER.tI FR (hr.mono (by decide)) bR .nil pass0 (by rfl) ER.mgC (pa_cons (pv 1) pa_nil)))) pss_nil)))), ?_⟩
    have hend : ∀ H', Same H H' → (∀ (r : List Int) (v : V) (ys : List V), xs = r.map V.int ++ v :: ys → NotInt K H v → xs.length ≤ r.length) → Q .non H' := fun H' sm hi => by
      rcases q with ⟨r, _, q⟩ | ⟨r, v, ys, e, hN, _⟩
      · exact q H' sm
      · have := hi r v ys e hN
        rw [e, List.length_append, List.length_map, List.length_cons] at this
        omega
    refine ⟨_, rfl, a, xs, rfl, ?_⟩
    rcases hB with hB | hB
    case' inl =>
      refine .inl ⟨hB, ?_⟩
      refine ⟨fun i m σ H3 => ∃ y2 y3, σ = [some (.ref a), y2, y3] ∧ i + m = xs.length ∧ Same H H3 ∧ ∀ (r : List Int) (v : V) (ys : List V), xs = r.map V.int ++ v :: ys → NotInt K H v → i ≤ r.length, ⟨xs.length, none, none, rfl, by omega, Same.refl H, fun _ _ _ _ _ => Nat.zero_le _⟩, fun i m σ H3 hW => ?_⟩
      have hsame : ∀ H3, Same H H3 → SqL K H3 a xs := fun H3 sm => sm.seq hB
    case' inr =>
      refine .inr ⟨hB, ?_⟩
      refine ⟨fun i m σ H3 => ∃ y2 y3, σ = [some (.ref a), y2, y3] ∧ i + m = xs.length ∧ Same H H3 ∧ ∀ (r : List Int) (v : V) (ys : List V), xs = r.map V.int ++ v :: ys → NotInt K H v → i ≤ r.length, ⟨xs.length, none, none, rfl, by omega, Same.refl H, fun _ _ _ _ _ => Nat.zero_le _⟩, fun i m σ H3 hW => ?_⟩
      have hsame : ∀ H3, Same H H3 → SqT K H3 a xs := fun H3 sm => Same.tup sm hB
    all_goals
      obtain ⟨y2, y3, rfl, em, sm, hI⟩ := hW
      by_cases hi : i < xs.length
      · obtain ⟨x, hx⟩ : ∃ x, xs[i]? = some x := ⟨xs[i], List.getElem?_eq_getElem hi⟩
        refine .inr ⟨⟨_, _, hsame _ sm, hx⟩, fun σ' H' => ∃ y2 y3, σ' = [some (.ref a), y2, y3] ∧ Same H H' ∧ ∀ (r : List Int) (v : V) (ys : List V), xs = r.map V.int ++ v :: ys → NotInt K H v → i + 1 ≤ r.length, fun σ' H' hN => ?_, fun y H' hy => ?_⟩
        · obtain ⟨z2, z3, e, sm', hI'⟩ := hN
          exact ⟨m - 1, by omega, z2, z3, e, by omega, sm', hI'⟩
        · obtain ⟨T, x1, rfl, nT, rfl, f1⟩ := hy
          have ex1 := Option.some.inj ((f1 _ (hsame _ sm)).symm.trans hx)
          subst ex1
          have sT : Same H (upd H3 T (.tup [.int (i : Nat), x1])) := sm.trans fun b o e => by rw [upd_ne (ne_of_none e nT)]; exact e
          refine ⟨T, _, rfl, .inl (.inl upd_same), rfl, _, _, rfl, _, _, rfl, rfl, ?_⟩
          generalize upd H3 T (.tup [.int (i : Nat), x1]) = H5 at sT ⊢
          rcases check_step hx sm q hI with ⟨c, rfl, hI'⟩ | ⟨hN, qE⟩
          · refine ⟨_, rfl, _, _, _, _, _, rfl, .ty "int", .base (.int c), kit_ty kit_int, true, rfl, iteF ?_⟩
            refine ⟨_, rfl, _, rfl, .inr ⟨fun c e => (nomatch e), _, rfl, iteF ?_⟩⟩
            exact ⟨_, rfl, _, rfl, .inr ⟨fun c e => (nomatch e), _, rfl, iteF ⟨_, _, rfl, sT, hI'⟩⟩⟩
          · have qF : E (.ref CR) = E (.ref CR) := rfl
            have flying : ∀ d H', Same H5 H' → H5 d = none → H' d = some (.xd [("index", .int (i : Int))]) → E (.ref CR) (some d) H' := fun d H' s2 hd hx => qE d H' (sT.trans s2) (sT.free hd) hx
            obtain ⟨nm, b1, b2, ht, k1, k2, hb⟩ := hN.same sT
            rcases ty_cases ht k1 k2 hb with ⟨c, rfl⟩ | ⟨rfl, hnb⟩
            · refine ⟨_, rfl, _, _, _, _, _, rfl, .ty "int", .base (.bl c), kit_ty kit_boolint, true, rfl, iteF ?_⟩
              refine ⟨_, rfl, _, rfl, .inl ⟨c, rfl, _, rfl, ?_⟩⟩
              cases c with
              | true => exact iteT ⟨_, rfl, mk_err (v := .int (i : Int)) (R := E) flying⟩
              | false => exact iteF ⟨_, rfl, _, rfl, .inl ⟨false, rfl, _, rfl, iteT ⟨_, rfl, mk_err (v := .int (i : Int)) (R := E) flying⟩⟩⟩
            · refine ⟨_, rfl, _, _, _, _, _, rfl, .ty "int", ht, kit_ty k1, false, rfl, iteT ?_⟩
              exact ⟨_, rfl, mk_err (v := .int (i : Int)) (R := E) flying⟩
      · exact .inl ⟨⟨_, hsame _ sm, by omega⟩, hend _ sm fun r v ys e hN => by have := hI r v ys e hN; omega⟩
end
end Ef
set_option Elab.async false
set_option linter.all false
set_option maxRecDepth 100000
set_option maxHeartbeats 4000000
namespace Ef
open PySem PySem.Spec PyProof.Rows L2
abbrev sInit : Stmt := inClass (top 24) 0
abbrev sEq : Stmt := inClass (top 24) 6
/-- the attributes -/
def pf (ra : Addr) (u : Int) : List (Str × V) := putF "under" (.int u) (putF "row" (.ref ra) [])
/-- at p a piece of the row r over u -/
def PAt (K : PySem.W.Frag) (C : Addr) (H : Hp) (p : Addr) (r : List Int) (u : Nat) : Prop := ∃ dx ra : Addr, H p = some (.ins C dx (pf ra u)) ∧ SqT K H ra (r.map V.int)
theorem PAt.same {K : PySem.W.Frag} {C : Addr} {H H' : Hp} {p : Addr} {r : List Int} {u : Nat} (h : PAt K C H p r u) (e : Same H H') : PAt K C H' p r u := by
  obtain ⟨dx, ra, h1, h2⟩ := h
  exact ⟨dx, ra, e _ _ h1, Same.tup e h2⟩
/-- the class, what the text has of it -/
structure ClsP (K : PySem.W.Frag) (mg : Str → Option Value) (C : Addr) : Prop where
  cl : Cls K C
  mgC : mg "Piece" = some (.ref C)
  nR : NoAttr K C "row"
  nU : NoAttr K C "under"
theorem sqt_upd {K : PySem.W.Frag} {H : Hp} {a p C dx : Addr} {fs : List (Str × V)} {xs : List V} {o : HO} (h : SqT K H a xs) (hp : H p = some (.ins C dx fs)) : SqT K (upd H p o) a xs := by
  rcases h with (h | ⟨z, h⟩) | h
  · exact .inl (.inl (by rw [upd_ne (ne_of h hp (by intro q; cases q))]; exact h))
  · exact .inl (.inr ⟨z, by rw [upd_ne (ne_of h hp (by intro q; cases q))]; exact h⟩)
  · exact .inr h
theorem lk_ne {f g : Str} {v : V} {fs : List (Str × V)} (h : ¬ g = f) : (putF f v fs).lookup g = fs.lookup g := by rw [lookup_putF, if_neg h]
theorem lk_eq {f : Str} {v : V} {fs : List (Str × V)} : (putF f v fs).lookup f = some v := by rw [lookup_putF, if_pos rfl]
theorem pf_under {ra : Addr} {u : Int} : (pf ra u).lookup ("under" : Str) = some (.int u) := lk_eq
theorem pf_row {ra : Addr} {u : Int} : (pf ra u).lookup ("row" : Str) = some (.ref ra) := (lk_ne (by decide +kernel)).trans lk_eq
section
variable {P : Program} {w : World} {K : PySem.W.Frag} {mg : Str → Option Value} {base : Heap}
/-- no integer from 1 on -/
def BadUn (K : PySem.W.Frag) (H : Hp) (v : V) : Prop := (NotInt K H v ∧ v ≠ .bl false) ∨ ∃ i : Int, v = .int i ∧ i < 1
def spInit (K : PySem.W.Frag) (C CR CU : Addr) : Sp := fun vs H Q E => ∃ (H0 : Hp) (p dx a : Addr) (xs : List V) (v : V), vs = [.ref p, .ref a, v] ∧ Same H0 H ∧ H0 p = none ∧ H p = some (.ins C dx []) ∧ Seqs K H0 a xs ∧ xs.length ≤ 100 ∧
  ((∃ (r : List Int) (z : V) (ys : List V), xs = r.map V.int ++ z :: ys ∧ NotInt K H0 z ∧ ∀ d H', Same H0 H' → H0 d = none → H' d = some (.xd [("index", .int (r.length : Int))]) → E (.ref CR) (some d) H') ∨
   (∃ r : List Int, xs = r.map V.int ∧ ((∃ un : Nat, v = .int (un : Int) ∧ 0 < un ∧ Bd 8000 (un : Int) ∧ ∀ (pr : List Int) (u : Nat) (H' : Hp), Low r un pr u → Same H0 H' → PAt K C H' p pr u → Q .non H') ∨
     (BadUn K H0 v ∧ ∀ d H', Same H0 H' → H0 d = none → H' d = some (.xd [("under", v)]) → E (.ref CU) (some d) H'))))
theorem scInit : FnScope ["self", "row", "under", "numbers", "shared", "number"] ["self", "row", "under"] (defScope sInit) := ⟨rfl, rfl, rfl, by decide +kernel, rfl, by decide +kernel, by decide +kernel⟩
theorem binds_init {f : Addr} {fd : FuncData} (F : FunD K "__init__" "Piece.__init__" (defArgs sInit) (defBody sInit) (defScope sInit) [V.int 1] [] f fd) : Binds K fd ["self", "row", "under"] [] := by
  have z : ∃ ds, Vals (List.drop 1 [V.int 1]) ds ∧ Binds K fd ["self", "row", "under"] ds := by
    refine F.binds1 (ps := ["self", "row", "under"]) 3 1 (fun z => by cases z) rfl (fun T kV doc pm an cdv ct us its hu hi => ?_)
    match us, hu, its, hi with
    | [_, _, _], _, [_], _ => exact ⟨_, rfl, rfl⟩
  obtain ⟨ds, hv, hb⟩ := z
  cases hv
  exact hb
theorem binds_init1 {f : Addr} {fd : FuncData} (F : FunD K "__init__" "Piece.__init__" (defArgs sInit) (defBody sInit) (defScope sInit) [V.int 1] [] f fd) : ∃ ds, Vals [.int 1] ds ∧ Binds K fd ["self", "row", "under"] ds := by
  refine F.binds1 (ps := ["self", "row", "under"]) 2 0 (fun z => by cases z) rfl (fun T kV doc pm an cdv ct us its hu hi => ?_)
  match us, hu, its, hi with
  | [_, _], _, [_], _ => exact ⟨_, rfl, rfl⟩
theorem ok_init {f C CR CU fU fk : Addr} {fd fdU fdk : FuncData} (F : FunD K "__init__" "Piece.__init__" (defArgs sInit) (defBody sInit) (defScope sInit) [V.int 1] [] f fd) (T : TxtQ mg) (CW : ClsP K mg C)
    (EU : ErrF K mg "BadUnder" "under" CU fU) (FU : FnOk P w K mg base CX0 1 fU fdU ["self", "under"] (spErr K CU "under")) (bU : Binds K fdU ["self", "under"] []) (CKR : DfX P w K mg base 3 "_check_row" ["row"] (spCheck K CR) fk fdk)
    (Disintfrom : Df P w K mg base 2 "is_int_from" ["value", "low"] (spFrom K)) (Dtrimmed : Df P w K mg base 1 "trimmed" ["row"] (spTrim K)) (Dcommondivisor : Df P w K mg base 1 "common_divisor" ["first", "row"] (spCom K)) :
    FnOk P w K mg base (CX P w) 4 f fd ["self", "row", "under"] (spInit K C CR CU) := by
  refine FunD.ok F scInit (fun vs H Q E h => ?_) (fun cdv A outer s H vs Q E hr h => ?_)
  · obtain ⟨H0, p, dx, a, xs, v, rfl, _⟩ := h
    rfl
  · obtain ⟨H0, p, dx, a, xs, v, rfl, s0, p0, hp, hS, hl, q⟩ := h
    refine ⟨_, (pss_cons (ps_expr (pe_callS CKR.F (hr.mono (by decide)) (by rfl) CKR.at_ CKR.kp CKR.b (fun σ => passAt (takes_of rfl rfl rfl rfl) σ) (pa_cons (pv 1) pa_nil)))
      (pss_cons (ps_if (pw_or (pt_not (pt_val (pe_callB call_isi (by rfl) T.isinstance (by decide +kernel) (pa_cons (pv 2) (pa_cons (pe_bltn (v := .ty "int") (by rfl) T.int (by decide +kernel) rfl) pa_nil))))) (pw_or (pt_cmpR op_isA (pv 2) pe_bl (nomark _)) (pw_or1 (pt_cmpR op_lt (pv 2) pe_int (nomark _))))).pt (pss_one (ps_raise rfl (takes_of rfl rfl rfl rfl) (pmk_oex EU.oex EU.iC EU.tI FU (hr.mono (by decide)) bU .nil pass0 (by rfl) EU.mgC (pa_cons (pv 2) pa_nil)))) pss_nil)
      (pss_cons (ps_set (i := 3) scInit.nd rfl (.inl rfl) (Dtrimmed.call (hr.mono (by decide)) (pa_cons (pv 1) pa_nil)))
      (pss_cons (ps_set (i := 4) scInit.nd rfl (.inr rfl) (pe_ifExp (pt_cmpR op_gt (pv 2) pe_int (nomark _)) (Dcommondivisor.call (hr.mono (by decide)) (pa_cons (pv 2) (pa_cons (pv 3) pa_nil))) pe_int))
      (pss_cons (ps_fld (pv 0) (pe_callTy call_tuple_of (by rfl) T.tuple (by decide +kernel) (pa_cons (pe_ifExp (pt_cmpR op_eq (pv 4) pe_int (nomark _)) (pv 3) (pe_lc (own := [("number", 5)]) (g := gName 5) (by rfl) scInit.nd (pi_list (pv 3)) (blkOk_by (own := [("number", 5)]) (N := ["self", "row", "under", "numbers", "shared", "number"]) (sc := defScope sInit) (by decide +kernel)) (fun _ _ _ _ _ => pg_name (i := 5) scInit.nd rfl (Or.inl rfl)) (fun _ _ _ _ _ => pts_nil) (fun _ _ _ _ _ => (pe_op op_fdivW (pv 5) (pv 4))))) pa_nil)) rfl)
      (pss_one (ps_fld (pv 0) (pe_op op_fdivW (pv 2) (pv 4)) rfl))))))), ?_⟩
    refine ⟨_, rfl, a, xs, rfl, hS.same s0, by omega, ?_⟩
    rcases q with ⟨r, z, ys, e, hN, q⟩ | ⟨r, rfl, q⟩
    · exact .inr ⟨r, z, ys, e, hN.same s0, fun d H' s1 hd hx => q d H' (s0.trans s1) (s0.free hd) hx⟩
    refine .inl ⟨r, rfl, fun H1 s1 => ?_⟩
    have s01 := s0.trans s1
    rw [List.length_map] at hl
    rcases q with ⟨un, rfl, hu, hub, q⟩ | ⟨hB, q⟩
    case' inr =>
      rcases hB with ⟨hN, hf⟩ | ⟨i, rfl, hi⟩
      · have flying : ∀ d H', Same H1 H' → H1 d = none → H' d = some (.xd [("under", v)]) → E (.ref CU) (some d) H' := fun d H' s2 hd hx => q d H' (s01.trans s2) (s01.free hd) hx
        obtain ⟨nm, b1, b2, ht, k1, k2, hb⟩ := hN.same s01
        rcases ty_cases ht k1 k2 hb with ⟨c, rfl⟩ | ⟨rfl, hnb⟩
        · cases c with
          | false => exact absurd rfl hf
          | true =>
            refine ⟨_, rfl, _, _, _, _, _, rfl, .ty "int", .base (.bl true), kit_ty kit_boolint, true, rfl, iteF ?_⟩
            exact ⟨_, rfl, _, rfl, .inl ⟨true, rfl, _, rfl, iteT ⟨_, rfl, mk_err (v := .bl true) (R := E) flying⟩⟩⟩
        · refine ⟨_, rfl, _, _, _, _, _, rfl, .ty "int", ht, kit_ty k1, false, rfl, iteT ?_⟩
          exact ⟨_, rfl, mk_err (v := v) (R := E) flying⟩
      · refine ⟨_, rfl, _, _, _, _, _, rfl, .ty "int", .base (.int i), kit_ty kit_int, true, rfl, iteF ?_⟩
        refine ⟨_, rfl, _, rfl, .inr ⟨fun c e => (nomatch e), _, rfl, iteF ?_⟩⟩
        refine ⟨_, rfl, _, _, rfl, rfl, _, rfl, ?_⟩
        rw [decide_eq_true hi]
        refine iteT ?_
        exact ⟨_, rfl, mk_err (v := .int i) (R := E) fun d H' s2 hd hx => q d H' (s01.trans s2) (s01.free hd) hx⟩
    refine ⟨_, rfl, _, _, _, _, _, rfl, .ty "int", .base (.int (un : Int)), kit_ty kit_int, true, rfl, iteF ?_⟩
    refine ⟨_, rfl, _, rfl, .inr ⟨fun c e => (nomatch e), _, rfl, iteF ?_⟩⟩
    refine ⟨_, rfl, _, _, rfl, rfl, _, rfl, ?_⟩
    rw [decide_eq_false (show ¬ (un : Int) < 1 by omega)]
    refine iteF ?_
    refine ⟨_, rfl, a, r, rfl, hS.same s01, hl, fun H2 l t s2 h2 ht => ?_⟩
    have s02 := s01.trans s2
    have hg := gcdR_pos (t := t) hu
    obtain ⟨gd1, gd2⟩ := gcdR_dvd t un
    have hgb : Bd 8000 ((gcdR un t : Nat) : Int) := by
      have h1 := Nat.le_of_dvd hu gd1
      unfold Bd at *
      rw [Int.natAbs_natCast] at *
      exact Nat.lt_of_le_of_lt h1 hub
    have hLow := Low.of_trim ht hu
    have h1g : un = 1 → gcdR un t = 1 := fun e => by rw [e]; exact gcdR_one t
    have hp2 : H2 p = some (.ins C dx []) := s2 _ _ (s1 _ _ hp)
    have htl : t.length ≤ 100 := by
      obtain ⟨k, hk, rfl, _⟩ := ht
      rw [List.length_take]; omega
    have fin : ∀ (ra : Addr) (H4 : Hp) (g : Nat), gcdR un t = g → Same H2 H4 → SqT K H4 ra ((t.map fun c => c / (g : Int)).map V.int) →
        Q .non (upd H4 p (.ins C dx (putF "under" (.int ((un / g : Nat) : Int)) (putF "row" (.ref ra) [])))) := fun ra H4 g hgg s4 e4 => by
      subst hgg
      exact q _ _ _ hLow (same_mut (s02.trans s4) p0) ⟨dx, ra, upd_same, sqt_upd e4 (s4 _ _ hp2)⟩
    have one : ∀ (ra : Addr), H2 ra = none → SqT K (upd H2 ra (.tup (t.map V.int))) ra ((t.map fun c => c / ((1 : Nat) : Int)).map V.int) := fun ra hra => by
      rw [show (t.map fun c => c / ((1 : Nat) : Int)) = t from (List.map_congr_left fun c _ => Int.ediv_one c).trans (List.map_id _)]
      exact .inl (.inl upd_same)
    -- shared
    refine ⟨_, rfl, _, _, rfl, rfl, _, rfl, ?_⟩
    refine ite2 (fun hb => ?_) (fun hb => ?_)
    · refine ⟨_, rfl, _, rfl, l, t, un, rfl, .inl (.inl h2), ?_⟩
      generalize hgg : gcdR un t = g at hg hgb ⊢
      have hgi : (0 : Int) < (g : Int) := by omega
      -- self.row
      refine ⟨_, rfl, rfl, _, rfl, ?_⟩
      by_cases hg1 : g = 1
      · subst hg1
        refine iteT ⟨_, rfl, l, _, rfl, .inl ⟨.inl (.inl h2), fun ra hra => ?_⟩⟩
        have s4 := same_new (o := .tup (t.map V.int)) hra
        have e4 := one ra hra
        generalize upd H2 ra (.tup (t.map V.int)) = H4 at s4 e4 ⊢
        refine ⟨_, rfl, p, C, dx, _, rfl, s4 _ _ hp2, CW.cl, CW.nR, (by show 0 < 1000; decide), ?_⟩
        refine ⟨_, rfl, _, rfl, _, _, rfl, rfl, wide_div hgi hgb (by decide) (by decide), _, rfl, p, C, dx, _, rfl, upd_same, CW.cl, CW.nU, (by show 1 < 1000; decide), ?_⟩
        rw [upd_upd]
        exact fin ra H4 1 hgg s4 e4
      rw [decide_eq_false (show ¬ V.int (g : Int) = V.int 1 from fun z => hg1 (by injection z with z; omega))]
      refine iteF ⟨_, rfl, l, rfl, ⟨_, .inl (.inl h2)⟩, fun D hD => ?_⟩
      refine lc_list (K := K) (a := l) (xs := t.map V.int) (fun i H' => Same H2 H' ∧ H' D = some (.lst (((t.take i).map fun c => c / (g : Int)).map V.int))) ⟨same_new hD, upd_same⟩ (fun i H' _ hh => .inl (.inl (hh.1 _ _ h2))) ?_ ?_
      · rintro i x H' hi ⟨sx, hx⟩
        rw [List.getElem?_map] at hi
        obtain ⟨c, hc, rfl⟩ := Option.map_eq_some_iff.mp hi
        refine ⟨rfl, _, rfl, _, rfl, _, _, rfl, rfl, wide_div hgi hgb (by decide) (by decide), _, hx, ?_, same_mut sx hD, ?_⟩
        · rw [List.length_map, List.length_map, List.length_take]
          exact Nat.lt_of_le_of_lt (show min i t.length ≤ 100 by omega) (by decide)
        · rw [upd_same, List.take_succ, hc, Option.toList_some, List.map_append, List.map_append]
          rfl
      · rintro H3 ⟨s3, h3⟩
        rw [List.length_map, List.take_length] at h3
        refine ⟨D, _, rfl, .inl ⟨.inl (.inl h3), fun ra hra => ?_⟩⟩
        have s4 := s3.trans (same_new (o := .tup ((t.map fun c => c / (g : Int)).map V.int)) hra)
        have e4 : SqT K (upd H3 ra (.tup ((t.map fun c => c / (g : Int)).map V.int))) ra ((t.map fun c => c / (g : Int)).map V.int) := .inl (.inl upd_same)
        generalize upd H3 ra (.tup ((t.map fun c => c / (g : Int)).map V.int)) = H4 at s4 e4 ⊢
        refine ⟨_, rfl, p, C, dx, _, rfl, s4 _ _ hp2, CW.cl, CW.nR, (by show 0 < 1000; decide), ?_⟩
        -- self.under
        refine ⟨_, rfl, _, rfl, _, _, rfl, rfl, wide_div hgi hgb (by decide) (by decide), _, rfl, p, C, dx, _, rfl, upd_same, CW.cl, CW.nU, (by show 1 < 1000; decide), ?_⟩
        rw [upd_upd]
        exact fin ra H4 g hgg s4 e4
    · have hu1 : un = 1 := by
        have : ¬ (1 : Int) < (un : Int) := fun z => hb (decide_eq_true z)
        omega
      refine ⟨_, rfl, rfl, _, rfl, iteT ⟨_, rfl, l, _, rfl, .inl ⟨.inl (.inl h2), fun ra hra => ?_⟩⟩⟩
      have s4 := same_new (o := .tup (t.map V.int)) hra
      have e4 := one ra hra
      generalize upd H2 ra (.tup (t.map V.int)) = H4 at s4 e4 ⊢
      refine ⟨_, rfl, p, C, dx, _, rfl, s4 _ _ hp2, CW.cl, CW.nR, (by show 0 < 1000; decide), ?_⟩
      refine ⟨_, rfl, _, rfl, _, _, rfl, rfl, wide_div (b := 8000) (by decide) (show Bd 8000 1 from by unfold Bd; decide) (by decide) (by decide), _, rfl, p, C, dx, _, rfl, upd_same, CW.cl, CW.nU, (by show 1 < 1000; decide), ?_⟩
      rw [upd_upd]
      exact fin ra H4 1 (h1g hu1) s4 e4
/-! ### == -/
def spEq (K : PySem.W.Frag) (C : Addr) : Sp := fun vs H Q _ => ∃ (p : Addr) (y : V) (r1 : List Int) (u1 : Nat), vs = [.ref p, y] ∧ PAt K C H p r1 u1 ∧ r1.length ≤ 1000 ∧
  ((∃ (b : Addr) (r2 : List Int) (u2 : Nat), y = .ref b ∧ PAt K C H b r2 u2 ∧ r2.length ≤ 1000 ∧ Q (.bl (decide (r1 = r2 ∧ u1 = u2))) H) ∨ (∃ (b : Addr) (xs : List V), y = .ref b ∧ H b = some (.lst xs) ∧ Q (.bl false) H))
theorem scEq : FnScope ["self", "other"] ["self", "other"] (defScope sEq) := ⟨rfl, rfl, rfl, by decide +kernel, rfl, by decide +kernel, by decide +kernel⟩
structure ClsQ (K : PySem.W.Frag) (mg : Str → Option Value) (C : Addr) : Prop extends ClsP K mg C where
  cc : PySem.W.findIn K (.ref C) "__class__" = some (some (.builtin "object.__class__"))
  cg : PySem.W.specialIn K (.builtin "object.__class__") "__get__" = some (some (.builtin "getset_descriptor.__get__"))
  ct : PySem.W.takesIn K (.builtin "object.__class__") = some true
  co : PySem.W.mroIn K C (.type "object") = some true
  sl : PySem.W.subIn K (.type "list") (.ref C) = some false
theorem eqv_ints : ∀ as bs : List Int, PyData.eqvAll (as.map PyData.int) (bs.map PyData.int) = decide (as = bs)
  | [], [] => rfl
  | [], _ :: _ => rfl
  | _ :: _, [] => rfl
  | a :: as, b :: bs => by
    show (PyData.eqv (.int a) (.int b) && PyData.eqvAll (as.map PyData.int) (bs.map PyData.int)) = _
    rw [eqv_ints as bs]
    show (decide (a = b) && decide (as = bs)) = decide (a :: as = b :: bs)
    by_cases h1 : a = b <;> by_cases h2 : as = bs <;> simp [h1, h2]
theorem ok_eq {f C : Addr} {fd : FuncData} (F : Fun K "__eq__" "Piece.__eq__" sEq f fd) (T : TxtQ mg) (CW : ClsQ K mg C) (hli : PySem.W.kitOne K (.type "list") (.ref C) = some false) : FnOk P w K mg base CX0 1 f fd ["self", "other"] (spEq K C) := by
  refine F.ok scEq (fun vs H Q E h => ?_) (fun cdv A outer s H vs Q E hr h => ?_)
  · obtain ⟨p, y, r1, u1, rfl, _⟩ := h
    rfl
  · obtain ⟨p, y, r1, u1, rfl, ⟨dx, ra, h1, h2⟩, hl1, q⟩ := h
    refine ⟨_, (pss_one (ps_ret (pe_and (pe_callB call_isi (by rfl) T.isinstance (by decide +kernel) (pa_cons (pv 1) (pa_cons (pe_glob (v := .ref C) (by rfl) CW.mgC rfl) pa_nil))) (pe_and (pe_cmpR (op_eqD hr.units) (pe_fld (pv 0) rfl) (pe_fld (pv 1) rfl) (nomark _)) (pe_one (pe_cmpR op_eq (pe_fld (pv 0) rfl) (pe_fld (pv 1) rfl) (nomark _))))))), ?_⟩
    rcases q with ⟨b, r2, u2, rfl, ⟨dx2, ra2, k1, k2⟩, hl2, q⟩ | ⟨b, xs, rfl, hb, q⟩
    · refine ⟨_, rfl, _, _, _, _, true, rfl, .own C, .base (.ins k1 CW.cl CW.cc CW.cg CW.ct CW.co), if_pos (by simp), ?_⟩
      refine ⟨_, rfl, iteT ?_⟩
      refine ⟨_, rfl, p, C, dx, _, _, rfl, h1, CW.cl, CW.nR, pf_row, _, rfl, b, C, dx2, _, _, rfl, k1, CW.cl, CW.nR, pf_row, _, _, .tup h2 (dp_ints r1), .tup k2 (dp_ints r2), (sh_list (can_ints r1).1 (can_ints r1).2).2, (sh_list (can_ints r2).1 (can_ints r2).2).2, _, rfl, ?_⟩
      rw [show PyData.eqv (.tuple (r1.map PyData.int)) (.tuple (r2.map PyData.int)) = decide (r1 = r2) from eqv_ints r1 r2]
      by_cases hr : r1 = r2
      · rw [decide_eq_true hr]
        refine iteT ⟨_, rfl, p, C, dx, _, _, rfl, h1, CW.cl, CW.nU, pf_under, _, rfl, b, C, dx2, _, _, rfl, k1, CW.cl, CW.nU, pf_under, rfl, ?_⟩
        have e : decide (V.int (u1 : Int) = V.int (u2 : Int)) = decide (r1 = r2 ∧ u1 = u2) := by
          rw [dint]
          by_cases hu : u1 = u2
          · rw [decide_eq_true (show (u1 : Int) = (u2 : Int) by rw [hu]), decide_eq_true (show r1 = r2 ∧ u1 = u2 from ⟨hr, hu⟩)]
          · rw [decide_eq_false (show ¬ (u1 : Int) = (u2 : Int) by omega), decide_eq_false (show ¬ (r1 = r2 ∧ u1 = u2) from fun z => hu z.2)]
        dsimp only
        rw [e]
        exact q
      · rw [decide_eq_false hr]
        rw [decide_eq_false (fun z => hr z.1)] at q
        exact iteF q
    · refine ⟨_, rfl, _, _, _, _, false, rfl, .own C, .base (.lst hb), hli, ?_⟩
      exact ⟨_, rfl, iteF q⟩
end
end Ef
set_option Elab.async false
set_option linter.all false
set_option maxRecDepth 100000
set_option maxHeartbeats 4000000
namespace Ef
open PySem PySem.Spec PyProof.Rows L2
abbrev sGcd : Stmt := top 33
abbrev sEntry : Stmt := top 34
abbrev sFrac : Stmt := top 35
structure TxtJ (mg : Str → Option Value) : Prop extends TxtQ mg where
  abs : mg "abs" = none
  max : mg "max" = none
  all : mg "all" = none
  min : mg "min" = none
  zip : mg "zip" = none
theorem Bd.add {a b w : Nat} {x y : Int} (hx : Bd a x) (hy : Bd b y) (h1 : a + 1 ≤ w) (h2 : b + 1 ≤ w) : Bd w (x + y) := by
  unfold Bd at *
  have e1 := Int.natAbs_add_le x y
  have e3 : 2 ^ a ≤ 2 ^ (w - 1) := Nat.pow_le_pow_right (by decide) (by omega)
  have e4 : 2 ^ b ≤ 2 ^ (w - 1) := Nat.pow_le_pow_right (by decide) (by omega)
  have e5 : 2 ^ w = 2 ^ (w - 1) + 2 ^ (w - 1) := by
    rw [← Nat.two_mul, ← Nat.pow_succ', Nat.succ_eq_add_one, Nat.sub_add_cancel (by omega)]
  omega
section
variable {P : Program} {w : World} {K : PySem.W.Frag} {mg : Str → Option Value} {base : Heap}
def spGcd : Sp := fun vs H Q _ => ∃ (a b : Int), vs = [.int a, .int b] ∧ Q (.int (Nat.gcd a.natAbs b.natAbs : Nat)) H
theorem scGcd : FnScope ["a", "b"] ["a", "b"] (defScope sGcd) := ⟨rfl, rfl, rfl, by decide +kernel, rfl, by decide +kernel, by decide +kernel⟩
theorem abs_nat (a : Int) : (if a < 0 then -a else a) = (a.natAbs : Int) := by
  split <;> omega
theorem df_gcd (A : At K mg "_law_gcd" sGcd) (T : TxtJ mg) : Df P w K mg base 1 "_law_gcd" ["a", "b"] spGcd := by
  obtain ⟨f, fd, hm, F⟩ := A.ex
  refine ⟨f, fd, hm, F.kp, F.binds (fun _ _ _ _ _ _ us hl => match us, hl with | [_, _], _ => rfl), F.ok scGcd (fun vs H Q E h => ?_) (fun cdv A outer s H vs Q E hr h => ?_)⟩
  · obtain ⟨a, b, rfl, _⟩ := h
    rfl
  · obtain ⟨a, b, rfl, q⟩ := h
    refine ⟨_, (pss_cons (ps_par (i := 0) (j := 1) (by rfl) scGcd.nd rfl rfl (by decide) rfl rfl (pa_cons (pe_callB call_abs (by rfl) T.abs (by decide +kernel) (pa_cons (pv 0) pa_nil)) (pa_cons (pe_callB call_abs (by rfl) T.abs (by decide +kernel) (pa_cons (pv 1) pa_nil)) pa_nil)) (by rfl))
      (pss_cons (ps_while PassesOwn.never (pt_cmpR op_ne (pv 1) pe_int (nomark _))
      (pss_one (ps_par (i := 0) (j := 1) (by rfl) scGcd.nd rfl rfl (by decide) rfl rfl (pa_cons (pv 1) (pa_cons (pe_op op_mod (pv 0) (pv 1)) pa_nil)) (by rfl))))
      (pss_one (ps_ret (pv 0))))), ?_⟩
    refine ⟨_, rfl, _, rfl, _, rfl, _, rfl, _, _, rfl, ?_⟩
    rw [abs_nat, abs_nat]
    refine ⟨fun m σ H' => ∃ x y : Nat, H' = H ∧ σ = [some (.int (x : Int)), some (.int (y : Int))] ∧ m = y ∧ Nat.gcd x y = Nat.gcd a.natAbs b.natAbs, ⟨_, _, _, rfl, rfl, rfl, rfl⟩, fun m σ H' hW => ?_⟩
    obtain ⟨x, y, rfl, rfl, rfl, hg⟩ := hW
    refine ⟨_, rfl, rfl, _, rfl, ?_⟩
    rw [dint]
    cases m with
    | zero =>
      refine iteF ?_
      rw [Nat.gcd_zero_right] at hg
      rw [← hg] at q
      exact ⟨_, rfl, q⟩
    | succ y =>
      rw [decide_eq_false (show ¬ (((y + 1 : Nat) : Int) = 0) by omega)]
      refine iteT ⟨fun σ H2 => ∃ z : Nat, H2 = H' ∧ σ = [some (.int ((y + 1 : Nat) : Int)), some (.int (z : Int))] ∧ z < y + 1 ∧ Nat.gcd (y + 1) z = Nat.gcd a.natAbs b.natAbs, fun σ' H2 ⟨z, e1, e2, e3, e4⟩ => ⟨z, e3, y + 1, z, e1, e2, rfl, e4⟩, ?_⟩
      refine ⟨_, rfl, _, rfl, _, rfl, _, _, rfl, rfl, by omega, _, _, rfl, x % (y + 1), rfl, ?_, Nat.mod_lt _ (Nat.succ_pos y), ?_⟩
      · rfl
      · rw [← hg, Nat.gcd_comm, ← Nat.gcd_rec, Nat.gcd_comm]
/-! ### _law_entry, _law_far -/
def spEntry : Sp := fun vs H Q _ => ∃ (p l : Addr) (ns : List Int) (a b : Int), vs = [.ref p] ∧ Pen H p l ns a b ∧ a ≤ 1000000000 ∧ ∀ (c a' b' : Int) (H' : Hp), Bd 201 c → a' ≤ a + 3 → Pen H' p l ns a' b' → Kp p H H' → Q (.int c) H'
theorem scEntry : FnScope ["pen", "way"] ["pen"] (defScope sEntry) := ⟨rfl, rfl, rfl, by decide +kernel, rfl, by decide +kernel, by decide +kernel⟩
theorem bd_small {x : Int} {b : Nat} (h1 : -(2 ^ 20) < x) (h2 : x < 2 ^ 20) (hb : 20 ≤ b) : Bd b x := Bd.up (a := 20) (by unfold Bd; omega) hb
theorem Pen.newlst {H : Hp} {p l : Addr} {ns : List Int} {a b : Int} (h : Pen H p l ns a b) {q : Addr} {o : HO} (hq : H q = none) : Pen (upd H q o) p l ns a b := h.kp (Kp.new _ hq) (upd_ne (ne_of_none h.hd hq))
theorem df_entry (A : At K mg "_law_entry" sEntry) (Ddraw : Df P w K mg base 1 "_law_draw" ["pen", "many"] spDraw) (Dpick : Df P w K mg base 2 "_law_pick" ["pen", "some"] (spPick K)) : Df P w K mg base 3 "_law_entry" ["pen"] spEntry := by
  obtain ⟨f, fd, hm, F⟩ := A.ex
  refine ⟨f, fd, hm, F.kp, F.binds (fun _ _ _ _ _ _ us hl => match us, hl with | [_], _ => rfl), F.ok scEntry (fun vs H Q E h => ?_) (fun cdv A outer s H vs Q E hr h => ?_)⟩
  · obtain ⟨p, l, ns, a, b, rfl, _⟩ := h
    rfl
  · obtain ⟨p, l, ns, a, b, rfl, hP, ha, q⟩ := h
    refine ⟨_, (pss_cons (ps_set (i := 1) scEntry.nd rfl (.inl rfl) (Ddraw.call (hr.mono (by decide)) (pa_cons (pv 0) (pa_cons pe_int pa_nil))))
      (pss_cons (ps_if (pt_cmpR op_eq (pv 1) pe_int (nomark _)) (pss_one (ps_ret pe_int)) pss_nil)
      (pss_cons (ps_if (pt_cmpR op_lt (pv 1) pe_int (nomark _)) (pss_one (ps_ret (pe_op op_sub (Ddraw.call (hr.mono (by decide)) (pa_cons (pv 0) (pa_cons pe_int pa_nil))) pe_int))) pss_nil)
      (pss_one (ps_ret (pe_op op_add (Dpick.call (hr.mono (by decide)) (pa_cons (pv 0) (pa_cons (pe_lst (pa_cons (pe_op op_add (pe_op op_pow pe_int pe_int) pe_int) (pa_cons (pe_op op_sub (pe_un un_neg (pe_op op_pow pe_int pe_int)) pe_int) (pa_cons (pe_op op_pow pe_int pe_int) (pa_cons (pe_un un_neg (pe_op op_pow pe_int pe_int)) pa_nil))))) pa_nil))) (Ddraw.call (hr.mono (by decide)) (pa_cons (pv 0) (pa_cons pe_int pa_nil))))))))), ?_⟩
    refine ⟨_, rfl, p, l, ns, a, b, _, rfl, hP, by omega, by decide, by decide, fun d1 a1 b1 H1 d10 d11 ha1 hP5 hK1 => ?_⟩
    refine ⟨_, rfl, rfl, _, rfl, ?_⟩
    refine ite2 (fun _ => q _ _ _ _ (Bd.zero _) (by omega) hP5 hK1) (fun _ => ?_)
    refine ⟨_, rfl, _, _, rfl, rfl, _, rfl, ?_⟩
    refine ite2 (fun _ => ?_) (fun _ => ?_)
    · refine ⟨_, rfl, p, l, ns, a1, b1, _, rfl, hP5, by omega, by decide, by decide, fun d2 a2 b2 H2 d20 d21 ha2 hP2 hK2 => ?_⟩
      exact ⟨_, _, rfl, rfl, q _ _ _ _ (bd_small (by omega) (by omega) (by decide)) (by omega) hP2 (hK1.trans hK2)⟩
    · refine ⟨_, rfl, ?_⟩
      refine ⟨_, _, rfl, rfl, ⟨by decide, by decide, by decide⟩, _, _, rfl, rfl, ?_⟩
      refine ⟨_, _, rfl, rfl, ⟨by decide, by decide, by decide⟩, _, rfl, _, _, rfl, rfl, ?_⟩
      refine ⟨_, _, rfl, rfl, ⟨by decide, by decide, by decide⟩, ?_⟩
      refine ⟨_, _, rfl, rfl, ⟨by decide, by decide, by decide⟩, _, rfl, ?_⟩
      refine ⟨by show 4 ≤ sizeLine; decide, fun t ht => ?_⟩
      refine ⟨p, l, t, ns, a1, b1, _, rfl, hP5.newlst ht, by omega, .inl (.inl upd_same), fun z => ?_, by show 1 ≤ 4; decide, by show 4 ≤ 100000; decide, ?_⟩
      · rw [z, hP5.hd] at ht; cases ht
      · intro j v a2 b2 H2 hj ha2 hP2 hK2
        have hx : ∃ x : Int, v = .int x ∧ Bd 200 x := by
          have hm := List.mem_of_getElem? hj
          simp only [List.mem_cons, List.not_mem_nil, or_false] at hm
          rcases hm with rfl | rfl | rfl | rfl
          · exact ⟨_, rfl, by unfold Bd; decide +kernel⟩
          · exact ⟨_, rfl, by unfold Bd; decide +kernel⟩
          · exact ⟨_, rfl, by unfold Bd; decide +kernel⟩
          · exact ⟨_, rfl, by unfold Bd; decide +kernel⟩
        obtain ⟨x, rfl, hx⟩ := hx
        refine ⟨_, rfl, p, l, ns, a2, b2, _, rfl, hP2, by omega, by decide, by decide, fun d3 a3 b3 H3 d30 d31 ha3 hP5 hK3 => ?_⟩
        exact ⟨_, _, rfl, rfl, q _ _ _ _ (Bd.add hx (bd_small (b := 20) (by omega) (by omega) (by decide)) (by decide) (by decide)) (by omega) hP5 (hK1.trans (((Kp.new _ ht).trans hK2).trans hK3))⟩
end
/-- a drawn fraction: the tuple of its row and its divisor -/
structure Frac (H : Hp) (t l : Addr) (r : List Int) (un m : Nat) : Prop where
  ht : H t = some (.tup [.ref l, .int un])
  hl : H l = some (.lst (r.map V.int))
  len : r.length ≤ m + 1
  bd : ∀ c ∈ r, Bd 201 c
  u1 : 0 < un
  ub : Bd 67 (un : Int)
def spFrac : Sp := fun vs H Q _ => ∃ (p l : Addr) (ns : List Int) (a b : Int) (m : Nat), vs = [.ref p, .int (m : Int)] ∧ m ≤ 5 ∧ Pen H p l ns a b ∧ a ≤ 900000000 ∧
  ∀ (t rl : Addr) (r : List Int) (un : Nat) (a' b' : Int) (H' : Hp), Frac H' t rl r un m → a' ≤ a + 100 → Pen H' p l ns a' b' → Kp p H H' → Q (.ref t) H'
theorem scFrac : FnScope ["pen", "most", "row", "k"] ["pen", "most"] (defScope sFrac) := ⟨rfl, rfl, rfl, by decide +kernel, rfl, by decide +kernel, by decide +kernel⟩
theorem Low.last {r p : List Int} {un u : Nat} (h : Low r un p u) (h0 : 0 < p.length) : p.getLastD 0 ≠ 0 := by
  obtain ⟨k, g, hg, hk, rfl, hd, hu, _, hz, hl⟩ := h.ex
  rw [List.length_map, List.length_take] at h0
  rcases hl with rfl | ⟨c, hc, hc0⟩
  · omega
  · have hkl : k - 1 < r.length := by omega
    have e : (r.take k)[k - 1]? = some c := by rw [List.getElem?_take, if_pos (by omega)]; exact hc
    have hm := hd c (List.mem_of_getElem? e)
    have e2 : ((r.take k).map fun c => c / (g : Int)).getLastD 0 = c / (g : Int) := by
      rw [List.getLastD_eq_getLast?, List.getLast?_eq_getElem?, List.length_map, List.length_take, Nat.min_eq_left hk, List.getElem?_map, e]
      rfl
    rw [e2]
    intro z
    have := Int.mul_ediv_cancel' hm
    rw [z, Int.mul_zero] at this
    exact hc0 this.symm
theorem Low.at {r p : List Int} {un u : Nat} (h : Low r un p u) {j : Nat} {c : Int} (hj : r[j]? = some c) : ∃ x, (p ++ List.replicate (r.length - p.length) 0)[j]? = some x ∧ x * (un : Int) = c * (u : Int) := by
  obtain ⟨k, g, hg, hk, rfl, hd, hu, _, hz, hl⟩ := h.ex
  have hlen : ((r.take k).map fun c => c / (g : Int)).length = k := by rw [List.length_map, List.length_take]; omega
  have hjl : j < r.length := by
    rcases Nat.lt_or_ge j r.length with z | z
    · exact z
    · rw [List.getElem?_eq_none z] at hj; cases hj
  rcases Nat.lt_or_ge j k with z | z
  · have e : (r.take k)[j]? = some c := by rw [List.getElem?_take, if_pos z]; exact hj
    refine ⟨c / (g : Int), ?_, ?_⟩
    · rw [List.getElem?_append_left (by rw [hlen]; exact z), List.getElem?_map, e]
      rfl
    · rw [hu, Int.natCast_mul, ← Int.mul_assoc, Int.ediv_mul_cancel (hd c (List.mem_of_getElem? e))]
  · refine ⟨0, ?_, ?_⟩
    · rw [List.getElem?_append_right (by rw [hlen]; exact z), hlen, List.getElem?_replicate, if_pos (by omega)]
    · have := hz j z hjl
      rw [hj] at this
      injection this with this
      rw [this, Int.zero_mul, Int.zero_mul]
theorem Low.gcd {r p : List Int} {un u : Nat} (h : Low r un p u) : gcdR u p = 1 := by
  obtain ⟨k, g, hg, hk, hp, hd, hu, h1, _⟩ := h.ex
  exact h1
theorem Low.bd {r p : List Int} {un u b : Nat} (h : Low r un p u) (hb : ∀ c ∈ r, Bd b c) : ∀ c ∈ p, Bd b c := fun c hc => by
  obtain ⟨k, g, hg, hk, rfl, _⟩ := h.ex
  obtain ⟨x, hx, rfl⟩ := List.mem_map.mp hc
  exact (hb x (List.mem_of_mem_take hx)).div (by omega)
theorem Low.ub {r p : List Int} {un u b : Nat} (h : Low r un p u) (hb : Bd b (un : Int)) : Bd b (u : Int) := by
  obtain ⟨k, g, hg, hk, _, _, hu, _⟩ := h.ex
  have : u ≤ un := by rw [hu]; exact Nat.le_mul_of_pos_left u hg
  unfold Bd at *
  rw [Int.natAbs_natCast] at *
  omega
theorem sqt_ty {K : PySem.W.Frag} {H : Hp} {a : Addr} {xs : List V} (h : SqT K H a xs) : TyX K H (.ref a) (.type "tuple") := by
  rcases h with (h | ⟨o, h⟩) | ⟨o, its, n, h1, h2, _⟩
  · exact .base (.tup h)
  · exact .fTuple h
  · exact .kTuple h1 h2
abbrev sIsp : Stmt := top 37
theorem at_last {r : List Int} (h : 0 < r.length) : atI (r.map V.int) (-1) = some (.int (r.getLastD 0)) := by
  unfold atI ixN
  rw [if_neg (by decide), if_pos (by rw [List.length_map]; omega), List.length_map]
  show (r.map V.int)[((-1 : Int) + (r.length : Int)).toNat]? = _
  rw [show ((-1 : Int) + (r.length : Int)).toNat = r.length - 1 by omega, List.getElem?_map]
  have e : r[r.length - 1]? = some (r.getLastD 0) := by
    rw [← List.getLast?_eq_getElem?, List.getLastD_eq_getLast?]
    cases r with
    | nil => exact absurd h (Nat.lt_irrefl 0)
    | cons c r => rw [List.getLast?_cons]; rfl
  rw [e]
  rfl
section
variable {P : Program} {w : World} {K : PySem.W.Frag} {mg : Str → Option Value} {base : Heap}
theorem df_frac (A : At K mg "_law_fraction" sFrac) (T : TxtJ mg) (Ddraw : Df P w K mg base 1 "_law_draw" ["pen", "many"] spDraw) (Dpick : Df P w K mg base 2 "_law_pick" ["pen", "some"] (spPick K)) (Dentry : Df P w K mg base 3 "_law_entry" ["pen"] spEntry) : Df P w K mg base 4 "_law_fraction" ["pen", "most"] spFrac := by
  obtain ⟨f, fd, hm, F⟩ := A.ex
  refine ⟨f, fd, hm, F.kp, F.binds (fun _ _ _ _ _ _ us hl => match us, hl with | [_, _], _ => rfl), F.ok scFrac (fun vs H Q E h => ?_) (fun cdv A outer s H vs Q E hr h => ?_)⟩
  · obtain ⟨p, l, ns, a, b, m, rfl, _⟩ := h
    rfl
  · obtain ⟨p, l, ns, a, b, m, rfl, hm5, hP, ha, q⟩ := h
    refine ⟨_, (pss_cons (ps_setLc (i := 2) (own := [("k", 3)]) (g := gName 3) (by rfl) scFrac.nd rfl rfl (sw_true rfl rfl rfl (by decide +kernel)) (pi_range1 (by rfl) T.range (pa_cons (Ddraw.call (hr.mono (by decide)) (pa_cons (pv 0) (pa_cons (pe_op op_add (pv 1) pe_int) pa_nil))) pa_nil)) (blkOk_by (own := [("k", 3)]) (N := ["pen", "most", "row", "k"]) (sc := defScope sFrac) (by decide +kernel)) (fun _ _ _ _ _ => pg_name (i := 3) scFrac.nd rfl (Or.inl rfl)) (fun _ _ _ _ _ => pts_nil) (fun _ _ _ _ _ => (Dentry.call (hr.mono (by decide)) (pa_cons (pv 0) pa_nil))))
      (pss_one (ps_ret (pe_tup (pa_cons (pv 2) (pa_cons (Dpick.call (hr.mono (by decide)) (pa_cons (pv 0) (pa_cons (pe_lst (pa_cons pe_int (pa_cons pe_int (pa_cons pe_int (pa_cons pe_int (pa_cons pe_int (pa_cons pe_int (pa_cons pe_int (pa_cons (pe_op op_pow pe_int pe_int) pa_nil))))))))) pa_nil))) pa_nil)))))), ?_⟩
    refine ⟨_, rfl, _, rfl, _, _, rfl, rfl, p, l, ns, a, b, _, rfl, hP, by omega, by omega, by omega, fun d1 a1 b1 H1 d10 d11 ha1 hP5 hK1 => ?_⟩
    refine ⟨d1, rfl, by omega, by omega, fun D hD => ?_⟩
    have hDH : H D = none := by
      refine hK1.free (fun z => ?_) hD
      rw [z, hP5.hd] at hD; cases hD
    have hDp : D ≠ p := fun z => by rw [z, hP.hd] at hDH; cases hDH
    refine lc_range (lo := 0) (n := d1.toNat) (fun i H' => ∃ (acc : List Int) (a' b' : Int), H' D = some (.lst (acc.map V.int)) ∧ acc.length = i ∧ (∀ c ∈ acc, Bd 201 c) ∧ Pen H' p l ns a' b' ∧ a' ≤ a + 1 + 3 * i ∧ Kp p H H')
      ⟨[], a1, b1, upd_same, rfl, fun c hc => (by cases hc), hP5.newlst hD, by omega, hK1.trans (Kp.new _ hD)⟩ ?_ ?_
    · rintro i H4 hi ⟨acc, a', b', hA, hl, hb, hP5, ha4, hK4⟩
      refine ⟨rfl, _, rfl, p, l, ns, a', b', rfl, hP5, by omega, fun c a5 b5 H5 hc ha5 hP5 hK5 => ?_⟩
      refine ⟨_, hK5 _ _ hDp hA, by rw [List.length_map]; exact small1000' (by omega), acc ++ [c], a5, b5, by rw [upd_same, List.map_append]; rfl, by rw [List.length_append, hl]; rfl, fun x hx => ?_, ?_, by omega, (hK4.trans hK5).mut hDH⟩
      · rcases List.mem_append.mp hx with z | z
        · exact hb x z
        · rw [List.mem_singleton.mp z]; exact hc
      · exact ⟨by rw [upd_ne (Ne.symm hDp)]; exact hP5.hd, by rw [upd_ne (fun z => by rw [← z, hP.hl] at hDH; cases hDH)]; exact hP5.hl, hP5.len, hP5.a0, hP5.b0⟩
    · rintro H4 ⟨acc, a', b', hA, hl, hb, hP5, ha4, hK4⟩
      refine ⟨_, rfl, _, rfl, ?_⟩
      refine ⟨_, _, rfl, rfl, ⟨by decide, by decide, by decide⟩, by show 8 ≤ sizeLine; decide, fun t ht => ?_⟩
      refine ⟨p, l, t, ns, a', b', _, rfl, hP5.newlst ht, by omega, .inl (.inl upd_same), fun z => ?_, by show 1 ≤ 8; decide, by show 8 ≤ 100000; decide, ?_⟩
      · rw [z, hP5.hd] at ht; cases ht
      · intro j v a5 b5 H5 hj ha5 hP5 hK5
        have hx : ∃ un : Nat, v = .int (un : Int) ∧ 0 < un ∧ Bd 67 (un : Int) := by
          have hm := List.mem_of_getElem? hj
          simp only [List.mem_cons, List.not_mem_nil, or_false] at hm
          rcases hm with rfl | rfl | rfl | rfl | rfl | rfl | rfl | rfl
          · exact ⟨1, rfl, by decide, by unfold Bd; decide +kernel⟩
          · exact ⟨1, rfl, by decide, by unfold Bd; decide +kernel⟩
          · exact ⟨2, rfl, by decide, by unfold Bd; decide +kernel⟩
          · exact ⟨3, rfl, by decide, by unfold Bd; decide +kernel⟩
          · exact ⟨4, rfl, by decide, by unfold Bd; decide +kernel⟩
          · exact ⟨6, rfl, by decide, by unfold Bd; decide +kernel⟩
          · exact ⟨12, rfl, by decide, by unfold Bd; decide +kernel⟩
          · exact ⟨10 ^ 20, rfl, by decide, by unfold Bd; decide +kernel⟩
        obtain ⟨un, rfl, hu, hub⟩ := hx
        refine ⟨by show 2 ≤ sizeLine; decide, fun tt htt => ?_⟩
        have hA5 := hK5 _ _ hDp (show (upd H4 t _) D = _ from by rw [upd_ne (ne_of_none hA ht)]; exact hA)
        exact q tt D acc un a5 b5 _ ⟨upd_same, by rw [upd_ne (ne_of_none hA5 htt)]; exact hA5, by omega, fun c hc => hb c hc, hu, hub⟩ (by omega) (hP5.newlst htt) ((hK4.trans ((Kp.new _ ht).trans hK5)).trans (Kp.new _ htt))
theorem flat_rep (k : Nat) : (List.replicate k [V.int 0]).flatten = (List.replicate k (0 : Int)).map V.int := by
  induction k with
  | zero => rfl
  | succ k ih => rw [List.replicate_succ, List.flatten_cons, ih, List.replicate_succ]; rfl
def spIsp (K : PySem.W.Frag) (C : Addr) : Sp := fun vs H Q _ => ∃ (p a : Addr) (r pr : List Int) (un u : Nat), vs = [.ref p, .ref a, .int un] ∧ PAt K C H p pr u ∧ SqL K H a (r.map V.int) ∧ Low r un pr u ∧ r.length ≤ 60 ∧ (∀ c ∈ r, Bd 12000 c) ∧ Bd 12000 (un : Int) ∧ ∀ H', Same H H' → Q (.bl true) H'
theorem scIsp : FnScope ["piece", "row", "under", "divisor", "entry", "told", "k"] ["piece", "row", "under"] (defScope sIsp) := ⟨rfl, rfl, rfl, by decide +kernel, rfl, by decide +kernel, by decide +kernel⟩
theorem df_isp {C : Addr} (A : At K mg "_law_is_piece" sIsp) (T : TxtJ mg) (CW : ClsQ K mg C) (Dgcd : Df P w K mg base 1 "_law_gcd" ["a", "b"] spGcd) : Df P w K mg base 2 "_law_is_piece" ["piece", "row", "under"] (spIsp K C) := by
  obtain ⟨f, fd, hm, F⟩ := A.ex
  refine ⟨f, fd, hm, F.kp, F.binds (fun _ _ _ _ _ _ us hl => match us, hl with | [_, _, _], _ => rfl), F.ok scIsp (fun vs H Q E h => ?_) (fun cdv A outer s H vs Q E hr h => ?_)⟩
  · obtain ⟨p, a, r, pr, un, u, rfl, _⟩ := h
    rfl
  · obtain ⟨p, a, r, pr, un, u, rfl, ⟨dx, ra, h1, h2⟩, hS, hL, hl, hb, hub, q⟩ := h
    refine ⟨_, (pss_cons (ps_if (pw_or (pt_not (pt_val (pe_callB call_isi (by rfl) T.isinstance (by decide +kernel) (pa_cons (pv 0) (pa_cons (pe_glob (v := .ref C) (by rfl) CW.mgC rfl) pa_nil))))) (pw_or (pt_not (pt_val (pe_callB call_isi (by rfl) T.isinstance (by decide +kernel) (pa_cons (pe_fld (pv 0) rfl) (pa_cons (pe_bltn (v := .ty "tuple") (by rfl) T.tuple (by decide +kernel) rfl) pa_nil))))) (pw_or1 (pt_cmpR op_lt (pe_fld (pv 0) rfl) pe_int (nomark _))))).pt (pss_one (ps_ret pe_bl)) pss_nil)
      (pss_cons (ps_set (i := 3) scIsp.nd rfl (.inl rfl) (pe_fld (pv 0) rfl))
      (pss_cons (ps_for PassesOwn.never rfl (pi_tup (pe_fld (pv 0) rfl)) (pg_name (i := 4) scIsp.nd rfl (.inl rfl))
      (pss_one (ps_set (i := 3) scIsp.nd rfl (.inl rfl) (Dgcd.call (hr.mono (by decide)) (pa_cons (pv 3) (pa_cons (pv 4) pa_nil))))))
      (pss_cons (ps_if (pw_or (pt_cmpR op_ne (pv 3) pe_int (nomark _)) (pw_or (pw_and (pt_cmpR op_gt (pe_callB call_len_seq (by rfl) T.len PySem.boot_len (pa_cons (pe_fld (pv 0) rfl) pa_nil)) pe_int (nomark _)) (pw_and1 (pt_cmpR op_eq (pe_ix ix_tup (pe_fld (pv 0) rfl) (pe_un un_neg pe_int) (fun _ _ => rfl)) pe_int (nomark _)))).pt (pw_or1 (pt_cmpR op_gt (pe_callB call_len_seq (by rfl) T.len PySem.boot_len (pa_cons (pe_fld (pv 0) rfl) pa_nil)) (pe_callB call_len_seq (by rfl) T.len PySem.boot_len (pa_cons (pv 1) pa_nil)) (nomark _))))).pt (pss_one (ps_ret pe_bl)) pss_nil)
      (pss_cons (ps_set (i := 5) scIsp.nd rfl (.inr rfl) (pe_op op_cat (pe_callTy call_list_of (by rfl) T.list (by decide +kernel) (pa_cons (pe_fld (pv 0) rfl) pa_nil)) (pe_op op_rep (pe_lst (pa_cons pe_int pa_nil)) (pe_op op_sub (pe_callB call_len_seq (by rfl) T.len PySem.boot_len (pa_cons (pv 1) pa_nil)) (pe_callB call_len_seq (by rfl) T.len PySem.boot_len (pa_cons (pe_fld (pv 0) rfl) pa_nil))))))
      (pss_one (ps_ret (pe_callB (cr_all rfl) (by rfl) T.all (by decide +kernel) (pa_cons (pe_lc (own := [("k", 6)]) (g := gName 6) (by rfl) scIsp.nd (pi_range1 (by rfl) T.range (pa_cons (pe_callB call_len_seq (by rfl) T.len PySem.boot_len (pa_cons (pv 1) pa_nil)) pa_nil)) (blkOk_by (own := [("k", 6)]) (N := ["piece", "row", "under", "divisor", "entry", "told", "k"]) (sc := defScope sIsp) (by decide +kernel)) (fun _ _ _ _ _ => pg_name (i := 6) scIsp.nd rfl (Or.inl rfl)) (fun _ _ _ _ _ => pts_nil) (fun _ _ _ _ _ => (pe_cmpR op_eq (pe_op op_mulW (pe_ix (show IxR _ (rIx K) from ix_seq) (pv 5) (pv 6) (fun _ _ => rfl)) (pv 2)) (pe_op op_mulW (pe_ix (show IxR _ (rIx K) from ix_seq) (pv 1) (pv 6) (fun _ _ => rfl)) (show PE _ _ (tFld K (tVar 0) "under") from pe_fld (pv 0) (by rfl))) (nomark _)))) pa_nil))))))))), ?_⟩
    refine ⟨_, rfl, _, _, _, _, true, rfl, .own C, .base (.ins h1 CW.cl CW.cc CW.cg CW.ct CW.co), if_pos (by simp), ?_⟩
    refine ⟨_, rfl, iteF ?_⟩
    refine ⟨_, rfl, p, C, dx, _, _, rfl, h1, CW.cl, CW.nR, pf_row, _, _, _, _, true, rfl, .ty "tuple", sqt_ty h2, kit_ty (by decide +kernel), ?_⟩
    refine ⟨_, rfl, iteF ?_⟩
    refine ⟨_, rfl, p, C, dx, _, _, rfl, h1, CW.cl, CW.nU, pf_under, _, _, rfl, rfl, _, rfl, ?_⟩
    have hu := hL.u1
    rw [decide_eq_false (show ¬ (u : Int) < 1 by omega)]
    refine iteF ?_
    -- divisor
    refine ⟨_, rfl, p, C, dx, _, _, rfl, h1, CW.cl, CW.nU, pf_under, ?_⟩
    refine ⟨_, rfl, p, C, dx, _, _, rfl, h1, CW.cl, CW.nR, pf_row, ra, rfl, ⟨_, h2⟩, for_tup (K := K) (a := ra) (xs := pr.map V.int) (fun i σ H' => H' = H ∧ ∃ y : Option V, σ = [some (.ref p), some (.ref a), some (.int un), some (.int (gcdR u (pr.take i) : Nat)), y, none, none])
      ⟨rfl, none, rfl⟩ (fun i σ H' _ ⟨e, _⟩ => e ▸ h2) ?_ ?_⟩
    · rintro i x σ H' hi ⟨rfl, y, rfl⟩
      rw [List.getElem?_map] at hi
      obtain ⟨c, hc, rfl⟩ := Option.map_eq_some_iff.mp hi
      exact ⟨_, rfl, _, rfl, _, _, rfl, rfl, some (.int c), by rw [gcdR_take_succ hc]; rfl⟩
    rintro σ H' ⟨rfl, y, rfl⟩
    rw [List.length_map, List.take_length, hL.gcd]
    refine ⟨_, rfl, rfl, _, rfl, ?_⟩
    refine iteF ?_
    have hlen := hL.len
    refine ⟨_, rfl, p, C, dx, _, _, rfl, h1, CW.cl, CW.nR, pf_row, ra, _, rfl, .inr h2, _, _, rfl, rfl, _, rfl, ?_⟩
    rw [List.length_map]
    rcases Nat.eq_zero_or_pos pr.length with z | z
    case' inl =>
      rw [decide_eq_false (show ¬ (0 : Int) < (pr.length : Int) by omega)]
      refine iteF ?_
    case' inr =>
      rw [decide_eq_true (show (0 : Int) < (pr.length : Int) by omega)]
      refine iteT ⟨_, rfl, p, C, dx, _, _, rfl, h1, CW.cl, CW.nR, pf_row, _, rfl, ra, _, _, _, rfl, rfl, h2, at_last z, rfl, _, rfl, ?_⟩
      rw [dint, decide_eq_false (hL.last z)]
      refine iteF ?_
    all_goals
      refine ⟨_, rfl, p, C, dx, _, _, rfl, h1, CW.cl, CW.nR, pf_row, ra, _, rfl, .inr h2, _, rfl, a, _, rfl, .inl hS, _, _, rfl, rfl, _, rfl, ?_⟩
      rw [List.length_map, List.length_map, decide_eq_false (show ¬ (r.length : Int) < (pr.length : Int) by omega)]
      refine iteF ?_
      -- told
      refine ⟨_, rfl, p, C, dx, _, _, rfl, h1, CW.cl, CW.nR, pf_row, ra, _, rfl, .inr h2, fun t0 ht0 => ?_⟩
      have s0 := same_new (o := .lst (pr.map V.int)) ht0
      have e0 : (upd H' t0 (.lst (pr.map V.int))) t0 = some (.lst (pr.map V.int)) := upd_same
      generalize upd H' t0 (.lst (pr.map V.int)) = H0 at s0 e0 ⊢
      refine ⟨by show 1 ≤ sizeLine; decide, fun t3 ht3 => ?_⟩
      have s3 := s0.trans (same_new (o := .lst [.int 0]) ht3)
      have e3 : (upd H0 t3 (.lst [.int 0])) t3 = some (.lst [.int 0]) := upd_same
      have e03 := same_new (o := .lst [.int 0]) ht3 _ _ e0
      generalize upd H0 t3 (.lst [.int 0]) = H3 at s3 e3 e03 ⊢
      refine ⟨_, rfl, a, _, rfl, .inl (s3.seq hS), _, rfl, p, C, dx, _, _, rfl, s3 _ _ h1, CW.cl, CW.nR, pf_row, ra, _, rfl, .inr (Same.tup s3 h2), _, _, rfl, rfl, t3, _, _, rfl, rfl, e3, ?_⟩
      rw [List.length_map, List.length_map]
      have ek2 : ((r.length : Int) - (pr.length : Int)).toNat = r.length - pr.length := by omega
      rw [ek2]
      refine ⟨by omega, by omega, by show 1 * _ ≤ _; exact Nat.le_trans (show _ ≤ 100000 by omega) (by decide), fun t4 ht4 => ?_⟩
      have s4 := s3.trans (same_new (o := .lst (List.replicate (r.length - pr.length) [V.int 0]).flatten) ht4)
      have e04 := same_new (o := .lst (List.replicate (r.length - pr.length) [V.int 0]).flatten) ht4 _ _ e03
      have e4 : (upd H3 t4 (.lst (List.replicate (r.length - pr.length) [V.int 0]).flatten)) t4 = some (.lst ((List.replicate (r.length - pr.length) (0 : Int)).map V.int)) := by rw [upd_same, ← flat_rep]
      generalize upd H3 t4 (.lst (List.replicate (r.length - pr.length) [V.int 0]).flatten) = H4 at s4 e4 e04 ⊢
      refine ⟨t0, t4, _, _, rfl, rfl, e04, e4, by rw [List.length_map, List.length_map, List.length_replicate]; exact Nat.le_trans (show _ ≤ 100000 by omega) (by decide), fun t5 ht5 => ?_⟩
      rw [← List.map_append]
      have s5 := s4.trans (same_new (o := .lst ((pr ++ List.replicate (r.length - pr.length) 0).map V.int)) ht5)
      have e5 : (upd H4 t5 (.lst ((pr ++ List.replicate (r.length - pr.length) 0).map V.int))) t5 = some (.lst ((pr ++ List.replicate (r.length - pr.length) 0).map V.int)) := upd_same
      generalize upd H4 t5 (.lst ((pr ++ List.replicate (r.length - pr.length) 0).map V.int)) = H5 at s5 e5 ⊢
      -- all
      refine ⟨_, rfl, a, _, rfl, .inl (s5.seq hS), _, rfl, by rw [List.length_map]; omega, by rw [List.length_map]; omega, fun D hD => ?_⟩
      rw [List.length_map]
      refine lc_range (lo := 0) (n := r.length) (fun i Hx => Same H5 Hx ∧ Hx D = some (.lst ((List.replicate i true).map V.bl))) ⟨same_new hD, upd_same⟩ ?_ ?_
      · rintro i Hx hi ⟨sx, hx⟩
        obtain ⟨c, hc, gc⟩ := get_int (r := r) (k := i) hi
        obtain ⟨x, hx1, hx2⟩ := hL.at hc
        have gx : ((pr ++ List.replicate (r.length - pr.length) 0).map V.int)[i]? = some (.int x) := by rw [List.getElem?_map, hx1]; rfl
        have ei : (0 + (i : Nat) : Int) = ((i : Nat) : Int) := Int.zero_add _
        have bx : Bd 12000 x := by
          rcases List.mem_append.mp (List.mem_of_getElem? hx1) with k | k
          · exact hL.bd hb x k
          · rw [(List.mem_replicate.mp k).2]; exact Bd.zero _
        refine ⟨rfl, _, rfl, _, rfl, .inl ⟨t5, _, _, _, rfl, rfl, .inl (.inl (sx _ _ e5)), atI_of ei gx, _, rfl, _, _, rfl, rfl, wide_mul bx hub (by decide) (by decide) (by decide), ?_⟩⟩
        refine ⟨_, rfl, _, rfl, .inl ⟨a, _, _, _, rfl, rfl, (s5.trans sx).seq hS, atI_of ei gc, _, rfl, p, C, dx, _, _, rfl, (s5.trans sx) _ _ h1, CW.cl, CW.nU, pf_under, _, _, rfl, rfl, wide_mul (hb c (List.mem_of_getElem? hc)) (hL.ub hub) (by decide) (by decide) (by decide), rfl, ?_⟩⟩
        dsimp only
        rw [dint, hx2, decide_eq_true rfl]
        refine ⟨_, hx, by rw [List.length_map, List.length_replicate]; exact small1000' (by omega), same_mut sx hD, ?_⟩
        rw [upd_same, List.replicate_succ', List.map_append]
        rfl
      · rintro H6 ⟨s6, h6⟩
        refine ⟨D, _, rfl, .inl (.inl h6), ?_⟩
        have : (List.replicate r.length true).all id = true := by
          rw [List.all_eq_true]
          intro b hb
          rw [(List.mem_replicate.mp hb).2]; rfl
        rw [this]
        exact q H6 (s5.trans s6)
end
end Ef
set_option Elab.async false
set_option linter.all false
/-! one least form -/
namespace Ef
theorem gcdR_mul (d : Nat) : ∀ (t : List Int) (f : Nat), gcdR (d * f) (t.map fun c => (d : Int) * c) = d * gcdR f t
  | [], f => rfl
  | c :: t, f => by
    show gcdR (Nat.gcd (d * f) ((d : Int) * c).natAbs) (t.map fun c => (d : Int) * c) = d * gcdR (Nat.gcd f c.natAbs) t
    rw [Int.natAbs_mul, Int.natAbs_natCast, Nat.gcd_mul_left]
    exact gcdR_mul d t _
/-- the member, or 0 -/
theorem Low.cross {r p : List Int} {un u : Nat} (h : Low r un p u) (j : Nat) : p.getD j 0 * (un : Int) = r.getD j 0 * (u : Int) := by
  obtain ⟨k, g, hg, hk, rfl, hd, hu, _, hz, hl⟩ := h.ex
  rcases Nat.lt_or_ge j k with z | z
  · have hjl : j < r.length := by omega
    have e : (r.take k)[j]? = some r[j] := by rw [List.getElem?_take, if_pos z, List.getElem?_eq_getElem hjl]
    have e1 : ((r.take k).map fun c => c / (g : Int)).getD j 0 = r[j] / (g : Int) := by rw [List.getD_eq_getElem?_getD, List.getElem?_map, e]; rfl
    have e2 : r.getD j 0 = r[j] := by rw [List.getD_eq_getElem?_getD, List.getElem?_eq_getElem hjl]; rfl
    rw [e1, e2, hu, Int.natCast_mul, ← Int.mul_assoc, Int.ediv_mul_cancel (hd _ (List.mem_of_getElem? e))]
  · have e1 : ((r.take k).map fun c => c / (g : Int)).getD j 0 = 0 := by
      rw [List.getD_eq_getElem?_getD, List.getElem?_eq_none (by rw [List.length_map, List.length_take]; omega)]; rfl
    have e2 : r.getD j 0 = 0 := by
      rcases Nat.lt_or_ge j r.length with w | w
      · rw [List.getD_eq_getElem?_getD, hz j z w]; rfl
      · rw [List.getD_eq_getElem?_getD, List.getElem?_eq_none w]; rfl
    rw [e1, e2, Int.zero_mul, Int.zero_mul]
theorem Low.un0 {r p : List Int} {un u : Nat} (h : Low r un p u) : 0 < un := by
  obtain ⟨k, g, hg, hk, _, _, hu, _⟩ := h.ex
  rw [hu]; exact Nat.mul_pos hg h.u1
theorem Low.gcd1 {r p : List Int} {un u : Nat} (h : Low r un p u) : gcdR u p = 1 := by
  obtain ⟨k, g, hg, hk, hp, hd, hu, h1, _⟩ := h.ex
  exact h1
/-- no 0 at the end -/
theorem Low.end_ {r p : List Int} {un u : Nat} (h : Low r un p u) (j : Nat) (hj : j + 1 = p.length) : p.getD j 0 ≠ 0 := by
  obtain ⟨k, g, hg, hk, rfl, hd, hu, _, hz, hl⟩ := h.ex
  rw [List.length_map, List.length_take] at hj
  rcases hl with rfl | ⟨c, hc, hc0⟩
  · omega
  · have ej : j = k - 1 := by omega
    have e : (r.take k)[j]? = some c := by rw [List.getElem?_take, if_pos (by omega), ej]; exact hc
    have e1 : ((r.take k).map fun c => c / (g : Int)).getD j 0 = c / (g : Int) := by rw [List.getD_eq_getElem?_getD, List.getElem?_map, e]; rfl
    rw [e1]
    intro z
    have := Int.mul_ediv_cancel' (hd c (List.mem_of_getElem? e))
    rw [z, Int.mul_zero] at this
    exact hc0 this.symm
theorem dvd_of_cross {p q : List Int} {u v : Nat} (h1 : gcdR u p = 1) (hc : ∀ j, p.getD j 0 * (v : Int) = q.getD j 0 * (u : Int)) : u ∣ v := by
  have h := gcdR_mul v p u
  rw [h1, Nat.mul_one] at h
  rw [← h]
  refine dvd_gcdR _ _ _ (Nat.dvd_mul_left u v) fun c hcm => ?_
  obtain ⟨x, hx, rfl⟩ := List.mem_map.mp hcm
  obtain ⟨j, hj, rfl⟩ := List.getElem_of_mem hx
  have e := hc j
  have e2 : p.getD j 0 = p[j] := by rw [List.getD_eq_getElem?_getD, List.getElem?_eq_getElem hj]; rfl
  rw [e2] at e
  rw [Int.mul_comm, e]
  exact Int.dvd_mul_left _ _
theorem ext_getD : ∀ {p q : List Int}, (∀ j, p.getD j 0 = q.getD j 0) → (∀ j, j + 1 = p.length → p.getD j 0 ≠ 0) → (∀ j, j + 1 = q.length → q.getD j 0 ≠ 0) → p = q := by
  intro p q h hp hq
  have hlen : ∀ {p q : List Int}, (∀ j, p.getD j 0 = q.getD j 0) → (∀ j, j + 1 = p.length → p.getD j 0 ≠ 0) → p.length ≤ q.length := by
    intro p q h hp
    rcases Nat.lt_or_ge q.length p.length with z | z
    · have h1 := hp (p.length - 1) (by omega)
      rw [h (p.length - 1)] at h1
      rw [List.getD_eq_getElem?_getD, List.getElem?_eq_none (by omega)] at h1
      exact absurd rfl h1
    · exact z
  have l1 := hlen h hp
  have l2 := hlen (fun j => (h j).symm) hq
  refine List.ext_getElem (by omega) fun j h1 h2 => ?_
  have := h j
  rw [List.getD_eq_getElem?_getD, List.getD_eq_getElem?_getD, List.getElem?_eq_getElem h1, List.getElem?_eq_getElem h2] at this
  exact this
/-- two rows that are one over their divisors have one least form -/
theorem Low.unique {r s p q : List Int} {un vn u v : Nat} (h1 : Low r un p u) (h2 : Low s vn q v) (e : ∀ j, r.getD j 0 * (vn : Int) = s.getD j 0 * (un : Int)) : p = q ∧ u = v := by
  have z1 := h1.un0
  have z2 := h2.un0
  have hc : ∀ j, p.getD j 0 * (v : Int) = q.getD j 0 * (u : Int) := fun j => by
    have a := h1.cross j
    have b := h2.cross j
    have c := e j
    have k : p.getD j 0 * (v : Int) * ((un : Int) * (vn : Int)) = q.getD j 0 * (u : Int) * ((un : Int) * (vn : Int)) := by
      have s1 : p.getD j 0 * (v : Int) * ((un : Int) * (vn : Int)) = (p.getD j 0 * (un : Int)) * (v : Int) * (vn : Int) := by
        simp only [Int.mul_assoc, Int.mul_comm, Int.mul_left_comm]
      have s2 : q.getD j 0 * (u : Int) * ((un : Int) * (vn : Int)) = (q.getD j 0 * (vn : Int)) * (u : Int) * (un : Int) := by
        simp only [Int.mul_assoc, Int.mul_comm, Int.mul_left_comm]
      rw [s1, s2, a, b]
      have s3 : r.getD j 0 * (u : Int) * (v : Int) * (vn : Int) = (r.getD j 0 * (vn : Int)) * ((u : Int) * (v : Int)) := by
        simp only [Int.mul_assoc, Int.mul_comm, Int.mul_left_comm]
      have s4 : s.getD j 0 * (v : Int) * (u : Int) * (un : Int) = (s.getD j 0 * (un : Int)) * ((u : Int) * (v : Int)) := by
        simp only [Int.mul_assoc, Int.mul_comm, Int.mul_left_comm]
      rw [s3, s4, c]
    have nz : ((un : Int) * (vn : Int)) ≠ 0 := by
      have := Int.mul_pos (show (0 : Int) < (un : Int) by omega) (show (0 : Int) < (vn : Int) by omega)
      omega
    exact Int.eq_of_mul_eq_mul_right nz k
  have d1 := dvd_of_cross h1.gcd1 hc
  have d2 := dvd_of_cross h2.gcd1 fun j => (hc j).symm
  have euv := Nat.dvd_antisymm d1 d2
  subst euv
  have nz : (u : Int) ≠ 0 := by have := h1.u1; omega
  exact ⟨ext_getD (fun j => Int.eq_of_mul_eq_mul_right nz (hc j)) h1.end_ h2.end_, rfl⟩
/-- one least form: one row over its divisor -/
theorem Low.back {r s p : List Int} {un vn u : Nat} (h1 : Low r un p u) (h2 : Low s vn p u) (j : Nat) : r.getD j 0 * (vn : Int) = s.getD j 0 * (un : Int) := by
  have a := h1.cross j
  have b := h2.cross j
  have nz : (u : Int) ≠ 0 := by have := h1.u1; omega
  refine Int.eq_of_mul_eq_mul_right nz ?_
  have s1 : r.getD j 0 * (vn : Int) * (u : Int) = (r.getD j 0 * (u : Int)) * (vn : Int) := by simp only [Int.mul_assoc, Int.mul_comm, Int.mul_left_comm]
  have s2 : s.getD j 0 * (un : Int) * (u : Int) = (s.getD j 0 * (u : Int)) * (un : Int) := by simp only [Int.mul_assoc, Int.mul_comm, Int.mul_left_comm]
  rw [s1, s2, ← a, ← b]
  simp only [Int.mul_assoc, Int.mul_comm, Int.mul_left_comm]
end Ef
set_option Elab.async false
set_option linter.all false
/-! rows: sums, products; least forms carried over -/
namespace Ef
/-- the member, or 0 -/
def cf (r : List Int) (j : Nat) : Int := r.getD j 0
theorem cf_nil (j : Nat) : cf [] j = 0 := by unfold cf; rw [List.getD_eq_getElem?_getD]; rfl
theorem cf_lt {r : List Int} {j : Nat} (h : j < r.length) : cf r j = r[j] := by unfold cf; rw [List.getD_eq_getElem?_getD, List.getElem?_eq_getElem h]; rfl
theorem cf_ge {r : List Int} {j : Nat} (h : r.length ≤ j) : cf r j = 0 := by unfold cf; rw [List.getD_eq_getElem?_getD, List.getElem?_eq_none h]; rfl
theorem cf_of {r : List Int} {j : Nat} {c : Int} (h : r[j]? = some c) : cf r j = c := by unfold cf; rw [List.getD_eq_getElem?_getD, h]; rfl
theorem cf_map {r : List Int} {f : Int → Int} (h0 : f 0 = 0) (j : Nat) : cf (r.map f) j = f (cf r j) := by
  rcases Nat.lt_or_ge j r.length with z | z
  · rw [cf_lt (by rw [List.length_map]; exact z), cf_lt z, List.getElem_map]
  · rw [cf_ge (by rw [List.length_map]; exact z), cf_ge z, h0]
theorem cf_cons (x : Int) (r : List Int) (j : Nat) : cf (x :: r) j = if j = 0 then x else cf r (j - 1) := by
  cases j with
  | zero => rw [if_pos rfl]; rfl
  | succ j => rw [if_neg (Nat.succ_ne_zero j)]; rfl
theorem cf_append (r s : List Int) (j : Nat) : cf (r ++ s) j = if j < r.length then cf r j else cf s (j - r.length) := by
  unfold cf
  by_cases h : j < r.length
  · rw [if_pos h, List.getD_eq_getElem?_getD, List.getD_eq_getElem?_getD, List.getElem?_append_left h]
  · rw [if_neg h, List.getD_eq_getElem?_getD, List.getD_eq_getElem?_getD, List.getElem?_append_right (by omega)]
theorem cf_rep (k j : Nat) : cf (List.replicate k 0) j = 0 := by
  rcases Nat.lt_or_ge j k with z | z
  · rw [cf_lt (by rw [List.length_replicate]; exact z), List.getElem_replicate]
  · rw [cf_ge (by rw [List.length_replicate]; exact z)]
/-- one trimmed form there is -/
theorem trim_ex : ∀ n : Nat, ∀ r : List Int, n ≤ r.length → (∀ j, n ≤ j → j < r.length → r[j]? = some 0) → ∃ t, TrimOk r t
  | 0, r, _, hz => ⟨[], 0, Nat.zero_le _, List.take_zero.symm, hz, .inl rfl⟩
  | n + 1, r, hn, hz => by
    by_cases h : r[n]? = some 0
    · refine trim_ex n r (by omega) fun j h1 h2 => ?_
      rcases Nat.eq_or_lt_of_le h1 with rfl | z
      · exact h
      · exact hz j z h2
    · have e : r[n]? = some r[n] := List.getElem?_eq_getElem (by omega)
      exact ⟨r.take (n + 1), n + 1, hn, rfl, hz, .inr ⟨r[n], by rw [Nat.add_sub_cancel]; exact e, fun z => h (by rw [e, z])⟩⟩
theorem low_ex (r : List Int) {un : Nat} (h : 0 < un) : ∃ p u, Low r un p u := by
  obtain ⟨t, ht⟩ := trim_ex r.length r (Nat.le_refl _) fun j h1 h2 => absurd h2 (by omega)
  exact ⟨_, _, Low.of_trim ht h⟩
/-- one function, one least form -/
theorem Low.move {r s p : List Int} {un vn u : Nat} (h : Low r un p u) (hv : 0 < vn) (e : ∀ j, cf r j * (vn : Int) = cf s j * (un : Int)) : Low s vn p u := by
  obtain ⟨q, v, h2⟩ := low_ex s hv
  obtain ⟨e1, e2⟩ := h.unique h2 e
  subst e1 e2
  exact h2
/-- a sum of n members -/
def sm (n : Nat) (h : Nat → Int) : Int := match n with
  | 0 => 0
  | n + 1 => sm n h + h n
theorem sm_congr {n : Nat} {f g : Nat → Int} (h : ∀ i, i < n → f i = g i) : sm n f = sm n g := by
  induction n with
  | zero => rfl
  | succ n ih =>
    show sm n f + f n = sm n g + g n
    rw [ih fun i hi => h i (by omega), h n (Nat.lt_succ_self n)]
theorem sm_head {n : Nat} {h : Nat → Int} : sm (n + 1) h = h 0 + sm n fun i => h (i + 1) := by
  induction n with
  | zero => show 0 + h 0 = h 0 + 0; omega
  | succ n ih =>
    show sm (n + 1) h + h (n + 1) = h 0 + (sm n (fun i => h (i + 1)) + h (n + 1))
    rw [ih]; omega
theorem sm_zero {n : Nat} {h : Nat → Int} (hz : ∀ i, i < n → h i = 0) : sm n h = 0 := by
  induction n with
  | zero => rfl
  | succ n ih =>
    show sm n h + h n = 0
    rw [ih fun i hi => hz i (by omega), hz n (Nat.lt_succ_self n)]; rfl
theorem sm_ext {n k : Nat} {h : Nat → Int} (hz : ∀ i, n ≤ i → i < n + k → h i = 0) : sm (n + k) h = sm n h := by
  induction k with
  | zero => rfl
  | succ k ih =>
    show sm (n + k) h + h (n + k) = sm n h
    rw [ih fun i h1 h2 => hz i h1 (by omega), hz (n + k) (by omega) (by omega)]; omega
theorem sm_mul {n : Nat} {h : Nat → Int} (c : Int) : sm n h * c = sm n fun i => h i * c := by
  induction n with
  | zero => exact Int.zero_mul c
  | succ n ih =>
    show (sm n h + h n) * c = sm n (fun i => h i * c) + h n * c
    rw [Int.add_mul, ih]
theorem sm_rev {n : Nat} {h : Nat → Int} : sm n h = sm n fun i => h (n - 1 - i) := by
  induction n with
  | zero => rfl
  | succ n ih =>
    rw [sm_head (h := fun i => h (n + 1 - 1 - i))]
    show sm n h + h n = h (n - 0) + sm n fun i => h (n - (i + 1))
    rw [ih, Nat.sub_zero, Int.add_comm]
    congr 1
    exact sm_congr fun i hi => by rw [show n - 1 - i = n - (i + 1) by omega]
/-- the product's members -/
def cv (f g : Nat → Int) (j : Nat) : Int := sm (j + 1) fun i => f i * g (j - i)
theorem cv_comm (f g : Nat → Int) (j : Nat) : cv f g j = cv g f j := by
  unfold cv
  rw [sm_rev]
  refine sm_congr fun i hi => ?_
  rw [show j + 1 - 1 - i = j - i by omega, show j - (j - i) = i by omega, Int.mul_comm]
theorem cv_scale (f g : Nat → Int) (c d : Int) (j : Nat) : cv (fun i => f i * c) (fun i => g i * d) j = cv f g j * (c * d) := by
  unfold cv
  rw [sm_mul]
  refine sm_congr fun i _ => ?_
  simp only [Int.mul_assoc, Int.mul_comm, Int.mul_left_comm]
/-- a product up to a number of the first one's members -/
def cvk (k : Nat) (f g : Nat → Int) (j : Nat) : Int := sm k fun i => if i ≤ j then f i * g (j - i) else 0
theorem cvk_succ (k : Nat) (f g : Nat → Int) (j : Nat) : cvk (k + 1) f g j = cvk k f g j + (if k ≤ j then f k * g (j - k) else 0) := rfl
theorem cvk_all {k : Nat} {f g : Nat → Int} (hz : ∀ i, k ≤ i → f i = 0) (j : Nat) : cvk k f g j = cv f g j := by
  have e1 : cvk (k + (j + 1)) f g j = cvk k f g j := sm_ext fun i h1 _ => by
    rw [hz i h1, Int.zero_mul]; split <;> rfl
  have e2 : cvk (j + 1 + k) f g j = cv f g j := by
    unfold cvk cv
    rw [sm_ext fun i h1 _ => by rw [if_neg (by omega)]]
    exact sm_congr fun i hi => by rw [if_pos (by omega)]
  rw [← e1, ← e2, Nat.add_comm]
/-- the product of two rows -/
def mulR : List Int → List Int → Nat → Int := fun a b => cv (cf a) (cf b)
theorem cv_cons (x : Int) (a : List Int) (g : Nat → Int) (j : Nat) : cv (cf (x :: a)) g j = x * g j + (if j = 0 then 0 else cv (cf a) g (j - 1)) := by
  unfold cv
  rw [sm_head]
  congr 1
  cases j with
  | zero => rfl
  | succ j =>
    rw [if_neg (Nat.succ_ne_zero j)]
    refine sm_congr fun i hi => ?_
    rw [show j + 1 - (i + 1) = j + 1 - 1 - i by omega]
    rfl
theorem cv_nil (g : Nat → Int) (j : Nat) : cv (cf []) g j = 0 := sm_zero fun i _ => by rw [cf_nil, Int.zero_mul]
theorem cv_congr {f f' g g' : Nat → Int} (hf : ∀ i, f i = f' i) (hg : ∀ i, g i = g' i) (j : Nat) : cv f g j = cv f' g' j := by
  rw [show f = f' from funext hf, show g = g' from funext hg]
/-- the product of two least forms -/
theorem Low.mul {r s p q R x : List Int} {un vn u v z : Nat} (h1 : Low r un p u) (h2 : Low s vn q v) (hR : ∀ j, cf R j = cv (cf p) (cf q) j) (h3 : Low R (u * v) x z) {S : List Int} (hS : ∀ j, cf S j = cv (cf r) (cf s) j) : Low S (un * vn) x z := by
  refine h3.move (Nat.mul_pos h1.un0 h2.un0) fun j => ?_
  rw [hR, hS, Int.natCast_mul, Int.natCast_mul, ← cv_scale, ← cv_scale]
  exact cv_congr (fun i => h1.cross i) (fun i => h2.cross i) j
/-- sums and differences of two least forms: e is 1 or -1 -/
theorem Low.add {r s p q R x : List Int} {un vn u v z w : Nat} {e : Int} (h1 : Low r un p u) (h2 : Low s vn q v) (hw : 0 < w) (hR : ∀ j, cf R j * ((u : Int) * (v : Int)) = (cf p j * (v : Int) + e * (cf q j * (u : Int))) * (w : Int)) (h3 : Low R w x z) {S : List Int} {tn : Nat} (ht : 0 < tn) (hS : ∀ j, cf S j * ((un : Int) * (vn : Int)) = (cf r j * (vn : Int) + e * (cf s j * (un : Int))) * (tn : Int)) : Low S tn x z := by
  refine h3.move ht fun j => ?_
  have c1 : cf p j * (un : Int) = cf r j * (u : Int) := h1.cross j
  have c2 : cf q j * (vn : Int) = cf s j * (v : Int) := h2.cross j
  have hu := h1.u1
  have hv := h2.u1
  have hun := h1.un0
  have hvn := h2.un0
  have nz : ((u : Int) * (v : Int)) * ((un : Int) * (vn : Int)) ≠ 0 := by
    have a := Int.mul_pos (show (0 : Int) < (u : Int) by omega) (show (0 : Int) < (v : Int) by omega)
    have b := Int.mul_pos (show (0 : Int) < (un : Int) by omega) (show (0 : Int) < (vn : Int) by omega)
    have := Int.mul_pos a b
    omega
  refine Int.eq_of_mul_eq_mul_right nz ?_
  have l1 : cf R j * (tn : Int) * (((u : Int) * (v : Int)) * ((un : Int) * (vn : Int))) = (cf R j * ((u : Int) * (v : Int))) * ((tn : Int) * ((un : Int) * (vn : Int))) := by ac_rfl
  have l2 : cf S j * (w : Int) * (((u : Int) * (v : Int)) * ((un : Int) * (vn : Int))) = (cf S j * ((un : Int) * (vn : Int))) * ((w : Int) * ((u : Int) * (v : Int))) := by ac_rfl
  rw [l1, l2, hR, hS]
  have m1 : (cf p j * (v : Int) + e * (cf q j * (u : Int))) * (w : Int) * ((tn : Int) * ((un : Int) * (vn : Int))) = ((cf p j * (un : Int)) * ((v : Int) * (vn : Int)) + e * ((cf q j * (vn : Int)) * ((u : Int) * (un : Int)))) * ((w : Int) * (tn : Int)) := by
    simp only [Int.add_mul]
    congr 1 <;> ac_rfl
  have m2 : (cf r j * (vn : Int) + e * (cf s j * (un : Int))) * (tn : Int) * ((w : Int) * ((u : Int) * (v : Int))) = ((cf r j * (u : Int)) * ((v : Int) * (vn : Int)) + e * ((cf s j * (v : Int)) * ((u : Int) * (un : Int)))) * ((w : Int) * (tn : Int)) := by
    simp only [Int.add_mul]
    congr 1 <;> ac_rfl
  rw [m1, m2, c1, c2]
/-- powers as functions -/
def pwF (f : Nat → Int) : Nat → Nat → Int
  | 0 => fun j => if j = 0 then 1 else 0
  | k + 1 => cv (pwF f k) f
theorem pwF_cross {f g : Nat → Int} {a b : Int} (h : ∀ i, f i * a = g i * b) (k : Nat) : ∀ j, pwF f k j * a ^ k = pwF g k j * b ^ k := by
  induction k with
  | zero => intro j; rw [Int.pow_zero, Int.pow_zero]; rfl
  | succ k ih =>
    intro j
    show cv (pwF f k) f j * a ^ (k + 1) = cv (pwF g k) g j * b ^ (k + 1)
    rw [Int.pow_succ, Int.pow_succ, ← cv_scale, ← cv_scale]
    exact cv_congr ih h j
/-- the product as a list -/
def mulL (a b : List Int) : List Int := (List.range (a.length + b.length)).map fun j => cv (cf a) (cf b) j
theorem mulL_len (a b : List Int) : (mulL a b).length = a.length + b.length := by unfold mulL; rw [List.length_map, List.length_range]
theorem cf_mulL (a b : List Int) (j : Nat) : cf (mulL a b) j = cv (cf a) (cf b) j := by
  rcases Nat.lt_or_ge j (a.length + b.length) with z | z
  · exact cf_of (by unfold mulL; rw [List.getElem?_map, List.getElem?_range z]; rfl)
  · rw [cf_ge (by rw [mulL_len]; exact z)]
    refine (sm_zero fun i hi => ?_).symm
    rcases Nat.lt_or_ge i a.length with y | y
    · rw [cf_ge (r := b) (by omega), Int.mul_zero]
    · rw [cf_ge (r := a) y, Int.zero_mul]
theorem sm_bd {n B : Nat} {h : Nat → Int} (hb : ∀ i, i < n → (h i).natAbs ≤ B) : (sm n h).natAbs ≤ n * B := by
  induction n with
  | zero => exact Nat.zero_le _
  | succ n ih =>
    have h1 := ih fun i hi => hb i (by omega)
    have h2 := hb n (Nat.lt_succ_self n)
    have h3 := Int.natAbs_add_le (sm n h) (h n)
    show (sm n h + h n).natAbs ≤ (n + 1) * B
    rw [Nat.succ_mul]; omega
theorem cf_bd {r : List Int} {b : Nat} (h : ∀ c ∈ r, Bd b c) (j : Nat) : Bd b (cf r j) := by
  rcases Nat.lt_or_ge j r.length with z | z
  · rw [cf_lt z]; exact h _ (List.getElem_mem z)
  · rw [cf_ge z]; exact Bd.zero b
theorem mulL_bd {r s : List Int} {a b w : Nat} (hr : ∀ c ∈ r, Bd a c) (hs : ∀ c ∈ s, Bd b c) (hl : r.length + s.length ≤ 120) (hw : a + b + 7 ≤ w) : ∀ c ∈ mulL r s, Bd w c := fun c hc => by
  unfold mulL at hc
  obtain ⟨j, hj, rfl⟩ := List.mem_map.mp hc
  have hj := List.mem_range.mp hj
  refine Bd.up (a := a + b + 7) ?_ hw
  have h1 : (cv (cf r) (cf s) j).natAbs ≤ (j + 1) * 2 ^ (a + b) := sm_bd fun i _ => by
    rw [Int.natAbs_mul, Nat.pow_add]
    exact Nat.mul_le_mul (Nat.le_of_lt (cf_bd hr i)) (Nat.le_of_lt (cf_bd hs _))
  have h2 : (j + 1) * 2 ^ (a + b) ≤ 120 * 2 ^ (a + b) := Nat.mul_le_mul_right _ (by omega)
  unfold Bd
  rw [Nat.pow_add _ _ 7]
  have := Nat.two_pow_pos (a + b)
  omega
/-- the powers as lists -/
def powL (r : List Int) : Nat → List Int
  | 0 => [1]
  | k + 1 => mulL (powL r k) r
theorem cf_powL (r : List Int) (k : Nat) : ∀ j, cf (powL r k) j = pwF (cf r) k j := by
  induction k with
  | zero =>
    intro j
    cases j with
    | zero => rfl
    | succ j => exact cf_ge (by show 1 ≤ j + 1; omega)
  | succ k ih => intro j; show cf (mulL (powL r k) r) j = _; rw [cf_mulL]; exact cv_congr ih (fun _ => rfl) j
theorem powL_len (r : List Int) (k : Nat) : (powL r k).length = 1 + k * r.length := by
  induction k with
  | zero => rw [Nat.zero_mul]; rfl
  | succ k ih => show (mulL (powL r k) r).length = _; rw [mulL_len, ih, Nat.succ_mul, Nat.add_assoc]
theorem powL_bd {r : List Int} {b : Nat} (h : ∀ c ∈ r, Bd b c) (hl : r.length ≤ 4) : ∀ k : Nat, k ≤ 6 → ∀ c ∈ powL r k, Bd (1 + k * (b + 7)) c
  | 0, _, c, hc => by
    rw [List.mem_singleton.mp hc]; unfold Bd; rw [Nat.zero_mul]; decide
  | k + 1, hk, c, hc => by
    have hk1 : k * r.length ≤ 6 * 4 := Nat.mul_le_mul (by omega) hl
    exact mulL_bd (powL_bd h hl k (by omega)) h (by rw [powL_len]; omega) (by rw [Nat.succ_mul]; omega) c hc
/-- a bound of sums and products -/
theorem Bd.mul {a b w : Nat} {x y : Int} (hx : Bd a x) (hy : Bd b y) (h : a + b ≤ w) : Bd w (x * y) := by
  refine Bd.up (a := a + b) ?_ h
  unfold Bd at *
  rw [Int.natAbs_mul, Nat.pow_add]
  exact Nat.mul_lt_mul'' hx hy
end Ef
set_option Elab.async false
set_option linter.all false
set_option maxRecDepth 100000
set_option maxHeartbeats 2000000
/-! | & - ^ and ~ by a class's own methods -/
namespace Ef
open PySem PySem.Spec PyProof.Rows L2
/-- the class at C has its own method m, which may raise -/
structure OwnG (P : Program) (w : World) (K : PySem.W.Frag) (mg : Str → Option Value) (base : Heap) (CXg : CXT) (k : Nat) (C : Addr) (m : Str) (ps : List Str) (sp : Sp) : Prop where
  ex : ∃ f fd, PySem.W.findIn K (.ref C) m = some (some (.ref f)) ∧ PySem.W.typeIn K (.ref f) = some (.type "function") ∧ Binds K fd ps [] ∧ FnOk P w K mg base CXg k f fd ps sp
/-- the class stands first among those that it looks names up in -/
def hdIn (K : PySem.W.Frag) (C : Addr) : Bool := match PySem.W.clsIn K C with
  | some cd => cd.mro.head? == some (.ref C)
  | none => false
section
variable {X : Cx} {pins : List (Addr × Obj)} {σ : L2.St} {H : Hp} {s : Shared} {Q : VK} {k : Nat} {C a dx : Addr} {fs : List (Str × V)} {m : Str} {ps : List Str} {sp : Sp} {A : Around} {E' : Value → Shared → Prop} {CXg : CXT} {E : XK}
theorem anyM_first {α : Type} {M : Model} {h : Heap} {f : α → Sem Bool} {x : α} {xs : List α} (hf : PySem.W.Looks M h (f x) true) : PySem.W.Looks M h ((x :: xs).anyM f) true := fun A Q E s e q => by
  show wpAny _ _ (f x >>= fun b => _) _ _ _
  exact wpAny_bind (hf A _ E s e (wpAny_pure q))
theorem looks_fills {K : PySem.W.Frag} {M : Model} {h : Heap} {nm : String} {f : Addr} (x : K.In h) (hd : hdIn K C = true) (hf : PySem.W.findIn K (.ref C) (dunder nm) = some (some (.ref f))) : PySem.W.Looks M h (fillsNumberSlot (.ref C) nm) true := by
  unfold hdIn at hd
  cases hc : PySem.W.clsIn K C with
  | none => rw [hc] at hd; cases hd
  | some cd =>
    rw [hc] at hd
    have hm : PySem.W.Looks M h (mroOf (.ref C)) cd.mro := (PySem.W.looks_clsIn x hc).andThen .now
    have hh : cd.mro.head? = some (.ref C) := by simpa using hd
    cases hl : cd.mro with
    | nil => rw [hl] at hh; cases hh
    | cons c r =>
      rw [hl] at hh hm
      have hc2 : c = .ref C := Option.some.inj hh
      subst hc2
      unfold fillsNumberSlot
      dsimp only
      refine hm.andThen (anyM_first ?_)
      dsimp only
      refine anyM_first ?_
      refine (PySem.W.looks_findIn x hf).andThen ?_
      dsimp only
      exact PySem.W.Looks.now
/-- a op b of two instances by the left one's own method: what it gives is an instance again -/
def rOwnBin (C : Addr) (sp : Sp) (E : XK) : R2 := fun x y H Q => ∃ (a dx b dy : Addr) (fs gs : List (Str × V)), x = .ref a ∧ y = .ref b ∧ H a = some (.ins C dx fs) ∧ H b = some (.ins C dy gs) ∧ sp [.ref a, .ref b] H (fun v H' => (∃ p, v = .ref p) ∧ Q v H') E
theorem op_bin_own {op : Operator} {sym nm : String} {f : Str} (hop : op.info = (sym, nm)) (hn : dunder nm = f) (O : OwnG X.prog X.w X.K X.mg X.base CXg k C f ps sp) (hd : hdIn X.K C = true) (hr : Room k X.A) (hx : Passes CXg X E) : OpR X (binaryOp op) (rOwnBin C sp E) := by
  intro pins s σ H x y v u Q I rx ry h
  obtain ⟨a, dx, b, dy, fs, gs, rfl, rfl, ea, eb, q⟩ := h
  cases rx
  cases ry
  subst hn
  obtain ⟨f, fd, hf, ht, hb, F⟩ := O.ex
  obtain ⟨mA, OM, _⟩ := ins_get I.hok ea
  obtain ⟨od, J, _⟩ := OM.look
  obtain ⟨mB, OMb, _⟩ := ins_get I.hok eb
  obtain ⟨odb, Jb, _⟩ := OMb.look
  have fin : wpAny (model X.prog X.w) X.A (tryMethod (.ref a) (dunder nm) (.ref b)) (fun o s' => ∃ p, o = some (.ref p) ∧ EP X pins σ Q (.ref p) s') X.xe s := by
    unfold tryMethod
    refine wpAny_bind (PySem.W.special_fn I.kIn J hf ht ?_)
    refine wpAny_mono (run_fn (us := [.ref a, .ref b]) (vs := [.ref a, .ref b]) F hr hb .nil hx I (.cons rfl (.cons rfl .nil)) q) (fun u s' hz => ?_) fun _ _ z => z
    obtain ⟨v, H', I', rv, ⟨p, rfl⟩, q'⟩ := hz
    obtain rfl : u = Value.ref p := rv
    exact wpAny_pure ⟨p, rfl, .ref p, H', I', rfl, q'⟩
  unfold binaryOp
  refine wpAny_holding ?_
  rw [hop]
  dsimp only
  refine wpAny_bind ?_
  unfold binaryOp1
  dsimp only
  refine wpAny_bind (J.type.here (wpAny_bind (Jb.type.here (wpAny_bind ((looks_fills I.kIn hd hf).here ?_)))))
  rw [if_pos (by simp)]
  refine wpAny_bind (wpAny_pure ?_)
  simp only [Bool.and_false, Bool.false_and, Bool.true_and, Bool.false_eq_true, if_false, if_true, ite_false, ite_true, pure_bind, bind_pure_comp]
  refine wpAny_bind (wpAny_mono fin (fun o s' ⟨p, e, z⟩ => ?_) fun _ _ z => z)
  subst e
  exact wpAny_pure (wpAny_pure z)
/-- ~o by an own __invert__ that gives an instance -/
def rOwnUn (C : Addr) (sp : Sp) (E : XK) : V → Hp → VK → Prop := fun x H Q => ∃ (a dx : Addr) (fs : List (Str × V)), x = .ref a ∧ H a = some (.ins C dx fs) ∧ sp [.ref a] H Q E
theorem un_inv_own (O : OwnG X.prog X.w X.K X.mg X.base CXg k C "__invert__" ps sp) (hr : Room k X.A) (hx : Passes CXg X E) : UnR X (unaryOp .Invert) (rOwnUn C sp E) := by
  intro pins s σ H x v Q I rx h
  obtain ⟨a, dx, fs, rfl, ea, q⟩ := h
  cases rx
  obtain ⟨f, fd, hf, ht, hb, F⟩ := O.ex
  obtain ⟨mA, OM, _⟩ := ins_get I.hok ea
  obtain ⟨od, J, _⟩ := OM.look
  unfold unaryOp
  refine wpAny_holding ?_
  dsimp only
  rw [if_neg (by decide)]
  refine wpAny_bind (PySem.W.special_fn I.kIn J hf ht ?_)
  refine wpAny_mono (run_fn (us := [.ref a]) (vs := [.ref a]) F hr hb .nil hx I (.cons rfl .nil) q) (fun u s' hz => ?_) fun _ _ z => z
  exact wpAny_pure hz
theorem un_neg_own (O : OwnG X.prog X.w X.K X.mg X.base CXg k C "__neg__" ps sp) (hr : Room k X.A) (hx : Passes CXg X E) : UnR X (unaryOp .USub) (rOwnUn C sp E) := by
  intro pins s σ H x v Q I rx h
  obtain ⟨a, dx, fs, rfl, ea, q⟩ := h
  cases rx
  obtain ⟨f, fd, hf, ht, hb, F⟩ := O.ex
  obtain ⟨mA, OM, _⟩ := ins_get I.hok ea
  obtain ⟨od, J, _⟩ := OM.look
  unfold unaryOp
  refine wpAny_holding ?_
  dsimp only
  rw [if_neg (by decide)]
  refine wpAny_bind (PySem.W.special_fn I.kIn J hf ht ?_)
  refine wpAny_mono (run_fn (us := [.ref a]) (vs := [.ref a]) F hr hb .nil hx I (.cons rfl .nil) q) (fun u s' hz => ?_) fun _ _ z => z
  exact wpAny_pure hz
end
end Ef
set_option Elab.async false
set_option linter.all false
set_option maxRecDepth 100000
set_option maxHeartbeats 2000000
/-! an own operator of an instance and an int, on either side -/
namespace Ef
open PySem PySem.Spec PyProof.Rows L2
section
variable {X : Cx} {pins : List (Addr × Obj)} {σ : L2.St} {H : Hp} {s : Shared} {Q : VK} {k : Nat} {C a dx : Addr} {fs : List (Str × V)} {m : Str} {ps : List Str} {sp : Sp} {A : Around} {E' : Value → Shared → Prop} {CXg : CXT} {E : XK}
/-- what the table says of the built-in int for an operator -/
structure IntOp (nm : String) (id : String) : Prop where
  fills : fillsNumberSlot (.type "int") nm = pure true
  slot : Slot "int" (dunder nm) id
  r : ∃ ro, typeLookup (.type "int") (dunderR nm) = pure ro
/-- a op i by the left one's own method: what it gives is an instance -/
def rOwnInt (C : Addr) (sp : Sp) (E : XK) : R2 := fun x y H Q => ∃ (a dx : Addr) (fs : List (Str × V)) (i : Int), x = .ref a ∧ y = .int i ∧ H a = some (.ins C dx fs) ∧ sp [.ref a, .int i] H (fun v H' => (∃ p, v = .ref p) ∧ Q v H') E
theorem op_bin_int {op : Operator} {sym nm id : String} {f g : Str} {rc : Option Value} (hop : op.info = (sym, nm)) (hn : dunder nm = f) (hg : dunderR nm = g) (O : OwnG X.prog X.w X.K X.mg X.base CXg k C f ps sp) (hd : hdIn X.K C = true)
    (hR : PySem.W.findIn X.K (.ref C) g = some rc) (hp : rc = none ∨ ∃ g : Addr, rc = some (.ref g)) (T : IntOp nm id) (hsub : PySem.W.subIn X.K (.type "int") (.ref C) = some false)
    (hr : Room k X.A) (hx : Passes CXg X E) : OpR X (binaryOp op) (rOwnInt C sp E) := by
  intro pins s σ H x y v u Q I rx ry h
  obtain ⟨a, dx, fs, i, rfl, rfl, ea, q⟩ := h
  cases rx
  obtain ⟨t, rfl⟩ := ry
  subst hn
  subst hg
  obtain ⟨f, fd, hf, ht, hb, F⟩ := O.ex
  obtain ⟨mA, OM, _⟩ := ins_get I.hok ea
  obtain ⟨od, J, _⟩ := OM.look
  obtain ⟨ro, hro⟩ := T.r
  have one : wpAny (model X.prog X.w) X.A (tryMethod (.ref a) (dunder nm) (.int i t)) (fun o s' => ∃ p, o = some (.ref p) ∧ EP X pins σ Q (.ref p) s') X.xe s := by
    unfold tryMethod
    refine wpAny_bind (PySem.W.special_fn I.kIn J hf ht ?_)
    refine wpAny_mono (run_fn (us := [.ref a, .int i t]) (vs := [.ref a, .int i]) F hr hb .nil hx I (.cons rfl (.cons ⟨_, rfl⟩ .nil)) q) (fun u s' hz => ?_) fun _ _ z => z
    obtain ⟨v, H', I', rv, ⟨p, rfl⟩, q'⟩ := hz
    obtain rfl : u = Value.ref p := rv
    exact wpAny_pure ⟨p, rfl, .ref p, H', I', rfl, q'⟩
  have kin := I.kIn
  have L1 : PySem.W.Looks (model X.prog X.w) s.heap (typeOf (.ref a)) (.ref C) := J.type
  have L2 : PySem.W.Looks (model X.prog X.w) s.heap (typeOf (.int i t)) (.type "int") := PySem.W.Looks.of_pure rfl
  have L3 : PySem.W.Looks (model X.prog X.w) s.heap (fillsNumberSlot (.ref C) nm) true := looks_fills kin hd hf
  have L4 : PySem.W.Looks (model X.prog X.w) s.heap (fillsNumberSlot (.type "int") nm) true := PySem.W.Looks.of_pure T.fills
  have L5 : PySem.W.Looks (model X.prog X.w) s.heap (isSubtype (.type "int") (.ref C)) false := PySem.W.looks_subIn kin hsub
  have L6 : PySem.W.Looks (model X.prog X.w) s.heap (numberSlotInPython (.ref C) nm) true := PySem.W.ksp_inPy kin hf hR hp
  have L7 : PySem.W.Looks (model X.prog X.w) s.heap (numberSlotInPython (.type "int") nm) false := PySem.W.Looks.of_pure rfl
  have L8 : PySem.W.Looks (model X.prog X.w) s.heap (typeLookup (.type "int") (dunderR nm)) ro := PySem.W.Looks.of_pure hro
  have hne : (Value.ref C == Value.type "int") = false := Bool.eq_false_iff.mpr fun q => by cases beq_iff_eq.mp q
  unfold binaryOp
  refine wpAny_holding ?_
  rw [hop]
  dsimp only
  refine wpAny_bind ?_
  unfold binaryOp1
  dsimp only
  refine wpAny_bind (L1.here (wpAny_bind (L2.here (wpAny_bind (L3.here ?_)))))
  simp only [hne, Bool.false_eq_true, if_false]
  refine wpAny_bind (L4.here ?_)
  simp only [Bool.and_self, if_true]
  refine wpAny_bind (L5.here ?_)
  simp only [Bool.false_eq_true, if_false, pure_bind, Bool.not_false, Bool.and_self, if_true]
  refine wpAny_bind (L6.here ?_)
  simp only [if_true]
  refine wpAny_bind (L7.here ?_)
  simp only [Bool.not_false, if_true]
  refine wpAny_bind (L8.here ?_)
  refine wpAny_bind (wpAny_mono one (fun o s' ⟨p, e, z⟩ => ?_) fun _ _ z => z)
  subst e
  exact wpAny_pure (wpAny_pure z)
/-- an int's own method declines an instance -/
def Declines (id : String) : Prop := ∀ (P : Program) (w : World) (A : Around) (E : Value → Shared → Prop) (s : Shared) (i : Int) (t : Tok) (a dx C : Addr) (Q : Value → Shared → Prop), s.heap.get? a = some (PySem.W.instObj C dx) → Q .notImplemented s → wpAny (model P w) A (call (.builtin id) [.int i t, .ref a]) Q E s
theorem intBinary_ref (name : String) (f : Int → Int → Sem Fin) (i : Int) (t : Tok) (a dx C : Addr) : Meets (Builtin.Int.intBinary name f false ⟨[.int i t, .ref a], []⟩) (fun _ R s => s.heap.get? a = some (PySem.W.instObj C dx) ∧ R (.ok (.ret Value.notImplemented)) s) :=
  .of_wp fun prog w A R s h => by
    obtain ⟨hl, h⟩ := h
    unfold Builtin.Int.intBinary slotArgs
    refine wpAny_bind (wpAny_ite_false rfl (wpAny_ite_false rfl (wpAny_pure ?_)))
    refine wpAny_bind ?_
    unfold Builtin.Int.intOfSelf asInt?
    refine wpAny_bind (wpAny_pure (wpAny_pure ?_))
    refine wpAny_bind ?_
    show wpAny _ _ (load a >>= fun o => _) _ _ _
    refine wpAny_bind (wpAny_load hl (wpAny_pure ?_))
    exact wpAny_bind (wpAny_rule (wpAny_pure ⟨_, rfl, h⟩))
theorem declines_add : Declines "int.__add__" := fun P w A E s i t a dx C Q e q =>
  call_meets PySem.F.slot_int_add (typeIs_int s i t) PySem.F.entry_int_add (PySem.F.args_int_add_2 _ _) (intBinary_ref "__add__" (fun x y => retInt (x + y)) i t a dx C) ⟨e, q⟩
theorem declines_sub : Declines "int.__sub__" := fun P w A E s i t a dx C Q e q =>
  call_meets PySem.F.slot_int_sub (typeIs_int s i t) PySem.F.entry_int_sub (PySem.F.args_int_sub_2 _ _) (intBinary_ref "__sub__" (fun x y => retInt (x - y)) i t a dx C) ⟨e, q⟩
theorem declines_mul : Declines "int.__mul__" := fun P w A E s i t a dx C Q e q =>
  call_meets PySem.F.slot_int_mul (typeIs_int s i t) PySem.F.entry_int_mul (PySem.F.args_int_mul_2 _ _) (intBinary_ref "__mul__" (fun x y => Builtin.intProduct "__mul__" x y) i t a dx C) ⟨e, q⟩
theorem intop_add : IntOp "add" "int.__add__" := ⟨PySem.F.fills_int_add, PySem.F.slot_int_add, _, PySem.F.slot_int_radd.lookup⟩
theorem intop_sub : IntOp "sub" "int.__sub__" := ⟨PySem.F.fills_int_sub, PySem.F.slot_int_sub, _, PySem.F.slot_int_rsub.lookup⟩
theorem intop_mul : IntOp "mul" "int.__mul__" := ⟨PySem.F.fills_int_mul, PySem.F.slot_int_mul, _, PySem.F.slot_int_rmul.lookup⟩
theorem intop_pow : IntOp "pow" "int.__pow__" := ⟨PySem.F.fills_int_pow, PySem.F.slot_int_pow, _, PySem.F.slot_int_rpow.lookup⟩
/-- i op a by the right one's own reflected method -/
def rOwnRef (C : Addr) (sp : Sp) (E : XK) : R2 := fun x y H Q => ∃ (a dx : Addr) (fs : List (Str × V)) (i : Int), x = .int i ∧ y = .ref a ∧ H a = some (.ins C dx fs) ∧ sp [.ref a, .int i] H (fun v H' => (∃ p, v = .ref p) ∧ Q v H') E
theorem op_bin_ref {op : Operator} {sym nm id : String} {g f1 : Str} {f0 : Addr} (hop : op.info = (sym, nm)) (hn : dunderR nm = g) (hg : dunder nm = f1) (O : OwnG X.prog X.w X.K X.mg X.base CXg k C g ps sp) (hd : hdIn X.K C = true)
    (hF : PySem.W.findIn X.K (.ref C) f1 = some (some (.ref f0))) (T : IntOp nm id) (hdec : Declines id) (hsub : PySem.W.subIn X.K (.ref C) (.type "int") = some false)
    (hr : Room k X.A) (hx : Passes CXg X E) : OpR X (binaryOp op) (rOwnRef C sp E) := by
  intro pins s σ H x y v u Q I rx ry h
  obtain ⟨a, dx, fs, i, rfl, rfl, ea, q⟩ := h
  obtain ⟨t, rfl⟩ := rx
  cases ry
  subst hn
  subst hg
  obtain ⟨f, fd, hf, ht, hb, F⟩ := O.ex
  obtain ⟨mA, OM, _⟩ := ins_get I.hok ea
  have hobj := OM.obj
  obtain ⟨od, J, _⟩ := OM.look
  have one : wpAny (model X.prog X.w) X.A (tryMethod (.ref a) (dunderR nm) (.int i t)) (fun o s' => ∃ p, o = some (.ref p) ∧ EP X pins σ Q (.ref p) s') X.xe s := by
    unfold tryMethod
    refine wpAny_bind (PySem.W.special_fn I.kIn J hf ht ?_)
    refine wpAny_mono (run_fn (us := [.ref a, .int i t]) (vs := [.ref a, .int i]) F hr hb .nil hx I (.cons rfl (.cons ⟨_, rfl⟩ .nil)) q) (fun u s' hz => ?_) fun _ _ z => z
    obtain ⟨v, H', I', rv, ⟨p, rfl⟩, q'⟩ := hz
    obtain rfl : u = Value.ref p := rv
    exact wpAny_pure ⟨p, rfl, .ref p, H', I', rfl, q'⟩
  have kin := I.kIn
  have L1 : PySem.W.Looks (model X.prog X.w) s.heap (typeOf (.ref a)) (.ref C) := J.type
  have L2 : PySem.W.Looks (model X.prog X.w) s.heap (typeOf (.int i t)) (.type "int") := PySem.W.Looks.of_pure rfl
  have L3 : PySem.W.Looks (model X.prog X.w) s.heap (fillsNumberSlot (.ref C) nm) true := looks_fills kin hd hF
  have L4 : PySem.W.Looks (model X.prog X.w) s.heap (fillsNumberSlot (.type "int") nm) true := PySem.W.Looks.of_pure T.fills
  have L5 : PySem.W.Looks (model X.prog X.w) s.heap (isSubtype (.ref C) (.type "int")) false := PySem.W.looks_subIn kin hsub
  have L7 : PySem.W.Looks (model X.prog X.w) s.heap (numberSlotInPython (.type "int") nm) false := PySem.W.Looks.of_pure rfl
  have hne : (Value.type "int" == Value.ref C) = false := Bool.eq_false_iff.mpr fun q => by cases beq_iff_eq.mp q
  unfold binaryOp
  refine wpAny_holding ?_
  rw [hop]
  dsimp only
  refine wpAny_bind ?_
  unfold binaryOp1
  dsimp only
  refine wpAny_bind (L2.here (wpAny_bind (L1.here (wpAny_bind (L4.here ?_)))))
  simp only [hne, Bool.false_eq_true, if_false]
  refine wpAny_bind (L3.here ?_)
  simp only [Bool.and_self, if_true]
  refine wpAny_bind (L5.here ?_)
  simp only [Bool.false_eq_true, if_false, pure_bind, Bool.not_false, Bool.and_self, if_true]
  refine wpAny_bind (L7.here ?_)
  simp only [Bool.false_eq_true, if_false, pure_bind]
  refine wpAny_bind (wpAny_tryMethod_declines (typeIs_int s i t) T.slot (hdec _ _ _ _ _ _ _ _ _ _ _ hobj ⟨rfl, ?_⟩))
  simp only [Bool.false_eq_true, if_false, pure_bind, Bool.not_false, Bool.and_self, if_true]
  refine wpAny_bind (wpAny_mono one (fun o s' ⟨p, e, z⟩ => ?_) fun _ _ z => z)
  subst e
  exact wpAny_bind (wpAny_rule (wpAny_pure (wpAny_pure z)))
end
end Ef
set_option Elab.async false
set_option linter.all false
set_option maxRecDepth 100000
set_option maxHeartbeats 4000000
namespace Ef
open PySem PySem.Spec PyProof.Rows L2
abbrev sTm : Stmt := top 16
abbrev sSum : Stmt := top 17
abbrev sGap : Stmt := top 18
abbrev sProd : Stmt := top 19
/-! ### a list or a tuple, walked -/
def iSeq (K : PySem.W.Frag) (tl : TE) : TI := fun σ H R => tl σ H fun x H1 => ∃ a, x = .ref a ∧ (((∃ xs, SqL K H1 a xs) ∧ R (Itl K a) H1) ∨ ((∃ xs, SqT K H1 a xs) ∧ R (Itt K a) H1))
theorem pi_seq {X : Cx} {tg l : Expr} {tl : TE} (hl : PE X l tl) : PI X tg l (iSeq X.K tl) := by
  refine ⟨fun pins s σ H R I h => ?_⟩
  refine thn (hl.run pins s σ H _ I h) fun v s1 ⟨x, H1, I1, r1, q1⟩ => ?_
  obtain ⟨a, e, q⟩ := q1
  subst e
  cases r1
  rcases q with ⟨⟨xs, hq⟩, q⟩ | ⟨⟨xs, hq⟩, q⟩
  · obtain ⟨its, rv, p, hz⟩ := I1.list hq
    refine wpAny_pyIter_list p.isList ?_
    refine ⟨s1.heap.objs.size, [s1.heap.objs.size], _, _, H1, rfl, I1.kept (t' := s1.toks) fun b o e => Heap.get?_push_of_some _ e, turn_list a _, ⟨_, Heap.get?_push_size _ rfl, rfl, rfl⟩, fun b hb => ?_, q⟩
    have e : b = s1.heap.objs.size := by simpa using hb
    subst e
    exact I1.fpOk (Nat.le_refl _) (I1.hok.fresh (Nat.le_refl _))
  · obtain ⟨its, rv, p, hz⟩ := I1.tuple hq
    refine wpAny_pyIter_tuple (show s1.heap.IsTuple a its.toArray from p) ?_
    refine ⟨s1.heap.objs.size, [s1.heap.objs.size], _, _, H1, rfl, I1.kept (t' := s1.toks) fun b o e => Heap.get?_push_of_some _ e, turn_tuple a _, ⟨_, Heap.get?_push_size _ rfl, rfl, rfl⟩, fun b hb => ?_, q⟩
    have e : b = s1.heap.objs.size := by simpa using hb
    subst e
    exact I1.fpOk (Nat.le_refl _) (I1.hok.fresh (Nat.le_refl _))
theorem walk_zipT {K : PySem.W.Frag} {a b : Addr} {xs ys : List V} {n : Nat} (hn : n = min xs.length ys.length) : Walk (RZ.ItzT K a b) n (fun H => SqT K H a xs ∧ SqT K H b ys) (YPair (fun i => xs[i]?) (fun i => ys[i]?)) := by
  subst hn
  refine ⟨fun i _ hi q => ?_, fun _ q => ⟨xs, ys, q.1, q.2, by omega⟩, fun i H v H' _ q y => ?_⟩
  · have h1 : i < xs.length := by omega
    have h2 : i < ys.length := by omega
    exact ⟨xs, ys, xs[i], ys[i], q.1, q.2, by simp [h1], by simp [h2]⟩
  · obtain ⟨T, x, z, h1, h2, h3, h4, h5⟩ := y
    exact ⟨T, x, z, h1, h2, h3, h4 xs q.1, h5 ys q.2⟩
section
variable {P : Program} {w : World} {K : PySem.W.Frag} {mg : Str → Option Value} {base : Heap}
/-- a comprehension over a list or a tuple of whole numbers that makes one of each -/
theorem lc_seqs {a : Addr} {r : List Int} {f : Int → Int} {H1 : Hp} {σ : L2.St} {Qd : Addr → Hp → Prop} {g : TG} {te : TE} {vs : List Nat} (ha : Seqs K H1 a (r.map V.int)) (hl : r.length ≤ 1000)
    (hs : ∀ (c : Int) (H : Hp) (R : VK), c ∈ r → Same H1 H → R (.int (f c)) H → g (.int c) (wipe σ vs) H fun σ2 H2 => wipe σ2 vs = wipe σ vs ∧ te σ2 H2 R)
    (hd : ∀ D H', H1 D = none → Same H1 H' → H' D = some (.lst ((r.map f).map V.int)) → Qd D H') :
    let R : It → Hp → Prop := fun J H1 => ∀ D, H1 D = none → ∃ W : Nat → Nat → Hp → Prop, (∃ m, W 0 m (upd H1 D (.lst []))) ∧ ∀ i m H, W i m H → (J.stop i H ∧ Qd D H) ∨ (J.go i H ∧ ∃ Nx : Hp → Prop, (∀ H', Nx H' → ∃ m', m' < m ∧ W (i + 1) m' H') ∧ ∀ y H', J.yld i H y H' → g y (wipe σ vs) H' fun σ2 H2 => wipe σ2 vs = wipe σ vs ∧ tYes σ2 H2 fun b H3 => if b = true then te σ2 H3 fun z H4 => ∃ acc, H4 D = some (.lst acc) ∧ acc.length < sizeLine ∧ Nx (upd H4 D (.lst (acc ++ [z]))) else Nx H3)
    ((∃ xs, SqL K H1 a xs) ∧ R (Itl K a) H1) ∨ ((∃ xs, SqT K H1 a xs) ∧ R (Itt K a) H1) := by
  have step : ∀ (D : Addr) (i : Nat) (y : V) (H' : Hp), H1 D = none → (r.map V.int)[i]? = some y → Same H1 H' → H' D = some (.lst (((r.take i).map f).map V.int)) → g y (wipe σ vs) H' fun σ2 H2 => wipe σ2 vs = wipe σ vs ∧ tYes σ2 H2 fun b H3 => if b = true then te σ2 H3 fun z H4 => ∃ acc, H4 D = some (.lst acc) ∧ acc.length < sizeLine ∧ Same H1 (upd H4 D (.lst (acc ++ [z]))) ∧ (upd H4 D (.lst (acc ++ [z]))) D = some (.lst (((r.take (i + 1)).map f).map V.int)) else Same H1 H3 ∧ H3 D = some (.lst (((r.take (i + 1)).map f).map V.int)) := by
    intro D i y H' hD hi sx hx
    rw [List.getElem?_map] at hi
    obtain ⟨c, hc, rfl⟩ := Option.map_eq_some_iff.mp hi
    refine hs c H' _ (List.mem_of_getElem? hc) sx ⟨_, hx, ?_, same_mut sx hD, ?_⟩
    · rw [List.length_map, List.length_map, List.length_take]
      exact Nat.lt_of_le_of_lt (show min i r.length ≤ 1000 by omega) (by decide)
    · rw [upd_same, List.take_succ, hc, Option.toList_some, List.map_append, List.map_append]
      rfl
  rcases ha with ha | ha
  · refine .inl ⟨⟨_, ha⟩, fun D hD => ?_⟩
    refine lc_list (K := K) (a := a) (xs := r.map V.int) (tt := tYes) (fun i H' => Same H1 H' ∧ H' D = some (.lst (((r.take i).map f).map V.int))) ⟨same_new hD, upd_same⟩ (fun i H' _ hh => hh.1.seq ha) (fun i y H' hi ⟨sx, hx⟩ => step D i y H' hD hi sx hx) ?_
    rintro H3 ⟨s3, h3⟩
    rw [List.length_map, List.take_length] at h3
    exact hd D H3 hD s3 h3
  · refine .inr ⟨⟨_, ha⟩, fun D hD => ?_⟩
    refine lc_tup (K := K) (a := a) (xs := r.map V.int) (tt := tYes) (fun i H' => Same H1 H' ∧ H' D = some (.lst (((r.take i).map f).map V.int))) ⟨same_new hD, upd_same⟩ (fun i H' _ hh => Same.tup hh.1 ha) (fun i y H' hi ⟨sx, hx⟩ => step D i y H' hD hi sx hx) ?_
    rintro H3 ⟨s3, h3⟩
    rw [List.length_map, List.take_length] at h3
    exact hd D H3 hD s3 h3
/-! ### row_times -/
def spTm (K : PySem.W.Frag) : Sp := fun vs H Q _ => ∃ (a : Addr) (r : List Int) (f : Int), vs = [.ref a, .int f] ∧ Seqs K H a (r.map V.int) ∧ r.length ≤ 1000 ∧ (∀ c ∈ r, Bd 9000 c) ∧ Bd 9000 f ∧ ∀ l H', H l = none → Same H H' → H' l = some (.lst ((r.map fun c => c * f).map V.int)) → Q (.ref l) H'
theorem scTm : FnScope ["row", "factor", "number"] ["row", "factor"] (defScope sTm) := ⟨rfl, rfl, rfl, by decide +kernel, rfl, by decide +kernel, by decide +kernel⟩
theorem df_tm (A : At K mg "row_times" sTm) : Df P w K mg base 1 "row_times" ["row", "factor"] (spTm K) := by
  obtain ⟨f, fd, hm, F⟩ := A.ex
  refine ⟨f, fd, hm, F.kp, F.binds (fun _ _ _ _ _ _ us hl => match us, hl with | [_, _], _ => rfl), F.ok scTm (fun vs H Q E h => ?_) (fun cdv A outer s H vs Q E hr h => ?_)⟩
  · obtain ⟨a, r, f, rfl, _⟩ := h
    rfl
  · obtain ⟨a, r, f, rfl, hS, hl, hb, hf, q⟩ := h
    refine ⟨_, (pss_one (ps_ret (pe_lc (own := [("number", 2)]) (g := gName 2) (by rfl) scTm.nd (pi_seq (pv 0)) (blkOk_by (own := [("number", 2)]) (N := ["row", "factor", "number"]) (sc := defScope sTm) (by decide +kernel)) (fun _ _ _ _ _ => pg_name (i := 2) scTm.nd rfl (Or.inl rfl)) (fun _ _ _ _ _ => pts_nil) (fun _ _ _ _ _ => (pe_op op_mulW (pv 2) (pv 1)))))), ?_⟩
    refine ⟨_, rfl, a, rfl, lc_seqs (f := fun c => c * f) hS hl (fun c H R hc _ h => ⟨rfl, _, rfl, _, rfl, _, _, rfl, rfl, wide_mul (hb c hc) hf (by decide) (by decide) (by decide), h⟩) fun D H' hD s1 h1 => q D H' hD s1 h1⟩
end
end Ef
set_option Elab.async false
set_option linter.all false
set_option maxRecDepth 100000
set_option maxHeartbeats 4000000
/-! zip of a list and a tuple, in either order: told once for two kinds of rows -/
namespace Ef
open PySem PySem.Spec PyProof.Rows L2 RZ
/-- a kind of row: how its iterator stands, and what a step of it does -/
structure Kd where
  It : Heap → Addr → Addr → Nat → Prop
  Sq : Heap → Addr → Array Value → Prop
  tr : PySem.W.Frag → Hp → Addr → List V → Prop
  im : ∀ {h h' : Heap} {a l : Addr} {i : Nat}, It h a l i → (∀ o, h.get? a = some o → h'.get? a = some o) → It h' a l i
  qm : ∀ {h h' : Heap} {l : Addr} {xs : Array Value}, Sq h l xs → (∀ o, h.get? l = some o → h'.get? l = some o) → Sq h' l xs
  io : ∀ {h : Heap} {a l : Addr} {i : Nat}, It h a l i → ∃ o, h.get? a = some o ∧ ∀ v, o.data ≠ .cell v
  qo : ∀ {h : Heap} {l : Addr} {xs : Array Value}, Sq h l xs → ∃ o, h.get? l = some o
  nx : ∀ {prog : Program} {w : World} {A : Around} {E : Value → Shared → Prop} {s : Shared} {it l : Addr} {i : Nat} {xs : Array Value} {x : Value} {Q : Value → Shared → Prop}, It s.heap it l i → Sq s.heap l xs → xs[i]? = some x →
    (∀ h', It h' it l (i + 1) → Heap.SameBut it s.heap h' → Q x { s with heap := h' }) → wpAny (model prog w) A (Builtin.SmallTypes.nextOf (.ref it)) Q E s
  en : ∀ {prog : Program} {w : World} {A : Around} {E : Value → Shared → Prop} {s : Shared} {it l : Addr} {i : Nat} {xs : Array Value} {Q : Value → Shared → Prop}, A.handled = none → It s.heap it l i → Sq s.heap l xs → xs[i]? = none →
    (∀ h' e, Heap.ExtBut it s.heap h' → (∃ o, h'.get? e = some o ∧ o.cls = .type "StopIteration") → E (.ref e) { s with heap := h' }) → wpAny (model prog w) A (Builtin.SmallTypes.nextOf (.ref it)) Q E s
  rd : ∀ {X : Cx} {pins : List (Addr × Obj)} {σ : L2.St} {H : Hp} {s : Shared} {a : Addr} {xs : List V}, Inv X pins σ H s → tr X.K H a xs → ∃ its : List Value, Vals xs its ∧ Sq s.heap a its.toArray
  ij : ∀ {X : Cx} {pins : List (Addr × Obj)} {σ : L2.St} {H : Hp} {s : Shared} {a : Addr} {xs ys : List V}, Inv X pins σ H s → tr X.K H a xs → tr X.K H a ys → xs = ys
def kL : Kd where
  It := fun h => h.IsListIter
  Sq := fun h => h.IsList
  tr := SqL
  im := fun h e => h.at e
  qm := fun ⟨o, ho, r⟩ e => ⟨o, e o ho, r⟩
  io := fun ⟨o, ho, _, d⟩ => ⟨o, ho, fun v q => by rw [d] at q; cases q⟩
  qo := fun ⟨o, ho, _⟩ => ⟨o, ho⟩
  nx := fun h1 h2 h3 h4 => wpAny_nextOf_list_item h1 h2 h3 h4
  en := fun h0 h1 h2 h3 h4 => wpAny_nextOf_list_end h0 h1 h2 h3 h4
  rd := fun I h => by obtain ⟨its, r, p, _⟩ := I.list h; exact ⟨its, r, p.isList⟩
  ij := fun I h h' => I.list_inj h h'
def kT : Kd where
  It := fun h => h.IsTupleIter
  Sq := fun h => h.IsTuple
  tr := SqT
  im := fun h e => h.at e
  qm := fun ⟨o, ho, r⟩ e => ⟨o, e o ho, r⟩
  io := fun ⟨o, ho, _, d⟩ => ⟨o, ho, fun v q => by rw [d] at q; cases q⟩
  qo := fun ⟨o, ho, _⟩ => ⟨o, ho⟩
  nx := fun h1 h2 h3 h4 => RZ.nextOf_tuple_item h1 h2 h3 h4
  en := fun h0 h1 h2 h3 h4 => RZ.nextOf_tuple_end h0 h1 h2 h3 h4
  rd := fun I h => by obtain ⟨its, r, p, _⟩ := I.tuple h; exact ⟨its, r, p⟩
  ij := fun I h h' => I.tuple_inj h h'
section
variable {prog : Program} {w : World} {A : Around} {E : Value → Shared → Prop} {s : Shared}
/-- a turn of zip, whatever its two rows are: both rows hold one more -/
theorem zm_item (k1 k2 : Kd) {z TI TO i1 i2 l1 l2 : Addr} {n1 n2 : Nat} {xs ys : Array Value} {x y a b : Value} {Q : Value → Shared → Prop} (D : ZipApart z TI TO i1 i2 l1 l2)
    (hz : IsZip s.heap z TI TO .none) (hTI : IsPair s.heap TI (.ref i1) (.ref i2)) (hTO : IsPair s.heap TO a b)
    (h1 : k1.It s.heap i1 l1 n1) (h2 : k2.It s.heap i2 l2 n2) (q1 : k1.Sq s.heap l1 xs) (q2 : k2.Sq s.heap l2 ys) (hx : xs[n1]? = some x) (hy : ys[n2]? = some y)
    (hQ : ∀ h', IsZip h' z TI TO (rawInt s.heap.objs.size) → IsPair h' TO x y → k1.It h' i1 l1 (n1 + 1) → k2.It h' i2 l2 (n2 + 1) → IsPair h' s.heap.objs.size x y →
      (∀ c o, c ≠ z → c ≠ TO → c ≠ i1 → c ≠ i2 → s.heap.get? c = some o → h'.get? c = some o) → Q (.ref s.heap.objs.size) { s with heap := h' }) :
    wpAny (model prog w) A (Builtin.«zip.__next__» ⟨[.ref z], []⟩) (fun fin s' => ∃ v, fin = .done (.ret v) ∧ Q v s') E s := by
  show wpAny _ _ (field (.ref z) 2 >>= _) _ _ _
  refine wpAny_bind (wpAny_field hz rfl (x := .bool false) rfl ?_)
  show wpAny _ _ (field (.ref z) 3 >>= _) _ _ _
  refine wpAny_bind (wpAny_field hz rfl (x := .ref TI) rfl (wpAny_bind (wpAny_seqItems hTI rfl ?_)))
  show wpAny _ _ (Builtin.SmallTypes.ownedTupleIsFree (.ref z) >>= _) _ _ _
  refine wpAny_bind ?_
  unfold Builtin.SmallTypes.ownedTupleIsFree
  refine wpAny_bind (wpAny_field hz rfl (x := .none) rfl (wpAny_pure ?_))
  simp only [if_true]
  refine wpAny_bind (wpAny_rule (wpAny_bind (wpAny_field hz rfl (x := .ref TO) rfl (wpAny_bind (wpAny_setField_rec hz (by simp) fun g1 z1 c1 => wpAny_bind ?_)))))
  replace z1 : IsZip g1 z TI TO .ellipsis := z1
  simp only [List.zipIdx_cons, List.zipIdx_nil, List.forIn_cons, List.forIn_nil]
  have e1 := c1.extBut
  refine wpAny_bind (wpAny_bind (wpAny_onRaise ?_))
  show wpAny _ _ (Builtin.SmallTypes.nextOf (.ref i1) >>= _) _ _ _
  refine wpAny_bind (k1.nx (s := { s with heap := g1 }) (k1.im h1 fun o => e1 _ o D.i1z) (k1.qm q1 fun o => e1 _ o D.l1z) hx fun g2 j2 c2 => wpAny_pure ?_)
  have e2 := c2.extBut
  have t2 : IsPair g2 TO a b := e2 _ _ D.TOi1 (e1 _ _ D.TOz hTO)
  refine wpAny_bind (wpAny_seqItems t2 rfl (wpAny_bind (wpAny_updateSeq_pair t2 fun g3 t3 c3 => wpAny_bind (wpAny_letGo (wpAny_pure ?_)))))
  replace t3 : IsPair g3 TO x b := t3
  have e3 := c3.extBut
  have to3 : ∀ c o, c ≠ z → c ≠ i1 → c ≠ TO → s.heap.get? c = some o → g3.get? c = some o := fun c o a1 a2 a3 e => e3 _ _ a3 (e2 _ _ a2 (e1 _ _ a1 e))
  refine wpAny_bind (wpAny_bind (wpAny_onRaise ?_))
  show wpAny _ _ (Builtin.SmallTypes.nextOf (.ref i2) >>= _) _ _ _
  refine wpAny_bind (k2.nx (s := { s with heap := g3 }) (k2.im h2 fun o => to3 _ o D.i2z D.i12.symm D.TOi2.symm) (k2.qm q2 fun o => to3 _ o D.l2z D.l2i1 D.l2TO) hy fun g4 j4 c4 => wpAny_pure ?_)
  have e4 := c4.extBut
  have t4 : IsPair g4 TO x b := e4 _ _ D.TOi2 t3
  refine wpAny_bind (wpAny_seqItems t4 rfl (wpAny_bind (wpAny_updateSeq_pair t4 fun g5 t5 c5 => wpAny_bind (wpAny_letGo (wpAny_pure (wpAny_pure ?_))))))
  replace t5 : IsPair g5 TO x y := t5
  have e5 := c5.extBut
  refine wpAny_bind (wpAny_seqItems t5 rfl (wpAny_bind (wpAny_newTuple ?_)))
  have hsz : g5.objs.size = s.heap.objs.size := by rw [c5.1, c4.1, c3.1, c2.1, c1.1]
  have z5 : IsZip g5 z TI TO .ellipsis := e5 _ _ D.TOz.symm (e4 _ _ D.i2z.symm (e3 _ _ D.TOz.symm (e2 _ _ D.i1z.symm z1)))
  have k5 : ∀ c o, c ≠ z → c ≠ TO → c ≠ i1 → c ≠ i2 → s.heap.get? c = some o → g5.get? c = some o := fun c o a1 a2 a3 a4 e => e5 _ _ a2 (e4 _ _ a4 (to3 c o a1 a3 a2 e))
  have j5 : k1.It g5 i1 l1 (n1 + 1) := k1.im j2 fun o e => e5 _ _ D.TOi1.symm (e4 _ _ D.i12 (e3 _ _ D.TOi1.symm e))
  have m5 : k2.It g5 i2 l2 (n2 + 1) := k2.im j4 fun o e => e5 _ _ D.TOi2.symm e
  have zlt : z < g5.objs.size := Heap.lt_size z5
  show wpAny _ _ (Builtin.SmallTypes.ownedTupleHandOut (.ref z) (.ref g5.objs.size) >>= _) _ _ _
  refine wpAny_bind ?_
  unfold Builtin.SmallTypes.ownedTupleHandOut
  have z6 : IsZip (g5.push { cls := .type "tuple", data := .seq #[x, y] }) z TI TO .ellipsis := Heap.get?_push_of_some _ z5
  refine wpAny_bind (wpAny_setField_rec z6 (by simp) fun g7 z7 c7 => ?_)
  replace z7 : IsZip g7 z TI TO (rawInt g5.objs.size) := z7
  refine wpAny_setField_rec z7 (by simp) fun g8 z8 c8 => ?_
  replace z8 : IsZip g8 z TI TO (rawInt g5.objs.size) := z8
  have up : ∀ c o, c ≠ z → g5.get? c = some o → g8.get? c = some o := fun c o a1 e => c8.extBut _ _ a1 (c7.extBut _ _ a1 (Heap.get?_push_of_some _ e))
  have t8 : IsPair g8 g5.objs.size x y := c8.extBut _ _ (Nat.ne_of_gt zlt) (c7.extBut _ _ (Nat.ne_of_gt zlt) (Heap.get?_push_size _ rfl))
  rw [hsz] at z8 t8
  refine wpAny_pure ⟨_, rfl, ?_⟩
  show Q (.ref g5.objs.size) _
  rw [hsz]
  exact hQ g8 z8 (up _ _ D.TOz t5) (k1.im j5 fun o e => up _ o D.i1z e) (k2.im m5 fun o e => up _ o D.i2z e) t8 fun c o a1 a2 a3 a4 e => up c o a1 (k5 c o a1 a2 a3 a4 e)
/-- the end of zip: one of the rows holds no more -/
theorem zm_end (k1 k2 : Kd) {z TI TO i1 i2 l1 l2 : Addr} {n1 n2 : Nat} {xs ys : Array Value} {a b : Value} {Q : Fin → Shared → Prop} (hh : A.handled = none) (D : ZipApart z TI TO i1 i2 l1 l2)
    (hz : IsZip s.heap z TI TO .none) (hTI : IsPair s.heap TI (.ref i1) (.ref i2)) (hTO : IsPair s.heap TO a b)
    (h1 : k1.It s.heap i1 l1 n1) (h2 : k2.It s.heap i2 l2 n2) (q1 : k1.Sq s.heap l1 xs) (q2 : k2.Sq s.heap l2 ys) (hend : xs[n1]? = none ∨ ys[n2]? = none)
    (hE : ∀ h' e, (∀ c o, c ≠ z → c ≠ TO → c ≠ i1 → c ≠ i2 → s.heap.get? c = some o → h'.get? c = some o) → (∃ o, h'.get? e = some o ∧ o.cls = .type "StopIteration") → E (.ref e) { s with heap := h' }) :
    wpAny (model prog w) A (Builtin.«zip.__next__» ⟨[.ref z], []⟩) Q E s := by
  show wpAny _ _ (field (.ref z) 2 >>= _) _ _ _
  refine wpAny_bind (wpAny_field hz rfl (x := .bool false) rfl ?_)
  show wpAny _ _ (field (.ref z) 3 >>= _) _ _ _
  refine wpAny_bind (wpAny_field hz rfl (x := .ref TI) rfl (wpAny_bind (wpAny_seqItems hTI rfl ?_)))
  show wpAny _ _ (Builtin.SmallTypes.ownedTupleIsFree (.ref z) >>= _) _ _ _
  refine wpAny_bind ?_
  unfold Builtin.SmallTypes.ownedTupleIsFree
  refine wpAny_bind (wpAny_field hz rfl (x := .none) rfl (wpAny_pure ?_))
  simp only [if_true]
  refine wpAny_bind (wpAny_rule (wpAny_bind (wpAny_field hz rfl (x := .ref TO) rfl (wpAny_bind (wpAny_setField_rec hz (by simp) fun g1 z1 c1 => wpAny_bind ?_)))))
  replace z1 : IsZip g1 z TI TO .ellipsis := z1
  simp only [List.zipIdx_cons, List.zipIdx_nil, List.forIn_cons, List.forIn_nil]
  have e1 := c1.extBut
  refine wpAny_bind (wpAny_bind (wpAny_onRaise ?_))
  show wpAny _ _ (Builtin.SmallTypes.nextOf (.ref i1) >>= _) _ _ _
  have j1 := k1.im h1 fun o => e1 _ o D.i1z
  have r1 := k1.qm q1 fun o => e1 _ o D.l1z
  rcases Option.eq_none_or_eq_some xs[n1]? with hx | ⟨x, hx⟩
  · refine wpAny_bind (k1.en (s := { s with heap := g1 }) hh j1 r1 hx fun g2 e c2 he => ?_)
    obtain ⟨oe, ho, hc⟩ := he
    have z2 : IsZip g2 z TI TO .ellipsis := c2 _ _ D.i1z.symm z1
    have ez : e ≠ z := fun q => by subst q; rw [z2] at ho; cases ho; simp at hc
    refine wpAny_setField_rec z2 (by simp) fun g3 _ c3 => hE g3 e (fun c o a1 _ a3 _ q => c3.extBut _ _ a1 (c2 _ _ a3 (e1 _ _ a1 q))) ⟨oe, c3.extBut _ _ ez ho, hc⟩
  · have hy : ys[n2]? = none := hend.elim (fun h => by rw [hx] at h; cases h) id
    refine wpAny_bind (k1.nx (s := { s with heap := g1 }) j1 r1 hx fun g2 j2 c2 => wpAny_pure ?_)
    have e2 := c2.extBut
    have t2 : IsPair g2 TO a b := e2 _ _ D.TOi1 (e1 _ _ D.TOz hTO)
    refine wpAny_bind (wpAny_seqItems t2 rfl (wpAny_bind (wpAny_updateSeq_pair t2 fun g3 t3 c3 => wpAny_bind (wpAny_letGo (wpAny_pure ?_)))))
    have e3 := c3.extBut
    have to3 : ∀ c o, c ≠ z → c ≠ i1 → c ≠ TO → s.heap.get? c = some o → g3.get? c = some o := fun c o a1 a2 a3 e => e3 _ _ a3 (e2 _ _ a2 (e1 _ _ a1 e))
    refine wpAny_bind (wpAny_bind (wpAny_onRaise ?_))
    show wpAny _ _ (Builtin.SmallTypes.nextOf (.ref i2) >>= _) _ _ _
    refine wpAny_bind (k2.en (s := { s with heap := g3 }) hh (k2.im h2 fun o => to3 _ o D.i2z D.i12.symm D.TOi2.symm) (k2.qm q2 fun o => to3 _ o D.l2z D.l2i1 D.l2TO) hy fun g4 e c4 he => ?_)
    obtain ⟨oe, ho, hc⟩ := he
    have z4 : IsZip g4 z TI TO .ellipsis := c4 _ _ D.i2z.symm (e3 _ _ D.TOz.symm (e2 _ _ D.i1z.symm z1))
    have ez : e ≠ z := fun q => by subst q; rw [z4] at ho; cases ho; simp at hc
    refine wpAny_setField_rec z4 (by simp) fun g5 _ c5 => hE g5 e (fun c o a1 a2 a3 a4 q => c5.extBut _ _ a1 (c4 _ _ a4 (to3 _ _ a1 a3 a2 q))) ⟨oe, c5.extBut _ _ ez ho, hc⟩
end
/-- two rows of any kinds, walked at once -/
def ItzM (K : PySem.W.Frag) (k1 k2 : Kd) (a b : Addr) : It :=
  ⟨fun i H => ∃ (xs ys : List V) (x y : V), k1.tr K H a xs ∧ k2.tr K H b ys ∧ xs[i]? = some x ∧ ys[i]? = some y,
    fun i H v H' => ∃ T x y, v = .ref T ∧ H T = none ∧ H' = upd H T (.tup [x, y]) ∧ (∀ xs, k1.tr K H a xs → xs[i]? = some x) ∧ ∀ ys, k2.tr K H b ys → ys[i]? = some y,
    fun i H => ∃ xs ys : List V, k1.tr K H a xs ∧ k2.tr K H b ys ∧ (xs.length ≤ i ∨ ys.length ≤ i)⟩
theorem turn_zipM (k1 k2 : Kd) {P : Program} {w : World} {K : PySem.W.Frag} {elts : List Expr} {kk : Nat} {tpos : Pos} {a b z TI TO i1 i2 : Addr} (D : ZipApart z TI TO i1 i2 a b) :
    Turn P w K (.Tuple elts kk tpos) (ItzM K k1 k2 a b) [z, TI, TO, i1, i2] z (fun i h => IsZip h z TI TO .none ∧ IsPair h TI (.ref i1) (.ref i2) ∧ (∃ x y, IsPair h TO x y) ∧ k1.It h i1 a i ∧ k2.It h i2 b i) where
  mem := List.mem_cons_self ..
  obj := fun i h ⟨hz, hTI, ⟨x, y, hTO⟩, j1, j2⟩ c hc => by
    simp only [List.mem_cons, List.not_mem_nil, or_false] at hc
    rcases hc with rfl | rfl | rfl | rfl | rfl
    · exact ⟨_, hz, fun v q => nomatch q⟩
    · exact ⟨_, hTI, fun v q => nomatch q⟩
    · exact ⟨_, hTO, fun v q => nomatch q⟩
    · exact k1.io j1
    · exact k2.io j2
  keep := fun i h h' ⟨hz, hTI, ⟨x, y, hTO⟩, j1, j2⟩ k => ⟨k _ (by simp) _ hz, k _ (by simp) _ hTI, ⟨x, y, k _ (by simp) _ hTO⟩, k1.im j1 fun o q => k _ (by simp) o q, k2.im j2 fun o q => k _ (by simp) o q⟩
  item := by
    rintro X rfl rfl rfl hc i pins s σ H E I hf ⟨hz, hTI, ⟨x0, y0, hTO⟩, j1, j2⟩ ⟨xs, ys, x, y, hqx, hqy, hx, hy⟩
    obtain ⟨its, rv, p⟩ := k1.rd I hqx
    obtain ⟨its2, rv2, p2⟩ := k2.rd I hqy
    obtain ⟨u, hu, ru⟩ := rv.get hx
    obtain ⟨u2, hu2, ru2⟩ := rv2.get hy
    have hzl : z < s.heap.objs.size := Heap.lt_size hz
    have hT : s.TypeIs (.ref z) "zip" := ⟨_, hz, rfl⟩
    unfold pyNext
    refine wpAny_bind (wpAny_attempt (wpAny_callSpecial?_slot (name := Str.ofString "__next__") hT F.slot_zip_next (wpAny_call_entry F.slot_zip_next hT F.entry_zip_next
      (zm_item k1 k2 D hz hTI hTO j1 j2 p p2 (x := u) (y := u2) (by simpa using hu) (by simpa using hu2) fun h' z' TO' h1' h2' hT' hk => wpAny_pure ?_) (F.args_zip_next_1 _))))
    refine ⟨_, rfl, wpAny_letOwnedTupleGo_zip (s := { s with heap := h' }) z' fun h'' z'' sb => ?_⟩
    have hT2 : h''.get? s.heap.objs.size = some { cls := .type "tuple", data := .seq #[u, u2] } := (sb.2 _ (Nat.ne_of_gt hzl)).trans hT'
    have new : ObjOk X.prog X.w (upd H s.heap.objs.size (.tup [x, y])) h'' s.heap.objs.size (.tup [x, y]) := ⟨by show 2 ≤ sizeLine; decide, [u, u2], .cons ru (.cons ru2 .nil), ⟨_, hT2, rfl, _, rfl⟩⟩
    have out : ∀ {c : Addr}, c ∉ [z, TI, TO, i1, i2] → c ≠ z ∧ c ≠ TO ∧ c ≠ i1 ∧ c ≠ i2 := fun hb => ⟨fun q => hb (by simp [q]), fun q => hb (by simp [q]), fun q => hb (by simp [q]), fun q => hb (by simp [q])⟩
    have I1 : Inv X pins σ (upd H s.heap.objs.size (.tup [x, y])) { s with heap := h'' } :=
      I.turnedNew (t' := s.toks) (ch := [z, TI, TO, i1, i2]) (fun c o hb q => (sb.2 c (out hb).1).trans (hk c o (out hb).1 (out hb).2.1 (out hb).2.2.1 (out hb).2.2.2 q)) hf (Nat.le_refl _) new
    refine ⟨.ref s.heap.objs.size, _, I1, rfl, ⟨_, x, y, rfl, I.hok.fresh (Nat.le_refl _), rfl, fun l hl => by rw [k1.ij I hl hqx]; exact hx, fun l hl => by rw [k2.ij I hl hqy]; exact hy⟩,
      ⟨z'', (sb.2 _ D.TIz).trans (hk _ _ D.TIz D.TITO D.TIi1 D.TIi2 hTI), ⟨u, u2, (sb.2 _ D.TOz).trans TO'⟩, k1.im h1' fun o q => (sb.2 _ D.i1z).trans q, k2.im h2' fun o q => (sb.2 _ D.i2z).trans q⟩, fun c hcm => ?_⟩
    have hlt : c < s.heap.objs.size := by
      have hm := hcm
      simp only [List.mem_cons, List.not_mem_nil, or_false] at hm
      rcases hm with rfl | rfl | rfl | rfl | rfl
      · exact hzl
      · exact Heap.lt_size hTI
      · exact Heap.lt_size hTO
      · obtain ⟨_, e, _⟩ := k1.io j1; exact Heap.lt_size e
      · obtain ⟨_, e, _⟩ := k2.io j2; exact Heap.lt_size e
    rw [upd_ne (Nat.ne_of_lt hlt)]
    exact (hf c hcm).1
  done := by
    rintro X rfl rfl rfl hc i pins s σ H E I hf ⟨hz, hTI, ⟨x0, y0, hTO⟩, j1, j2⟩ ⟨xs, ys, hqx, hqy, hend⟩
    obtain ⟨its, rv, p⟩ := k1.rd I hqx
    obtain ⟨its2, rv2, p2⟩ := k2.rd I hqy
    have l1 := rv.length
    have l2 := rv2.length
    have he : its.toArray[i]? = none ∨ its2.toArray[i]? = none := hend.imp (fun q => by simp; omega) fun q => by simp; omega
    have hT : s.TypeIs (.ref z) "zip" := ⟨_, hz, rfl⟩
    unfold pyNext
    refine wpAny_bind (wpAny_attempt (wpAny_callSpecial?_slot (name := Str.ofString "__next__") hT F.slot_zip_next (wpAny_call_entry F.slot_zip_next hT F.entry_zip_next
      (zm_end k1 k2 (I.ok.hd hc) D hz hTI hTO j1 j2 p p2 he fun h' e hk ⟨o, ho, hcl⟩ => ?_) (F.args_zip_next_1 _))))
    refine wpAny_bind (wpAny_isInstance (T := "StopIteration") (b := true) ⟨o, ho, hcl⟩ isSubtype_stop (wpAny_pure ?_))
    exact ⟨rfl, I.turnedL (t' := s.toks) (ch := [z, TI, TO, i1, i2]) (fun c o hb q => hk c o (fun q' => hb (by simp [q'])) (fun q' => hb (by simp [q'])) (fun q' => hb (by simp [q'])) (fun q' => hb (by simp [q'])) q) hf⟩
  self := fun A i s Q E st h => wpAny_pyIter_zip st.1 h

/-! ### zip(list, tuple) made -/
abbrev zLT1 (h : Heap) (a : Addr) : Heap := h.push { cls := .type "list_iterator", data := .fields #[.ref a, .int 0 0] }
abbrev zLT2 (h : Heap) (a b : Addr) : Heap := (zLT1 h a).push { cls := .type "tuple_iterator", data := .fields #[.ref b, .int 0 0] }
abbrev zLT3 (h : Heap) (a b : Addr) : Heap := (zLT2 h a b).push { cls := .type "tuple", data := .seq #[.ref h.objs.size, .ref (zLT1 h a).objs.size] }
abbrev zLT4 (h : Heap) (a b : Addr) : Heap := (zLT3 h a b).push { cls := .type "tuple", data := .seq #[.none, .none] }
abbrev zLT5 (h : Heap) (a b : Addr) : Heap := (zLT4 h a b).push { cls := .type "zip", data := .fields #[.none, .bool false, .bool false, .ref (zLT2 h a b).objs.size, .ref (zLT3 h a b).objs.size] }
theorem meets_zLT (a b : Addr) (xs ys : Array Value) :
    Meets (Builtin.«zip.__new__» ⟨[.type "zip", .ref a, .ref b], []⟩) (fun _ R s => s.heap.IsList a xs ∧ s.heap.IsTuple b ys ∧ R (.ok (.ret (.ref (zLT4 s.heap a b).objs.size))) { s with heap := zLT5 s.heap a b }) :=
  .of_wp fun prog w A R s h => by
    obtain ⟨hp, g, d, tk, os⟩ := s; obtain ⟨ha, hb, h⟩ := h
    have hsub := sub_zip
    have e1 : Heap.IsList (Shared.heap ⟨hp, g, d, tk, os⟩) a xs := ha
    have e2 : Heap.IsTuple (Shared.heap ⟨hp.push { cls := .type "list_iterator", data := .fields #[.ref a, .int 0 0] }, g, d, tk, os⟩) b ys := Heap.IsTuple.push hb _
    wp_walk using wpAny_pyIter_list e1, wpAny_pyIter_tuple e2
    exact ⟨_, rfl, h⟩
theorem call_zLT {prog : Program} {w : World} {A : Around} {E : Value → Shared → Prop} {s : Shared} {a b : Addr} {xs ys : Array Value} {Q : Value → Shared → Prop} (ha : s.heap.IsList a xs) (hb : s.heap.IsTuple b ys)
    (h : ∀ h', IsZip h' (s.heap.objs.size + 4) (s.heap.objs.size + 2) (s.heap.objs.size + 3) .none → IsPair h' (s.heap.objs.size + 2) (.ref s.heap.objs.size) (.ref (s.heap.objs.size + 1)) → IsPair h' (s.heap.objs.size + 3) .none .none →
      h'.IsListIter s.heap.objs.size a 0 → h'.IsTupleIter (s.heap.objs.size + 1) b 0 → (∀ c o, s.heap.get? c = some o → h'.get? c = some o) → Q (.ref (s.heap.objs.size + 4)) { s with heap := h' }) :
    wpAny (model prog w) A (call (.type "zip") [.ref a, .ref b]) Q E s := by
  refine callType_new F.called_zip (by decide) (F.typeCall_zip_2 _ _) (F.newCall_zip_2 _ _) (fun obj => F.args_object_init_3 obj _ _) F.entry_zip_new (meets_zLT a b xs ys) ⟨ha, hb, ?_⟩
  have z1 : (zLT1 s.heap a).objs.size = s.heap.objs.size + 1 := Heap.size_push ..
  have z2 : (zLT2 s.heap a b).objs.size = s.heap.objs.size + 2 := by rw [Heap.size_push, z1]
  have z3 : (zLT3 s.heap a b).objs.size = s.heap.objs.size + 3 := by rw [Heap.size_push, z2]
  have z4 : (zLT4 s.heap a b).objs.size = s.heap.objs.size + 4 := by rw [Heap.size_push, z3]
  have up : ∀ {h : Heap} {o u : Obj} {c : Addr}, h.get? c = some u → (h.push o).get? c = some u := fun e => Heap.get?_push_of_some _ e
  have o5 : (zLT5 s.heap a b).get? (zLT4 s.heap a b).objs.size = some _ := Heap.get?_push_size _ rfl
  have o4 : (zLT5 s.heap a b).get? (zLT3 s.heap a b).objs.size = some _ := up (Heap.get?_push_size _ rfl)
  have o3 : (zLT5 s.heap a b).get? (zLT2 s.heap a b).objs.size = some _ := up (up (Heap.get?_push_size _ rfl))
  have o2 : (zLT5 s.heap a b).get? (zLT1 s.heap a).objs.size = some _ := up (up (up (Heap.get?_push_size _ rfl)))
  have o1 : (zLT5 s.heap a b).get? s.heap.objs.size = some _ := up (up (up (up (Heap.get?_push_size _ rfl))))
  show _ ∧ _
  rw [z2, z3, z4] at o5
  rw [z1, z2] at o3
  rw [z3] at o4
  rw [z1] at o2
  rw [z4]
  exact ⟨⟨_, o5, rfl⟩, h _ o5 o3 o4 ⟨_, o1, rfl, rfl⟩ ⟨_, o2, rfl, rfl⟩ fun c o x => up (up (up (up (up x))))⟩

/-! ### zip(tuple, list) made -/
abbrev zTL1 (h : Heap) (a : Addr) : Heap := h.push { cls := .type "tuple_iterator", data := .fields #[.ref a, .int 0 0] }
abbrev zTL2 (h : Heap) (a b : Addr) : Heap := (zTL1 h a).push { cls := .type "list_iterator", data := .fields #[.ref b, .int 0 0] }
abbrev zTL3 (h : Heap) (a b : Addr) : Heap := (zTL2 h a b).push { cls := .type "tuple", data := .seq #[.ref h.objs.size, .ref (zTL1 h a).objs.size] }
abbrev zTL4 (h : Heap) (a b : Addr) : Heap := (zTL3 h a b).push { cls := .type "tuple", data := .seq #[.none, .none] }
abbrev zTL5 (h : Heap) (a b : Addr) : Heap := (zTL4 h a b).push { cls := .type "zip", data := .fields #[.none, .bool false, .bool false, .ref (zTL2 h a b).objs.size, .ref (zTL3 h a b).objs.size] }
theorem meets_zTL (a b : Addr) (xs ys : Array Value) :
    Meets (Builtin.«zip.__new__» ⟨[.type "zip", .ref a, .ref b], []⟩) (fun _ R s => s.heap.IsTuple a xs ∧ s.heap.IsList b ys ∧ R (.ok (.ret (.ref (zTL4 s.heap a b).objs.size))) { s with heap := zTL5 s.heap a b }) :=
  .of_wp fun prog w A R s h => by
    obtain ⟨hp, g, d, tk, os⟩ := s; obtain ⟨ha, hb, h⟩ := h
    have hsub := sub_zip
    have e1 : Heap.IsTuple (Shared.heap ⟨hp, g, d, tk, os⟩) a xs := ha
    have e2 : Heap.IsList (Shared.heap ⟨hp.push { cls := .type "tuple_iterator", data := .fields #[.ref a, .int 0 0] }, g, d, tk, os⟩) b ys := Heap.IsList.push hb _
    wp_walk using wpAny_pyIter_tuple e1, wpAny_pyIter_list e2
    exact ⟨_, rfl, h⟩
theorem call_zTL {prog : Program} {w : World} {A : Around} {E : Value → Shared → Prop} {s : Shared} {a b : Addr} {xs ys : Array Value} {Q : Value → Shared → Prop} (ha : s.heap.IsTuple a xs) (hb : s.heap.IsList b ys)
    (h : ∀ h', IsZip h' (s.heap.objs.size + 4) (s.heap.objs.size + 2) (s.heap.objs.size + 3) .none → IsPair h' (s.heap.objs.size + 2) (.ref s.heap.objs.size) (.ref (s.heap.objs.size + 1)) → IsPair h' (s.heap.objs.size + 3) .none .none →
      h'.IsTupleIter s.heap.objs.size a 0 → h'.IsListIter (s.heap.objs.size + 1) b 0 → (∀ c o, s.heap.get? c = some o → h'.get? c = some o) → Q (.ref (s.heap.objs.size + 4)) { s with heap := h' }) :
    wpAny (model prog w) A (call (.type "zip") [.ref a, .ref b]) Q E s := by
  refine callType_new F.called_zip (by decide) (F.typeCall_zip_2 _ _) (F.newCall_zip_2 _ _) (fun obj => F.args_object_init_3 obj _ _) F.entry_zip_new (meets_zTL a b xs ys) ⟨ha, hb, ?_⟩
  have z1 : (zTL1 s.heap a).objs.size = s.heap.objs.size + 1 := Heap.size_push ..
  have z2 : (zTL2 s.heap a b).objs.size = s.heap.objs.size + 2 := by rw [Heap.size_push, z1]
  have z3 : (zTL3 s.heap a b).objs.size = s.heap.objs.size + 3 := by rw [Heap.size_push, z2]
  have z4 : (zTL4 s.heap a b).objs.size = s.heap.objs.size + 4 := by rw [Heap.size_push, z3]
  have up : ∀ {h : Heap} {o u : Obj} {c : Addr}, h.get? c = some u → (h.push o).get? c = some u := fun e => Heap.get?_push_of_some _ e
  have o5 : (zTL5 s.heap a b).get? (zTL4 s.heap a b).objs.size = some _ := Heap.get?_push_size _ rfl
  have o4 : (zTL5 s.heap a b).get? (zTL3 s.heap a b).objs.size = some _ := up (Heap.get?_push_size _ rfl)
  have o3 : (zTL5 s.heap a b).get? (zTL2 s.heap a b).objs.size = some _ := up (up (Heap.get?_push_size _ rfl))
  have o2 : (zTL5 s.heap a b).get? (zTL1 s.heap a).objs.size = some _ := up (up (up (Heap.get?_push_size _ rfl)))
  have o1 : (zTL5 s.heap a b).get? s.heap.objs.size = some _ := up (up (up (up (Heap.get?_push_size _ rfl))))
  show _ ∧ _
  rw [z2, z3, z4] at o5
  rw [z1, z2] at o3
  rw [z3] at o4
  rw [z1] at o2
  rw [z4]
  exact ⟨⟨_, o5, rfl⟩, h _ o5 o3 o4 ⟨_, o1, rfl, rfl⟩ ⟨_, o2, rfl, rfl⟩ fun c o x => up (up (up (up (up x))))⟩

/-! ### the rule -/
def iZipM (K : PySem.W.Frag) (ta : TA) : TI := fun σ H R => ta σ H fun vs H1 => ∃ a b xs ys, vs = [.ref a, .ref b] ∧ ((SqL K H1 a xs ∧ SqT K H1 b ys ∧ R (ItzM K kL kT a b) H1) ∨ (SqT K H1 a xs ∧ SqL K H1 b ys ∧ R (ItzM K kT kL a b) H1) ∨
  (SqL K H1 a xs ∧ SqL K H1 b ys ∧ R (ItzM K kL kL a b) H1) ∨ (SqT K H1 a xs ∧ SqT K H1 b ys ∧ R (ItzM K kT kT a b) H1))
theorem pi_zipM {X : Cx} {e e2 : Expr} {ta : TA} {p pos tpos : Pos} {elts : List Expr} {kk : Nat} (hg : Gl X "zip") (hm : X.mg "zip" = none) (ha : PA X [e, e2] ta)
    (hs : starEach [e, e2] X.env = (false, eval e X.env) :: starEach [e2] X.env := by rfl) (hpl : (backTo pos (starEach [e2] X.env)).any (·.1) = false := by rfl) :
    PI X (.Tuple elts kk tpos) (.Call (.Name "zip" p) [e, e2] [] pos) (iZipM X.K ta) := by
  refine ⟨fun pins s σ H R I h => Call_ (ld_blt I hg hm PyProof.Rows.boot_zip (PyProof.Rows.callWith_type1 (thn (ha.run pos pins s σ H _ I h) fun us s1 ⟨vs, H1, I1, r1, q1⟩ => ?_) hs hpl))⟩
  obtain ⟨a, b, xs, ys, rfl, q1⟩ := q1
  obtain ⟨u1, u2, rfl⟩ : ∃ u1 u2, us = [u1, u2] := by
    cases r1 with
    | cons r rr => cases rr with
      | cons r' rr => cases rr; exact ⟨_, _, rfl⟩
  cases r1 with
  | cons r rr => cases rr with
    | cons r' rr =>
      cases rr
      cases r
      cases r'
      have fresh5 : ∀ c, c ∈ [s1.heap.objs.size + 4, s1.heap.objs.size + 2, s1.heap.objs.size + 3, s1.heap.objs.size, s1.heap.objs.size + 1] → FpOk X pins H1 c := fun c hcm => by
        have hle : s1.heap.objs.size ≤ c := by
          simp only [List.mem_cons, List.not_mem_nil, or_false] at hcm
          omega
        exact I1.fpOk hle (I1.hok.fresh hle)
      have go : ∀ (k1 k2 : Kd) {xs ys : Array Value} {h' : Heap}, k1.Sq s1.heap a xs → k2.Sq s1.heap b ys → IsZip h' (s1.heap.objs.size + 4) (s1.heap.objs.size + 2) (s1.heap.objs.size + 3) .none → IsPair h' (s1.heap.objs.size + 2) (.ref s1.heap.objs.size) (.ref (s1.heap.objs.size + 1)) → IsPair h' (s1.heap.objs.size + 3) .none .none →
          k1.It h' s1.heap.objs.size a 0 → k2.It h' (s1.heap.objs.size + 1) b 0 → (∀ c o, s1.heap.get? c = some o → h'.get? c = some o) → R (ItzM X.K k1 k2 a b) H1 →
          wpAny (model X.prog X.w) X.A (pyIter (.ref (s1.heap.objs.size + 4))) (PIE X pins σ (.Tuple elts kk tpos) R) X.xe { s1 with heap := h' } := fun k1 k2 {xs ys h'} p1 p2 hz hTI hTO j1 j2 hk q => by
        obtain ⟨o1, e1⟩ := k1.qo p1
        obtain ⟨o2, e2⟩ := k2.qo p2
        exact wpAny_pyIter_zip hz ⟨s1.heap.objs.size + 4, [s1.heap.objs.size + 4, s1.heap.objs.size + 2, s1.heap.objs.size + 3, s1.heap.objs.size, s1.heap.objs.size + 1], _, _, H1, rfl, I1.kept (t' := s1.toks) hk,
          turn_zipM k1 k2 (PySem.W.ktu_apart s1.heap.objs.size a b (Heap.lt_size e1) (Heap.lt_size e2)), ⟨hz, hTI, ⟨_, _, hTO⟩, j1, j2⟩, fresh5, q⟩
      rcases q1 with ⟨hx, hy, q⟩ | ⟨hx, hy, q⟩ | ⟨hx, hy, q⟩ | ⟨hx, hy, q⟩
      · obtain ⟨its, _, p1⟩ := kL.rd I1 hx
        obtain ⟨its2, _, p2⟩ := kT.rd I1 hy
        exact call_zLT p1 p2 fun h' hz hTI hTO j1 j2 hk => go kL kT p1 p2 hz hTI hTO j1 j2 hk q
      · obtain ⟨its, _, p1⟩ := kT.rd I1 hx
        obtain ⟨its2, _, p2⟩ := kL.rd I1 hy
        exact call_zTL p1 p2 fun h' hz hTI hTO j1 j2 hk => go kT kL p1 p2 hz hTI hTO j1 j2 hk q
      · obtain ⟨its, _, p1⟩ := kL.rd I1 hx
        obtain ⟨its2, _, p2⟩ := kL.rd I1 hy
        exact call_zip_2 p1 p2 fun h' hz hTI hTO j1 j2 _ hk => go kL kL p1 p2 hz hTI hTO j1 j2 hk q
      · obtain ⟨its, _, p1⟩ := kT.rd I1 hx
        obtain ⟨its2, _, p2⟩ := kT.rd I1 hy
        exact call_zipT p1 p2 fun h' hz hTI hTO j1 j2 _ hk => go kT kT p1 p2 hz hTI hTO j1 j2 hk q
theorem walk_zipM {K : PySem.W.Frag} (k1 k2 : Kd) {a b : Addr} {xs ys : List V} {n : Nat} (hn : n = min xs.length ys.length) : Walk (ItzM K k1 k2 a b) n (fun H => k1.tr K H a xs ∧ k2.tr K H b ys) (YPair (fun i => xs[i]?) (fun i => ys[i]?)) := by
  subst hn
  refine ⟨fun i _ hi q => ?_, fun _ q => ⟨xs, ys, q.1, q.2, by omega⟩, fun i H v H' _ q y => ?_⟩
  · have h1 : i < xs.length := by omega
    have h2 : i < ys.length := by omega
    exact ⟨xs, ys, xs[i], ys[i], q.1, q.2, by simp [h1], by simp [h2]⟩
  · obtain ⟨T, x, z, h1, h2, h3, h4, h5⟩ := y
    exact ⟨T, x, z, h1, h2, h3, h4 xs q.1, h5 ys q.2⟩
end Ef
set_option Elab.async false
set_option linter.all false
set_option maxRecDepth 100000
set_option maxHeartbeats 4000000
namespace Ef
open PySem PySem.Spec PyProof.Rows L2
section
variable {P : Program} {w : World} {K : PySem.W.Frag} {mg : Str → Option Value} {base : Heap}
/-- two rows, lists or tuples -/
def Two (K : PySem.W.Frag) (H : Hp) (a b : Addr) (xs ys : List V) : Prop := Seqs K H a xs ∧ Seqs K H b ys
theorem Two.fst {K : PySem.W.Frag} {H : Hp} {a b : Addr} {xs ys : List V} (h : Two K H a b xs ys) : Seqs K H a xs := h.1
theorem Two.snd {K : PySem.W.Frag} {H : Hp} {a b : Addr} {xs ys : List V} (h : Two K H a b xs ys) : Seqs K H b ys := h.2
theorem Two.swap {K : PySem.W.Frag} {H : Hp} {a b : Addr} {xs ys : List V} (h : Two K H a b xs ys) : Two K H b a ys xs := ⟨h.2, h.1⟩
theorem Two.same {K : PySem.W.Frag} {H H' : Hp} {a b : Addr} {xs ys : List V} (h : Two K H a b xs ys) (e : Same H H') : Two K H' a b xs ys := ⟨h.1.same e, h.2.same e⟩
/-- the members one by one with those of the other -/
def zipR (f : Int → Int → Int) (r s : List Int) : List Int := List.zipWith f r s
/-- a comprehension over two rows of whole numbers at once -/
theorem lc_two {a b : Addr} {r s : List Int} {f : Int → Int → Int} {H1 : Hp} {σ : L2.St} {Qd : Addr → Hp → Prop} {g : TG} {te : TE} {vs : List Nat} (ha : Two K H1 a b (r.map V.int) (s.map V.int)) (hl : r.length ≤ 1000)
    (hs : ∀ (x y : Int) (T : Addr) (H : Hp) (R : VK), x ∈ r → y ∈ s → Same H1 H → H T = some (.tup [.int x, .int y]) → R (.int (f x y)) H → g (.ref T) (wipe σ vs) H fun σ2 H2 => wipe σ2 vs = wipe σ vs ∧ te σ2 H2 R)
    (hd : ∀ D H', H1 D = none → Same H1 H' → H' D = some (.lst ((zipR f r s).map V.int)) → Qd D H') :
    let R : It → Hp → Prop := fun J H1 => ∀ D, H1 D = none → ∃ W : Nat → Nat → Hp → Prop, (∃ m, W 0 m (upd H1 D (.lst []))) ∧ ∀ i m H, W i m H → (J.stop i H ∧ Qd D H) ∨ (J.go i H ∧ ∃ Nx : Hp → Prop, (∀ H', Nx H' → ∃ m', m' < m ∧ W (i + 1) m' H') ∧ ∀ y H', J.yld i H y H' → g y (wipe σ vs) H' fun σ2 H2 => wipe σ2 vs = wipe σ vs ∧ tYes σ2 H2 fun b H3 => if b = true then te σ2 H3 fun z H4 => ∃ acc, H4 D = some (.lst acc) ∧ acc.length < sizeLine ∧ Nx (upd H4 D (.lst (acc ++ [z]))) else Nx H3)
    ∃ a' b' xs ys, [V.ref a, V.ref b] = [V.ref a', V.ref b'] ∧ ((SqL K H1 a' xs ∧ SqT K H1 b' ys ∧ R (ItzM K kL kT a' b') H1) ∨ (SqT K H1 a' xs ∧ SqL K H1 b' ys ∧ R (ItzM K kT kL a' b') H1) ∨ (SqL K H1 a' xs ∧ SqL K H1 b' ys ∧ R (ItzM K kL kL a' b') H1) ∨ (SqT K H1 a' xs ∧ SqT K H1 b' ys ∧ R (ItzM K kT kT a' b') H1)) := by
  refine ⟨a, b, r.map V.int, s.map V.int, rfl, ?_⟩
  have step : ∀ (D : Addr) (i : Nat) (x : V) (H H' : Hp), H1 D = none → i < min r.length s.length → (Same H1 H ∧ H D = some (.lst (((zipR f r s).take i).map V.int))) → YPair (fun i => (r.map V.int)[i]?) (fun i => (s.map V.int)[i]?) i H x H' → g x (wipe σ vs) H' fun σ2 H2 => wipe σ2 vs = wipe σ vs ∧ tYes σ2 H2 fun b H3 => if b = true then te σ2 H3 fun z H4 => ∃ acc, H4 D = some (.lst acc) ∧ acc.length < sizeLine ∧ (Same H1 (upd H4 D (.lst (acc ++ [z]))) ∧ (upd H4 D (.lst (acc ++ [z]))) D = some (.lst (((zipR f r s).take (i + 1)).map V.int))) else (Same H1 H3 ∧ H3 D = some (.lst (((zipR f r s).take (i + 1)).map V.int))) := by
    rintro D i x H H' hD hi ⟨sx, hx⟩ ⟨T, y, z, rfl, nT, rfl, ey, ez⟩
    dsimp only at ey ez
    rw [List.getElem?_map, List.getElem?_eq_getElem (by omega)] at ey ez
    injection ey with ey
    injection ez with ez
    subst ey ez
    have sT := sx.trans (same_new (o := .tup [.int r[i], .int s[i]]) nT)
    have hT : (upd H T (.tup [.int r[i], .int s[i]])) D = some (.lst (((zipR f r s).take i).map V.int)) := by rw [upd_ne (ne_of_none hx nT)]; exact hx
    have eT : (upd H T (.tup [.int r[i], .int s[i]])) T = some (.tup [.int r[i], .int s[i]]) := upd_same
    refine hs r[i] s[i] T _ _ (List.getElem_mem _) (List.getElem_mem _) sT eT ⟨_, hT, ?_, same_mut sT hD, ?_⟩
    · rw [List.length_map, List.length_take]
      exact Nat.lt_of_le_of_lt (show min i _ ≤ 1000 by omega) (by decide)
    · have e : (zipR f r s)[i]? = some (f r[i] s[i]) := by
        unfold zipR
        rw [List.getElem?_zipWith, List.getElem?_eq_getElem (by omega), List.getElem?_eq_getElem (by omega)]
      rw [upd_same, List.take_succ, e, Option.toList_some, List.map_append]
      rfl
  have hlen : (zipR f r s).length = min r.length s.length := by unfold zipR; rw [List.length_zipWith]
  have fin : ∀ (D : Addr) (H' : Hp), H1 D = none → (Same H1 H' ∧ H' D = some (.lst (((zipR f r s).take (min r.length s.length)).map V.int))) → Qd D H' := fun D H' hD ⟨s3, h3⟩ => by
    rw [← hlen, List.take_length] at h3
    exact hd D H' hD s3 h3
  obtain ⟨ha, hb⟩ := ha
  rcases ha with ha | ha <;> rcases hb with hb | hb
  · refine .inr (.inr (.inl ⟨ha, hb, fun D hD => ?_⟩))
    exact lc_it (tt := tYes) (walk_zipM kL kL (n := min r.length s.length) (by rw [List.length_map, List.length_map])) (fun i H' => Same H1 H' ∧ H' D = some (.lst (((zipR f r s).take i).map V.int))) ⟨same_new hD, by rw [upd_same]; rfl⟩ (fun i H' _ h => ⟨h.1.seq ha, h.1.seq hb⟩) (fun i x H H' hi hp hy => step D i x H H' hD hi hp hy) (fun H' h => fin D H' hD h)
  · refine .inl ⟨ha, hb, fun D hD => ?_⟩
    exact lc_it (tt := tYes) (walk_zipM kL kT (n := min r.length s.length) (by rw [List.length_map, List.length_map])) (fun i H' => Same H1 H' ∧ H' D = some (.lst (((zipR f r s).take i).map V.int))) ⟨same_new hD, by rw [upd_same]; rfl⟩ (fun i H' _ h => ⟨h.1.seq ha, Same.tup h.1 hb⟩) (fun i x H H' hi hp hy => step D i x H H' hD hi hp hy) (fun H' h => fin D H' hD h)
  · refine .inr (.inl ⟨ha, hb, fun D hD => ?_⟩)
    exact lc_it (tt := tYes) (walk_zipM kT kL (n := min r.length s.length) (by rw [List.length_map, List.length_map])) (fun i H' => Same H1 H' ∧ H' D = some (.lst (((zipR f r s).take i).map V.int))) ⟨same_new hD, by rw [upd_same]; rfl⟩ (fun i H' _ h => ⟨Same.tup h.1 ha, h.1.seq hb⟩) (fun i x H H' hi hp hy => step D i x H H' hD hi hp hy) (fun H' h => fin D H' hD h)
  · refine .inr (.inr (.inr ⟨ha, hb, fun D hD => ?_⟩))
    exact lc_it (tt := tYes) (walk_zipM kT kT (n := min r.length s.length) (by rw [List.length_map, List.length_map])) (fun i H' => Same H1 H' ∧ H' D = some (.lst (((zipR f r s).take i).map V.int))) ⟨same_new hD, by rw [upd_same]; rfl⟩ (fun i H' _ h => ⟨Same.tup h.1 ha, Same.tup h.1 hb⟩) (fun i x H H' hi hp hy => step D i x H H' hD hi hp hy) (fun H' h => fin D H' hD h)
theorem cut_lo (xs : List V) (k : Nat) : cutV xs (some (k : Int)) none = xs.drop k := by
  unfold cutV
  rw [HT.sIx_none, HT.sIx_nat]
  rcases Nat.lt_or_ge k xs.length with z | z
  · rw [Nat.min_eq_left (by omega), List.take_of_length_le (by rw [List.length_drop]; omega)]
  · rw [Nat.min_eq_right z, List.drop_length, List.drop_eq_nil_of_le z, List.take_nil]
/-! ### row_sum -/
/-- the sums, and what one has more -/
def sumR (r s : List Int) : List Int := zipR (fun x y => x + y) r s ++ r.drop s.length
theorem sumR_len {r s : List Int} (h : s.length ≤ r.length) : (sumR r s).length = r.length := by
  unfold sumR zipR
  rw [List.length_append, List.length_zipWith, List.length_drop]; omega
theorem cf_zip (f : Int → Int → Int) (r s : List Int) (j : Nat) : cf (zipR f r s) j = if j < min r.length s.length then f (cf r j) (cf s j) else 0 := by
  have hlen : (zipR f r s).length = min r.length s.length := by unfold zipR; rw [List.length_zipWith]
  by_cases h : j < min r.length s.length
  · rw [if_pos h, cf_lt (by rw [hlen]; exact h), cf_lt (show j < r.length by omega), cf_lt (show j < s.length by omega)]
    unfold zipR
    rw [List.getElem_zipWith]
  · rw [if_neg h, cf_ge (by rw [hlen]; omega)]
theorem cf_drop (r : List Int) (k j : Nat) : cf (r.drop k) j = cf r (k + j) := by
  unfold cf
  rw [List.getD_eq_getElem?_getD, List.getD_eq_getElem?_getD, List.getElem?_drop]
theorem cf_sumR {r s : List Int} (h : s.length ≤ r.length) (j : Nat) : cf (sumR r s) j = cf r j + cf s j := by
  have hlen : (zipR (fun x y => x + y) r s).length = s.length := by unfold zipR; rw [List.length_zipWith]; omega
  unfold sumR
  rw [cf_append, hlen]
  by_cases hj : j < s.length
  · rw [if_pos hj, cf_zip, if_pos (by omega)]
  · rw [if_neg hj, cf_drop, show s.length + (j - s.length) = j by omega, cf_ge (r := s) (by omega), Int.add_zero]
def spSum1 (K : PySem.W.Frag) : Sp := fun vs H Q _ => ∃ (a b : Addr) (r s : List Int), vs = [.ref a, .ref b] ∧ Two K H a b (r.map V.int) (s.map V.int) ∧ r.length ≤ 1000 ∧ s.length ≤ r.length ∧ ∀ l H', H l = none → Same H H' → H' l = some (.lst ((sumR r s).map V.int)) → Q (.ref l) H'
theorem scSum : FnScope ["one", "other", "a", "b"] ["one", "other"] (defScope sSum) := ⟨rfl, rfl, rfl, by decide +kernel, rfl, by decide +kernel, by decide +kernel⟩
theorem df_sum1 (A : At K mg "row_sum" sSum) (T : TxtJ mg) : Df P w K mg base 1 "row_sum" ["one", "other"] (spSum1 K) := by
  obtain ⟨f, fd, hm, F⟩ := A.ex
  refine ⟨f, fd, hm, F.kp, F.binds (fun _ _ _ _ _ _ us hl => match us, hl with | [_, _], _ => rfl), F.ok scSum (fun vs H Q E h => ?_) (fun cdv A outer s H vs Q E hr h => ?_)⟩
  · obtain ⟨a, b, r, s, rfl, _⟩ := h
    rfl
  · obtain ⟨a, b, r, s', rfl, hS, hl, hl2, q⟩ := h
    refine ⟨_, (pss_cons (ps_if (pt_cmpR op_lt (pe_callB call_len_seq (by rfl) T.len PySem.boot_len (pa_cons (pv 0) pa_nil)) (pe_callB call_len_seq (by rfl) T.len PySem.boot_len (pa_cons (pv 1) pa_nil)) (nomark _)) (pss_one ps_never) pss_nil)
      (pss_one (ps_ret (pe_op op_cat (pe_lc (own := [("a", 2), ("b", 3)]) (g := gTup K 2 (gCons (gName 2) (gCons (gName 3) gNil))) (by rfl) scSum.nd (pi_zipM (by rfl) T.zip (pa_cons (pv 0) (pa_cons (pv 1) pa_nil))) (blkOk_by (own := [("a", 2), ("b", 3)]) (N := ["one", "other", "a", "b"]) (sc := defScope sSum) (by decide +kernel)) (fun _ _ _ _ _ => pg_tup (by rfl) (pgs_cons (pg_name (i := 2) scSum.nd rfl (Or.inl rfl)) (pgs_cons (pg_name (i := 3) scSum.nd rfl (Or.inl rfl)) pgs_nil))) (fun _ _ _ _ _ => pts_nil) (fun _ _ _ _ _ => (pe_op op_add (pv 2) (pv 3)))) (pe_callTy call_list_of (by rfl) T.list (by decide +kernel) (pa_cons (pe_slice (sl_list.or sl_tupA) (pv 0) (po_some (pe_callB call_len_seq (by rfl) T.len PySem.boot_len (pa_cons (pv 1) pa_nil))) po_none) pa_nil)))))), ?_⟩
    refine ⟨_, rfl, a, _, rfl, hS.fst, _, rfl, b, _, rfl, hS.snd, _, _, rfl, rfl, _, rfl, ?_⟩
    rw [List.length_map, List.length_map, decide_eq_false (show ¬ (r.length : Int) < (s'.length : Int) by omega)]
    refine iteF ⟨_, rfl, _, rfl, lc_two (f := fun x y => x + y) hS hl (fun x y T H R hx hy sx e h => ⟨T, _, rfl, .inl (.inl e), rfl, _, _, rfl, _, _, rfl, rfl, rfl, _, rfl, _, rfl, _, _, rfl, rfl, h⟩) (fun D H1 hD s1 h1 => ?_)⟩
    refine ⟨_, rfl, _, rfl, b, _, rfl, hS.snd.same s1, ?_⟩
    rw [List.length_map]
    refine ⟨_, rfl, ?_⟩
    refine sl_seqs (hS.fst.same s1) fun p H2 s2 h2 => ?_
    rw [cut_lo, ← List.map_drop] at h2
    refine ⟨p, _, rfl, h2, fun l hl' => ?_⟩
    have s3 := s2.trans (same_new (o := .lst ((r.drop s'.length).map V.int)) hl')
    have h3 : (upd H2 l (.lst ((r.drop s'.length).map V.int))) l = some (.lst ((r.drop s'.length).map V.int)) := upd_same
    generalize upd H2 l (.lst ((r.drop s'.length).map V.int)) = H3 at s3 h3 ⊢
    refine ⟨D, l, _, _, rfl, rfl, s3 _ _ h1, h3, ?_, fun l4 hl4 => ?_⟩
    · rw [List.length_map, List.length_map, ← List.length_append]
      show (sumR r s').length ≤ _
      rw [sumR_len hl2]
      exact Nat.le_trans hl (by decide)
    · rw [← List.map_append]
      exact q l4 _ ((s1.trans s3).free hl4) ((s1.trans s3).trans (same_new hl4)) upd_same
def spSum (K : PySem.W.Frag) : Sp := fun vs H Q _ => ∃ (a b : Addr) (r s : List Int), vs = [.ref a, .ref b] ∧ Two K H a b (r.map V.int) (s.map V.int) ∧ r.length ≤ 1000 ∧ s.length ≤ 1000 ∧
  ∀ l t H', H l = none → Same H H' → H' l = some (.lst (t.map V.int)) → t.length = max r.length s.length → (∀ j, cf t j = cf r j + cf s j) → Q (.ref l) H'
theorem df_sum (A : At K mg "row_sum" sSum) (T : TxtJ mg) (Drowsum : Df P w K mg base 1 "row_sum" ["one", "other"] (spSum1 K)) : Df P w K mg base 2 "row_sum" ["one", "other"] (spSum K) := by
  obtain ⟨f, fd, hm, F⟩ := A.ex
  refine ⟨f, fd, hm, F.kp, F.binds (fun _ _ _ _ _ _ us hl => match us, hl with | [_, _], _ => rfl), F.ok scSum (fun vs H Q E h => ?_) (fun cdv A outer s H vs Q E hr h => ?_)⟩
  · obtain ⟨a, b, r, s, rfl, _⟩ := h
    rfl
  · obtain ⟨a, b, r, s', rfl, hS, hl, hls, q⟩ := h
    refine ⟨_, (pss_cons (ps_if (pt_cmpR op_lt (pe_callB call_len_seq (by rfl) T.len PySem.boot_len (pa_cons (pv 0) pa_nil)) (pe_callB call_len_seq (by rfl) T.len PySem.boot_len (pa_cons (pv 1) pa_nil)) (nomark _)) (pss_one (ps_ret (Drowsum.call (hr.mono (by decide)) (pa_cons (pv 1) (pa_cons (pv 0) pa_nil))))) pss_nil)
      (pss_one (ps_ret (pe_op op_cat (pe_lc (own := [("a", 2), ("b", 3)]) (g := gTup K 2 (gCons (gName 2) (gCons (gName 3) gNil))) (by rfl) scSum.nd (pi_zipM (by rfl) T.zip (pa_cons (pv 0) (pa_cons (pv 1) pa_nil))) (blkOk_by (own := [("a", 2), ("b", 3)]) (N := ["one", "other", "a", "b"]) (sc := defScope sSum) (by decide +kernel)) (fun _ _ _ _ _ => pg_tup (by rfl) (pgs_cons (pg_name (i := 2) scSum.nd rfl (Or.inl rfl)) (pgs_cons (pg_name (i := 3) scSum.nd rfl (Or.inl rfl)) pgs_nil))) (fun _ _ _ _ _ => pts_nil) (fun _ _ _ _ _ => (pe_op op_add (pv 2) (pv 3)))) (pe_callTy call_list_of (by rfl) T.list (by decide +kernel) (pa_cons (pe_slice (sl_list.or sl_tupA) (pv 0) (po_some (pe_callB call_len_seq (by rfl) T.len PySem.boot_len (pa_cons (pv 1) pa_nil))) po_none) pa_nil)))))), ?_⟩
    refine ⟨_, rfl, a, _, rfl, hS.fst, _, rfl, b, _, rfl, hS.snd, _, _, rfl, rfl, _, rfl, ?_⟩
    rw [List.length_map, List.length_map]
    by_cases hlt : r.length < s'.length
    · rw [decide_eq_true (show (r.length : Int) < (s'.length : Int) by omega)]
      refine iteT ⟨_, rfl, _, rfl, b, a, s', r, rfl, hS.swap, hls, by omega, fun l H' hn s1 h1 => q l _ H' hn s1 h1 (by rw [sumR_len (by omega)]; omega) fun j => by rw [cf_sumR (by omega), Int.add_comm]⟩
    have hl2 : s'.length ≤ r.length := by omega
    rw [decide_eq_false (show ¬ (r.length : Int) < (s'.length : Int) by omega)]
    refine iteF ⟨_, rfl, _, rfl, lc_two (f := fun x y => x + y) hS hl (fun x y T H R hx hy sx e h => ⟨T, _, rfl, .inl (.inl e), rfl, _, _, rfl, _, _, rfl, rfl, rfl, _, rfl, _, rfl, _, _, rfl, rfl, h⟩) (fun D H1 hD s1 h1 => ?_)⟩
    refine ⟨_, rfl, _, rfl, b, _, rfl, hS.snd.same s1, ?_⟩
    rw [List.length_map]
    refine ⟨_, rfl, ?_⟩
    refine sl_seqs (hS.fst.same s1) fun p H2 s2 h2 => ?_
    rw [cut_lo, ← List.map_drop] at h2
    refine ⟨p, _, rfl, h2, fun l hl' => ?_⟩
    have s3 := s2.trans (same_new (o := .lst ((r.drop s'.length).map V.int)) hl')
    have h3 : (upd H2 l (.lst ((r.drop s'.length).map V.int))) l = some (.lst ((r.drop s'.length).map V.int)) := upd_same
    generalize upd H2 l (.lst ((r.drop s'.length).map V.int)) = H3 at s3 h3 ⊢
    refine ⟨D, l, _, _, rfl, rfl, s3 _ _ h1, h3, ?_, fun l4 hl4 => ?_⟩
    · rw [List.length_map, List.length_map, ← List.length_append]
      show (sumR r s').length ≤ _
      rw [sumR_len hl2]
      exact Nat.le_trans hl (by decide)
    · rw [← List.map_append]
      exact q l4 (sumR r s') _ ((s1.trans s3).free hl4) ((s1.trans s3).trans (same_new hl4)) upd_same (by rw [sumR_len hl2]; omega) fun j => cf_sumR hl2 j
/-! ### row_gap -/
def spGap (K : PySem.W.Frag) : Sp := fun vs H Q _ => ∃ (a b : Addr) (r s : List Int), vs = [.ref a, .ref b] ∧ Two K H a b (r.map V.int) (s.map V.int) ∧ r.length ≤ 1000 ∧ s.length ≤ 1000 ∧
  ∀ l t H', H l = none → Same H H' → H' l = some (.lst (t.map V.int)) → t.length = max r.length s.length → (∀ j, cf t j = cf r j - cf s j) → Q (.ref l) H'
def gapR (r s : List Int) : List Int := zipR (fun x y => x - y) r s ++ r.drop (min r.length s.length) ++ (s.drop (min r.length s.length)).map fun b => -b
theorem gapR_len (r s : List Int) : (gapR r s).length = max r.length s.length := by
  unfold gapR zipR
  rw [List.length_append, List.length_append, List.length_zipWith, List.length_drop, List.length_map, List.length_drop]; omega
theorem cf_gapR (r s : List Int) (j : Nat) : cf (gapR r s) j = cf r j - cf s j := by
  have hlen : (zipR (fun x y => x - y) r s).length = min r.length s.length := by unfold zipR; rw [List.length_zipWith]
  unfold gapR
  rw [cf_append, List.length_append, hlen, List.length_drop]
  by_cases h1 : j < min r.length s.length + (r.length - min r.length s.length)
  · rw [if_pos h1, cf_append, hlen]
    by_cases h2 : j < min r.length s.length
    · rw [if_pos h2, cf_zip, if_pos h2]
    · rw [if_neg h2, cf_drop, show min r.length s.length + (j - min r.length s.length) = j by omega, cf_ge (r := s) (by omega), Int.sub_zero]
  · rw [if_neg h1, cf_map (f := fun b => -b) rfl, cf_drop]
    by_cases h3 : r.length ≤ s.length
    · rw [show min r.length s.length + (j - (min r.length s.length + (r.length - min r.length s.length))) = j by omega, cf_ge (r := r) (by omega), Int.zero_sub]
    · rw [cf_ge (r := s) (by omega), cf_ge (r := r) (by omega), cf_ge (r := s) (by omega)]; rfl
theorem scGap : FnScope ["one", "other", "size", "a", "b"] ["one", "other"] (defScope sGap) := ⟨rfl, rfl, rfl, by decide +kernel, rfl, by decide +kernel, by decide +kernel⟩
theorem df_gap (A : At K mg "row_gap" sGap) (T : TxtJ mg) : Df P w K mg base 1 "row_gap" ["one", "other"] (spGap K) := by
  obtain ⟨f, fd, hm, F⟩ := A.ex
  refine ⟨f, fd, hm, F.kp, F.binds (fun _ _ _ _ _ _ us hl => match us, hl with | [_, _], _ => rfl), F.ok scGap (fun vs H Q E h => ?_) (fun cdv A outer s H vs Q E hr h => ?_)⟩
  · obtain ⟨a, b, r, s, rfl, _⟩ := h
    rfl
  · obtain ⟨a, b, r, s', rfl, hS, hl, hls, q⟩ := h
    refine ⟨_, (pss_cons (ps_set (i := 2) scGap.nd rfl (.inl rfl) (pe_callB (call_min2 rfl) (by rfl) T.min (by decide +kernel) (pa_cons (pe_callB call_len_seq (by rfl) T.len PySem.boot_len (pa_cons (pv 0) pa_nil)) (pa_cons (pe_callB call_len_seq (by rfl) T.len PySem.boot_len (pa_cons (pv 1) pa_nil)) pa_nil))))
      (pss_one (ps_ret (pe_op op_cat (pe_op op_cat (pe_lc (own := [("a", 3), ("b", 4)]) (g := gTup K 2 (gCons (gName 3) (gCons (gName 4) gNil))) (by rfl) scGap.nd (pi_zipM (by rfl) T.zip (pa_cons (pv 0) (pa_cons (pv 1) pa_nil))) (blkOk_by (own := [("a", 3), ("b", 4)]) (N := ["one", "other", "size", "a", "b"]) (sc := defScope sGap) (by decide +kernel)) (fun _ _ _ _ _ => pg_tup (by rfl) (pgs_cons (pg_name (i := 3) scGap.nd rfl (Or.inl rfl)) (pgs_cons (pg_name (i := 4) scGap.nd rfl (Or.inl rfl)) pgs_nil))) (fun _ _ _ _ _ => pts_nil) (fun _ _ _ _ _ => (pe_op op_sub (pv 3) (pv 4)))) (pe_callTy call_list_of (by rfl) T.list (by decide +kernel) (pa_cons (pe_slice (sl_list.or sl_tupA) (pv 0) (po_some (pv 2)) po_none) pa_nil))) (pe_lc (own := [("b", 4)]) (g := gName 4) (by rfl) scGap.nd (pi_seq (pe_slice (sl_list.or sl_tupA) (pv 1) (po_some (pv 2)) po_none)) (blkOk_by (own := [("b", 4)]) (N := ["one", "other", "size", "a", "b"]) (sc := defScope sGap) (by decide +kernel)) (fun _ _ _ _ _ => pg_name (i := 4) scGap.nd rfl (Or.inl rfl)) (fun _ _ _ _ _ => pts_nil) (fun _ _ _ _ _ => (pe_un un_neg (pv 4)))))))), ?_⟩
    refine ⟨_, rfl, a, _, rfl, hS.fst, _, rfl, b, _, rfl, hS.snd, _, _, rfl, ?_⟩
    rw [List.length_map, List.length_map]
    obtain ⟨m, em, hm⟩ : ∃ m : Nat, (if ((s'.length : Nat) : Int) < ((r.length : Nat) : Int) then ((s'.length : Nat) : Int) else ((r.length : Nat) : Int)) = (m : Int) ∧ m = min r.length s'.length := by
      split
      · exact ⟨s'.length, rfl, by omega⟩
      · exact ⟨r.length, rfl, by omega⟩
    rw [em]
    refine ⟨_, rfl, _, rfl, lc_two (f := fun x y => x - y) hS hl (fun x y T H R hx hy sx e h => ⟨T, _, rfl, .inl (.inl e), rfl, _, _, rfl, _, _, rfl, rfl, rfl, _, rfl, _, rfl, _, _, rfl, rfl, h⟩) (fun D H1 hD s1 h1 => ?_)⟩
    refine ⟨_, rfl, _, rfl, _, rfl, ?_⟩
    refine sl_seqs (hS.fst.same s1) fun p H2 s2 h2 => ?_
    rw [cut_lo, ← List.map_drop] at h2
    refine ⟨p, _, rfl, h2, fun l hl' => ?_⟩
    have s3 := s2.trans (same_new (o := .lst ((r.drop m).map V.int)) hl')
    have h3 : (upd H2 l (.lst ((r.drop m).map V.int))) l = some (.lst ((r.drop m).map V.int)) := upd_same
    generalize upd H2 l (.lst ((r.drop m).map V.int)) = H3 at s3 h3 ⊢
    have hz : (zipR (fun x y => x - y) r s').length = m := by unfold zipR; rw [List.length_zipWith, hm]
    refine ⟨D, l, _, _, rfl, rfl, s3 _ _ h1, h3, ?_, fun l4 hl4 => ?_⟩
    · rw [List.length_map, List.length_map, hz, List.length_drop]
      exact Nat.le_trans (show _ ≤ 1000 by omega) (by decide)
    rw [← List.map_append]
    have s4 := (s1.trans s3).trans (same_new (o := .lst ((zipR (fun x y => x - y) r s' ++ r.drop m).map V.int)) hl4)
    have h4 : (upd H3 l4 (.lst ((zipR (fun x y => x - y) r s' ++ r.drop m).map V.int))) l4 = some (.lst ((zipR (fun x y => x - y) r s' ++ r.drop m).map V.int)) := upd_same
    generalize upd H3 l4 (.lst ((zipR (fun x y => x - y) r s' ++ r.drop m).map V.int)) = H4 at s4 h4 ⊢
    refine ⟨_, rfl, _, rfl, _, rfl, ?_⟩
    refine sl_seqs (hS.snd.same s4) fun p5 H5 s5 h5 => ?_
    rw [cut_lo, ← List.map_drop] at h5
    refine ⟨p5, rfl, lc_seqs (f := fun b => -b) h5 (by rw [List.length_drop]; omega) (fun c H R hc _ h => ⟨rfl, _, rfl, _, rfl, h⟩) fun D6 H6 hD6 s6 h6 => ?_⟩
    have s46 := s5.trans s6
    refine ⟨l4, D6, _, _, rfl, rfl, s46 _ _ h4, h6, ?_, fun l7 hl7 => ?_⟩
    · rw [List.length_map, List.length_map, List.length_append, hz, List.length_drop, List.length_map, List.length_drop]
      exact Nat.le_trans (show _ ≤ 2000 by omega) (by decide)
    · rw [← List.map_append]
      have e : zipR (fun x y => x - y) r s' ++ r.drop m ++ (s'.drop m).map (fun b => -b) = gapR r s' := by unfold gapR; rw [hm]
      rw [e]
      exact q l7 _ _ ((s4.trans s46).free hl7) ((s4.trans s46).trans (same_new hl7)) upd_same (gapR_len _ _) (cf_gapR _ _)
/-! ### row_product -/
def spProd (K : PySem.W.Frag) : Sp := fun vs H Q _ => ∃ (a b : Addr) (r s : List Int), vs = [.ref a, .ref b] ∧ SqT K H a (r.map V.int) ∧ Seqs K H b (s.map V.int) ∧ r.length ≤ 100 ∧ s.length ≤ 100 ∧ (∀ c ∈ r, Bd 9000 c) ∧ (∀ c ∈ s, Bd 9000 c) ∧
  ∀ l t H', H l = none → Same H H' → H' l = some (.lst (t.map V.int)) → t.length ≤ r.length + s.length → (∀ j, cf t j = cv (cf r) (cf s) j) → Q (.ref l) H'
theorem scProd : FnScope ["one", "other", "product", "number"] ["one", "other"] (defScope sProd) := ⟨rfl, rfl, rfl, by decide +kernel, rfl, by decide +kernel, by decide +kernel⟩
theorem df_prod (A : At K mg "row_product" sProd) (T : TxtJ mg) (Drowsum : Df P w K mg base 2 "row_sum" ["one", "other"] (spSum K)) (Drowtimes : Df P w K mg base 1 "row_times" ["row", "factor"] (spTm K)) : Df P w K mg base 3 "row_product" ["one", "other"] (spProd K) := by
  obtain ⟨f, fd, hm, F⟩ := A.ex
  refine ⟨f, fd, hm, F.kp, F.binds (fun _ _ _ _ _ _ us hl => match us, hl with | [_, _], _ => rfl), F.ok scProd (fun vs H Q E h => ?_) (fun cdv A outer s H vs Q E hr h => ?_)⟩
  · obtain ⟨a, b, r, s, rfl, _⟩ := h
    rfl
  · obtain ⟨a, b, r, s', rfl, hA, hB, l1, l2, hb1, hb2, q⟩ := h
    refine ⟨_, (pss_cons (ps_if (pw_or (pt_cmpR op_eq (pe_callB call_len_seq (by rfl) T.len PySem.boot_len (pa_cons (pv 0) pa_nil)) pe_int (nomark _)) (pw_or1 (pt_cmpR op_eq (pe_callB call_len_seq (by rfl) T.len PySem.boot_len (pa_cons (pv 1) pa_nil)) pe_int (nomark _)))).pt (pss_one (ps_ret (pe_lst pa_nil))) pss_nil)
      (pss_cons (ps_set (i := 2) scProd.nd rfl (.inl rfl) (pe_lst pa_nil))
      (pss_cons (ps_for PassesOwn.never rfl (pi_tup (pe_revT (pv 0))) (pg_name (i := 3) scProd.nd rfl (.inl rfl))
      (pss_one (ps_set (i := 2) scProd.nd rfl (.inl rfl) (Drowsum.call (hr.mono (by decide)) (pa_cons (pe_lst (pa_cons pe_int (StX.pa_star (pv 2) pa_nil))) (pa_cons (Drowtimes.call (hr.mono (by decide)) (pa_cons (pv 1) (pa_cons (pv 3) pa_nil))) pa_nil))))))
      (pss_one (ps_ret (pv 2)))))), ?_⟩
    have empty : ∀ H1, Same H H1 → (r.length = 0 ∨ s'.length = 0) → ∀ l, H1 l = none → Q (.ref l) (upd H1 l (.lst [])) := fun H1 s1 h0 l hl => by
      refine q l [] _ (s1.free hl) (s1.trans (same_new hl)) upd_same (Nat.zero_le _) fun j => ?_
      rw [cf_nil]
      refine (sm_zero fun i _ => ?_).symm
      rcases h0 with h0 | h0
      · rw [cf_ge (r := r) (by omega), Int.zero_mul]
      · rw [cf_ge (r := s') (by omega), Int.mul_zero]
    refine ⟨_, rfl, a, _, rfl, .inr hA, rfl, _, rfl, ?_⟩
    rw [List.length_map, dint]
    by_cases h1 : r.length = 0
    · rw [decide_eq_true (show (r.length : Int) = 0 by omega)]
      exact iteT ⟨Nat.zero_le _, fun l hl => empty H (Same.refl H) (.inl h1) l hl⟩
    rw [decide_eq_false (show ¬ (r.length : Int) = 0 by omega)]
    refine iteF ⟨_, rfl, b, _, rfl, hB, rfl, _, rfl, ?_⟩
    rw [List.length_map, dint]
    by_cases h2 : s'.length = 0
    · rw [decide_eq_true (show (s'.length : Int) = 0 by omega)]
      exact iteT ⟨Nat.zero_le _, fun l hl => empty H (Same.refl H) (.inr h2) l hl⟩
    rw [decide_eq_false (show ¬ (s'.length : Int) = 0 by omega)]
    refine iteF ⟨Nat.zero_le _, fun l0 hl0 => ?_⟩
    have s0 := same_new (o := .lst []) hl0
    have e0 : (upd H l0 (.lst [])) l0 = some (.lst (([] : List Int).map V.int)) := upd_same
    have n0 : H l0 = none := hl0
    generalize upd H l0 (.lst []) = H0 at s0 e0 ⊢
    refine ⟨_, rfl, a, _, rfl, Same.tup s0 hA, fun p hp => ?_⟩
    rw [← List.map_reverse]
    have s1 := s0.trans (same_new (o := .tup (r.reverse.map V.int)) hp)
    have e1 := same_new (o := .tup (r.reverse.map V.int)) hp _ _ e0
    have hT : SqT K (upd H0 p (.tup (r.reverse.map V.int))) p (r.reverse.map V.int) := .inl (.inl upd_same)
    generalize upd H0 p (.tup (r.reverse.map V.int)) = H1 at s1 e1 hT ⊢
    refine ⟨p, rfl, ⟨_, hT⟩, for_tup (K := K) (a := p) (xs := r.reverse.map V.int) (fun i σ H' => Same H1 H' ∧ ∃ (l : Addr) (t : List Int) (y : Option V), H l = none ∧ H' l = some (.lst (t.map V.int)) ∧ t.length ≤ i + s'.length ∧ (∀ j, cf t j = cv (cf (r.drop (r.length - i))) (cf s') j) ∧ σ = [some (.ref a), some (.ref b), some (.ref l), y])
      ⟨Same.refl _, l0, [], none, n0, e1, Nat.zero_le _, fun j => by rw [Nat.sub_zero, List.drop_length, cf_nil, cv_nil], rfl⟩ (fun i σ H' _ h => Same.tup h.1 hT) ?_ ?_⟩
    · rintro i x σ H2 hi ⟨s2, l, t, y, nl, e2, hl2, ht, rfl⟩
      have hi2 : i < (r.reverse.map V.int).length := by
        rcases Nat.lt_or_ge i (r.reverse.map V.int).length with z | z
        · exact z
        · rw [List.getElem?_eq_none z] at hi; cases hi
      have hil : i < r.length := by rw [List.length_map, List.length_reverse] at hi2; exact hi2
      rw [List.getElem?_map] at hi
      obtain ⟨c, hc, rfl⟩ := Option.map_eq_some_iff.mp hi
      have hcm : c ∈ r := List.mem_reverse.mp (List.mem_of_getElem? hc)
      have hdr : r.drop (r.length - (i + 1)) = c :: r.drop (r.length - i) := by
        rw [List.getElem?_reverse hil] at hc
        have hk : r.length - (i + 1) < r.length := by omega
        rw [List.drop_eq_getElem_cons hk, show r.length - (i + 1) + 1 = r.length - i by omega]
        congr 1
        rw [show r.length - 1 - i = r.length - (i + 1) by omega, List.getElem?_eq_getElem hk] at hc
        exact Option.some.inj hc
      refine ⟨_, rfl, l, _, rfl, .inr (.inl (.inl e2)), ?_, fun l3 hl3 => ?_⟩
      · show ((t.map V.int) ++ []).length + 1 ≤ _
        rw [List.append_nil, List.length_map]
        exact Nat.le_trans (show _ ≤ 1000 by omega) (by decide)
      rw [List.append_nil]
      have s3 := s2.trans (same_new (o := .lst (.int 0 :: t.map V.int)) hl3)
      have e3 : (upd H2 l3 (.lst (.int 0 :: t.map V.int))) l3 = some (.lst ((0 :: t).map V.int)) := upd_same
      generalize upd H2 l3 (.lst (.int 0 :: t.map V.int)) = H3 at s3 e3 ⊢
      refine ⟨_, rfl, _, rfl, b, s', c, rfl, (hB.same s1).same s3, by omega, hb2, hb1 c hcm, fun l4 H4 n4 s4 e4 => ?_⟩
      refine ⟨l3, l4, 0 :: t, _, rfl, ⟨.inl (.inl (.inl (s4 _ _ e3))), .inl (.inl (.inl e4))⟩, by rw [List.length_cons]; omega, by rw [List.length_map]; omega, fun l5 t5 H5 n5 s5 e5 hl5 ht5 => ?_⟩
      refine ⟨(s3.trans s4).trans s5, l5, t5, _, (s1.trans (s3.trans s4)).free n5, e5, ?_, fun j => ?_, rfl⟩
      · rw [hl5, List.length_cons, List.length_map]; omega
      · rw [ht5, hdr, cv_cons, cf_map (f := fun x => x * c) (Int.zero_mul c), cf_cons, ← ht (j - 1), Int.add_comm, Int.mul_comm]
    · rintro σ H2 ⟨s2, l, t, y, nl, e2, hl2, ht, rfl⟩
      rw [List.length_map, List.length_reverse] at hl2
      rw [List.length_map, List.length_reverse, Nat.sub_self, List.drop_zero] at ht
      exact ⟨_, rfl, q l t H2 nl (s1.trans s2) e2 hl2 ht⟩
end
end Ef
set_option Elab.async false
set_option linter.all false
set_option maxRecDepth 100000
set_option maxHeartbeats 4000000
namespace Ef
open PySem PySem.Spec PyProof.Rows
theorem sm_add {n : Nat} {f g : Nat → Int} : (sm n fun i => f i + g i) = sm n f + sm n g := by
  induction n with
  | zero => rfl
  | succ n ih =>
    show (sm n fun i => f i + g i) + (f n + g n) = (sm n f + f n) + (sm n g + g n)
    rw [ih]; omega
theorem eval_cf : ∀ (r : List Int) (x : Int) (N : Nat), r.length ≤ N → evalR r x = sm N fun i => cf r i * x ^ i
  | [], x, N, _ => (sm_zero fun i _ => by rw [cf_nil, Int.zero_mul]).symm
  | c :: r, x, 0, h => absurd h (by rw [List.length_cons]; omega)
  | c :: r, x, N + 1, h => by
    rw [sm_head]
    have e : (sm N fun i => cf (c :: r) (i + 1) * x ^ (i + 1)) = sm N (fun i => cf r i * x ^ i) * x := by
      rw [sm_mul]
      refine sm_congr fun i _ => ?_
      rw [cf_cons, if_neg (by omega), Nat.add_sub_cancel, Int.pow_succ, Int.mul_assoc]
    rw [e, ← eval_cf r x N (by rw [List.length_cons] at h; omega), cf_cons, if_pos rfl, Int.pow_zero, Int.mul_one]
    show evalR r x * x + c = _
    omega
theorem eval_deg {r : List Int} {N : Nat} (hz : ∀ j, N ≤ j → cf r j = 0) (x : Int) : evalR r x = sm N fun i => cf r i * x ^ i := by
  rw [eval_cf r x (N + r.length) (by omega)]
  exact sm_ext fun i h1 _ => by rw [hz i h1, Int.zero_mul]
theorem ev_lin {t r : List Int} {c d : Int} (h : ∀ j, cf t j * c = cf r j * d) (x : Int) : evalR t x * c = evalR r x * d := by
  rw [eval_cf t x (t.length + r.length) (by omega), eval_cf r x (t.length + r.length) (by omega), sm_mul, sm_mul]
  refine sm_congr fun i _ => ?_
  rw [Int.mul_right_comm, h i, Int.mul_right_comm]
theorem ev_congr {t r : List Int} (h : ∀ j, cf t j = cf r j) (x : Int) : evalR t x = evalR r x := by
  have := ev_lin (t := t) (r := r) (c := 1) (d := 1) (fun j => by rw [h j]) x
  rw [Int.mul_one, Int.mul_one] at this
  exact this
theorem ev_add {t r s : List Int} (h : ∀ j, cf t j = cf r j + cf s j) (x : Int) : evalR t x = evalR r x + evalR s x := by
  rw [eval_cf t x (t.length + r.length + s.length) (by omega), eval_cf r x (t.length + r.length + s.length) (by omega), eval_cf s x (t.length + r.length + s.length) (by omega), ← sm_add]
  refine sm_congr fun i _ => ?_
  rw [h i, Int.add_mul]
theorem ev_by {t r : List Int} {c : Int} (h : ∀ j, cf t j = cf r j * c) (x : Int) : evalR t x = evalR r x * c := by
  have := ev_lin (t := t) (r := r) (c := 1) (d := c) (fun j => by rw [h j, Int.mul_one]) x
  rwa [Int.mul_one] at this
theorem two_cv (a b : Int) (g : Nat → Int) (j : Nat) : cv (cf [a, b]) g j = a * g j + if j = 0 then 0 else b * g (j - 1) := by
  rw [cv_cons]
  by_cases h : j = 0
  · rw [if_pos h, if_pos h]
  · rw [if_neg h, if_neg h, cv_cons, cv_nil]
    by_cases h2 : j - 1 = 0
    · rw [if_pos h2]; omega
    · rw [if_neg h2]; omega
theorem ev_two {t s : List Int} {a b : Int} (h : ∀ j, cf t j = cv (cf [a, b]) (cf s) j) (x : Int) : evalR t x = (a + b * x) * evalR s x := by
  have e := ev_add (t := t) (r := s.map fun c => c * a) (s := 0 :: s.map fun c => c * b) (fun j => by
    rw [h j, two_cv, cf_map (Int.zero_mul a), cf_cons, Int.mul_comm]
    by_cases hj : j = 0
    · rw [if_pos hj, if_pos hj]
    · rw [if_neg hj, if_neg hj, cf_map (Int.zero_mul b), Int.mul_comm b]) x
  rw [e, ev_by (t := s.map fun c => c * a) (r := s) (c := a) (fun j => cf_map (Int.zero_mul a) j) x]
  show _ + (evalR (s.map fun c => c * b) x * x + 0) = _
  rw [ev_by (t := s.map fun c => c * b) (r := s) (c := b) (fun j => cf_map (Int.zero_mul b) j) x, Int.add_mul, Int.mul_comm a, Int.mul_assoc (evalR s x), Int.mul_comm (evalR s x) (b * x)]
  omega
def mkL (f : Nat → Int) (n : Nat) : List Int := (List.range n).map f
theorem mkL_len (f : Nat → Int) (n : Nat) : (mkL f n).length = n := by unfold mkL; rw [List.length_map, List.length_range]
theorem cf_mkL (f : Nat → Int) (n j : Nat) : cf (mkL f n) j = if j < n then f j else 0 := by
  by_cases h : j < n
  · rw [if_pos h]
    exact cf_of (by unfold mkL; rw [List.getElem?_map, List.getElem?_range h]; rfl)
  · rw [if_neg h]
    exact cf_ge (by rw [mkL_len]; omega)
/-! ### stretched -/
def stF (r m : Int) : List Int → Nat → Int
  | [] => fun _ => 0
  | c :: s => fun j => cv (cf [r, m]) (stF r m s) j + cf [c] j
theorem cf_one (c : Int) (j : Nat) : cf [c] j = if j = 0 then c else 0 := by
  rw [cf_cons, cf_nil]
theorem stF_cons (r m c : Int) (s : List Int) (j : Nat) : stF r m (c :: s) j = (r * stF r m s j + if j = 0 then 0 else m * stF r m s (j - 1)) + if j = 0 then c else 0 := by
  show cv (cf [r, m]) (stF r m s) j + cf [c] j = _
  rw [two_cv, cf_one]
theorem stF_zero (r m : Int) : ∀ (s : List Int) (j : Nat), s.length ≤ j → stF r m s j = 0
  | [], _, _ => rfl
  | c :: s, j, h => by
    rw [List.length_cons] at h
    rw [stF_cons, if_neg (by omega), if_neg (by omega), stF_zero r m s j (by omega), stF_zero r m s (j - 1) (by omega), Int.mul_zero, Int.mul_zero]; rfl
theorem stF_id : ∀ (s : List Int) (j : Nat), stF 0 1 s j = cf s j
  | [], j => (cf_nil j).symm
  | c :: s, j => by
    rw [stF_cons, cf_cons]
    by_cases h : j = 0
    · rw [if_pos h, if_pos h, if_pos h]; omega
    · rw [if_neg h, if_neg h, if_neg h, stF_id s (j - 1)]; omega
theorem stF_ev (r m x : Int) : ∀ (s t : List Int), (∀ j, cf t j = stF r m s j) → evalR t x = evalR s (m * x + r)
  | [], t, h => by
    rw [ev_congr (r := []) (fun j => by rw [h j, cf_nil]; rfl) x]; rfl
  | c :: s, t, h => by
    have hs : ∀ j, cf (mkL (stF r m s) s.length) j = stF r m s j := fun j => by
      rw [cf_mkL]
      by_cases hj : j < s.length
      · rw [if_pos hj]
      · rw [if_neg hj, stF_zero r m s j (by omega)]
    have hp : ∀ j, cf (mulL [r, m] (mkL (stF r m s) s.length)) j = cv (cf [r, m]) (cf (mkL (stF r m s) s.length)) j := cf_mulL _ _
    rw [ev_add (r := mulL [r, m] (mkL (stF r m s) s.length)) (s := [c]) (fun j => by
      rw [h j, hp j]
      show cv (cf [r, m]) (stF r m s) j + cf [c] j = _
      rw [cv_congr (fun _ => rfl) (fun i => (hs i).symm) j]) x, ev_two hp x, stF_ev r m x s _ hs]
    show (r + m * x) * evalR s (m * x + r) + (0 * x + c) = evalR s (m * x + r) * (m * x + r) + c
    rw [Int.mul_comm, Int.add_comm r, Int.zero_mul, Int.zero_add]
theorem Bd.add' {a w : Nat} {x y : Int} (hx : Bd a x) (hy : Bd a y) (h : a + 1 ≤ w) : Bd w (x + y) := by
  unfold Bd at *
  have h1 := Int.natAbs_add_le x y
  have h2 : 2 ^ (a + 1) ≤ 2 ^ w := Nat.pow_le_pow_right (by decide) h
  rw [Nat.pow_succ] at h2
  omega
/-- a number times one, a number times the other, and one more -/
theorem bd_step {a b : Nat} {x y z p q : Int} (hx : Bd a x) (hp : Bd b p) (hy : Bd a y) (hq : Bd b q) (hz : Bd (a + b + 1) z) : Bd (a + b + 2) (x * p + y * q + z) :=
  ((hx.mul hp (Nat.le_refl _)).add' (hy.mul hq (Nat.le_refl _)) (Nat.le_refl _)).add' hz (Nat.le_refl _)
theorem stF_bd {r m : Int} {a b : Nat} (hr : Bd a r) (hm : Bd a m) : ∀ (s : List Int), (∀ c ∈ s, Bd b c) → ∀ j, Bd (b + (a + 2) * s.length) (stF r m s j)
  | [], _, j => Bd.zero _
  | c :: s, h, j => by
    have ih := stF_bd hr hm s fun c hc => h c (List.mem_cons_of_mem _ hc)
    rw [stF_cons, List.length_cons]
    have e : b + (a + 2) * (s.length + 1) = a + (b + (a + 2) * s.length) + 2 := by rw [Nat.mul_succ]; omega
    rw [e]
    have hc : Bd (a + (b + (a + 2) * s.length) + 1) c := (h c (List.mem_cons_self ..)).up (by omega)
    by_cases hj : j = 0
    · rw [if_pos hj, if_pos hj]
      have := bd_step hr (ih j) hm (Bd.zero _) hc
      rwa [Int.mul_zero] at this
    · rw [if_neg hj, if_neg hj]
      exact bd_step hr (ih j) hm (ih (j - 1)) (Bd.zero _)
/-! ### led through values: Newton -/
def dl : Nat → (Nat → Int) → Nat → Int
  | 0, f => f
  | i + 1, f => fun j => dl i f (j + 1) - dl i f j
theorem dl_in : ∀ (i : Nat) (f : Nat → Int) (j : Nat), dl (i + 1) f j = dl i (dl 1 f) j
  | 0, _, _ => rfl
  | i + 1, f, j => by
    show dl (i + 1) f (j + 1) - dl (i + 1) f j = dl i (dl 1 f) (j + 1) - dl i (dl 1 f) j
    rw [dl_in i f (j + 1), dl_in i f j]
theorem dl_zero {f : Nat → Int} {n L : Nat} (h : ∀ j, L + j < n → dl L f j = 0) : ∀ d j, L + d + j < n → dl (L + d) f j = 0
  | 0, j, hj => h j hj
  | d + 1, j, hj => by
    show dl (L + d) f (j + 1) - dl (L + d) f j = 0
    rw [dl_zero h d (j + 1) (by omega), dl_zero h d j (by omega)]; rfl
def ch : Nat → Nat → Int
  | _, 0 => 1
  | 0, _ + 1 => 0
  | n + 1, k + 1 => ch n k + ch n (k + 1)
theorem ch_z (n : Nat) : ch n 0 = 1 := by cases n <;> rfl
theorem ch_big : ∀ n k : Nat, n < k → ch n k = 0
  | _, 0, h => absurd h (Nat.not_lt_zero _)
  | 0, _ + 1, _ => rfl
  | n + 1, k + 1, h => by
    show ch n k + ch n (k + 1) = 0
    rw [ch_big n k (by omega), ch_big n (k + 1) (by omega)]; rfl
theorem ch_step : ∀ n k : Nat, ((k : Int) + 1) * ch n (k + 1) = ((n : Int) - k) * ch n k
  | 0, 0 => rfl
  | 0, k + 1 => by show _ * (0 : Int) = _ * (0 : Int); rw [Int.mul_zero, Int.mul_zero]
  | n + 1, 0 => by
    have := ch_step n 0
    show (((0 : Nat) : Int) + 1) * (ch n 0 + ch n 1) = (((n + 1 : Nat) : Int) - ((0 : Nat) : Int)) * (1 : Int)
    rw [ch_z] at this ⊢
    have e : ch n (0 + 1) = ch n 1 := rfl
    rw [e] at this
    generalize ch n 1 = a at *
    omega
  | n + 1, k + 1 => by
    have h1 := ch_step n (k + 1)
    have h2 := ch_step n k
    show _ * (ch n (k + 1) + ch n (k + 2)) = _ * (ch n k + ch n (k + 1))
    have e1 : ((k + 1 : Nat) : Int) = (k : Int) + 1 := rfl
    have e2 : ((n + 1 : Nat) : Int) = (n : Int) + 1 := rfl
    rw [e1] at h1 ⊢
    rw [e2]
    generalize ch n (k + 1) = b at *
    generalize ch n (k + 2) = c at *
    generalize ch n k = a at *
    grind
theorem newton : ∀ (j : Nat) (f : Nat → Int), f j = sm (j + 1) fun i => dl i f 0 * ch j i
  | 0, f => by show f 0 = 0 + f 0 * 1; omega
  | j + 1, f => by
    have h1 := newton j f
    have h2 := newton j (dl 1 f)
    have e0 : f (j + 1) = f j + dl 1 f j := by show _ = f j + (f (j + 1) - f j); omega
    have e1 : (sm (j + 1) fun i => dl i f 0 * ch j i) = dl 0 f 0 * ch j 0 + sm (j + 1) fun i => dl (i + 1) f 0 * ch j (i + 1) := by
      rw [← sm_head (n := j + 1) (h := fun i => dl i f 0 * ch j i)]
      show _ = (sm (j + 1) fun i => dl i f 0 * ch j i) + dl (j + 1) f 0 * ch j (j + 1)
      rw [ch_big j (j + 1) (by omega), Int.mul_zero]; omega
    rw [e0, h1, h2, e1, sm_head (n := j + 1), ch_z, ch_z, Int.add_assoc, ← sm_add]
    refine congrArg _ (sm_congr fun i _ => ?_)
    rw [← dl_in i f 0]
    show dl (i + 1) f 0 * ch j (i + 1) + dl (i + 1) f 0 * ch j i = dl (i + 1) f 0 * (ch j i + ch j (i + 1))
    rw [Int.mul_add]; omega
theorem newton_cut {f : Nat → Int} {n L : Nat} (hz : ∀ j, L + j < n → dl L f j = 0) {j : Nat} (hj : j < n) : f j = sm L fun i => dl i f 0 * ch j i := by
  rw [newton j f]
  rcases Nat.le_total (j + 1) L with h | h
  · obtain ⟨d, rfl⟩ := Nat.exists_eq_add_of_le h
    exact (sm_ext fun i h1 _ => by rw [ch_big j i (by omega), Int.mul_zero]).symm
  · obtain ⟨d, hd⟩ := Nat.exists_eq_add_of_le h
    rw [hd]
    refine sm_ext fun i h1 h2 => ?_
    obtain ⟨e, rfl⟩ := Nat.exists_eq_add_of_le h1
    rw [dl_zero hz e 0 (by omega), Int.zero_mul]
/-- what holds when the members from k on are taken in -/
def Nw (f : Nat → Int) (p : Int) (L k : Nat) (t : List Int) (U : Int) : Prop :=
  (∀ j : Nat, ((max k 1 : Nat) : Int) * ch j k * evalR t (p + (j : Int)) = U * (sm L (fun i => dl i f 0 * ch j i) - sm k fun i => dl i f 0 * ch j i)) ∧ ∀ j, L - k ≤ j → cf t j = 0
theorem nw_start (f : Nat → Int) (p : Int) (L : Nat) : Nw f p L L [] 1 := ⟨fun j => by show _ * (0 : Int) = _; rw [Int.mul_zero]; omega, fun j _ => cf_nil j⟩
theorem nw_step {f : Nat → Int} {p U : Int} {L k : Nat} {t t2 : List Int} (h : Nw f p L (k + 1) t U) (hk : k < L) (e : ∀ j, cf t2 j = cv (cf [-p - (k : Int), 1]) (cf t) j + cf [dl k f 0 * U] j) : Nw f p L k t2 (U * ((max k 1 : Nat) : Int)) := by
  refine ⟨fun j => ?_, fun j hj => ?_⟩
  · have h1 := h.1 j
    have h2 := ch_step j k
    have ev : evalR t2 (p + (j : Int)) = ((-p - (k : Int)) + 1 * (p + (j : Int))) * evalR t (p + (j : Int)) + dl k f 0 * U := by
      rw [ev_add (r := mulL [-p - (k : Int), 1] t) (s := [dl k f 0 * U]) (fun i => by rw [e i, cf_mulL]) _, ev_two (fun i => cf_mulL _ _ i)]
      show _ + (0 * _ + dl k f 0 * U) = _
      rw [Int.zero_mul, Int.zero_add]
    have es : (sm (k + 1) fun i => dl i f 0 * ch j i) = (sm k fun i => dl i f 0 * ch j i) + dl k f 0 * ch j k := rfl
    have em : ((max (k + 1) 1 : Nat) : Int) = (k : Int) + 1 := by omega
    rw [es, em] at h1
    rw [ev]
    generalize (sm L fun i => dl i f 0 * ch j i) = S at *
    generalize (sm k fun i => dl i f 0 * ch j i) = s at *
    generalize evalR t (p + (j : Int)) = E at *
    generalize ch j (k + 1) = c1 at *
    generalize ch j k = c0 at *
    generalize dl k f 0 = g at *
    generalize ((max k 1 : Nat) : Int) = mm at *
    generalize (k : Int) = kk at *
    generalize (j : Int) = jj at *
    have a1 : (-p - kk) + 1 * (p + jj) = jj - kk := by omega
    rw [a1]
    rw [h2] at h1
    grind
  · rw [e j, two_cv, cf_one, h.2 j (by omega), if_neg (show ¬ j = 0 by omega), if_neg (show ¬ j = 0 by omega), h.2 (j - 1) (by omega)]; omega
theorem nw_end {f : Nat → Int} {p U : Int} {L n : Nat} {t : List Int} (h : Nw f p L 0 t U) (hz : ∀ j, L + j < n → dl L f j = 0) {j : Nat} (hj : j < n) : evalR t (p + (j : Int)) = U * f j := by
  have h1 := h.1 j
  rw [← newton_cut hz hj, ch_z] at h1
  have e : ((max 0 1 : Nat) : Int) = 1 := rfl
  rw [e, Int.one_mul, Int.one_mul] at h1
  rw [h1]
  show U * (f j - 0) = _
  rw [Int.sub_zero]
/-! ### squares -/
theorem three_zero {D : List Int} (hz : ∀ j, 3 ≤ j → cf D j = 0) {s : Int} (e0 : evalR D s = 0) (e1 : evalR D (s + 1) = 0) (e2 : evalR D (s + 2) = 0) (j : Nat) : cf D j = 0 := by
  rw [eval_deg hz] at e0 e1 e2
  have k : ∀ x : Int, (sm 3 fun i => cf D i * x ^ i) = cf D 0 + cf D 1 * x + cf D 2 * (x * x) := fun x => by
    show ((0 + cf D 0 * x ^ 0) + cf D 1 * x ^ 1) + cf D 2 * x ^ 2 = _
    rw [Int.pow_zero, Int.pow_succ, Int.pow_zero, Int.pow_succ, Int.pow_succ, Int.pow_zero]
    simp only [Int.one_mul, Int.mul_one, Int.zero_add]
  rw [k] at e0 e1 e2
  have a2 : cf D 2 = 0 := by grind
  have a1 : cf D 1 = 0 := by grind
  have a0 : cf D 0 = 0 := by grind
  match j with
  | 0 => exact a0
  | 1 => exact a1
  | 2 => exact a2
  | j + 3 => exact hz _ (by omega)
/-- the squares of a line, times a number -/
theorem sq_third {f : Nat → Int} {n : Nat} {u s : Int} (h : ∀ j, j < n → f j = u * ((s + (j : Int)) * (s + (j : Int)))) : ∀ j, 3 + j < n → dl 3 f j = 0 := fun j hj => by
  show (f (j + 3) - f (j + 2) - (f (j + 2) - f (j + 1))) - (f (j + 2) - f (j + 1) - (f (j + 1) - f j)) = 0
  rw [h (j + 3) (by omega), h (j + 2) (by omega), h (j + 1) (by omega), h j (by omega)]
  have e1 : ((j + 1 : Nat) : Int) = (j : Int) + 1 := rfl
  have e2 : ((j + 2 : Nat) : Int) = (j : Int) + 2 := rfl
  have e3 : ((j + 3 : Nat) : Int) = (j : Int) + 3 := rfl
  rw [e1, e2, e3]
  grind
theorem sq_cf {t : List Int} {U u p l : Int} (hz : ∀ j, 3 ≤ j → cf t j = 0) (h : ∀ j : Nat, j < 3 → evalR t (p + (j : Int)) = U * (u * ((p + l + (j : Int)) * (p + l + (j : Int))))) (j : Nat) : cf t j = cf [u * l * l, 2 * u * l, u] j * U := by
  have k : ∀ x : Int, evalR [u * l * l, 2 * u * l, u] x = u * ((x + l) * (x + l)) := fun x => by
    show ((0 * x + u) * x + 2 * u * l) * x + u * l * l = _
    grind
  have hD : ∀ j, cf (mkL (fun j => cf t j + cf [u * l * l, 2 * u * l, u] j * (-U)) (t.length + 3)) j = cf t j + cf [u * l * l, 2 * u * l, u] j * (-U) := fun j => by
    rw [cf_mkL]
    by_cases hj : j < t.length + 3
    · rw [if_pos hj]
    · rw [if_neg hj, cf_ge (r := t) (by omega), cf_ge (r := [u * l * l, 2 * u * l, u]) (by show 3 ≤ j; omega), Int.zero_mul]; rfl
  have ev : ∀ x, evalR (mkL (fun j => cf t j + cf [u * l * l, 2 * u * l, u] j * (-U)) (t.length + 3)) x = evalR t x + evalR [u * l * l, 2 * u * l, u] x * (-U) := fun x => by
    have em : ∀ j, cf ([u * l * l, 2 * u * l, u].map fun c => c * (-U)) j = cf [u * l * l, 2 * u * l, u] j * (-U) := fun j => cf_map (f := fun c => c * (-U)) (Int.zero_mul _) j
    rw [ev_add (r := t) (s := [u * l * l, 2 * u * l, u].map fun c => c * (-U)) (fun j => by rw [hD j, em j]) x, ev_by em x]
  have z := three_zero (D := mkL (fun j => cf t j + cf [u * l * l, 2 * u * l, u] j * (-U)) (t.length + 3)) (s := p) (fun j hj => by rw [hD j, hz j hj, cf_ge (r := [u * l * l, 2 * u * l, u]) hj, Int.zero_mul]; rfl)
    (by rw [ev, k]; have := h 0 (by decide); rw [show p + ((0 : Nat) : Int) = p by omega] at this; rw [this]; grind)
    (by rw [ev, k]; have := h 1 (by decide); rw [show p + ((1 : Nat) : Int) = p + 1 by omega] at this; rw [this]; grind)
    (by rw [ev, k]; have := h 2 (by decide); rw [show p + ((2 : Nat) : Int) = p + 2 by omega] at this; rw [this]; grind) j
  rw [hD j, Int.mul_neg] at z
  omega
end Ef
set_option Elab.async false
set_option linter.all false
set_option maxRecDepth 100000
set_option maxHeartbeats 4000000
/-! any of a list of whole numbers -/
namespace Ef
open PySem PySem.Spec PyProof.Rows L2
theorem ints_get : ∀ {us : List Value} {ns : List Int}, IntsAre us ns → ∀ {i : Nat} {v : Value}, us[i]? = some v → ∃ t, v = .int (ns.getD i 0) t
  | _, _, .nil, i, v, h => by cases h
  | _, _, .cons n t k, 0, v, h => ⟨t, (Option.some.inj h).symm⟩
  | _, _, .cons n t k, i + 1, v, h => ints_get k (i := i) h
theorem truth_ints {prog : Program} {w : World} {A : Around} {ns : List Int} {its : List Value} (e : IntsAre its ns) :
    TruthOf prog w A (fun i v => its.toArray[i]? = some v) (fun i => (ns.getD i 0 != 0)) := fun i v s Q E hv hq => by
  have hv' : its[i]? = some v := by simpa using hv
  obtain ⟨t, rfl⟩ := ints_get e hv'
  exact PySem.P.truthy_int hq
theorem any_rangeI : ∀ ns : List Int, (List.range ns.length).any (fun i => (ns.getD i 0 != 0)) = ns.any (fun n => n != 0)
  | [] => rfl
  | b :: bs => by
    rw [List.length_cons, List.range_succ_eq_map, List.any_cons, List.any_map, List.any_cons, ← any_rangeI bs]
    all_goals rfl
section
variable {X : Cx}
def rAnyI (K : PySem.W.Frag) : List V → Hp → VK → Prop := fun vs H Q => ∃ (a : Addr) (ns : List Int), vs = [V.ref a] ∧ SqL K H a (ns.map V.int) ∧ Q (.bl (ns.any fun n => n != 0)) H
theorem cr_anyI (hc : X.calm = true) : CallR X (.builtin "any") (rAnyI X.K) := by
  intro pins s σ H vs us Q I r h
  obtain ⟨a, ns, rfl, hs, q⟩ := h
  obtain ⟨its, rv, hl, _⟩ := I.list hs
  rw [Vals.ref1 r]
  have hb := rv.ints
  refine call_any_walk (iter_any hl.isList fun s₂ e2 st hne => ?_)
  subst e2
  refine ⟨_, _, _, _, _, _, _, rfl, Walks.list (A := X.A.in1) (I.ok.hd hc) _ a hne its.toArray, st, truth_ints hb, fun h' tk hk => ?_⟩
  refine ⟨.bl _, H, I.kept fun b o eo => hk b o (fun hmem => ?_) (Heap.get?_push_of_some _ eo), ?_, q⟩
  · rcases List.mem_cons.mp hmem with e1 | hmem
    · exact absurd (e1 ▸ Heap.lt_size eo) (Nat.lt_irrefl _)
    · cases hmem
  · show Value.bool _ = Value.bool _
    rw [← any_rangeI, List.size_toArray]
    have e : its.length = ns.length := by
      have := rv.length
      rw [List.length_map] at this
      exact this.symm
    rw [e]
end
end Ef
set_option Elab.async false
set_option linter.all false
set_option maxRecDepth 100000
set_option maxHeartbeats 4000000
namespace Ef
open PySem PySem.Spec PyProof.Rows L2
abbrev sVal : Stmt := top 13
abbrev sUp : Stmt := top 36
abbrev sFar : Stmt := top 38
abbrev sStr : Stmt := top 20
abbrev sThr : Stmt := top 21
section
variable {P : Program} {w : World} {K : PySem.W.Frag} {mg : Str → Option Value} {base : Heap}
theorem eval_drop_succ' (n : Int) {r : List Int} {i : Nat} {c : Int} (h : r.reverse[i]? = some c) : r.drop (r.length - (i + 1)) = c :: r.drop (r.length - i) := by
  have hil : i < r.length := by
    rcases Nat.lt_or_ge i r.length with z | z
    · exact z
    · rw [List.getElem?_eq_none (by rw [List.length_reverse]; exact z)] at h; cases h
  rw [List.getElem?_reverse hil] at h
  have hk : r.length - (i + 1) < r.length := by omega
  rw [List.drop_eq_getElem_cons hk, show r.length - (i + 1) + 1 = r.length - i by omega]
  congr 1
  rw [show r.length - 1 - i = r.length - (i + 1) by omega, List.getElem?_eq_getElem hk] at h
  exact Option.some.inj h
theorem eval_drop_succ {r : List Int} {i : Nat} {c : Int} (n : Int) (hi : r.reverse[i]? = some c) : evalR (r.drop (r.length - (i + 1))) n = evalR (r.drop (r.length - i)) n * n + c := by rw [eval_drop_succ' n hi]; rfl
/-! ### value_at -/
def spVal (K : PySem.W.Frag) : Sp := fun vs H Q _ => ∃ (a : Addr) (r : List Int) (n : Int), vs = [.ref a, .int n] ∧ SqT K H a (r.map V.int) ∧ r.length ≤ 100 ∧ (∀ c ∈ r, Bd 3000 c) ∧ Bd 3000 n ∧ ∀ H', Same H H' → Q (.int (evalR r n)) H'
theorem scVal : FnScope ["row", "n", "total", "number"] ["row", "n"] (defScope sVal) := ⟨rfl, rfl, rfl, by decide +kernel, rfl, by decide +kernel, by decide +kernel⟩
theorem df_val (A : At K mg "value_at" sVal) : Df P w K mg base 1 "value_at" ["row", "n"] (spVal K) := by
  obtain ⟨f, fd, hm, F⟩ := A.ex
  refine ⟨f, fd, hm, F.kp, F.binds (fun _ _ _ _ _ _ us hl => match us, hl with | [_, _], _ => rfl), F.ok scVal (fun vs H Q E h => ?_) (fun cdv A outer s H vs Q E hr h => ?_)⟩
  · obtain ⟨a, r, n, rfl, _⟩ := h
    rfl
  · obtain ⟨a, r, n, rfl, hS, hl, hc, hn, q⟩ := h
    refine ⟨_, (pss_cons (ps_set (i := 2) scVal.nd rfl (.inl rfl) pe_int)
      (pss_cons (ps_for PassesOwn.never rfl (pi_tup (pe_revT (pv 0))) (pg_name (i := 3) scVal.nd rfl (.inl rfl))
      (pss_one (ps_set (i := 2) scVal.nd rfl (.inl rfl) (pe_op op_add (pe_op op_mulW (pv 2) (pv 1)) (pv 3)))))
      (pss_one (ps_ret (pv 2))))), ?_⟩
    refine ⟨_, rfl, a, _, rfl, hS, fun p hp => ?_⟩
    have hT : SqT K (upd H p (.tup (r.map V.int).reverse)) p (r.reverse.map V.int) := .inl (.inl (by rw [upd_same, List.map_reverse]))
    have s1 := same_new (o := .tup (r.map V.int).reverse) hp
    generalize upd H p (.tup (r.map V.int).reverse) = H1 at hT s1 ⊢
    refine ⟨p, rfl, ⟨_, hT⟩, for_tup (K := K) (a := p) (xs := r.reverse.map V.int) (fun i σ H' => H' = H1 ∧ ∃ y : Option V, σ = [some (.ref a), some (.int n), some (.int (evalR (r.drop (r.length - i)) n)), y])
      ⟨rfl, none, by rw [Nat.sub_zero, List.drop_length]; rfl⟩ (fun i σ H' _ ⟨e, _⟩ => e ▸ hT) ?_ ?_⟩
    · rintro i x σ H' hi ⟨rfl, y, rfl⟩
      rw [List.getElem?_map] at hi
      obtain ⟨c, hc2, rfl⟩ := Option.map_eq_some_iff.mp hi
      refine ⟨_, rfl, _, rfl, _, _, rfl, rfl, wide_mul (a := 3001 * 100) (b := 3000) ((bd_eval hn _ fun c hc' => hc c (List.mem_of_mem_drop hc')).up (Nat.mul_le_mul (Nat.le_refl _) (by rw [List.length_drop]; omega))) hn (by decide) (by decide) (by decide), _, rfl, _, _, rfl, rfl, rfl, _, by rw [eval_drop_succ n hc2]; rfl⟩
    · rintro σ H' ⟨rfl, y, rfl⟩
      rw [List.length_map, List.length_reverse, Nat.sub_self, List.drop_zero]
      exact ⟨_, rfl, q _ s1⟩
/-! ### _law_upper -/
def spUp (K : PySem.W.Frag) : Sp := fun vs H Q _ => ∃ (a : Addr) (r : List Int) (n : Int), vs = [.ref a, .int n] ∧ Seqs K H a (r.map V.int) ∧ r.length ≤ 100 ∧ (∀ c ∈ r, Bd 3000 c) ∧ Bd 3000 n ∧ ∀ H', Same H H' → Q (.int (evalR r n)) H'
theorem scUp : FnScope ["row", "n", "found", "entry"] ["row", "n"] (defScope sUp) := ⟨rfl, rfl, rfl, by decide +kernel, rfl, by decide +kernel, by decide +kernel⟩
theorem df_up (A : At K mg "_law_upper" sUp) (T : TxtJ mg) : Df P w K mg base 1 "_law_upper" ["row", "n"] (spUp K) := by
  obtain ⟨f, fd, hm, F⟩ := A.ex
  refine ⟨f, fd, hm, F.kp, F.binds (fun _ _ _ _ _ _ us hl => match us, hl with | [_, _], _ => rfl), F.ok scUp (fun vs H Q E h => ?_) (fun cdv A outer s H vs Q E hr h => ?_)⟩
  · obtain ⟨a, r, n, rfl, _⟩ := h
    rfl
  · obtain ⟨a, r, n, rfl, hS, hl, hc, hn, q⟩ := h
    refine ⟨_, (pss_cons (ps_set (i := 2) scUp.nd rfl (.inl rfl) pe_int)
      (pss_cons (ps_for PassesOwn.never rfl (pi_reversed (by rfl) T.reversed (pa_cons (pe_callTy call_list_of (by rfl) T.list (by decide +kernel) (pa_cons (pv 0) pa_nil)) pa_nil)) (pg_name (i := 3) scUp.nd rfl (.inl rfl))
      (pss_one (ps_set (i := 2) scUp.nd rfl (.inl rfl) (pe_op op_add (pe_op op_mulW (pv 2) (pv 1)) (pv 3)))))
      (pss_one (ps_ret (pv 2))))), ?_⟩
    refine ⟨_, rfl, a, _, rfl, hS, fun p hp => ?_⟩
    have hT : (upd H p (.lst (r.map V.int))) p = some (.lst (r.map V.int)) := upd_same
    have s1 := same_new (o := .lst (r.map V.int)) hp
    generalize upd H p (.lst (r.map V.int)) = H1 at hT s1 ⊢
    refine ⟨p, _, rfl, .inl (.inl hT), fun i m σ H' => H' = H1 ∧ i + m = r.length ∧ ∃ y : Option V, σ = [some (.ref a), some (.int n), some (.int (evalR (r.drop (r.length - i)) n)), y], ⟨r.length, rfl, by omega, none, by rw [Nat.sub_zero, List.drop_length]; rfl⟩, fun i m σ H' hW => ?_⟩
    obtain ⟨rfl, em, y, rfl⟩ := hW
    rw [List.length_map]
    by_cases hi : i < r.length
    · obtain ⟨c, hc2, g1⟩ := get_int (r := r) (k := r.length - 1 - i) (by omega)
      have hrev : r.reverse[i]? = some c := by rw [List.getElem?_reverse hi]; exact hc2
      refine .inr ⟨⟨hi, _, _, .inl (.inl hT), g1⟩, fun σ H2 => H2 = H' ∧ ∃ y : Option V, σ = [some (.ref a), some (.int n), some (.int (evalR (r.drop (r.length - (i + 1))) n)), y], fun σ' H2 ⟨e1, e2⟩ => ⟨m - 1, by omega, e1, by omega, e2⟩, fun x H2 hy => ?_⟩
      obtain ⟨rfl, hx⟩ := hy
      have ex := Option.some.inj ((hx _ (.inl (.inl hT))).symm.trans g1)
      subst ex
      refine ⟨_, rfl, _, rfl, _, _, rfl, rfl, wide_mul (a := 3001 * 100) (b := 3000) ((bd_eval hn _ fun c hc' => hc c (List.mem_of_mem_drop hc')).up (Nat.mul_le_mul (Nat.le_refl _) (by rw [List.length_drop]; omega))) hn (by decide) (by decide) (by decide), _, rfl, _, _, rfl, rfl, rfl, _, by rw [eval_drop_succ n hrev]; rfl⟩
    · refine .inl ⟨by show r.length ≤ i; omega, ?_⟩
      have e : i = r.length := by omega
      subst e
      rw [Nat.sub_self, List.drop_zero]
      exact ⟨_, rfl, q _ s1⟩
def spFar : Sp := spEntry
theorem scFar : FnScope ["pen", "some"] ["pen"] (defScope sFar) := ⟨rfl, rfl, rfl, by decide +kernel, rfl, by decide +kernel, by decide +kernel⟩
theorem df_far (A : At K mg "_law_far" sFar) (Ddraw : Df P w K mg base 1 "_law_draw" ["pen", "many"] spDraw) (Dpick : Df P w K mg base 2 "_law_pick" ["pen", "some"] (spPick K)) : Df P w K mg base 3 "_law_far" ["pen"] spFar := by
  obtain ⟨f, fd, hm, F⟩ := A.ex
  refine ⟨f, fd, hm, F.kp, F.binds (fun _ _ _ _ _ _ us hl => match us, hl with | [_], _ => rfl), F.ok scFar (fun vs H Q E h => ?_) (fun cdv A outer s H vs Q E hr h => ?_)⟩
  · obtain ⟨p, l, ns, a, b, rfl, _⟩ := h
    rfl
  · obtain ⟨p, l, ns, a, b, rfl, hP, ha, q⟩ := h
    refine ⟨_, (pss_cons (ps_set (i := 1) scFar.nd rfl (.inl rfl) (pe_lst (pa_cons (pe_op op_add (pe_op op_pow pe_int pe_int) pe_int) (pa_cons (pe_un un_neg (pe_op op_pow pe_int pe_int)) (pa_cons (pe_op op_pow pe_int pe_int) (pa_cons (pe_un un_neg pe_int) (pa_cons pe_int (pa_cons (pe_op op_pow pe_int pe_int) pa_nil))))))))
      (pss_one (ps_ret (pe_op op_sub (pe_op op_add (Dpick.call (hr.mono (by decide)) (pa_cons (pv 0) (pa_cons (pv 1) pa_nil))) (Ddraw.call (hr.mono (by decide)) (pa_cons (pv 0) (pa_cons pe_int pa_nil)))) pe_int)))), ?_⟩
    refine ⟨_, _, rfl, rfl, ⟨by decide, by decide, by decide⟩, _, _, rfl, rfl, ?_⟩
    refine ⟨_, _, rfl, rfl, ⟨by decide, by decide, by decide⟩, _, rfl, ?_⟩
    refine ⟨_, _, rfl, rfl, ⟨by decide, by decide, by decide⟩, _, rfl, ?_⟩
    refine ⟨_, _, rfl, rfl, ⟨by decide, by decide, by decide⟩, ?_⟩
    refine ⟨by show 6 ≤ sizeLine; decide, fun t ht => ?_⟩
    refine ⟨_, rfl, _, rfl, p, l, t, ns, a, b, _, rfl, hP.newlst ht, by omega, .inl (.inl upd_same), fun z => ?_, by show 1 ≤ 6; decide, by show 6 ≤ 100000; decide, ?_⟩
    · rw [z, hP.hd] at ht; cases ht
    · intro j v a2 b2 H2 hj ha2 hP2 hK2
      have hx : ∃ x : Int, v = .int x ∧ Bd 200 x := by
        have hm := List.mem_of_getElem? hj
        simp only [List.mem_cons, List.not_mem_nil, or_false] at hm
        rcases hm with rfl | rfl | rfl | rfl | rfl | rfl
        all_goals exact ⟨_, rfl, by unfold Bd; decide +kernel⟩
      obtain ⟨x, rfl, hx⟩ := hx
      refine ⟨_, rfl, p, l, ns, a2, b2, _, rfl, hP2, by omega, by decide, by decide, fun d3 a3 b3 H3 d30 d31 ha3 hP3 hK3 => ?_⟩
      refine ⟨_, _, rfl, rfl, _, _, rfl, rfl, ?_⟩
      have e : x + d3 - 10 = x + (d3 - 10) := by omega
      exact q _ _ _ _ (e ▸ Bd.add hx (bd_small (b := 20) (by omega) (by omega) (by decide)) (by decide) (by decide)) (by omega) hP3 ((Kp.new _ ht).trans (hK2.trans hK3))
/-! ### row_stretched -/
theorem at_pos {r : List Int} {i : Nat} (h : i < r.length) : atI (r.map V.int) (i : Int) = some (.int (cf r i)) := by
  rw [cf_lt h]
  exact atI_of rfl (by rw [List.getElem?_map, List.getElem?_eq_getElem h]; rfl)
def spStr (K : PySem.W.Frag) : Sp := fun vs H Q _ => ∃ (a : Addr) (r : List Int) (m x : Int), vs = [.ref a, .int m, .int x] ∧ SqT K H a (r.map V.int) ∧ r.length ≤ 12 ∧ (∀ c ∈ r, Bd 300 c) ∧ Bd 230 m ∧ Bd 230 x ∧
  ∀ l t H', H l = none → Same H H' → H' l = some (.lst (t.map V.int)) → t.length ≤ 50 → (∀ j, cf t j = stF x m r j) → Q (.ref l) H'
theorem scStr : FnScope ["row", "m", "r", "stretched", "number"] ["row", "m", "r"] (defScope sStr) := ⟨rfl, rfl, rfl, by decide +kernel, rfl, by decide +kernel, by decide +kernel⟩
theorem df_str (A : At K mg "row_stretched" sStr) (T : TxtJ mg) (Drowsum : Df P w K mg base 2 "row_sum" ["one", "other"] (spSum K)) (Drowproduct : Df P w K mg base 3 "row_product" ["one", "other"] (spProd K)) : Df P w K mg base 4 "row_stretched" ["row", "m", "r"] (spStr K) := by
  obtain ⟨f, fd, hm, F⟩ := A.ex
  refine ⟨f, fd, hm, F.kp, F.binds (fun _ _ _ _ _ _ us hl => match us, hl with | [_, _, _], _ => rfl), F.ok scStr (fun vs H Q E h => ?_) (fun cdv A outer s H vs Q E hr h => ?_)⟩
  · obtain ⟨a, r, m, x, rfl, _⟩ := h
    rfl
  · obtain ⟨a, r, m, x, rfl, hA, hl, hb, hm', hx, q⟩ := h
    refine ⟨_, (pss_cons (ps_if (pt_cmpR op_eq (pe_callB call_len_seq (by rfl) T.len PySem.boot_len (pa_cons (pv 0) pa_nil)) pe_int (nomark _)) (pss_one (ps_ret (pe_lst (pa_cons (pe_op op_add (pe_ix ix_tup (pv 0) pe_int (fun _ _ => rfl)) (pe_op op_mulW (pe_ix ix_tup (pv 0) pe_int (fun _ _ => rfl)) (pv 2))) (pa_cons (pe_op op_mulW (pe_ix ix_tup (pv 0) pe_int (fun _ _ => rfl)) (pv 1)) pa_nil))))) pss_nil)
      (pss_cons (ps_set (i := 3) scStr.nd rfl (.inl rfl) (pe_lst pa_nil))
      (pss_cons (ps_for PassesOwn.never rfl (pi_tup (pe_revT (pv 0))) (pg_name (i := 4) scStr.nd rfl (.inl rfl))
      (pss_one (ps_set (i := 3) scStr.nd rfl (.inl rfl) (Drowsum.call (hr.mono (by decide)) (pa_cons (Drowproduct.call (hr.mono (by decide)) (pa_cons (pe_tup (pa_cons (pv 2) (pa_cons (pv 1) pa_nil))) (pa_cons (pv 3) pa_nil))) (pa_cons (pe_tup (pa_cons (pv 4) pa_nil)) pa_nil))))))
      (pss_one (ps_ret (pv 3)))))), ?_⟩
    refine ⟨_, rfl, a, _, rfl, .inr hA, rfl, _, rfl, ?_⟩
    rw [List.length_map, dint]
    by_cases h2 : r.length = 2
    · rw [decide_eq_true (show (r.length : Int) = 2 by omega)]
      match r, h2 with
      | [c0, c1], _ =>
        have b0 : Bd 300 c0 := hb _ (List.mem_cons_self ..)
        have b1 : Bd 300 c1 := hb _ (List.mem_cons_of_mem _ (List.mem_cons_self ..))
        refine iteT ⟨_, rfl, a, _, _, _, rfl, rfl, hA, at_pos (r := [c0, c1]) (i := 0) (show 0 < 2 by decide), _, rfl, a, _, _, _, rfl, rfl, hA, at_pos (r := [c0, c1]) (i := 1) (show 1 < 2 by decide), _, rfl, _, _, rfl, rfl, wide_mul (a := 300) (b := 230) b1 hx (by decide) (by decide) (by decide), _, _, rfl, rfl,
          _, rfl, a, _, _, _, rfl, rfl, hA, at_pos (r := [c0, c1]) (i := 1) (show 1 < 2 by decide), _, rfl, _, _, rfl, rfl, wide_mul (a := 300) (b := 230) b1 hm' (by decide) (by decide) (by decide), by show 2 ≤ sizeLine; decide, fun l hl' => ?_⟩
        refine q l [c0 + c1 * x, c1 * m] _ hl' (same_new hl') upd_same (show 2 ≤ 50 by decide) fun j => ?_
        rw [stF_cons, stF_cons, stF_cons]
        show cf [c0 + c1 * x, c1 * m] j = (x * ((x * 0 + if j = 0 then 0 else m * 0) + if j = 0 then c1 else 0) + if j = 0 then 0 else m * ((x * 0 + if j - 1 = 0 then 0 else m * 0) + if j - 1 = 0 then c1 else 0)) + if j = 0 then c0 else 0
        match j with
        | 0 =>
          show c0 + c1 * x = (x * ((x * 0 + 0) + c1) + 0) + c0
          simp only [Int.mul_zero, Int.add_zero, Int.zero_add]
          rw [Int.mul_comm x, Int.add_comm]
        | 1 =>
          show c1 * m = (x * ((x * 0 + m * 0) + 0) + m * ((x * 0 + 0) + c1)) + 0
          simp only [Int.mul_zero, Int.add_zero, Int.zero_add]
          exact Int.mul_comm ..
        | j + 2 =>
          rw [cf_ge (by show 2 ≤ j + 2; omega)]
          simp
    rw [decide_eq_false (show ¬ (r.length : Int) = 2 by omega)]
    refine iteF ⟨Nat.zero_le _, fun l0 hl0 => ?_⟩
    have s0 := same_new (o := .lst []) hl0
    have e0 : (upd H l0 (.lst [])) l0 = some (.lst (([] : List Int).map V.int)) := upd_same
    generalize upd H l0 (.lst []) = H0 at s0 e0 ⊢
    refine ⟨_, rfl, a, _, rfl, Same.tup s0 hA, fun p hp => ?_⟩
    rw [← List.map_reverse]
    have s1 := s0.trans (same_new (o := .tup (r.reverse.map V.int)) hp)
    have e1 := same_new (o := .tup (r.reverse.map V.int)) hp _ _ e0
    have hT : SqT K (upd H0 p (.tup (r.reverse.map V.int))) p (r.reverse.map V.int) := .inl (.inl upd_same)
    generalize upd H0 p (.tup (r.reverse.map V.int)) = H1 at s1 e1 hT ⊢
    refine ⟨p, rfl, ⟨_, hT⟩, for_tup (K := K) (a := p) (xs := r.reverse.map V.int) (fun i σ H' => Same H1 H' ∧ ∃ (l : Addr) (t : List Int) (y : Option V), H l = none ∧ H' l = some (.lst (t.map V.int)) ∧ t.length ≤ 2 * i ∧ (∀ j, cf t j = stF x m (r.drop (r.length - i)) j) ∧ σ = [some (.ref a), some (.int m), some (.int x), some (.ref l), y])
      ⟨Same.refl _, l0, [], none, hl0, e1, Nat.zero_le _, fun j => by rw [Nat.sub_zero, List.drop_length, cf_nil]; rfl, rfl⟩ (fun i σ H' _ h => Same.tup h.1 hT) ?_ ?_⟩
    · rintro i v σ H2 hi ⟨s2, l, t, y, nl, e2, hl2, ht, rfl⟩
      rw [List.getElem?_map] at hi
      obtain ⟨c, hc, rfl⟩ := Option.map_eq_some_iff.mp hi
      have hcm : c ∈ r := List.mem_reverse.mp (List.mem_of_getElem? hc)
      have hil : i < r.length := by
        rcases Nat.lt_or_ge i r.length with z | z
        · exact z
        · rw [List.getElem?_eq_none (by rw [List.length_reverse]; exact z)] at hc; cases hc
      have hdr := eval_drop_succ' 0 hc
      have bt : ∀ c ∈ t, Bd 9000 c := fun c hc => by
        obtain ⟨j, hj, rfl⟩ := List.getElem_of_mem hc
        rw [← cf_lt hj, ht j]
        refine (stF_bd hx hm' _ (fun c hc => hb c (List.mem_of_mem_drop hc)) j).up ?_
        rw [List.length_drop]
        have : (230 + 2) * (r.length - (r.length - i)) ≤ (230 + 2) * 12 := Nat.mul_le_mul_left _ (by omega)
        omega
      refine ⟨_, rfl, _, rfl, by show 2 ≤ sizeLine; decide, fun p1 hp1 => ?_⟩
      have s3 := s2.trans (same_new (o := .tup [.int x, .int m]) hp1)
      have e3 := same_new (o := .tup [.int x, .int m]) hp1 _ _ e2
      have hT1 : SqT K (upd H2 p1 (.tup [.int x, .int m])) p1 ([x, m].map V.int) := .inl (.inl upd_same)
      generalize upd H2 p1 (.tup [.int x, .int m]) = H3 at s3 e3 hT1 ⊢
      refine ⟨_, rfl, p1, l, [x, m], t, rfl, hT1, .inl (.inl (.inl e3)), (show 2 ≤ 100 by decide), by omega, fun z hz => ?_, bt, fun l2 t2 H4 n2 s4 e4 hl4 ht4 => ?_⟩
      · simp only [List.mem_cons, List.not_mem_nil, or_false] at hz
        rcases hz with rfl | rfl
        · exact hx.up (by decide)
        · exact hm'.up (by decide)
      refine ⟨_, rfl, by show 1 ≤ sizeLine; decide, fun p2 hp2 => ?_⟩
      have s5 := s4.trans (same_new (o := .tup [.int c]) hp2)
      have e5 := same_new (o := .tup [.int c]) hp2 _ _ e4
      have hT2 : SqT K (upd H4 p2 (.tup [.int c])) p2 ([c].map V.int) := .inl (.inl upd_same)
      generalize upd H4 p2 (.tup [.int c]) = H5 at s5 e5 hT2 ⊢
      have l2' : t2.length ≤ 2 + 2 * i := Nat.le_trans hl4 (show 2 + t.length ≤ _ by omega)
      refine ⟨l2, p2, t2, [c], rfl, ⟨.inl (.inl (.inl e5)), .inr hT2⟩, by omega, (show 1 ≤ 1000 by decide), fun l3 t3 H6 n3 s6 e6 hl6 ht6 => ?_⟩
      have sA := s3.trans (s5.trans s6)
      refine ⟨sA, l3, t3, _, (s1.trans (s3.trans s5)).free n3, e6, ?_, fun j => ?_, rfl⟩
      · rw [hl6]
        show max t2.length 1 ≤ _
        omega
      · rw [hdr, ht6 j, ht4 j]
        show _ = cv (cf [x, m]) (stF x m (r.drop (r.length - i))) j + cf [c] j
        rw [cv_congr (fun _ => rfl) ht j]
    · rintro σ H2 ⟨s2, l, t, y, nl, e2, hl2, ht, rfl⟩
      rw [List.length_map, List.length_reverse] at hl2 ht
      rw [Nat.sub_self, List.drop_zero] at ht
      exact ⟨_, rfl, q l t H2 nl (s1.trans s2) e2 (by omega) ht⟩
/-! ### row_through -/
theorem Bd.sub {a w : Nat} {x y : Int} (hx : Bd a x) (hy : Bd a y) (h : a + 1 ≤ w) : Bd w (x - y) := by
  rw [Int.sub_eq_add_neg]
  exact Bd.add hx (by unfold Bd at *; rw [Int.natAbs_neg]; exact hy) h h
theorem list_of_cf {r s : List Int} (hl : r.length = s.length) (h : ∀ j, cf r j = cf s j) : r = s :=
  List.ext_getElem hl fun j h1 h2 => by rw [← cf_lt h1, ← cf_lt h2, h]
/-- an error without fields -/
structure DfD (P : Program) (w : World) (K : PySem.W.Frag) (mg : Str → Option Value) (base : Heap) (k : Nat) (x : Str) (ps : List Str) (dvs : List V) (sp : Sp) : Prop where
  ex : ∃ f fd ds, mg x = some (.ref f) ∧ PySem.W.keepIn K (.ref f) = true ∧ Vals dvs ds ∧ Binds K fd ps ds ∧ FnOk P w K mg base CX0 k f fd ps sp
theorem DfD.call {X : Cx} {k : Nat} {x : Str} {ps : List Str} {dvs : List V} {sp : Sp} {e : Expr} {es : List Expr} {t : TA} {p pos : Pos} (D : DfD X.prog X.w X.K X.mg X.base k x ps dvs sp) (hr : Room k X.A) (ha : PA X (e :: es) t) (hg : Gl X x := by rfl)
    (hdb : (x == ("__debug__" : Str)) = false := by decide) (he : starEach (e :: es) X.env = (false, eval e X.env) :: starEach es X.env := by rfl) (hpl : (backTo pos (starEach es X.env)).any (·.1) = false := by rfl) :
    PE X (.Call (.Name x p) (e :: es) [] pos) (tCall sp dvs E0 t) := by
  obtain ⟨f, fd, ds, hm, hk, hv, hb, F⟩ := D.ex
  exact pe_call F hr hg hm hk hb hv pass0 ha hdb he hpl
/-- what comes of values: the row, its divisor, and how many differences there are -/
structure ThrOk (p : Int) (r t : List Int) (U : Int) : Prop where
  ex : ∃ L : Nat, L ≤ r.length ∧ (∀ j, L ≤ j → cf t j = 0) ∧ (∀ j : Nat, j < r.length → evalR t (p + (j : Int)) = U * cf r j) ∧ ∀ i : Nat, (∀ j, i + j < r.length → dl i (cf r) j = 0) → L ≤ i
def spThr (K : PySem.W.Frag) : Sp := fun vs H Q _ => ∃ (a : Addr) (r : List Int) (p : Int), vs = [.int p, .ref a, .int 1] ∧ Seqs K H a (r.map V.int) ∧ r.length ≤ 9 ∧ (∀ c ∈ r, Bd 700 c) ∧ Bd 230 p ∧
  ∀ l t lt (U : Nat) H', Same H H' → H' l = some (.tup [.ref lt, .int (U : Int)]) → H' lt = some (.lst (t.map V.int)) → t.length ≤ 50 → (∀ c ∈ t, Bd 3000 c) → 0 < U → Bd 3000 (U : Int) → ThrOk p r t (U : Int) → Q (.ref l) H'
theorem scThr : FnScope ["place", "values", "step", "leads", "line", "before", "after", "row", "under", "k"] ["place", "values", "step"] (defScope sThr) := ⟨rfl, rfl, rfl, by decide +kernel, rfl, by decide +kernel, by decide +kernel⟩
/-- a line of differences -/
def lin (f : Nat → Int) (n i : Nat) : List Int := mkL (dl i f) (n - i)
theorem lin_len (f : Nat → Int) (n i : Nat) : (lin f n i).length = n - i := mkL_len _ _
theorem lin_z {r : List Int} : r = lin (cf r) r.length 0 := by
  refine list_of_cf (by rw [lin_len]; omega) fun j => ?_
  unfold lin
  rw [cf_mkL]
  by_cases h : j < r.length - 0
  · rw [if_pos h]; rfl
  · rw [if_neg h, cf_ge (by omega)]
theorem lin_any (f : Nat → Int) (n i : Nat) (h : (lin f n i).any (fun x => x != 0) = false) : ∀ j, i + j < n → dl i f j = 0 := fun j hj => by
  have hm : dl i f j ∈ lin f n i := List.mem_map.mpr ⟨j, List.mem_range.mpr (by omega), rfl⟩
  have := List.any_eq_false.mp h _ hm
  simpa using this
theorem lin_some {f : Nat → Int} {n i : Nat} (h : (lin f n i).any (fun x => x != 0) = true) : ∃ j, i + j < n ∧ dl i f j ≠ 0 := by
  obtain ⟨x, hx, h0⟩ := List.any_eq_true.mp h
  obtain ⟨j, hj, rfl⟩ := List.mem_map.mp hx
  exact ⟨j, by have := List.mem_range.mp hj; omega, by simpa using h0⟩
theorem dl_bd {f : Nat → Int} {b : Nat} (h : ∀ j, Bd b (f j)) : ∀ i j, Bd (b + i) (dl i f j)
  | 0, j => h j
  | i + 1, j => Bd.sub (dl_bd h i (j + 1)) (dl_bd h i j) (Nat.le_refl _)
theorem lin_next (f : Nat → Int) (n i : Nat) (h : i < n) : zipR (fun x y => y - x) (lin f n i) ((lin f n i).drop 1) = lin f n (i + 1) := by
  refine list_of_cf ?_ fun j => ?_
  · unfold zipR
    rw [List.length_zipWith, List.length_drop, lin_len, lin_len]; omega
  · rw [cf_zip, cf_drop]
    unfold lin
    rw [List.length_drop, mkL_len, cf_mkL, cf_mkL, cf_mkL]
    by_cases hj : j < n - (i + 1)
    · rw [if_pos (by omega), if_pos hj, if_pos (by omega), if_pos (by omega), Nat.add_comm 1 j]; rfl
    · rw [if_neg (by omega), if_neg hj]
/-- what stands while the differences are drawn -/
def ThrI (H : Hp) (a ll : Addr) (p : Int) (r : List Int) (m : Nat) (σ : L2.St) (H' : Hp) : Prop := Same H H' ∧ ∃ (i : Nat) (ln : Addr) (y5 y6 y7 y8 y9 : Option V), ln ≠ ll ∧ H' ll = some (.lst ((mkL (fun k => dl k (cf r) 0) i).map V.int)) ∧ H' ln = some (.lst ((lin (cf r) r.length i).map V.int)) ∧
  i ≤ r.length ∧ (∀ i', i' < i → ∃ j, i' + j < r.length ∧ dl i' (cf r) j ≠ 0) ∧ m = r.length - i ∧ σ = [some (.int p), some (.ref a), some (.int 1), some (.ref ll), some (.ref ln), y5, y6, y7, y8, y9]
theorem mkL_succ (f : Nat → Int) (n : Nat) : mkL f (n + 1) = mkL f n ++ [f n] := by
  unfold mkL
  rw [List.range_succ, List.map_append]; rfl
theorem ok_thr {f : Addr} {fd : FuncData} (F : FunD K "row_through" "row_through" (defArgs sThr) (defBody sThr) (defScope sThr) [V.int 1] [] f fd) (T : TxtJ mg) (hany : mg "any" = none) (Drowsum : Df P w K mg base 2 "row_sum" ["one", "other"] (spSum K)) (Drowproduct : Df P w K mg base 3 "row_product" ["one", "other"] (spProd K)) :
    FnOk P w K mg base CX0 4 f fd ["place", "values", "step"] (spThr K) := by
  refine F.ok scThr (fun vs H Q E h => ?_) (fun cdv A outer s H vs Q E hr h => ?_)
  · obtain ⟨a, r, p, rfl, _⟩ := h
    rfl
  · obtain ⟨a, r, p, rfl, hA, hl, hb, hp, q⟩ := h
    refine ⟨_, (pss_cons (ps_set (i := 3) scThr.nd rfl (.inl rfl) (pe_lst pa_nil))
      (pss_cons (ps_set (i := 4) scThr.nd rfl (.inl rfl) (pe_callTy call_list_of (by rfl) T.list (by decide +kernel) (pa_cons (pv 1) pa_nil)))
      (pss_cons (ps_while (passes_of rfl) (pt_val (pe_callB (cr_anyI rfl) (by rfl) hany (by decide +kernel) (pa_cons (pv 4) pa_nil)))
      (pss_cons (ps_expr (pe_bm PySem.F.plainAttrs_list PySem.F.slot_list_append PySem.F.type_list_append mt_append (pv 3) (pa_cons (pe_ix ix_list (pv 4) pe_int (fun _ _ => rfl)) pa_nil)))
      (pss_one (ps_setLc (i := 4) (own := [("before", 5), ("after", 6)]) (g := gTup K 2 (gCons (gName 5) (gCons (gName 6) gNil))) (by rfl) scThr.nd rfl rfl (sw_true rfl rfl rfl (by decide +kernel)) (pi_zipM (by rfl) T.zip (pa_cons (pv 4) (pa_cons (pe_slice sl_list (pv 4) (po_some pe_int) po_none) pa_nil))) (blkOk_by (own := [("before", 5), ("after", 6)]) (N := ["place", "values", "step", "leads", "line", "before", "after", "row", "under", "k"]) (sc := defScope sThr) (by decide +kernel)) (fun _ _ _ _ _ => pg_tup (by rfl) (pgs_cons (pg_name (i := 5) scThr.nd rfl (Or.inl rfl)) (pgs_cons (pg_name (i := 6) scThr.nd rfl (Or.inl rfl)) pgs_nil))) (fun _ _ _ _ _ => pts_nil) (fun _ _ _ _ _ => (pe_op op_sub (pv 6) (pv 5)))))))
      (pss_cons (ps_set (i := 7) scThr.nd rfl (.inl rfl) (pe_lst pa_nil))
      (pss_cons (ps_set (i := 8) scThr.nd rfl (.inl rfl) pe_int)
      (pss_cons (ps_for (passes_of rfl) rfl (pi_revR (by rfl) T.reversed (prg_1 (by rfl) T.range (pe_callB call_len_seq (by rfl) T.len PySem.boot_len (pa_cons (pv 3) pa_nil)))) (pg_name (i := 9) scThr.nd rfl (.inl rfl))
      (pss_cons (ps_set (i := 7) scThr.nd rfl (.inl rfl) (Drowsum.call (hr.mono (by decide)) (pa_cons (Drowproduct.call (hr.mono (by decide)) (pa_cons (pe_tup (pa_cons (pe_op op_sub (pe_un un_neg (pv 0)) (pe_op op_mulW (pv 9) (pv 2))) (pa_cons pe_int pa_nil))) (pa_cons (pv 7) pa_nil))) (pa_cons (pe_tup (pa_cons (pe_op op_mulW (pe_ix ix_list (pv 3) (pv 9) (fun _ _ => rfl)) (pv 8)) pa_nil)) pa_nil))))
      (pss_one (ps_set (i := 8) scThr.nd rfl (.inl rfl) (pe_op op_mulW (pv 8) (pe_callB (call_max2 rfl) (by rfl) T.max (by decide +kernel) (pa_cons (pe_op op_mulW (pv 9) (pv 2)) (pa_cons pe_int pa_nil))))))))
      (pss_one (ps_ret (pe_tup (pa_cons (pv 7) (pa_cons (pv 8) pa_nil))))))))))), ?_⟩
    refine ⟨Nat.zero_le _, fun ll hll => ?_⟩
    have s0 := same_new (o := .lst []) hll
    have e0 : (upd H ll (.lst [])) ll = some (.lst (([] : List Int).map V.int)) := upd_same
    generalize upd H ll (.lst []) = H0 at s0 e0 ⊢
    refine ⟨_, rfl, a, _, rfl, hA.same s0, fun ln0 hn0 => ?_⟩
    have n0 : ln0 ≠ ll := fun z => by rw [z, e0] at hn0; cases hn0
    have s1 := s0.trans (same_new (o := .lst (r.map V.int)) hn0)
    have e1 : (upd H0 ln0 (.lst (r.map V.int))) ln0 = some (.lst ((lin (cf r) r.length 0).map V.int)) := by rw [upd_same, ← lin_z]
    have e01 := same_new (o := .lst (r.map V.int)) hn0 _ _ e0
    generalize upd H0 ln0 (.lst (r.map V.int)) = H1 at s1 e1 e01 ⊢
    refine ⟨ThrI H a ll p r, ⟨r.length, s1, 0, ln0, none, none, none, none, none, n0, e01, e1, Nat.zero_le _, fun i hi => absurd hi (Nat.not_lt_zero i), rfl, rfl⟩, fun m σ H2 hW => ?_⟩
    obtain ⟨s2, i, ln, y5, y6, y7, y8, y9, nn, el, en, hi, hs, rfl, rfl⟩ := hW
    refine ⟨_, rfl, ln, _, rfl, .inl (.inl en), _, rfl, ?_⟩
    have bdl : ∀ i, i ≤ 9 → ∀ j, Bd 709 (dl i (cf r) j) := fun i hi j => (dl_bd (fun j => cf_bd hb j) i j).up (by omega)
    cases hz : (lin (cf r) r.length i).any fun n => n != 0 with
    | true =>
      obtain ⟨j0, hj0, hj1⟩ := lin_some hz
      refine iteT ⟨fun σ H' => ∃ m, m < r.length - i ∧ ThrI H a ll p r m σ H', fun _ _ h => h, ?_⟩
      have hlen : 0 < (lin (cf r) r.length i).length := by rw [lin_len]; omega
      refine ⟨_, rfl, .inl ⟨rfl, _, .inl (.inl el)⟩, _, rfl, ln, _, _, _, rfl, rfl, .inl (.inl en), at_pos (i := 0) hlen, ll, _, _, rfl, rfl, el, ?_, ?_⟩
      · rw [List.length_map, mkL_len]
        exact Nat.lt_of_le_of_lt (show _ ≤ 1000 by omega) (by decide)
      have el2 : ∀ H3, Same (upd H2 ll (.lst ((mkL (fun k => dl k (cf r) 0) i).map V.int ++ [V.int (cf (lin (cf r) r.length i) 0)]))) H3 → H3 ll = some (.lst ((mkL (fun k => dl k (cf r) 0) (i + 1)).map V.int)) := fun H3 s => by
        refine s _ _ ?_
        rw [upd_same, mkL_succ, List.map_append]
        have : cf (lin (cf r) r.length i) 0 = dl i (cf r) 0 := by
          unfold lin
          rw [cf_mkL, if_pos (by omega)]
        rw [this]; rfl
      have s3 : Same H (upd H2 ll (.lst ((mkL (fun k => dl k (cf r) 0) i).map V.int ++ [V.int (cf (lin (cf r) r.length i) 0)]))) := same_mut s2 hll
      have en3 : (upd H2 ll (.lst ((mkL (fun k => dl k (cf r) 0) i).map V.int ++ [V.int (cf (lin (cf r) r.length i) 0)]))) ln = some (.lst ((lin (cf r) r.length i).map V.int)) := by rw [upd_ne nn]; exact en
      generalize upd H2 ll (.lst ((mkL (fun k => dl k (cf r) 0) i).map V.int ++ [V.int (cf (lin (cf r) r.length i) 0)])) = H3 at el2 s3 en3 ⊢
      refine ⟨_, rfl, _, rfl, _, rfl, ln, _, rfl, .inl (.inl en3), fun t4 ht4 => ?_⟩
      rw [show cutV ((lin (cf r) r.length i).map V.int) (some 1) none = ((lin (cf r) r.length i).drop 1).map V.int by rw [List.map_drop]; exact cut_lo _ 1]
      have s4 := same_new (o := .lst (((lin (cf r) r.length i).drop 1).map V.int)) ht4
      have e4 : (upd H3 t4 (.lst (((lin (cf r) r.length i).drop 1).map V.int))) t4 = some (.lst (((lin (cf r) r.length i).drop 1).map V.int)) := upd_same
      generalize upd H3 t4 (.lst (((lin (cf r) r.length i).drop 1).map V.int)) = H4 at s4 e4 ⊢
      refine lc_two (f := fun x y => y - x) ⟨.inl (.inl (.inl (s4 _ _ en3))), .inl (.inl (.inl e4))⟩ (by rw [lin_len]; omega) (fun x y T H R' hx hy sx e h => ⟨T, _, rfl, .inl (.inl e), rfl, _, _, rfl, _, _, rfl, rfl, rfl, _, rfl, _, rfl, _, _, rfl, rfl, h⟩) (fun D H5 hD s5 h5 => ?_)
      rw [lin_next _ _ _ (by omega)] at h5
      have el5 := el2 _ (s4.trans s5)
      have nD : D ≠ ll := fun z => by rw [z, el2 _ s4] at hD; cases hD
      refine ⟨r.length - (i + 1), by omega, s3.trans (s4.trans s5), i + 1, D, _, _, _, _, _, nD, el5, h5, by omega, fun i' hi' => ?_, rfl, rfl⟩
      rcases Nat.lt_or_ge i' i with z | z
      · exact hs i' z
      · exact ⟨j0, by omega, by rw [show i' = i by omega]; exact hj1⟩
    | false =>
      have hz0 := lin_any _ _ _ hz
      refine iteF ⟨Nat.zero_le _, fun rl0 hr0 => ?_⟩
      have s3 := s2.trans (same_new (o := .lst []) hr0)
      have e3 : (upd H2 rl0 (.lst [])) rl0 = some (.lst (([] : List Int).map V.int)) := upd_same
      have el3 := same_new (o := .lst []) hr0 _ _ el
      generalize upd H2 rl0 (.lst []) = H3 at s3 e3 el3 ⊢
      refine ⟨_, rfl, ll, _, rfl, .inl (.inl (.inl el3)), _, rfl, by omega, by omega, by rw [List.length_map, mkL_len]; omega, by rw [List.length_map, mkL_len]; omega, ?_⟩
      rw [List.length_map, mkL_len]
      rw [show ((i : Int) - 0).toNat = i by omega]
      refine for_rangeC (fun n σ H' => Same H3 H' ∧ ∃ (rl : Addr) (t : List Int) (U : Nat) (y : Option V), H' rl = some (.lst (t.map V.int)) ∧ t.length ≤ 2 * n ∧ (∀ c ∈ t, Bd (810 + 233 * n) c) ∧ 0 < U ∧ Bd (1 + 10 * n) (U : Int) ∧ Nw (cf r) p i (i - n) t (U : Int) ∧ σ = [some (.int p), some (.ref a), some (.int 1), some (.ref ll), some (.ref ln), y5, y6, some (.ref rl), some (.int (U : Int)), y])
        ⟨Same.refl _, rl0, [], 1, _, e3, Nat.zero_le _, fun c hc => (by cases hc), by decide, by unfold Bd; decide, nw_start _ _ _, rfl⟩ ?_ ?_
      · rintro n σ H4 hn ⟨s4, rl, t, U, y, e4, hlt, bt, hU, bU, hN, rfl⟩
        rw [show (0 + (i : Int) - 1) + (n : Int) * -1 = ((i - 1 - n : Nat) : Int) by omega]
        have ek : i - n = (i - 1 - n) + 1 := by omega
        rw [ek] at hN
        have hk : i - 1 - n < i := by omega
        have hk9 : i - 1 - n ≤ 9 := by omega
        have ek2 : i - (n + 1) = i - 1 - n := by omega
        rw [ek2]
        generalize i - 1 - n = k at hN hk hk9 ⊢
        have bk : Bd 229 (k : Int) := Bd.up (a := 4) (by unfold Bd; omega) (by decide)
        have el4 := s4 _ _ el3
        have bn : Bd 231 (-p - (k : Int)) := Bd.sub (by unfold Bd at *; rw [Int.natAbs_neg]; exact hp) (bk.up (by decide)) (Nat.le_refl _)
        refine ⟨_, rfl, _, rfl, _, rfl, _, rfl, _, _, rfl, rfl, wide_mul (a := 230) (b := 230) (bk.up (by decide)) (by decide) (by decide) (by decide) (by decide), _, _, rfl, rfl, by show 2 ≤ sizeLine; decide, fun p1 hp1 => ?_⟩
        rw [Int.mul_one]
        have s5 := s4.trans (same_new (o := .tup [.int (-p - (k : Int)), .int 1]) hp1)
        have e5 := same_new (o := .tup [.int (-p - (k : Int)), .int 1]) hp1 _ _ e4
        have hT1 : SqT K (upd H4 p1 (.tup [.int (-p - (k : Int)), .int 1])) p1 ([-p - (k : Int), 1].map V.int) := .inl (.inl upd_same)
        generalize upd H4 p1 (.tup [.int (-p - (k : Int)), .int 1]) = H5 at s5 e5 hT1 ⊢
        refine ⟨_, rfl, p1, rl, [-p - (k : Int), 1], t, rfl, hT1, .inl (.inl (.inl e5)), (show 2 ≤ 100 by decide), by omega, fun z hz => ?_, fun c hc => (bt c hc).up (by omega), fun l2 t2 H6 n2 s6 e6 hl6 ht6 => ?_⟩
        · simp only [List.mem_cons, List.not_mem_nil, or_false] at hz
          rcases hz with rfl | rfl
          · exact bn.up (by decide)
          · unfold Bd; decide
        have el6 := s6 _ _ (s5 _ _ el3)
        have bU2 : Bd 100 (U : Int) := bU.up (by omega)
        have elk : cf (mkL (fun k => dl k (cf r) 0) i) k = dl k (cf r) 0 := by rw [cf_mkL, if_pos hk]
        refine ⟨_, rfl, _, rfl, ll, _, _, _, rfl, rfl, .inl (.inl el6), at_pos (i := k) (by rw [mkL_len]; exact hk), _, rfl, _, _, rfl, rfl, ?_, by show 1 ≤ sizeLine; decide, fun p2 hp2 => ?_⟩
        · rw [elk]
          exact wide_mul (bdl k hk9 0) bU2 (by decide) (by decide) (by decide)
        rw [elk]
        have s7 := s6.trans (same_new (o := .tup [.int (dl k (cf r) 0 * (U : Int))]) hp2)
        have e7 := same_new (o := .tup [.int (dl k (cf r) 0 * (U : Int))]) hp2 _ _ e6
        have hT2 : SqT K (upd H6 p2 (.tup [.int (dl k (cf r) 0 * (U : Int))])) p2 ([dl k (cf r) 0 * (U : Int)].map V.int) := .inl (.inl upd_same)
        generalize upd H6 p2 (.tup [.int (dl k (cf r) 0 * (U : Int))]) = H7 at s7 e7 hT2 ⊢
        have l2' : t2.length ≤ 2 + 2 * n := Nat.le_trans hl6 (show 2 + t.length ≤ _ by omega)
        refine ⟨l2, p2, t2, [dl k (cf r) 0 * (U : Int)], rfl, ⟨.inl (.inl (.inl e7)), .inr hT2⟩, by omega, (show 1 ≤ 1000 by decide), fun l3 t3 H8 n3 s8 e8 hl8 ht8 => ?_⟩
        have tc : ∀ j, cf t3 j = cv (cf [-p - (k : Int), 1]) (cf t) j + cf [dl k (cf r) 0 * (U : Int)] j := fun j => by rw [ht8 j, ht6 j]
        refine ⟨_, rfl, _, rfl, _, rfl, _, _, rfl, rfl, wide_mul (a := 230) (b := 230) (bk.up (by decide)) (by decide) (by decide) (by decide) (by decide), _, _, rfl, ?_⟩
        rw [Int.mul_one, show (if (1 : Int) > (k : Int) then (1 : Int) else (k : Int)) = ((max k 1 : Nat) : Int) by split <;> omega]
        have bm : Bd 10 ((max k 1 : Nat) : Int) := by unfold Bd; omega
        refine ⟨_, _, rfl, rfl, wide_mul bU2 bm (by decide) (by decide) (by decide), s5.trans (s7.trans s8), l3, t3, U * max k 1, some (.int (k : Int)), e8, ?_, ?_, Nat.mul_pos hU (by omega), ?_, ?_, ?_⟩
        · rw [hl8]
          show max t2.length 1 ≤ _
          omega
        · intro c hc
          obtain ⟨j, hj, rfl⟩ := List.getElem_of_mem hc
          rw [← cf_lt hj, tc j, two_cv, cf_one]
          have bc : ∀ j, Bd (810 + 233 * n) (cf t j) := fun j => cf_bd bt j
          have bl : Bd (231 + (810 + 233 * n) + 1) (dl k (cf r) 0 * (U : Int)) := Bd.mul (bdl k hk9 0) bU2 (by omega)
          have e : 810 + 233 * (n + 1) = 231 + (810 + 233 * n) + 2 := by omega
          rw [e]
          have b1 : Bd 231 1 := by unfold Bd; decide
          by_cases h0 : j = 0
          · rw [if_pos h0, if_pos h0]
            have := bd_step bn (bc j) b1 (Bd.zero _) bl
            rwa [Int.mul_zero] at this
          · rw [if_neg h0, if_neg h0]
            exact bd_step bn (bc j) b1 (bc (j - 1)) (Bd.zero _)
        · rw [Int.natCast_mul]
          exact Bd.mul bU bm (by omega)
        · rw [Int.natCast_mul]
          exact nw_step hN hk tc
        · rw [Int.natCast_mul]; rfl
      · rintro σ H4 ⟨s4, rl, t, U, y, e4, hlt, bt, hU, bU, hN, rfl⟩
        rw [Nat.sub_self] at hN
        refine ⟨_, rfl, _, rfl, by show 2 ≤ sizeLine; decide, fun t5 ht5 => ?_⟩
        have s5 := same_new (o := .tup [.ref rl, .int (U : Int)]) ht5
        refine q t5 t rl U _ (s3.trans (s4.trans s5)) upd_same (s5 _ _ e4) (by omega) (fun c hc => (bt c hc).up (by omega)) hU (bU.up (by omega)) ⟨i, hi, fun j hj => hN.2 j (by omega), fun j hj => nw_end hN hz0 hj, fun i' h => ?_⟩
        rcases Nat.lt_or_ge i' i with z | z
        · obtain ⟨j, h1, h2⟩ := hs i' z
          exact absurd (h j h1) h2
        · exact z
end
end Ef
set_option Elab.async false
set_option linter.all false
set_option maxRecDepth 100000
set_option maxHeartbeats 4000000
namespace Ef
open PySem PySem.Spec PyProof.Rows L2
abbrev sStretched : Stmt := inClass (top 24) 16
abbrev sThrough : Stmt := inClass (top 24) 1
abbrev sCall : Stmt := inClass (top 24) 5
theorem passF {X : Cx} : Passes (CX X.prog X.w) X (fun _ _ _ => False) := fun pins σ H s e s' I h => by
  obtain ⟨a, B, H', cls, d, _, _, _, _, _, _, _, hE⟩ := h
  exact hE.elim
theorem same_inst {H : Hp} {x dx C : Addr} {fs : List (Str × V)} (nx : H x = none) (nd : H dx = none) : Same H (upd (upd H dx (.own x)) x (.ins C dx fs)) := fun b o e => by
  rw [upd_ne (ne_of_none e nx), upd_ne (ne_of_none e nd)]
  exact e
/-- a piece is made -/
theorem mk_pc {K : PySem.W.Frag} {C CR CU a : Addr} {H : Hp} {r : List Int} {un : Nat} {Q : VK} {E : XK} (hS : Seqs K H a (r.map V.int)) (hl : r.length ≤ 100) (hu : 0 < un) (hb : Bd 8000 (un : Int))
    (q : ∀ p s z H', Low r un s z → Same H H' → PAt K C H' p s z → Q (.ref p) H') : ∀ x dx, H x = none → H dx = none → dx ≠ x → spInit K C CR CU (V.ref x :: [V.ref a, V.int (un : Int)]) (upd (upd H dx (.own x)) x (.ins C dx [])) (fun v H' => v = .non ∧ Q (.ref x) H') E := by
  intro x dx nx ndx nex
  exact ⟨H, x, dx, a, _, _, rfl, same_inst nx ndx, nx, upd_same, hS, by rw [List.length_map]; exact hl, .inr ⟨r, rfl, .inl ⟨un, rfl, hu, hb, fun pr u H' hL s hP => ⟨rfl, q x pr u H' hL s hP⟩⟩⟩⟩
/-- an error comes with one field -/
def Errs (H : Hp) (C : Addr) (fl : Str) (v : V) (E : XK) : Prop := ∀ d H', Same H H' → H d = none → H' d = some (.xd [(fl, v)]) → E (.ref C) (some d) H'
theorem Errs.mono {H H' : Hp} {C : Addr} {fl : Str} {v : V} {E : XK} (h : Errs H C fl v E) (s : Same H H') : Errs H' C fl v E := fun d H2 s2 hd hx => h d H2 (s.trans s2) (s.free hd) hx
section
variable {X : Cx}
/-- C(e, ..) by a local name that holds the class; __init__ may raise what the text passes on -/
def tMakeLX (i : Nat) (C : Addr) (sp : Sp) (dvs : List V) (E : XK) (t : TA) : TE := fun σ H Q => σ[i]? = some (some (.ref C)) ∧ tMake C sp dvs E t σ H Q
theorem pe_makeLX {CX : CXT} {E : XK} {C : Addr} {ps : List Str} {sp : Sp} {dvs : List V} {ds : List Value} {k : Nat} {f : Addr} {fd : FuncData} {i : Nat} {x : Str} {p pos : Pos} {e : Expr} {es : List Expr} {t : TA} (M : Mk X.K C f) (F : FnOk X.prog X.w X.K X.mg X.base CX k f fd ps sp) (hr : Room (k + 1) X.A) (hb : Binds X.K fd ps ds) (hd : Vals dvs ds) (hps : Passes CX X E) (ha : PA X (e :: es) t)
    (hN : X.N[i]? = some x := by rfl) (hv : Vis X.env.scope x := by first | exact Or.inl rfl | exact Or.inr (Or.inl rfl) | exact Or.inr (Or.inr rfl))
    (hdb : (x == ("__debug__" : Str)) = false := by decide) (hcd : (x == ("__classdict__" : Str)) = false := by decide)
    (hst : starEach (e :: es) X.env = (false, eval e X.env) :: starEach es X.env := by rfl) (hpl : (backTo pos (starEach es X.env)).any (·.1) = false := by rfl) : PE X (.Call (.Name x p) (e :: es) [] pos) (tMakeLX i C sp dvs E t) := by
  refine ⟨fun pins s σ H Q I h => ?_⟩
  obtain ⟨hs, ht⟩ := h
  have hx := pe_var (X := X) (pos := p) hN hv hdb hcd
  refine wpAny_Call_Name_kw (thn (hx.run pins s σ H (fun v H1 => v = .ref C ∧ H1 = H) I ⟨.ref C, hs, rfl, rfl⟩) fun u s1 ⟨v, H1, I1, r1, q1⟩ => ?_)
  obtain ⟨rfl, rfl⟩ := q1
  cases r1
  exact PySem.W.callWith_K (h₀ := X.base) I.ok.mod.kin M.kp (thn (ha.run pos pins s1 σ _ _ I1 ht) fun us s2 ⟨vs, H2, I2, r, q⟩ => ⟨I2.kIn, run_make M F hr hb hd hps I2 r q⟩) hst hpl
end
section
variable {P : Program} {w : World} {K : PySem.W.Frag} {mg : Str → Option Value} {base : Heap}
/-! ### a piece called, where it has a whole value -/
def spPc (K : PySem.W.Frag) (C : Addr) : Sp := fun vs H Q _ => ∃ (p : Addr) (n : Int) (r : List Int) (u : Nat), vs = [.ref p, .int n] ∧ PAt K C H p r u ∧ r.length ≤ 100 ∧ 0 < u ∧ Bd 3000 (u : Int) ∧ (∀ c ∈ r, Bd 3000 c) ∧ Bd 3000 n ∧ evalR r n % (u : Int) = 0 ∧ ∀ H', Same H H' → Q (.int (evalR r n / (u : Int))) H'
theorem scCall : FnScope ["self", "n", "total"] ["self", "n"] (defScope sCall) := ⟨rfl, rfl, rfl, by decide +kernel, rfl, by decide +kernel, by decide +kernel⟩
theorem ok_call {f C : Addr} {fd : FuncData} (F : Fun K "__call__" "Piece.__call__" sCall f fd) (CW : ClsP K mg C) (Disint : Df P w K mg base 1 "is_int" ["value"] (spIsInt K)) (Dvalueat : Df P w K mg base 1 "value_at" ["row", "n"] (spVal K)) :
    FnOk P w K mg base CX0 3 f fd ["self", "n"] (spPc K C) := by
  refine F.ok scCall (fun vs H Q E h => ?_) (fun cdv A outer s H vs Q E hr h => ?_)
  · obtain ⟨p, v, r, u, rfl, _⟩ := h
    rfl
  · obtain ⟨p, n, r, u, rfl, ⟨dx, ra, h1, h2⟩, hl, hu, hub, hc, hn, hz, q⟩ := h
    refine ⟨_, (pss_cons (ps_if (pt_not (pt_val (Disint.call (hr.mono (by decide)) (pa_cons (pv 1) pa_nil)))) (pss_one ps_never) pss_nil)
      (pss_cons (ps_set (i := 2) scCall.nd rfl (.inl rfl) (Dvalueat.call (hr.mono (by decide)) (pa_cons (pe_fld (pv 0) rfl) (pa_cons (pv 1) pa_nil))))
      (pss_cons (ps_if (pt_cmpR op_ne (pe_op op_mod (pv 2) (pe_fld (pv 0) rfl)) pe_int (nomark _)) (pss_one ps_never) pss_nil)
      (pss_one (ps_ret (pe_op op_fdivW (pv 2) (pe_fld (pv 0) rfl))))))), ?_⟩
    refine ⟨_, rfl, _, "int", true, false, rfl, .base (.int n), by decide +kernel, by decide +kernel, _, rfl, ?_⟩
    refine iteF ?_
    refine ⟨_, rfl, p, C, dx, _, _, rfl, h1, CW.cl, CW.nR, pf_row, _, rfl, ra, r, n, rfl, h2, hl, hc, hn, fun H1 s1 => ?_⟩
    have hp1 := s1 _ _ h1
    refine ⟨_, rfl, _, rfl, p, C, dx, _, _, rfl, hp1, CW.cl, CW.nU, pf_under, _, _, rfl, rfl, (by omega), rfl, _, rfl, ?_⟩
    rw [dint, decide_eq_true hz]
    refine iteF ?_
    exact ⟨_, rfl, _, rfl, p, C, dx, _, _, rfl, hp1, CW.cl, CW.nU, pf_under, _, _, rfl, rfl, wide_div (by omega) hub (by decide) (by decide), q _ s1⟩
/-! ### stretched -/
def spStretched (K : PySem.W.Frag) (C CN : Addr) : Sp := fun vs H Q E => ∃ (p : Addr) (v y : V) (r : List Int) (u : Nat), vs = [.ref p, v, y] ∧ PAt K C H p r u ∧ r.length ≤ 12 ∧ 0 < u ∧ Bd 3000 (u : Int) ∧ (∀ c ∈ r, Bd 300 c) ∧
  (((((∃ i, v = .int i ∧ ¬ 1 ≤ i) ∨ NotInt K H v)) ∧ Errs H CN "number" v E) ∨ (∃ m : Int, v = .int m ∧ 1 ≤ m ∧ ((NotInt K H y ∧ Errs H CN "number" y E) ∨ (∃ x : Int, y = .int x ∧ Bd 230 m ∧ Bd 230 x ∧
    ∀ a t s z H', Same H H' → PAt K C H' a s z → (∀ j, cf t j = stF x m r j) → Low t u s z → Q (.ref a) H'))))
theorem scStretched : FnScope ["self", "m", "r"] ["self", "m", "r"] (defScope sStretched) := ⟨rfl, rfl, rfl, by decide +kernel, rfl, by decide +kernel, by decide +kernel⟩
theorem ok_stretched {C CR CU CN fI fN f : Addr} {fd fdI fdN : FuncData} (F : Fun K "stretched" "Piece.stretched" sStretched f fd) (T : TxtJ mg) (CW : ClsP K mg C) (M : Mk K C fI) (FI : FnOk P w K mg base (CX P w) 4 fI fdI ["self", "row", "under"] (spInit K C CR CU)) (bI : Binds K fdI ["self", "row", "under"] [])
    (EN : ErrF K mg "BadNumber" "number" CN fN) (FN : FnOk P w K mg base CX0 1 fN fdN ["self", "number"] (spErr K CN "number")) (bN : Binds K fdN ["self", "number"] [])
    (Disint : Df P w K mg base 1 "is_int" ["value"] (spIsInt K)) (Disintfrom : Df P w K mg base 2 "is_int_from" ["value", "low"] (spFrom K)) (Drowstretched : Df P w K mg base 4 "row_stretched" ["row", "m", "r"] (spStr K)) :
    FnOk P w K mg base (CX P w) 6 f fd ["self", "m", "r"] (spStretched K C CN) := by
  refine F.okX scStretched (fun vs H Q E h => ?_) (fun cdv A outer s H vs Q E hr h => ?_)
  · obtain ⟨p, v, y, r, u, rfl, _⟩ := h
    rfl
  · obtain ⟨p, v, y, r, u, rfl, ⟨dx, ra, h1, h2⟩, hl, hu, hub, hc, q⟩ := h
    refine ⟨_, (pss_cons (ps_if (pt_not (pt_val (Disintfrom.call (hr.mono (by decide)) (pa_cons (pv 1) (pa_cons pe_int pa_nil))))) (pss_one (ps_raise rfl (takes_of rfl rfl rfl rfl) (pmk_oex EN.oex EN.iC EN.tI FN (hr.mono (by decide)) bN .nil pass0 (by rfl) EN.mgC (pa_cons (pv 1) pa_nil)))) pss_nil)
      (pss_cons (ps_if (pt_not (pt_val (Disint.call (hr.mono (by decide)) (pa_cons (pv 2) pa_nil)))) (pss_one (ps_raise rfl (takes_of rfl rfl rfl rfl) (pmk_oex EN.oex EN.iC EN.tI FN (hr.mono (by decide)) bN .nil pass0 (by rfl) EN.mgC (pa_cons (pv 2) pa_nil)))) pss_nil)
      (pss_one (ps_ret (pe_make M FI (hr.mono (by decide)) (by rfl) CW.mgC bI .nil passF (pa_cons (Drowstretched.call (hr.mono (by decide)) (pa_cons (pe_fld (pv 0) rfl) (pa_cons (pv 1) (pa_cons (pv 2) pa_nil)))) (pa_cons (pe_fld (pv 0) rfl) pa_nil))))))), ?_⟩
    rcases q with ⟨hv, q⟩ | ⟨m, rfl, h1m, q⟩
    · refine ⟨_, rfl, _, 1, rfl, ?_⟩
      rcases hv with ⟨i, rfl, hi⟩ | hN
      · refine .inl ⟨i, rfl, _, rfl, ?_⟩
        rw [decide_eq_false hi]
        exact iteT ⟨_, rfl, mk_err (v := .int i) (R := E) q⟩
      · refine .inr ⟨hN, _, rfl, ?_⟩
        exact iteT ⟨_, rfl, mk_err (v := v) (R := E) q⟩
    refine ⟨_, rfl, _, 1, rfl, .inl ⟨m, rfl, _, rfl, ?_⟩⟩
    rw [decide_eq_true h1m]
    refine iteF ?_
    rcases q with ⟨⟨nm, b1, b2, ht, k1, k2, hb⟩, q⟩ | ⟨x, rfl, bm, bx, q⟩
    · refine ⟨_, rfl, _, nm, b1, b2, rfl, ht, k1, k2, _, rfl, ?_⟩
      rw [hb]
      exact iteT ⟨_, rfl, mk_err (v := y) (R := E) q⟩
    refine ⟨_, rfl, _, "int", true, false, rfl, .base (.int x), by decide +kernel, by decide +kernel, _, rfl, ?_⟩
    refine iteF ?_
    refine ⟨_, rfl, p, C, dx, _, _, rfl, h1, CW.cl, CW.nR, pf_row, _, rfl, _, rfl, ra, r, m, x, rfl, h2, hl, hc, bm, bx, fun l t H1 n1 s1 e1 hlt ht => ?_⟩
    exact ⟨_, rfl, p, C, dx, _, _, rfl, s1 _ _ h1, CW.cl, CW.nU, pf_under, mk_pc (.inl (.inl (.inl e1))) (by omega) hu (hub.up (by decide)) fun b s z H' hL s2 hP => q b t s z H' (s1.trans s2) hP ht hL⟩
/-! ### through -/
def spThrough (K : PySem.W.Frag) (C CB CR : Addr) : Sp := fun vs H Q E => ∃ (v : V) (a : Addr) (xs : List V), vs = [.ref C, v, .ref a] ∧ Seqs K H a xs ∧ xs.length ≤ 9 ∧
  ((NotInt K H v ∧ Errs H CB "n" v E) ∨ (∃ p : Int, v = .int p ∧ Bd 230 p ∧ ((∃ (r : List Int) (z : V) (ys : List V), xs = r.map V.int ++ z :: ys ∧ NotInt K H z ∧ Errs H CR "index" (.int (r.length : Int)) E) ∨
    (∃ r : List Int, xs = r.map V.int ∧ (∀ c ∈ r, Bd 700 c) ∧ ∀ b t (U : Nat) s z H', Same H H' → PAt K C H' b s z → (∀ c ∈ t, Bd 3000 c) → 0 < U → Bd 3000 (U : Int) → ThrOk p r t (U : Int) → Low t U s z → Q (.ref b) H'))))
theorem scThrough : FnScope ["cls", "place", "values", "row", "under"] ["cls", "place", "values"] (defScope sThrough) := ⟨rfl, rfl, rfl, by decide +kernel, rfl, by decide +kernel, by decide +kernel⟩
theorem ok_through {C CR CU CB fI fB fk f : Addr} {fd fdI fdB fdk : FuncData} (F : Fun K "through" "Piece.through" sThrough f fd) (T : TxtJ mg) (M : Mk K C fI) (FI : FnOk P w K mg base (CX P w) 4 fI fdI ["self", "row", "under"] (spInit K C CR CU)) (bI : Binds K fdI ["self", "row", "under"] [])
    (EB : ErrF K mg "BadPlace" "n" CB fB) (FB : FnOk P w K mg base CX0 1 fB fdB ["self", "n"] (spErr K CB "n")) (bB : Binds K fdB ["self", "n"] []) (CKR : DfX P w K mg base 3 "_check_row" ["row"] (spCheck K CR) fk fdk)
    (Disint : Df P w K mg base 1 "is_int" ["value"] (spIsInt K)) (Drowthrough : DfD P w K mg base 4 "row_through" ["place", "values", "step"] [V.int 1] (spThr K)) :
    FnOk P w K mg base (CX P w) 6 f fd ["cls", "place", "values"] (spThrough K C CB CR) := by
  refine F.okX scThrough (fun vs H Q E h => ?_) (fun cdv A outer s H vs Q E hr h => ?_)
  · obtain ⟨v, a, xs, rfl, _⟩ := h
    rfl
  · obtain ⟨v, a, xs, rfl, hA, hl, q⟩ := h
    refine ⟨_, (pss_cons (ps_if (pt_not (pt_val (Disint.call (hr.mono (by decide)) (pa_cons (pv 1) pa_nil)))) (pss_one (ps_raise rfl (takes_of rfl rfl rfl rfl) (pmk_oex EB.oex EB.iC EB.tI FB (hr.mono (by decide)) bB .nil pass0 (by rfl) EB.mgC (pa_cons (pv 1) pa_nil)))) pss_nil)
      (pss_cons (ps_expr (pe_callS CKR.F (hr.mono (by decide)) (by rfl) CKR.at_ CKR.kp CKR.b (fun σ => passAt (takes_of rfl rfl rfl rfl) σ) (pa_cons (pv 2) pa_nil)))
      (pss_cons (ps_asg (Drowthrough.call (hr.mono (by decide)) (pa_cons (pv 1) (pa_cons (pv 2) pa_nil))) (pg_tup (by rfl) (pgs_cons (pg_name (i := 3) scThrough.nd rfl (.inl rfl)) (pgs_cons (pg_name (i := 4) scThrough.nd rfl (.inl rfl)) pgs_nil))))
      (pss_one (ps_ret (pe_makeLX (i := 0) M FI (hr.mono (by decide)) bI .nil passF (pa_cons (pv 3) (pa_cons (pv 4) pa_nil)))))))), ?_⟩
    rcases q with ⟨⟨nm, b1, b2, ht, k1, k2, hb⟩, q⟩ | ⟨p, rfl, bp, q⟩
    · refine ⟨_, rfl, _, nm, b1, b2, rfl, ht, k1, k2, _, rfl, ?_⟩
      rw [hb]
      exact iteT ⟨_, rfl, mk_err (v := v) (R := E) q⟩
    refine ⟨_, rfl, _, "int", true, false, rfl, .base (.int p), by decide +kernel, by decide +kernel, _, rfl, ?_⟩
    refine iteF ?_
    refine ⟨_, rfl, a, xs, rfl, hA, by omega, ?_⟩
    rcases q with ⟨r, z, ys, rfl, hN, q⟩ | ⟨r, rfl, hb, q⟩
    · exact .inr ⟨r, z, ys, rfl, hN, fun d H' s1 hd hx => q d H' s1 hd hx⟩
    refine .inl ⟨r, rfl, fun H1 s1 => ?_⟩
    refine ⟨_, rfl, _, rfl, a, r, p, rfl, hA.same s1, by rw [List.length_map] at hl; exact hl, hb, bp, fun l t lt U H2 s2 e2 e3 hl2 bt hU bU hT => ?_⟩
    refine ⟨l, _, rfl, .inl (.inl e2), rfl, _, _, rfl, _, _, rfl, rfl, ?_⟩
    refine ⟨rfl, _, rfl, _, rfl, ?_⟩
    exact mk_pc (.inl (.inl (.inl e3))) (by omega) hU (bU.up (by decide)) fun b s z H' hL s3 hP => q b t U s z H' (s1.trans (s2.trans s3)) hP bt hU bU hT hL
end
end Ef
set_option Elab.async false
set_option linter.all false
set_option maxRecDepth 100000
set_option maxHeartbeats 4000000
namespace Ef
open PySem PySem.Spec PyProof.Rows L2
abbrev sFault : Stmt := top 39
abbrev sIss : Stmt := top 40
/-! ### _law_fault -/
structure ErrM (K : PySem.W.Frag) (CN CP CR : Addr) : Prop where
  nn : PySem.W.exmOne K (.ref CN) (.ref CN) = some true
  pn : PySem.W.exmOne K (.ref CP) (.ref CN) = some false
  rn : PySem.W.exmOne K (.ref CR) (.ref CN) = some false
  pp : PySem.W.exmOne K (.ref CP) (.ref CP) = some true
  rp : PySem.W.exmOne K (.ref CR) (.ref CP) = some false
  rr : PySem.W.exmOne K (.ref CR) (.ref CR) = some true
/-- what is told of one error -/
def E1 (C : Addr) (fl tag : Str) (Q : VK) : XK := fun cls d H' => cls = .ref C ∧ ∃ (v : V) (dd : Addr), d = some dd ∧ H' dd = some (.xd [(fl, v)]) ∧ ∀ t H2, Same H' H2 → H2 t = some (.tup [.str tag, v]) → Q (.ref t) H2
def EF (CN CP CR : Addr) (Q : VK) : XK := fun cls d H' => E1 CN "number" "number" Q cls d H' ∨ E1 CP "n" "place" Q cls d H' ∨ E1 CR "index" "row" Q cls d H'
def TFault (CN CP CR : Addr) : (XK → Hp → VK → Prop) → Hp → VK → Prop := fun tl H Q => tl (EF CN CP CR Q) H fun _ H' => Q .non H'
theorem scFault : FnScope ["ask", "e"] ["ask"] (defScope sFault) := ⟨rfl, rfl, rfl, by decide +kernel, rfl, by decide +kernel, by decide +kernel⟩
theorem fault_gives {X : Cx} {g CN CP CR fN fP fR : Addr} {cdg : Value} {q : Str} (EN : ErrF X.K X.mg "BadNumber" "number" CN fN) (EB : ErrF X.K X.mg "BadPlace" "n" CP fP) (ER : ErrF X.K X.mg "BadRow" "index" CR fR) (EM : ErrM X.K CN CP CR) :
    LamX.GivesTo X ["ask", "e"] "_law_fault" (defScope sFault) g cdg (defBody sFault) "ask" q (TFault CN CP CR) := by
  intro f c' s H Q tl act hc h
  refine ⟨_, (pss_cons (ps_try_asL (tb := fun W D σ H1 => ∃ Ech : XK, (∀ (cls : Value) (d : Option Addr) (σ' : L2.St) (H' : Hp), σ'.length = 2 → Ech cls d H' → W cls d σ' H') ∧ σ[0]? = some (some (.ref f)) ∧ H1 c' = some (LamX.CodeO c' q) ∧ tl Ech H1 fun _ H2 => D.nx σ H2) rfl rfl scFault.nd takes0
      (fun W pn xe tk _ => ⟨fun pins s' σ H' D I h' => ?_⟩)
      (.cons (i := 1) rfl rfl ⟨rfl, by decide, .inl EN.mgC⟩ (fun a oe cls d pn hz hf => pss_one (ps_ret (pe_tup (pa_cons pe_str (pa_cons (pe_xf EN.xf EN.nN hz hf (pv 1)) pa_nil)))))
      (.cons (i := 1) rfl rfl ⟨rfl, by decide, .inl EB.mgC⟩ (fun a oe cls d pn hz hf => pss_one (ps_ret (pe_tup (pa_cons pe_str (pa_cons (pe_xf EB.xf EB.nN hz hf (pv 1)) pa_nil)))))
      (.cons (i := 1) rfl rfl ⟨rfl, by decide, .inl ER.mgC⟩ (fun a oe cls d pn hz hf => pss_one (ps_ret (pe_tup (pa_cons pe_str (pa_cons (pe_xf ER.xf ER.nN hz hf (pv 1)) pa_nil)))))
      .nil))))
      (pss_one (ps_ret pe_non))), ?_⟩
  · obtain ⟨Ech, hW, h1, h2, h3⟩ := h'
    have tk' : Takes ((cxOf C8.CX0 X.prog X.w X.K X.mg X.base ["ask", "e"] "_law_fault" (defScope sFault) g cdg X.A X.stack s H C8.E0).tr pn xe) (fun cls d σ' H' => σ'.length = 2 → W cls d σ' H') := by
      intro u s2 hx
      obtain ⟨a, B, sI, pins', σ', H2, cls, d, e1, J, nb, up, sky, na, os, ag, hw⟩ := hx
      exact tk u s2 ⟨a, B, sI, pins', σ', H2, cls, d, e1, J, nb, up, sky, na, os, ag, hw J.len⟩
    exact (pss_one (ps_expr (act _ pn xe Ech _ _ tk' fun cls d σ' H' hE hl => hW cls d σ' H' hl hE))).run pins s' σ H' D I ⟨h1, h2, h3⟩
  · refine ⟨EF CN CP CR Q, fun cls d σ' H' hlen hE => ?_, rfl, hc, h⟩
    match σ', hlen with
    | [z0, z1], _ =>
      have fin : ∀ {v : V} {dd : Addr} {tag fl : Str}, H' dd = some (.xd [(fl, v)]) → (∀ t H2, Same H' H2 → H2 t = some (.tup [.str tag, v]) → Q (.ref t) H2) → ∀ t, H' t = none → Q (.ref t) (upd H' t (.tup [.str tag, v])) := fun hx q t ht => q t _ (same_new ht) upd_same
      rcases hE with ⟨rfl, v, dd, rfl, hx, q⟩ | ⟨rfl, v, dd, rfl, hx, q⟩ | ⟨rfl, v, dd, rfl, hx, q⟩
      · refine ⟨true, EM.nn, fun _ a ha => ?_, fun z => Bool.noConfusion z⟩
        exact ⟨_, rfl, rfl, rfl, dd, _, v, rfl, hx, rfl, by show 2 ≤ sizeLine; decide, fin hx q⟩
      · refine ⟨false, EM.pn, fun z => Bool.noConfusion z, fun _ => ⟨true, EM.pp, fun _ a ha => ?_, fun z => Bool.noConfusion z⟩⟩
        exact ⟨_, rfl, rfl, rfl, dd, _, v, rfl, hx, rfl, by show 2 ≤ sizeLine; decide, fin hx q⟩
      · refine ⟨false, EM.rn, fun z => Bool.noConfusion z, fun _ => ⟨false, EM.rp, fun z => Bool.noConfusion z, fun _ => ⟨true, EM.rr, fun _ a ha => ?_, fun z => Bool.noConfusion z⟩⟩⟩
        exact ⟨_, rfl, rfl, rfl, dd, _, v, rfl, hx, rfl, by show 2 ≤ sizeLine; decide, fin hx q⟩
section
variable {P : Program} {w : World} {K : PySem.W.Frag} {mg : Str → Option Value} {base : Heap}
/-! ### _law_is_stretched -/
def spIss (K : PySem.W.Frag) (C : Addr) : Sp := fun vs H Q _ => ∃ (p a : Addr) (r s pr t : List Int) (un z u : Nat) (m x : Int), vs = [.ref p, .ref a, .int (un : Int), .int m, .int x] ∧ PAt K C H p s z ∧ SqL K H a (r.map V.int) ∧ r.length ≤ 6 ∧ (∀ c ∈ r, Bd 300 c) ∧ Bd 3000 (un : Int) ∧ Bd 200 m ∧ Bd 220 x ∧ Low r un pr u ∧
  (∀ j, cf t j = stF x m pr j) ∧ Low t u s z ∧ (∀ c ∈ s, Bd 3000 c) ∧ Bd 3000 (z : Int) ∧ ∀ H', Same H H' → Q (.bl true) H'
theorem scIss : FnScope ["piece", "row", "under", "m", "r", "t"] ["piece", "row", "under", "m", "r"] (defScope sIss) := ⟨rfl, rfl, rfl, by decide +kernel, rfl, by decide +kernel, by decide +kernel⟩
theorem low_ev {r p : List Int} {un u : Nat} (h : Low r un p u) (x : Int) : evalR r x * (u : Int) = evalR p x * (un : Int) := (ev_lin (t := p) (r := r) h.cross x).symm
theorem iss_len {r s pr t : List Int} {un z u : Nat} {m x : Int} (h1 : Low r un pr u) (ht : ∀ j, cf t j = stF x m pr j) (h2 : Low t u s z) : s.length ≤ r.length := by
  rcases Nat.lt_or_ge r.length s.length with h | h
  · have h0 : cf s (s.length - 1) ≠ 0 := h2.end_ (s.length - 1) (by omega)
    have h3 : cf s (s.length - 1) * (u : Int) = cf t (s.length - 1) * (z : Int) := h2.cross (s.length - 1)
    have h4 := h1.len
    rw [ht, stF_zero _ _ _ _ (by omega), Int.zero_mul] at h3
    have h5 : (u : Int) ≠ 0 := by have := h1.u1; omega
    rcases Int.mul_eq_zero.mp h3 with h | h
    · exact absurd h h0
    · exact absurd h h5
  · exact h
theorem iss_val {r s pr t : List Int} {un z u : Nat} {m x : Int} (h1 : Low r un pr u) (ht : ∀ j, cf t j = stF x m pr j) (h2 : Low t u s z) (y : Int) : evalR s y * (un : Int) = evalR r (m * y + x) * (z : Int) := by
  have k1 := low_ev h2 y
  rw [stF_ev x m y pr t ht] at k1
  have k2 := low_ev h1 (m * y + x)
  have h3 : (u : Int) ≠ 0 := by have := h1.u1; omega
  refine Int.eq_of_mul_eq_mul_right h3 ?_
  rw [Int.mul_right_comm, ← k1, Int.mul_right_comm (evalR r (m * y + x)), k2, Int.mul_right_comm]
theorem df_iss {C : Addr} (A : At K mg "_law_is_stretched" sIss) (T : TxtJ mg) (CW : ClsP K mg C) (Dupper : Df P w K mg base 1 "_law_upper" ["row", "n"] (spUp K)) : Df P w K mg base 2 "_law_is_stretched" ["piece", "row", "under", "m", "r"] (spIss K C) := by
  obtain ⟨f, fd, hm, F⟩ := A.ex
  refine ⟨f, fd, hm, F.kp, F.binds (fun _ _ _ _ _ _ us hl => match us, hl with | [_, _, _, _, _], _ => rfl), F.ok scIss (fun vs H Q E h => ?_) (fun cdv A outer s H vs Q E hr h => ?_)⟩
  · obtain ⟨p, a, r, s, pr, t, un, z, u, m, x, rfl, _⟩ := h
    rfl
  · obtain ⟨p, a, r, s', pr, t, un, z, u, m, x, rfl, hP, hA, hl, hb, hub, bm, bx, L1, ht, L2, hbs, hbz, q⟩ := h
    refine ⟨_, (pss_cons (ps_if (pt_cmpR op_gt (pe_callB call_len_seq (by rfl) T.len PySem.boot_len (pa_cons (pe_fld (pv 0) rfl) pa_nil)) (pe_callB call_len_seq (by rfl) T.len PySem.boot_len (pa_cons (pv 1) pa_nil)) (nomark _)) (pss_one (ps_ret pe_bl)) pss_nil)
      (pss_cons (ps_for PassesOwn.never rfl (pi_range2 (by rfl) T.range (pa_cons (pe_un un_neg pe_int) (pa_cons (pe_op op_add (pe_callB call_len_seq (by rfl) T.len PySem.boot_len (pa_cons (pv 1) pa_nil)) pe_int) pa_nil))) (pg_name (i := 5) scIss.nd rfl (.inl rfl))
      (pss_one (ps_if (pt_cmpR op_ne (pe_op op_mulW (Dupper.call (hr.mono (by decide)) (pa_cons (pe_fld (pv 0) rfl) (pa_cons (pv 5) pa_nil))) (pv 2)) (pe_op op_mulW (Dupper.call (hr.mono (by decide)) (pa_cons (pv 1) (pa_cons (pe_op op_add (pe_op op_mulW (pv 3) (pv 5)) (pv 4)) pa_nil))) (pe_fld (pv 0) rfl)) (nomark _)) (pss_one (ps_ret pe_bl)) pss_nil)))
      (pss_one (ps_ret pe_bl)))), ?_⟩
    obtain ⟨dx, ra, h1, h2⟩ := id hP
    have hlen := iss_len L1 ht L2
    refine ⟨_, rfl, p, C, dx, _, _, rfl, h1, CW.cl, CW.nR, pf_row, ra, _, rfl, .inr h2, _, rfl, a, _, rfl, .inl hA, _, _, rfl, rfl, _, rfl, ?_⟩
    rw [List.length_map, List.length_map, decide_eq_false (show ¬ (r.length : Int) < (s'.length : Int) by omega)]
    refine iteF ?_
    refine ⟨_, rfl, _, rfl, a, _, rfl, .inl hA, _, _, rfl, rfl, _, _, rfl, ⟨by decide, by decide, by omega, by rw [List.length_map]; omega⟩, ?_⟩
    rw [List.length_map, show ((r.length : Int) + 1 - -1).toNat = r.length + 2 by omega]
    refine for_range (lo := -1) (n := r.length + 2) (fun i σ H' => Same H H' ∧ ∃ y : Option V, σ = [some (.ref p), some (.ref a), some (.int (un : Int)), some (.int m), some (.int x), y]) ⟨Same.refl H, none, rfl⟩ ?_ ?_
    · rintro i σ H1 hi ⟨s1, y, rfl⟩
      have bt : Bd 20 (-1 + (i : Int)) := by unfold Bd; omega
      generalize -1 + (i : Int) = y at bt ⊢
      have be : ∀ (q : List Int) (v : Int), q.length ≤ 6 → (∀ c ∈ q, Bd 3000 c) → Bd 3000 v → Bd 20000 (evalR q v) := fun q v hq hc hv => (bd_eval hv q hc).up (Nat.le_trans (Nat.mul_le_mul_left _ hq) (by decide))
      have bmy : Bd 230 (m * y + x) := Bd.add' (a := 229) ((bm.mul bt (Nat.le_refl _)).up (by decide)) (bx.up (by decide)) (Nat.le_refl _)
      refine ⟨_, rfl, p, C, dx, _, _, rfl, s1 _ _ h1, CW.cl, CW.nR, pf_row, _, rfl, ra, s', y, rfl, .inr (Same.tup s1 h2), by omega, hbs, bt.up (by decide), fun H2 s2 => ?_⟩
      refine ⟨_, rfl, _, _, rfl, rfl, wide_mul (be s' y (by omega) hbs (bt.up (by decide))) hub (by decide) (by decide) (by decide), ?_⟩
      refine ⟨_, rfl, _, rfl, _, rfl, _, _, rfl, rfl, wide_mul bm bt (by decide) (by decide) (by decide), _, rfl, _, _, rfl, rfl, a, r, m * y + x, rfl, .inl ((s1.trans s2).seq hA), by omega, fun c hc => (hb c hc).up (by decide), bmy.up (by decide), fun H3 s3 => ?_⟩
      refine ⟨_, rfl, p, C, dx, _, _, rfl, (s1.trans (s2.trans s3)) _ _ h1, CW.cl, CW.nU, pf_under, _, _, rfl, rfl, wide_mul (be r _ hl (fun c hc => (hb c hc).up (by decide)) (bmy.up (by decide))) hbz (by decide) (by decide) (by decide), ?_⟩
      dsimp only
      rw [iss_val L1 ht L2 y]
      refine ⟨rfl, _, rfl, ?_⟩
      rw [decide_eq_true rfl]
      exact iteF ⟨s1.trans (s2.trans s3), _, rfl⟩
    · rintro σ H1 ⟨s1, y, rfl⟩
      exact q _ s1
end
end Ef
set_option Elab.async false
set_option linter.all false
/-! a power of a wide number -/
namespace Ef
open PySem PySem.Spec PyProof.Rows L2
def CPowW : Int → Int → Prop := fun i j => 0 ≤ j ∧ (Builtin.Int.intBits i : Int) * j ≤ 2 ^ 27
theorem op_powW {X : Cx} : OpR X (binaryOp .Pow) (rI CPowW fun i j => .int (i ^ j.toNat)) := opI fun _ _ _ _ _ _ _ hc q => pow_int hc.1 hc.2 q
theorem wide_pow2 {i : Int} {b : Nat} (h : i.natAbs < 2 ^ b) (hb : b ≤ 10000) : CPowW i 2 := by
  refine ⟨by decide, ?_⟩
  have e := intBits_le h
  have e2 : (Builtin.Int.intBits i : Int) ≤ (b : Int) := by omega
  have : (2 : Int) ^ 27 = 134217728 := by decide
  omega
end Ef
set_option Elab.async false
set_option linter.all false
set_option maxRecDepth 100000
set_option maxHeartbeats 8000000
namespace Ef
open PySem PySem.Spec PyProof.Rows L2
theorem passX {X : Cx} {A : Around} {outer : List Env} {s : Shared} {H : Hp} {E : XK} {scope : Scope} {f c' : Addr} : Passes (CX X.prog X.w) (LamX.lamCx X A outer s H E scope f c') E :=
  fun pins σ H1 s1 e s' I h => passes_call (X := LamX.lamCx X A outer s H E scope f c') (takes_of rfl rfl rfl rfl) (fun _ _ _ _ h => h) pins σ H1 s1 e s' I h
theorem tabs_same {T : List (Addr × Str)} {H H' : Hp} (t : LamX.Tabs T H) (e : Same H H') : LamX.Tabs T H' := fun p hp => (t p hp).ext e
theorem tab_kp {H H' : Hp} {P p l : Addr} {q : Str} {ns : List Int} {a b : Int} (t : LamX.TabS H P q) (k : Kp p H H') (hp : Pen H p l ns a b) : LamX.TabS H' P q := by
  obtain ⟨ps, h1, h2, h3⟩ := t
  refine ⟨ps, k _ _ (ne_of h1 hp.hd (by intro q; cases q)) h1, h2, fun pos cv hc => ?_⟩
  obtain ⟨c, e1, e2⟩ := h3 pos cv hc
  exact ⟨c, e1, k _ _ (ne_of e2 hp.hd (by intro q; cases q)) e2⟩
theorem tabs_kp {T : List (Addr × Str)} {H H' : Hp} {p l : Addr} {ns : List Int} {a b : Int} (t : LamX.Tabs T H) (k : Kp p H H') (hp : Pen H p l ns a b) : LamX.Tabs T H' := fun x hx => tab_kp (t x hx) k hp
def Kx (p : Addr) (H H' : Hp) : Prop := ∀ b o, b ≠ p → (∀ ps, o ≠ HO.tbl ps) → H b = some o → H' b = some o
theorem Kx.of_same {p : Addr} {H H' : Hp} (h : Same H H') : Kx p H H' := fun b o _ _ e => h b o e
theorem Kx.of_kp {p : Addr} {H H' : Hp} (h : Kp p H H') : Kx p H H' := fun b o n _ e => h b o n e
theorem Kx.of_ext {p : Addr} {H H' : Hp} (h : LamX.ExtN H H') : Kx p H H' := fun b o _ n e => h b o e n
theorem Kx.trans {p : Addr} {H H' H2 : Hp} (h : Kx p H H') (k : Kx p H' H2) : Kx p H H2 := fun b o n m e => k b o n m (h b o n m e)
theorem Kx.lst {p b : Addr} {H H' : Hp} {xs : List V} {d : List (Key × V)} (k : Kx p H H') (hp : H p = some (.dK d)) (h : H b = some (.lst xs)) : H' b = some (.lst xs) := k _ _ (ne_of h hp (by intro z; cases z)) (fun _ z => by cases z) h
theorem Kx.tup {p b : Addr} {H H' : Hp} {xs : List V} {d : List (Key × V)} (k : Kx p H H') (hp : H p = some (.dK d)) (h : H b = some (.tup xs)) : H' b = some (.tup xs) := k _ _ (ne_of h hp (by intro z; cases z)) (fun _ z => by cases z) h
theorem Kx.sqt {K : PySem.W.Frag} {p b : Addr} {H H' : Hp} {xs : List V} {d : List (Key × V)} (k : Kx p H H') (hp : H p = some (.dK d)) (h : SqT K H b xs) : SqT K H' b xs := by
  rcases h with (h | ⟨z, h⟩) | h
  · exact .inl (.inl (k.tup hp h))
  · exact .inl (.inr ⟨z, k _ _ (ne_of h hp (by intro q; cases q)) (fun _ z => by cases z) h⟩)
  · exact .inr h
theorem Pen.same {H H' : Hp} {p l : Addr} {ns : List Int} {a b : Int} (h : Pen H p l ns a b) (e : Same H H') : Pen H' p l ns a b := ⟨e _ _ h.hd, e _ _ h.hl, h.len, h.a0, h.b0⟩
theorem ext_of {H H' : Hp} (h : LamX.ExtN H H') {b : Addr} {o : HO} (e : H b = some o) (n : ∀ ps : Array Value, o ≠ .tbl ps) : H' b = some o := h b o e n
theorem Pen.ext {H H' : Hp} {p l : Addr} {ns : List Int} {a b : Int} (h : Pen H p l ns a b) (e : LamX.ExtN H H') : Pen H' p l ns a b := ⟨ext_of e h.hd (fun _ z => by cases z), ext_of e h.hl (fun _ z => by cases z), h.len, h.a0, h.b0⟩
theorem sqt_kp {K : PySem.W.Frag} {H H' : Hp} {a p : Addr} {xs : List V} {d : List (Key × V)} (h : SqT K H a xs) (k : Kp p H H') (hp : H p = some (.dK d)) : SqT K H' a xs := by
  rcases h with (h | ⟨z, h⟩) | h
  · exact .inl (.inl (k _ _ (ne_of h hp (by intro q; cases q)) h))
  · exact .inl (.inr ⟨z, k _ _ (ne_of h hp (by intro q; cases q)) h⟩)
  · exact .inr h
theorem PAt.kp {K : PySem.W.Frag} {C : Addr} {H H' : Hp} {p q : Addr} {r : List Int} {u : Nat} {d : List (Key × V)} (h : PAt K C H q r u) (k : Kp p H H') (hp : H p = some (.dK d)) : PAt K C H' q r u := by
  obtain ⟨dx, ra, h1, h2⟩ := h
  exact ⟨dx, ra, k _ _ (ne_of h1 hp (by intro q; cases q)) h1, sqt_kp h2 k hp⟩
theorem eqv_int (i : Int) : PyData.eqv (.int i) (.int i) = true := by
  show decide (i = i) = true
  exact decide_eq_true rfl
theorem sh_tag (t : Str) (d : PyData) (h1 : PyData.canLay0 (.str t) = true) (h2 : PyData.depth (.str t) = 0) (h3 : PyData.canLay0 d = true) (h4 : PyData.depth d ≤ 5) : SeqAt.shaped (.tuple [.str t, d]) = true := by
  show ((PyData.canLay0 (.str t) && (PyData.canLay0 d && true)) && decide (max (PyData.depth (.str t)) (max (PyData.depth d) 0) + 1 ≤ 64)) = true
  rw [h1, h2, h3]
  exact decide_eq_true (by omega)
structure FaultAt (K : PySem.W.Frag) (mg : Str → Option Value) (g : Addr) (oc : Value) (od an : Option Addr) (kV doc pm cdv ct : Value) (osl : Array (Option Value)) : Prop where
  mg_ : mg "_law_fault" = some (.ref g)
  kp : PySem.W.keepIn K (.ref g) = true
  lk : K.lookup g = some ⟨oc, od, .func (PySem.W.fnOf "_law_fault" "_law_fault" (defArgs sFault) (defBody sFault) (defScope sFault) .none kV doc pm an cdv ct), osl⟩
  cd : PySem.W.codeIn K cdv "_law_fault" = true
  b : Binds K (PySem.W.fnOf "_law_fault" "_law_fault" (defArgs sFault) (defBody sFault) (defScope sFault) .none kV doc pm an cdv ct) ["ask"] []
section
variable {P : Program} {w : World} {K : PySem.W.Frag} {mg : Str → Option Value} {base : Heap}
theorem eqv_tag (t : Str) (i : Int) (h : PyData.eqv (.str t) (.str t) = true) : PyData.eqv (.tuple [.str t, .int i]) (.tuple [.str t, .int i]) = true := by
  show (PyData.eqv (.str t) (.str t) && (PyData.eqv (.int i) (.int i) && true)) = true
  rw [eqv_int, h]; rfl
def DataV (v : V) : Prop := ∃ d, (∀ (K : PySem.W.Frag) (H : Hp), Dp K H v d) ∧ PyData.canLay0 d = true ∧ PyData.depth d ≤ 5 ∧ PyData.eqv d d = true
theorem DataV.int (i : Int) : DataV (.int i) := ⟨.int i, fun _ _ => .int i, rfl, Nat.zero_le 5, eqv_int i⟩
theorem eqv_tag2 (t : Str) (d : PyData) (h : PyData.eqv (.str t) (.str t) = true) (h2 : PyData.eqv d d = true) : PyData.eqv (.tuple [.str t, d]) (.tuple [.str t, d]) = true := by
  show (PyData.eqv (.str t) (.str t) && (PyData.eqv d d && true)) = true
  rw [h, h2]; rfl
def NoI (K : PySem.W.Frag) (v : V) : Prop := ∀ H, NotInt K H v
theorem noi_bl (K : PySem.W.Frag) (b : Bool) : NoI K (.bl b) := fun H => ⟨"bool", true, true, .base (.bl _), by decide +kernel, by decide +kernel, rfl⟩
theorem noi_non (K : PySem.W.Frag) : NoI K .non := fun H => ⟨"NoneType", false, false, .base .non, by decide +kernel, by decide +kernel, rfl⟩
theorem noi_str (K : PySem.W.Frag) (t : Str) : NoI K (.str t) := fun H => ⟨"str", false, false, .base (.str _), by decide +kernel, by decide +kernel, rfl⟩
theorem DataV.bl (b : Bool) : DataV (.bl b) := ⟨.bool b, fun _ _ => .bl b, rfl, Nat.zero_le 5, by cases b <;> decide⟩
theorem DataV.non : DataV .non := ⟨.none, fun _ _ => .non, rfl, Nat.zero_le 5, by decide⟩
theorem DataV.str {t : Str} (h1 : PyData.canLay0 (.str t) = true) (h2 : PyData.depth (.str t) ≤ 5) (h3 : PyData.eqv (.str t) (.str t) = true) : DataV (.str t) := ⟨.str t, fun _ _ => .str t, h1, h2, h3⟩
def DataAt (K : PySem.W.Frag) (H : Hp) (v : V) : Prop := ∃ d, Dp K H v d ∧ PyData.canLay0 d = true ∧ PyData.depth d ≤ 5 ∧ PyData.eqv d d = true
theorem DataV.at_ {v : V} (h : DataV v) (K : PySem.W.Frag) (H : Hp) : DataAt K H v := by
  obtain ⟨d, d1, d2⟩ := h
  exact ⟨d, d1 K H, d2⟩
theorem ne_tagA {x y : Addr} {H : Hp} {R : VK} {tag : Str} {v : V} (h1 : PyData.canLay0 (.str tag) = true) (h2 : PyData.depth (.str tag) = 0) (h3 : PyData.eqv (.str tag) (.str tag) = true) (hv : DataAt K H v) (hx : H x = some (.tup [.str tag, v])) (hy : H y = some (.tup [.str tag, v])) (q : R (.bl false) H) : rNeD K (.ref x) (.ref y) H R := by
  obtain ⟨d, d1, d2, d3, d4⟩ := hv
  exact ⟨_, _, .tup (.inl (.inl hx)) (.cons (.str _) (.cons d1 .nil)), .tup (.inl (.inl hy)) (.cons (.str _) (.cons d1 .nil)), sh_tag tag _ h1 h2 d2 d3, sh_tag tag _ h1 h2 d2 d3, by rw [eqv_tag2 tag d h3 d4]; exact q⟩
theorem tagA_due {σ : L2.St} {H : Hp} {x : Addr} {R : VK} {tag : Str} {v : V} {i : Nat} (h1 : PyData.canLay0 (.str tag) = true) (h2 : PyData.depth (.str tag) = 0) (h3 : PyData.eqv (.str tag) (.str tag) = true) (hv : ∀ H', Same H H' → DataAt K H' v) (hi : σ[i]? = some (some v)) (hx : H x = some (.tup [.str tag, v])) (q : ∀ H', Same H H' → R (.bl false) H') :
    tTup (tCons (tC (V.str tag)) (tCons (tVar i) tNil)) σ H fun y H2 => rNeD K (.ref x) y H2 R := by
  refine ⟨_, hi, by show 2 ≤ sizeLine; decide, fun t ht => ?_⟩
  have s1 := same_new (o := .tup [.str tag, v]) ht
  exact ne_tagA h1 h2 h3 (hv _ s1) (s1 _ _ hx) upd_same (q _ s1)
end
end Ef
set_option Elab.async false
set_option linter.all false
set_option maxRecDepth 100000
set_option maxHeartbeats 8000000
namespace Ef
open PySem PySem.Spec PyProof.Rows L2 ClX
abbrev TT (PT : Addr) : List (Addr × Str) := [(PT, ("law.<locals>.<lambda>" : Str))]
theorem lk_str {ra : Addr} {u : Int} : (pf ra u).lookup ("stretched" : Str) = none := (lk_ne (by decide +kernel)).trans ((lk_ne (by decide +kernel)).trans rfl)
theorem mk_pcR {K : PySem.W.Frag} {C CR CU a : Addr} {H : Hp} {r : List Int} {un : Nat} {R : Addr → Hp → Prop} {E : XK} (hS : Seqs K H a (r.map V.int)) (hl : r.length ≤ 100) (hu : 0 < un) (hb : Bd 8000 (un : Int))
    (q : ∀ p s z H', Low r un s z → Same H H' → PAt K C H' p s z → R p H') : ∀ x dx, H x = none → H dx = none → dx ≠ x → spInit K C CR CU (V.ref x :: [V.ref a, V.int (un : Int)]) (upd (upd H dx (.own x)) x (.ins C dx [])) (fun v H' => v = .non ∧ R x H') E := by
  intro x dx nx ndx nex
  exact ⟨H, x, dx, a, _, _, rfl, same_inst nx ndx, nx, upd_same, hS, by rw [List.length_map]; exact hl, .inr ⟨r, rfl, .inl ⟨un, rfl, hu, hb, fun pr u H' hL s hP => ⟨rfl, q x pr u H' hL s hP⟩⟩⟩⟩
/-- a drawn fraction, and the piece of it -/
structure Pc (row pr : List Int) (un u : Nat) : Prop where
  l : row.length ≤ 5
  b : ∀ c ∈ row, Bd 201 c
  ub : Bd 67 (un : Int)
  L : Low row un pr u
theorem Pc.pl {row pr : List Int} {un u : Nat} (h : Pc row pr un u) : pr.length ≤ 5 := Nat.le_trans h.L.len h.l
theorem Pc.pb {row pr : List Int} {un u : Nat} (h : Pc row pr un u) : ∀ c ∈ pr, Bd 201 c := h.L.bd h.b
theorem Pc.uu {row pr : List Int} {un u : Nat} (h : Pc row pr un u) : Bd 67 (u : Int) := h.L.ub h.ub
theorem st_bd {pr t : List Int} {x m : Int} (hl : pr.length ≤ 5) (hb : ∀ c ∈ pr, Bd 201 c) (bm : Bd 205 m) (bx : Bd 205 x) (ht : ∀ j, cf t j = stF x m pr j) : ∀ c ∈ t, Bd 3000 c := fun c hc => by
  obtain ⟨j, hj, rfl⟩ := List.getElem_of_mem hc
  rw [← cf_lt hj, ht j]
  refine (stF_bd bx bm pr hb j).up ?_
  have : (205 + 2) * pr.length ≤ (205 + 2) * 5 := Nat.mul_le_mul_left _ hl
  omega
section
variable {K : PySem.W.Frag} {mg : Str → Option Value} {C CR CU CN CB CP pp rl a b : Addr} {H : Hp} {row pr r s : List Int} {un u v : Nat} {m x : Int} {σ : L2.St} {D : Ends} {Q : VK}
theorem rd_ne (hp : PAt K C H a r u) (hq : PAt K C H b s v) (hl : r.length ≤ 1000) (e : r = s ∧ u = v) (q : Q (.bl false) H) : rOwnCmp C (spEq K C) K true (.ref a) (.ref b) H Q := by
  obtain ⟨rfl, rfl⟩ := e
  obtain ⟨dx, ra, g1, g2⟩ := id hp
  obtain ⟨dy, rb, k1, k2⟩ := id hq
  refine ⟨a, dx, _, rfl, g1, .inl ⟨b, dy, _, rfl, k1⟩, a, .ref b, r, u, rfl, hp, hl, .inl ⟨b, r, u, rfl, hq, hl, true, ?_, q⟩⟩
  rw [decide_eq_true (show r = r ∧ u = u from ⟨rfl, rfl⟩)]
theorem chk_str (hP : Pc row pr un u) (hp : PAt K C H pp pr u) (er : H rl = some (.lst (row.map V.int))) (h1m : 1 ≤ m) (bm : Bd 200 m) (bx : Bd 205 x)
    (i3 : σ[3]? = some (some (.ref rl))) (i4 : σ[4]? = some (some (.int (un : Int)))) (i5 : σ[5]? = some (some (.ref pp))) (i6 : σ[6]? = some (some (.int m))) (i7 : σ[7]? = some (some (.int x))) (hN : ∀ H', Same H H' → D.nx σ H') :
    tIfS (tOr (tNot (tB (tCall (spIss K C) [] E0 (tCons (tMeth C ("stretched") (spStretched K C CN) [] (fun x x_1 x_2 => False) (tVar 5) (tCons (tVar 6) (tCons (tVar 7) tNil))) (tCons (tVar 3) (tCons (tVar 4) (tCons (tVar 6) (tCons (tVar 7) tNil)))))))) (tTest (tOp (rOwnCmp C (spEq K C) K true) (tMeth C ("stretched") (spStretched K C CN) [] (fun x x_1 x_2 => False) (tVar 5) (tCons (tC (V.int 1)) (tCons (tC (V.int 0)) tNil))) (tVar 5)))) (tRet (tC (V.bl false))) tNext D σ H := by
  have hu := hP.L.u1
  have hpl := hP.pl
  have hpb := hP.pb
  have hl := hP.l
  have b3 : ∀ c ∈ pr, Bd 300 c := fun c hc => (hpb c hc).up (by decide)
  obtain ⟨dx, ra, g1, g2⟩ := id hp
  refine ⟨_, i5, pp, dx, _, rfl, g1, lk_str, _, i6, _, i7, pp, .int m, .int x, pr, u, rfl, hp, by omega, hu, hP.uu.up (by decide), b3, .inr ⟨m, rfl, h1m, .inr ⟨x, rfl, bm.up (by decide), bx.up (by decide), fun a1 t s1 z1 H1 k1 hX1 ht1 hL1 => ?_⟩⟩⟩
  refine ⟨_, i3, _, i4, _, i6, _, i7, a1, rl, row, s1, pr, t, un, z1, u, m, x, rfl, hX1, .inl (.inl (k1 _ _ er)), by omega, fun c hc => (hP.b c hc).up (by decide), hP.ub.up (by decide), bm, bx.up (by decide), hP.L, ht1, hL1, hL1.bd (st_bd hpl hpb (bm.up (by decide)) bx ht1), (hL1.ub (hP.uu.up (by decide)) : Bd 3000 (z1 : Int)), fun H2 k2 => ?_⟩
  refine ⟨_, rfl, iteF ?_⟩
  have k12 := k1.trans k2
  obtain ⟨dx, ra, g1, g2⟩ := hp.same k12
  refine ⟨_, i5, pp, dx, _, rfl, g1, lk_str, pp, .int 1, .int 0, pr, u, rfl, hp.same k12, by omega, hu, hP.uu.up (by decide), b3, .inr ⟨1, rfl, by decide, .inr ⟨0, rfl, by unfold Bd; decide, by unfold Bd; decide, fun a2 t2 s2 z2 H3 k3 hX2 ht2 hL2 => ?_⟩⟩⟩
  have hL3 : Low pr u s2 z2 := hL2.move hu fun j => by rw [ht2 j, stF_id]
  obtain ⟨e1, e2⟩ := hL3.unique (hP.L.move hu fun j => (hP.L.cross j).symm) fun j => rfl
  exact ⟨_, i5, rd_ne hX2 ((hp.same k12).same k3) (by have := hL3.len; omega) ⟨e1, e2⟩ ⟨_, rfl, iteF (hN _ (k12.trans k3))⟩⟩
theorem chk_isp (hP : Pc row pr un u) (hp : PAt K C H pp pr u) (er : H rl = some (.lst (row.map V.int)))
    (i3 : σ[3]? = some (some (.ref rl))) (i4 : σ[4]? = some (some (.int (un : Int)))) (i5 : σ[5]? = some (some (.ref pp))) (hN : ∀ H', Same H H' → D.nx σ H') :
    tIfS (tNot (tB (tCall (spIsp K C) [] E0 (tCons (tVar 5) (tCons (tVar 3) (tCons (tVar 4) tNil)))))) (tRet (tC (V.bl false))) tNext D σ H := by
  have hl := hP.l
  exact ⟨_, i5, _, i3, _, i4, pp, rl, row, pr, un, u, rfl, hp, .inl (.inl er), hP.L, by omega, fun c hc => (hP.b c hc).up (by decide), hP.ub.up (by decide), fun H' k => ⟨_, rfl, iteF (hN _ k)⟩⟩
theorem thr_val {p : Int} {r t s : List Int} {U z : Nat} (h : ThrOk p r t (U : Int)) (L : Low t U s z) {j : Nat} (hj : j < r.length) : evalR s (p + (j : Int)) % (z : Int) = 0 ∧ evalR s (p + (j : Int)) / (z : Int) = cf r j := by
  obtain ⟨L0, h1, h2, h3, h4⟩ := h
  have e := h3 j hj
  have hU : 0 < U := by
    obtain ⟨g, hg, e1, _⟩ := L.eval 0
    have := L.u1
    have : (0 : Int) < (U : Int) := by rw [e1]; exact Int.mul_pos hg (by omega)
    omega
  constructor
  · exact (L.mod _).mp (by rw [e]; exact Int.mul_emod_right _ _)
  · rw [← L.div, e]
    exact Int.mul_ediv_cancel_left _ (by omega)
theorem thr_len {p : Int} {r t s : List Int} {U z : Nat} (h : ThrOk p r t (U : Int)) (L : Low t U s z) : s.length ≤ r.length := by
  obtain ⟨L0, h1, h2, h3, h4⟩ := h
  rcases Nat.lt_or_ge r.length s.length with h | h
  · have h0 : cf s (s.length - 1) ≠ 0 := L.end_ (s.length - 1) (by omega)
    have h3 : cf s (s.length - 1) * (U : Int) = cf t (s.length - 1) * (z : Int) := L.cross (s.length - 1)
    rw [h2 _ (by omega), Int.zero_mul] at h3
    have h5 : (U : Int) ≠ 0 := by
      obtain ⟨g, hg, e1, _⟩ := L.eval 0
      have := L.u1
      have : (0 : Int) < (U : Int) := by rw [e1]; exact Int.mul_pos hg (by omega)
      omega
    rcases Int.mul_eq_zero.mp h3 with h | h
    · exact absurd h h0
    · exact absurd h h5
  · exact h
theorem small1000 {n : Nat} (h : n ≤ 1000) : n < sizeLine := Nat.lt_of_le_of_lt h (by decide)
theorem range_cf (r : List Int) : (List.range r.length).map (fun k => V.int (cf r k)) = r.map V.int := by
  refine List.ext_getElem (by rw [List.length_map, List.length_map, List.length_range]) fun j h1 h2 => ?_
  rw [List.getElem_map, List.getElem_map, List.getElem_range, cf_lt (by rw [List.length_map] at h2; exact h2)]
theorem chk_told (CW : ClsQ K mg C) {tp vl : Addr} {t s r : List Int} {U z : Nat} {p : Int} {y0 y1 y2 y3 y4 y5 y6 y7 y11 y12 y13 y14 y15 y16 y17 y18 : Option V} (hp : PAt K C H tp s z) (hT : ThrOk p r t (U : Int)) (L : Low t U s z) (hl : r.length ≤ 9) (bs : ∀ c ∈ s, Bd 3000 c) (bz : Bd 3000 (z : Int)) (bp : Bd 205 p) (er : H vl = some (.lst (r.map V.int)))
    (hN : ∀ H', Same H H' → D.nx [y0, y1, y2, y3, y4, y5, y6, y7, some (.int p), some (.ref vl), some (.ref tp), y11, y12, y13, y14, y15, y16, y17, y18] H') :
    tIfS (tOr (tTest (tOp (rI0 fun i j => V.bl (decide (j < i))) (tCB (fun xs H_1 Q => ∃ p ys, xs = [V.ref p] ∧ (SqL K H_1 p ys ∨ SqT K H_1 p ys) ∧ Q (V.int ↑ys.length) H_1) (tCons (tFld K (tVar 10) ("row")) tNil)) (tCB (fun xs H_1 Q => ∃ p ys, xs = [V.ref p] ∧ (SqL K H_1 p ys ∨ SqT K H_1 p ys) ∧ Q (V.int ↑ys.length) H_1) (tCons (tVar 9) tNil)))) (tTest (tOp (rNeD K) (tLc (iRng1 (tCons (tCB (fun xs H_1 Q => ∃ p ys, xs = [V.ref p] ∧ (SqL K H_1 p ys ∨ SqT K H_1 p ys) ∧ Q (V.int ↑ys.length) H_1) (tCons (tVar 9) tNil)) tNil)) (gName 11) tYes (tCallI C 10 (spPc K C) (fun x => E0) (tCons (tOp (rI0 fun i j => V.int (i + j)) (tVar 8) (tVar 11)) tNil)) (List.map (fun x => x.snd) [(("k" : Str), 11)])) (tVar 9)))) (tRet (tC (V.bl false))) tNext D
      [y0, y1, y2, y3, y4, y5, y6, y7, some (.int p), some (.ref vl), some (.ref tp), y11, y12, y13, y14, y15, y16, y17, y18] H := by
  have hsl := thr_len hT L
  obtain ⟨dx, ra, g1, g2⟩ := id hp
  refine ⟨_, rfl, tp, C, dx, _, _, rfl, g1, CW.cl, CW.nR, pf_row, ra, _, rfl, .inr g2, _, rfl, vl, _, rfl, .inl (.inl (.inl er)), _, _, rfl, rfl, _, rfl, ?_⟩
  rw [List.length_map, List.length_map, decide_eq_false (show ¬ (r.length : Int) < (s.length : Int) by omega)]
  refine iteF ?_
  refine ⟨_, rfl, vl, _, rfl, .inl (.inl (.inl er)), _, rfl, by omega, by rw [List.length_map]; omega, fun Dd hD => ?_⟩
  rw [List.length_map, show ((r.length : Int)).toNat = r.length from Int.toNat_natCast _]
  refine lc_range (lo := 0) (n := r.length) (fun i H' => Same H H' ∧ H' Dd = some (.lst ((List.range i).map fun k => V.int (cf r k)))) ⟨same_new hD, upd_same⟩ ?_ ?_
  · rintro i Hx hi ⟨sx, hA⟩
    obtain ⟨dx, ra, g1, g2⟩ := hp.same sx
    have hv := thr_val hT L hi
    have bi : Bd 205 (i : Int) := Bd.up (a := 4) (by unfold Bd; omega) (by decide)
    refine ⟨rfl, tp, dx, _, rfl, g1, _, rfl, _, rfl, _, _, rfl, rfl, ⟨_, g1⟩, tp, p + (i : Int), s, z, ?_, hp.same sx, by omega, L.u1, bz, bs, (Bd.add' bp bi (Nat.le_refl _)).up (by decide), hv.1, fun H2 s2 => ?_⟩
    · show [V.ref tp, V.int (p + (0 + (i : Int)))] = _
      rw [Int.zero_add]
    · rw [hv.2]
      refine ⟨_, s2 _ _ hA, by rw [List.length_map, List.length_range]; exact small1000 (by omega), same_mut (sx.trans s2) hD, ?_⟩
      rw [upd_same, List.range_succ, List.map_append]
      rfl
  · rintro H2 ⟨s2, hA⟩
    rw [range_cf] at hA
    refine ⟨_, rfl, ?_⟩
    refine ⟨_, _, .lst (.inl (.inl hA)) (dp_ints r), .lst (.inl (.inl (s2 _ _ er))) (dp_ints r), (sh_list (can_ints r).1 (can_ints r).2).1, (sh_list (can_ints r).1 (can_ints r).2).1, _, rfl, ?_⟩
    rw [show PyData.eqv (.list (r.map PyData.int)) (.list (r.map PyData.int)) = true from (eqv_ints r r).trans (decide_eq_true rfl)]
    exact iteF (hN _ s2)
/-- the row of number * (n + low) ** 2 is what comes of its values -/
theorem sq_low {p u l : Int} {U z : Nat} {r t s : List Int} (h : ThrOk p r t (U : Int)) (L : Low t U s z) (hU : 0 < U) (hn : 3 ≤ r.length) (hr : ∀ j : Nat, j < r.length → cf r j = u * ((p + l + (j : Int)) * (p + l + (j : Int)))) : Low [u * l * l, 2 * u * l, u] 1 s z := by
  obtain ⟨L0, h1, h2, h3, h4⟩ := h
  have hL3 : L0 ≤ 3 := h4 3 (sq_third (n := r.length) (s := p + l) hr)
  have e := sq_cf (t := t) (U := (U : Int)) (u := u) (p := p) (l := l) (fun j hj => h2 j (by omega)) (fun j hj => by rw [h3 j (by omega), hr j (by omega)])
  exact L.move (by decide) fun j => by rw [e j]; show _ * (1 : Int) = _; rw [Int.mul_one]
theorem chk_sq (CW : ClsQ K mg C) {kl : Addr} {p nu lo : Int} {r : List Int} {σ : L2.St} (hk : r.length ≤ 9) (h3 : 3 ≤ r.length) (hb : ∀ c ∈ r, Bd 700 c) (bp : Bd 205 p) (bnu : Bd 201 nu) (blo : Bd 10 lo) (er : H kl = some (.lst (r.map V.int))) (hr : ∀ j : Nat, j < r.length → cf r j = nu * ((p + lo + (j : Int)) * (p + lo + (j : Int))))
    (i8 : σ[8]? = some (some (.int p))) (i12 : σ[12]? = some (some (.int nu))) (i13 : σ[13]? = some (some (.int lo))) (i14 : σ[14]? = some (some (.ref kl))) (hN : ∀ H', Same H H' → D.nx σ H') :
    tIfS (tTest (tOp (rOwnCmp C (spEq K C) K true) (tCMeth C (spThrough K C CB CR) (fun x x_1 x_2 => False) (tC (V.ref C)) (tCons (tVar 8) (tCons (tCB (fun xs H_1 Q => ∃ p ys, xs = [V.ref p] ∧ ((SqL K H_1 p ys ∧ ∀ (l : Addr), H_1 l = none → Q (V.ref l) (upd H_1 l (HO.tup ys))) ∨ SqT K H_1 p ys ∧ Q (V.ref p) H_1)) (tCons (tVar 14) tNil)) tNil))) (tMake C (spInit K C CR CU) [V.int 1] (fun x x_1 x_2 => False) (tCons (tLst (tCons (tOp (rI CMulW fun i j => V.int (i * j)) (tOp (rI CMulW fun i j => V.int (i * j)) (tVar 12) (tVar 13)) (tVar 13)) (tCons (tOp (rI CMulW fun i j => V.int (i * j)) (tOp (rI CMulW fun i j => V.int (i * j)) (tC (V.int 2)) (tVar 12)) (tVar 13)) (tCons (tVar 12) tNil)))) tNil)))) (tRet (tC (V.bl false))) tNext D σ H := by
  refine ⟨rfl, _, i8, _, i14, kl, _, rfl, .inl ⟨.inl (.inl er), fun tl htl => ?_⟩⟩
  have s1 := same_new (o := .tup (r.map V.int)) htl
  have e1 : SqT K (upd H tl (.tup (r.map V.int))) tl (r.map V.int) := .inl (.inl upd_same)
  generalize upd H tl (.tup (r.map V.int)) = H1 at s1 e1 ⊢
  refine ⟨.int p, tl, _, rfl, .inr e1, by rw [List.length_map]; exact hk, .inr ⟨p, rfl, bp.up (by decide), .inr ⟨r, rfl, hb, fun b t U s z H2 s2 hX bt hU bU hT hL => ?_⟩⟩⟩
  have b1 : Bd 211 (nu * lo) := bnu.mul blo (by decide)
  have b2 : Bd 203 (2 * nu) := Bd.mul (a := 2) (by unfold Bd; decide) bnu (by decide)
  refine ⟨_, i12, _, i13, _, _, rfl, rfl, wide_mul bnu blo (by decide) (by decide) (by decide), _, i13, _, _, rfl, rfl, wide_mul b1 blo (by decide) (by decide) (by decide), _, i12, _, _, rfl, rfl, wide_mul (a := 2) (by decide) bnu (by decide) (by decide) (by decide), _, i13, _, _, rfl, rfl, wide_mul b2 blo (by decide) (by decide) (by decide), _, i12, by show 3 ≤ sizeLine; decide, fun l3 hl3 => ?_⟩
  have s3 := same_new (o := .lst [.int (nu * lo * lo), .int (2 * nu * lo), .int nu]) hl3
  have e3 : (upd H2 l3 (.lst [.int (nu * lo * lo), .int (2 * nu * lo), .int nu])) l3 = some (.lst ([nu * lo * lo, 2 * nu * lo, nu].map V.int)) := upd_same
  generalize upd H2 l3 (.lst [.int (nu * lo * lo), .int (2 * nu * lo), .int nu]) = H3 at s3 e3 ⊢
  refine mk_pcR (un := 1) (.inl (.inl (.inl e3))) (show 3 ≤ 100 by decide) (by decide) (Bd.up (a := 1) (by unfold Bd; decide) (by decide)) fun p4 s4 z4 H4 L4 k4 hp4 => ?_
  obtain ⟨e1, e2⟩ := (sq_low hT hL hU h3 hr).unique L4 fun j => rfl
  exact rd_ne (hX.same (s3.trans k4)) hp4 (by have := thr_len hT hL; omega) ⟨e1, e2⟩ ⟨_, rfl, iteF (hN _ (s1.trans (s2.trans (s3.trans k4))))⟩
/-! ### the faults -/
theorem flt_str {i j k : Nat} {v y x : V} {R : VK} (hp : PAt K C H pp pr u) (hl : pr.length ≤ 5) (hb : ∀ c ∈ pr, Bd 201 c) (hu : 0 < u) (hub : Bd 67 (u : Int)) (i5 : σ[5]? = some (some (.ref pp))) (hi : σ[i]? = some (some v)) (hj : σ[j]? = some (some y)) (hk : σ[k]? = some (some x)) (hx : ∀ H', Same H H' → DataAt K H' x)
    (hsp : ∀ E, Errs H CN "number" x E → (((∃ i, v = .int i ∧ ¬ 1 ≤ i) ∨ NotInt K H v) ∧ Errs H CN "number" v E) ∨ (∃ m : Int, v = .int m ∧ 1 ≤ m ∧ NotInt K H y ∧ Errs H CN "number" y E)) (hR : ∀ H', Same H H' → R (.bl false) H') :
    TFault CN CB CR (fun E' H' Q' => tMeth C ("stretched") (spStretched K C CN) [] E' (tVar 5) (tCons (tVar i) (tCons (tVar j) tNil)) σ H' Q') H fun x1 H1 => tTup (tCons (tC (V.str "number")) (tCons (tVar k) tNil)) σ H1 fun y1 H2 => rNeD K x1 y1 H2 R := by
  obtain ⟨dx, ra, g1, g2⟩ := id hp
  refine ⟨_, i5, pp, dx, _, rfl, g1, lk_str, _, hi, _, hj, pp, v, y, pr, u, rfl, hp, by omega, hu, hub.up (by decide), fun c hc => (hb c hc).up (by decide), ?_⟩
  refine (hsp _ ?_).imp id fun ⟨m, e1, e2, e3, e4⟩ => ⟨m, e1, e2, .inl ⟨e3, e4⟩⟩
  exact fun dd H2 s2 hd2 hx2 => .inl ⟨rfl, _, dd, rfl, hx2, fun tt H3 s3 e3 => tagA_due (by decide +kernel) (by decide +kernel) (by decide +kernel) (fun H' s' => hx H' (s2.trans (s3.trans s'))) hk e3 fun H4 s4 => hR H4 (s2.trans (s3.trans s4))⟩
theorem flt_place {j : Nat} {v : V} {bl : Addr} {xs : List V} {R : VK} (i16 : σ[16]? = some (some v)) (i18 : σ[18]? = some (some (.ref bl))) (eb : H bl = some (.lst xs)) (hl : xs.length ≤ 9) (hv : NotInt K H v) (hx : ∀ H', Same H H' → DataAt K H' v) (hR : ∀ H', Same H H' → R (.bl false) H') :
    TFault CN CB CR (fun E' H' Q' => tCMeth C (spThrough K C CB CR) E' (tC (V.ref C)) (tCons (tVar 16) (tCons (tVar 18) tNil)) σ H' Q') H fun x1 H1 => tTup (tCons (tC (V.str "place")) (tCons (tVar 16) tNil)) σ H1 fun y1 H2 => rNeD K x1 y1 H2 R :=
  ⟨rfl, _, i16, _, i18, v, bl, xs, rfl, .inl (.inl (.inl eb)), hl, .inl ⟨hv, fun dd H2 s2 hd2 hx2 => .inr (.inl ⟨rfl, _, dd, rfl, hx2, fun tt H3 s3 e3 => tagA_due (by decide +kernel) (by decide +kernel) (by decide +kernel) (fun H' s' => hx H' (s2.trans (s3.trans s'))) i16 e3 fun H4 s4 => hR H4 (s2.trans (s3.trans s4))⟩)⟩⟩
theorem flt_row {p : Int} {v : V} {bl : Addr} {r : List Int} {ys : List V} {R : VK} (i8 : σ[8]? = some (some (.int p))) (i17 : σ[17]? = some (some (.int (r.length : Int)))) (i18 : σ[18]? = some (some (.ref bl))) (bp : Bd 205 p) (eb : H bl = some (.lst (r.map V.int ++ v :: ys))) (hl : (r.map V.int ++ v :: ys).length ≤ 9) (hv : NotInt K H v) (hR : ∀ H', Same H H' → R (.bl false) H') :
    TFault CN CB CR (fun E' H' Q' => tCMeth C (spThrough K C CB CR) E' (tC (V.ref C)) (tCons (tVar 8) (tCons (tVar 18) tNil)) σ H' Q') H fun x1 H1 => tTup (tCons (tC (V.str "row")) (tCons (tVar 17) tNil)) σ H1 fun y1 H2 => rNeD K x1 y1 H2 R :=
  ⟨rfl, _, i8, _, i18, .int p, bl, _, rfl, .inl (.inl (.inl eb)), hl, .inr ⟨p, rfl, bp.up (by decide), .inl ⟨r, v, ys, rfl, hv, fun dd H2 s2 hd2 hx2 => .inr (.inr ⟨rfl, _, dd, rfl, hx2, fun tt H3 s3 e3 => tagA_due (by decide +kernel) (by decide +kernel) (by decide +kernel) (fun H' s' => (DataV.int _).at_ K H') i17 e3 fun H4 s4 => hR H4 (s2.trans (s3.trans s4))⟩)⟩⟩⟩
end
end Ef
set_option Elab.async false
set_option linter.all false
set_option maxRecDepth 100000
set_option maxHeartbeats 8000000
namespace Ef
open PySem PySem.Spec PyProof.Rows L2 ClX
abbrev sLaw : Stmt := top 41
structure CallC (P : Program) (w : World) (K : PySem.W.Frag) (mg : Str → Option Value) (base : Heap) (C fC : Addr) (fd : FuncData) : Prop where
  cf : PySem.W.findIn K (.ref C) "__call__" = some (some (.ref fC))
  ci : PySem.W.isFn K (.ref fC) = true
  cn : PySem.W.fnIn K fC = true
  F : FnOk P w K mg base CX0 3 fC fd ["self", "n"] (spPc K C)
  b : Binds K fd ["self", "n"] []
theorem cut_take (xs : List V) (k : Nat) : cutV xs none (some (k : Int)) = xs.take k := by
  unfold cutV
  rw [HT.sIx_none, HT.sIx_nat, List.drop_zero, Nat.sub_zero]
  rcases Nat.lt_or_ge k xs.length with z | z
  · rw [Nat.min_eq_left (by omega)]
  · rw [Nat.min_eq_right z, List.take_length, List.take_of_length_le z]
theorem PAt.kx {K : PySem.W.Frag} {C : Addr} {H H' : Hp} {p q : Addr} {r : List Int} {u : Nat} {d : List (Key × V)} (h : PAt K C H q r u) (k : Kx p H H') (hp : H p = some (.dK d)) : PAt K C H' q r u := by
  obtain ⟨dx, ra, h1, h2⟩ := h
  exact ⟨dx, ra, k _ _ (ne_of h1 hp (by intro q; cases q)) (fun _ z => by cases z) h1, k.sqt hp h2⟩
theorem pw2 (x : Int) : x ^ (2 : Int).toNat = x * x := by
  show x ^ 2 = _
  rw [Int.pow_succ, Int.pow_succ, Int.pow_zero, Int.one_mul]
/-- the squares that the law asks -/
def sqs (nu p lo : Int) (k : Nat) : Int := nu * ((p + lo + (k : Int)) * (p + lo + (k : Int)))
theorem mkL_succ' (f : Nat → Int) (n : Nat) : (mkL f (n + 1)).map V.int = (mkL f n).map V.int ++ [V.int (f n)] := by
  rw [mkL_succ, List.map_append]; rfl
theorem sqs_bd {nu p lo : Int} (h1 : Bd 201 nu) (h2 : Bd 205 p) (h3 : Bd 10 lo) {k : Nat} (hk : k ≤ 10) : Bd 700 (sqs nu p lo k) := by
  have b1 : Bd 206 (p + lo) := Bd.add' h2 (h3.up (by decide)) (by decide)
  have b2 : Bd 207 (p + lo + (k : Int)) := Bd.add' b1 (Bd.up (a := 4) (by unfold Bd; omega) (by decide)) (by decide)
  exact Bd.mul h1 (Bd.mul b2 b2 (Nat.le_refl _)) (by decide)
theorem rd_eq {K : PySem.W.Frag} {C a b : Addr} {H : Hp} {r s : List Int} {u v : Nat} {Q : VK} (hp : PAt K C H a r u) (hq : PAt K C H b s v) (hl : r.length ≤ 1000) (e : r = s ∧ u = v) (q : Q (.bl true) H) : rOwnCmp C (spEq K C) K false (.ref a) (.ref b) H Q := by
  obtain ⟨rfl, rfl⟩ := e
  obtain ⟨dx, ra, g1, g2⟩ := id hp
  obtain ⟨dy, rb, k1, k2⟩ := id hq
  refine ⟨a, dx, _, rfl, g1, .inl ⟨b, dy, _, rfl, k1⟩, a, .ref b, r, u, rfl, hp, hl, .inl ⟨b, r, u, rfl, hq, hl, true, ?_, q⟩⟩
  rw [decide_eq_true (show r = r ∧ u = u from ⟨rfl, rfl⟩)]
theorem kp_lst {p x l : Addr} {H H' : Hp} {xs : List V} {ns : List Int} {a b : Int} (k : Kp p H H') (hP : Pen H p l ns a b) (h : H x = some (.lst xs)) : H' x = some (.lst xs) := k _ _ (ne_of h hP.hd (by intro q; cases q)) h
theorem kp_tup {p x l : Addr} {H H' : Hp} {xs : List V} {ns : List Int} {a b : Int} (k : Kp p H H') (hP : Pen H p l ns a b) (h : H x = some (.tup xs)) : H' x = some (.tup xs) := k _ _ (ne_of h hP.hd (by intro q; cases q)) h
section
variable {P : Program} {w : World} {K : PySem.W.Frag} {mg : Str → Option Value} {base : Heap}
def spLaw (K : PySem.W.Frag) (PT : Addr) : Sp := fun vs H Q _ => ∃ (a : Addr) (ns : List Int), vs = [.ref a] ∧ SqL K H a (ns.map V.int) ∧ ns.length ≤ 63 ∧ LamX.Tabs (TT PT) H ∧ ∀ H', Q (.bl true) H'
theorem scLaw : FnScope ["script", "pen", "turn", "row", "under", "piece", "m", "r", "spot", "values", "told", "k", "number", "low", "known", "odd", "wrong", "at", "bad"] ["script"] (defScope sLaw) := ⟨rfl, rfl, rfl, by decide +kernel, rfl, by decide +kernel, by decide +kernel⟩
theorem ok_law {f C CR CU CN CB fR fN fB fS fC fI g gt cL PT : Addr} {mc : Value} {pt : Addr} {fdI fdS fdC : FuncData} {ds : List Value} {oc oc2 kV doc pm ct kV2 doc2 pm2 cdv2 ct2 : Value} {od an od2 an2 : Option Addr} {osl osl2 : Array (Option Value)}
    (lk : K.lookup f = some ⟨oc, od, .func (PySem.W.fnOf "law" "law" (defArgs sLaw) (defBody sLaw) (defScope sLaw) .none kV doc pm an (.ref cL) ct), osl⟩) (hcd : PySem.W.codeIn K (.ref cL) "law" = true)
    (T : TxtJ mg) (CW : ClsQ K mg C) (M : Mk K C fI) (FI : FnOk P w K mg base (CX P w) 4 fI fdI ["self", "row", "under"] (spInit K C CR CU)) (bI : Binds K fdI ["self", "row", "under"] []) (bI1 : Binds K fdI ["self", "row", "under"] ds) (hd1 : Vals [.int 1] ds)
    (OE : Own P w K mg base 1 C "__eq__" ["self", "other"] (spEq K C)) (hne : PySem.W.findIn K (.ref C) "__ne__" = some (some (.builtin "object.__ne__")))
    (CRd : CRead K C mc) (CMt : CMet K C mc "through" pt gt) (GMt : FnR P w K mg base (CX P w) 6 gt (spThrough K C CB CR)) (MS : Meth K C "stretched" fS) (GS : FnOk P w K mg base (CX P w) 6 fS fdS ["self", "m", "r"] (spStretched K C CN)) (bS : Binds K fdS ["self", "m", "r"] []) (CC : CallC P w K mg base C fC fdC)
    (FT : FaultAt K mg g oc2 od2 an2 kV2 doc2 pm2 cdv2 ct2 osl2) (EN : ErrF K mg "BadNumber" "number" CN fN) (EB : ErrF K mg "BadPlace" "n" CB fB) (ER : ErrF K mg "BadRow" "index" CR fR) (EM : ErrM K CN CB CR) (TB : LamX.TabB base mg cL PT)
    (Dpen : Df P w K mg base 1 "_law_pen" ["script"] (spPen K)) (Ddraw : Df P w K mg base 1 "_law_draw" ["pen", "many"] spDraw) (Dpick : Df P w K mg base 2 "_law_pick" ["pen", "some"] (spPick K)) (Dentry : Df P w K mg base 3 "_law_entry" ["pen"] spEntry) (Dfar : Df P w K mg base 3 "_law_far" ["pen"] spFar)
    (Dfraction : Df P w K mg base 4 "_law_fraction" ["pen", "most"] spFrac) (Dispiece : Df P w K mg base 2 "_law_is_piece" ["piece", "row", "under"] (spIsp K C)) (Disstretched : Df P w K mg base 2 "_law_is_stretched" ["piece", "row", "under", "m", "r"] (spIss K C)) :
    FnOk P w K mg base CX0 11 f (PySem.W.fnOf "law" "law" (defArgs sLaw) (defBody sLaw) (defScope sLaw) .none kV doc pm an (.ref cL) ct) ["script"] (spLaw K PT) := by
  refine fn_of lk hcd scLaw (fun vs H Q E h => ?_) (fun A outer s H vs Q E hr h => ?_)
  · obtain ⟨a, ns, rfl, _⟩ := h
    rfl
  · obtain ⟨a, ns, rfl, hS, hlen, hTab, q⟩ := h
    refine ⟨_, PSs.nox (pss_cons (ps_set (i := 1) scLaw.nd rfl (.inr rfl) (Dpen.call (hr.mono (by decide)) (pa_cons (pv 0) pa_nil)))
      (pss_cons (ps_for PassesOwn.never rfl (pi_range1 (by rfl) T.range (pa_cons (pe_op op_add pe_int (pe_callB (call_min2 rfl) (by rfl) T.min (by decide +kernel) (pa_cons pe_int (pa_cons (pe_callB call_len_seq (by rfl) T.len PySem.boot_len (pa_cons (pv 0) pa_nil)) pa_nil)))) pa_nil)) (pg_name (i := 2) scLaw.nd rfl (.inl rfl))
      (pss_cons (ps_asg (Dfraction.call (hr.mono (by decide)) (pa_cons (pv 1) (pa_cons pe_int pa_nil))) (pg_tup (by rfl) (pgs_cons (pg_name (i := 3) scLaw.nd rfl (.inl rfl)) (pgs_cons (pg_name (i := 4) scLaw.nd rfl (.inl rfl)) pgs_nil))))
      (pss_cons (ps_asg (pe_tup (pa_cons (pe_make M FI (hr.mono (by decide)) (by rfl) CW.mgC bI .nil passF (pa_cons (pv 3) (pa_cons (pv 4) pa_nil))) (pa_cons (Dpick.call (hr.mono (by decide)) (pa_cons (pv 1) (pa_cons (pe_lst (pa_cons pe_int (pa_cons pe_int (pa_cons pe_int (pa_cons pe_int (pa_cons (pe_op op_pow pe_int pe_int) pa_nil)))))) pa_nil))) (pa_cons (Dfar.call (hr.mono (by decide)) (pa_cons (pv 1) pa_nil)) pa_nil)))) (pg_tup (by rfl) (pgs_cons (pg_name (i := 5) scLaw.nd rfl (.inr rfl)) (pgs_cons (pg_name (i := 6) scLaw.nd rfl (.inr rfl)) (pgs_cons (pg_name (i := 7) scLaw.nd rfl (.inl rfl)) pgs_nil)))))
      (pss_cons (ps_if (pw_or (pt_not (pt_val (Disstretched.call (hr.mono (by decide)) (pa_cons (pe_meth (pv 5) CW.cl MS GS (hr.mono (by decide)) bS .nil passF (pa_cons (pv 6) (pa_cons (pv 7) pa_nil))) (pa_cons (pv 3) (pa_cons (pv 4) (pa_cons (pv 6) (pa_cons (pv 7) pa_nil)))))))) (pw_or1 (pt_cmpR (op_ne_own OE (hr.mono (by decide)) CW.sl hne CW.co) (pe_meth (pv 5) CW.cl MS GS (hr.mono (by decide)) bS .nil passF (pa_cons pe_int (pa_cons pe_int pa_nil))) (pv 5) (nomark _)))).pt (pss_one (ps_ret pe_bl)) pss_nil)
      (pss_cons (ps_if (pt_not (pt_val (Dispiece.call (hr.mono (by decide)) (pa_cons (pv 5) (pa_cons (pv 3) (pa_cons (pv 4) pa_nil)))))) (pss_one (ps_ret pe_bl)) pss_nil)
      (pss_cons (ps_asg (pe_tup (pa_cons (Dfar.call (hr.mono (by decide)) (pa_cons (pv 1) pa_nil)) (pa_cons (pe_lc (own := [("k", 11)]) (g := gName 11) (by rfl) scLaw.nd (pi_range1 (by rfl) T.range (pa_cons (Ddraw.call (hr.mono (by decide)) (pa_cons (pv 1) (pa_cons pe_int pa_nil))) pa_nil)) (blkOk_by (own := [("k", 11)]) (N := ["script", "pen", "turn", "row", "under", "piece", "m", "r", "spot", "values", "told", "k", "number", "low", "known", "odd", "wrong", "at", "bad"]) (sc := defScope sLaw) (by decide +kernel)) (fun _ _ _ _ _ => pg_name (i := 11) scLaw.nd rfl (Or.inl rfl)) (fun _ _ _ _ _ => pts_nil) (fun _ _ _ _ _ => (Dentry.call (hr.mono (by decide)) (pa_cons (pv 1) pa_nil)))) pa_nil))) (pg_tup (by rfl) (pgs_cons (pg_name (i := 8) scLaw.nd rfl (.inr rfl)) (pgs_cons (pg_name (i := 9) scLaw.nd rfl (.inl rfl)) pgs_nil))))
      (pss_cons (ps_set (i := 10) scLaw.nd rfl (.inr rfl) (pe_cmeth (pe_glob (v := .ref C) (by rfl) CW.mgC rfl) CRd CMt GMt (hr.mono (by decide)) passF (pa_cons (pv 8) (pa_cons (pe_callTy call_list_of (by rfl) T.list (by decide +kernel) (pa_cons (pv 9) pa_nil)) pa_nil))))
      (pss_cons (ps_if (pw_or (pt_cmpR op_gt (pe_callB call_len_seq (by rfl) T.len PySem.boot_len (pa_cons (pe_fld (pv 10) rfl) pa_nil)) (pe_callB call_len_seq (by rfl) T.len PySem.boot_len (pa_cons (pv 9) pa_nil)) (nomark _)) (pw_or1 (pt_cmpR (op_neD hr.units) (pe_lc (own := [("k", 11)]) (g := gName 11) (by rfl) scLaw.nd (pi_range1 (by rfl) T.range (pa_cons (pe_callB call_len_seq (by rfl) T.len PySem.boot_len (pa_cons (pv 9) pa_nil)) pa_nil)) (blkOk_by (own := [("k", 11)]) (N := ["script", "pen", "turn", "row", "under", "piece", "m", "r", "spot", "values", "told", "k", "number", "low", "known", "odd", "wrong", "at", "bad"]) (sc := defScope sLaw) (by decide +kernel)) (fun _ _ _ _ _ => pg_name (i := 11) scLaw.nd rfl (Or.inl rfl)) (fun _ _ _ _ _ => pts_nil) (fun _ _ _ _ _ => (pe_callI CC.cf CC.ci CC.cn CC.F (hr.mono (by decide)) CC.b (E := fun _ => E0) (fun σ _ _ _ _ _ _ h => h.elim) (pa_cons (pe_op op_add (pv 8) (pv 11)) pa_nil) (i := 10)))) (pv 9) (nomark _)))).pt (pss_one (ps_ret pe_bl)) pss_nil)
      (pss_cons (ps_asg (pe_tup (pa_cons (Dentry.call (hr.mono (by decide)) (pa_cons (pv 1) pa_nil)) (pa_cons (pe_op op_sub (Ddraw.call (hr.mono (by decide)) (pa_cons (pv 1) (pa_cons pe_int pa_nil))) pe_int) pa_nil))) (pg_tup (by rfl) (pgs_cons (pg_name (i := 12) scLaw.nd rfl (.inr rfl)) (pgs_cons (pg_name (i := 13) scLaw.nd rfl (.inr rfl)) pgs_nil))))
      (pss_cons (ps_setLc (i := 14) (own := [("k", 11)]) (g := gName 11) (by rfl) scLaw.nd rfl rfl (sw_true rfl rfl rfl (by decide +kernel)) (pi_range1 (by rfl) T.range (pa_cons (pe_op op_add pe_int (Ddraw.call (hr.mono (by decide)) (pa_cons (pv 1) (pa_cons pe_int pa_nil)))) pa_nil)) (blkOk_by (own := [("k", 11)]) (N := ["script", "pen", "turn", "row", "under", "piece", "m", "r", "spot", "values", "told", "k", "number", "low", "known", "odd", "wrong", "at", "bad"]) (sc := defScope sLaw) (by decide +kernel)) (fun _ _ _ _ _ => pg_name (i := 11) scLaw.nd rfl (Or.inl rfl)) (fun _ _ _ _ _ => pts_nil) (fun _ _ _ _ _ => (pe_op op_mulW (pv 12) (pe_op op_powW (pe_op op_add (pe_op op_add (pv 8) (pv 11)) (pv 13)) pe_int))))
      (pss_cons (ps_if (pt_cmpR (op_ne_own OE (hr.mono (by decide)) CW.sl hne CW.co) (pe_cmeth (pe_glob (v := .ref C) (by rfl) CW.mgC rfl) CRd CMt GMt (hr.mono (by decide)) passF (pa_cons (pv 8) (pa_cons (pe_callTy call_tuple_of (by rfl) T.tuple (by decide +kernel) (pa_cons (pv 14) pa_nil)) pa_nil))) (pe_make M FI (hr.mono (by decide)) (by rfl) CW.mgC bI1 hd1 passF (pa_cons (pe_lst (pa_cons (pe_op op_mulW (pe_op op_mulW (pv 12) (pv 13)) (pv 13)) (pa_cons (pe_op op_mulW (pe_op op_mulW pe_int (pv 12)) (pv 13)) (pa_cons (pv 12) pa_nil)))) pa_nil)) (nomark _)) (pss_one (ps_ret pe_bl)) pss_nil)
      (pss_cons (ps_set (i := 15) scLaw.nd rfl (.inr rfl) (Dpick.call (hr.mono (by decide)) (pa_cons (pv 1) (pa_cons (pe_lst (pa_cons pe_int (pa_cons (pe_un un_neg pe_int) (pa_cons pe_bl (pa_cons pe_non (pa_cons pe_str pa_nil)))))) pa_nil))))
      (pss_cons (ps_set (i := 16) scLaw.nd rfl (.inr rfl) (Dpick.call (hr.mono (by decide)) (pa_cons (pv 1) (pa_cons (pe_lst (pa_cons pe_non (pa_cons pe_str (pa_cons pe_bl (pa_cons (pe_tup (pa_cons pe_int pa_nil)) pa_nil))))) pa_nil))))
      (pss_cons (ps_if (pt_cmpR (op_neD hr.units) (LamX.pe_lamcall (k := 7) (by rfl) FT.mg_ FT.kp FT.lk FT.cd FT.b scFault rfl (.inl rfl) (fault_gives EN EB ER EM) TB rfl (List.mem_singleton.mpr rfl) (fun p hp _ => by rw [List.mem_singleton.mp hp]) (hr.mono (by decide)) (LamX.lamS_by (show LamX.lamSB (defScope sLaw) _ = true by decide +kernel)) rfl (fun _ _ _ _ _ => rfl) (fun A' outer' s' H' E' f' c' hr' => (pe_meth (pv 5) CW.cl MS GS (hr'.mono (by decide)) bS .nil passX (pa_cons (pv 15) (pa_cons (pv 16) pa_nil))))) (pe_tup (pa_cons pe_str (pa_cons (pv 15) pa_nil))) (nomark _)) (pss_one (ps_ret pe_bl)) pss_nil)
      (pss_cons (ps_if (pt_cmpR (op_neD hr.units) (LamX.pe_lamcall (k := 7) (by rfl) FT.mg_ FT.kp FT.lk FT.cd FT.b scFault rfl (.inl rfl) (fault_gives EN EB ER EM) TB rfl (List.mem_singleton.mpr rfl) (fun p hp _ => by rw [List.mem_singleton.mp hp]) (hr.mono (by decide)) (LamX.lamS_by (show LamX.lamSB (defScope sLaw) _ = true by decide +kernel)) rfl (fun _ _ _ _ _ => rfl) (fun A' outer' s' H' E' f' c' hr' => (pe_meth (pv 5) CW.cl MS GS (hr'.mono (by decide)) bS .nil passX (pa_cons (pv 6) (pa_cons (pv 16) pa_nil))))) (pe_tup (pa_cons pe_str (pa_cons (pv 16) pa_nil))) (nomark _)) (pss_one (ps_ret pe_bl)) pss_nil)
      (pss_cons (ps_set (i := 17) scLaw.nd rfl (.inl rfl) (Ddraw.call (hr.mono (by decide)) (pa_cons (pv 1) (pa_cons (pe_op op_add (pe_callB call_len_seq (by rfl) T.len PySem.boot_len (pa_cons (pv 9) pa_nil)) pe_int) pa_nil))))
      (pss_cons (ps_set (i := 18) scLaw.nd rfl (.inr rfl) (pe_op op_cat (pe_op op_cat (pe_slice sl_list (pv 9) po_none (po_some (pv 17))) (pe_lst (pa_cons (pv 16) pa_nil))) (pe_slice sl_list (pv 9) (po_some (pv 17)) po_none)))
      (pss_cons (ps_if (pt_cmpR (op_neD hr.units) (LamX.pe_lamcall (k := 7) (by rfl) FT.mg_ FT.kp FT.lk FT.cd FT.b scFault rfl (.inl rfl) (fault_gives EN EB ER EM) TB rfl (List.mem_singleton.mpr rfl) (fun p hp _ => by rw [List.mem_singleton.mp hp]) (hr.mono (by decide)) (LamX.lamS_by (show LamX.lamSB (defScope sLaw) _ = true by decide +kernel)) rfl (fun _ _ _ _ _ => rfl) (fun A' outer' s' H' E' f' c' hr' => (pe_cmeth (pe_glob (v := .ref C) (by rfl) CW.mgC rfl) CRd CMt GMt (hr'.mono (by decide)) passX (pa_cons (pv 16) (pa_cons (pv 18) pa_nil))))) (pe_tup (pa_cons pe_str (pa_cons (pv 16) pa_nil))) (nomark _)) (pss_one (ps_ret pe_bl)) pss_nil)
      (pss_one (ps_if (pt_cmpR (op_neD hr.units) (LamX.pe_lamcall (k := 7) (by rfl) FT.mg_ FT.kp FT.lk FT.cd FT.b scFault rfl (.inl rfl) (fault_gives EN EB ER EM) TB rfl (List.mem_singleton.mpr rfl) (fun p hp _ => by rw [List.mem_singleton.mp hp]) (hr.mono (by decide)) (LamX.lamS_by (show LamX.lamSB (defScope sLaw) _ = true by decide +kernel)) rfl (fun _ _ _ _ _ => rfl) (fun A' outer' s' H' E' f' c' hr' => (pe_cmeth (pe_glob (v := .ref C) (by rfl) CW.mgC rfl) CRd CMt GMt (hr'.mono (by decide)) passX (pa_cons (pv 8) (pa_cons (pv 18) pa_nil))))) (pe_tup (pa_cons pe_str (pa_cons (pv 17) pa_nil))) (nomark _)) (pss_one (ps_ret pe_bl)) pss_nil))))))))))))))))))))
      (pss_one (ps_ret (pe_cmpR (op_own rfl rfl OE (hr.mono (by decide)) CW.sl) (pe_cmeth (pe_glob (v := .ref C) (by rfl) CW.mgC rfl) CRd CMt GMt (hr.mono (by decide)) passF (pa_cons pe_int (pa_cons (pe_lst pa_nil) pa_nil))) (pe_make M FI (hr.mono (by decide)) (by rfl) CW.mgC bI1 hd1 passF (pa_cons (pe_lst pa_nil) pa_nil)) (nomark _)))))), ?_⟩
    refine ⟨_, rfl, a, ns, rfl, hS, hlen, fun p l H0 hp0 s0 hP0 => ?_⟩
    refine ⟨_, rfl, a, _, rfl, .inl (s0.seq hS), _, _, rfl, _, _, rfl, rfl, ?_⟩
    have hz : ∃ z : Int, (if (((ns.map V.int).length : Nat) : Int) < 4 then (((ns.map V.int).length : Nat) : Int) else 4) = z ∧ 0 ≤ z ∧ z ≤ 4 := by
      refine ⟨_, rfl, ?_, ?_⟩ <;> split <;> omega
    obtain ⟨z, ez, z0, z4⟩ := hz
    rw [ez]
    refine ⟨_, rfl, by omega, by omega, ?_⟩
    have hT0 := tabs_same hTab s0
    refine for_range (lo := 0) (n := (4 + z).toNat) (fun i σ H' => ∃ (a' b' : Int) (y2 y3 y4 y5 y6 y7 y8 y9 y10 y11 y12 y13 y14 y15 y16 y17 y18 : Option V), Pen H' p l ns a' b' ∧ a' ≤ 10000 * i ∧ LamX.Tabs (TT PT) H' ∧ σ = [some (.ref a), some (.ref p), y2, y3, y4, y5, y6, y7, y8, y9, y10, y11, y12, y13, y14, y15, y16, y17, y18])
      ⟨0, 0, none, none, none, none, none, none, none, none, none, none, none, none, none, none, none, none, none, hP0, by omega, hT0, rfl⟩ ?_ ?_
    · rintro i σ H1 hi ⟨a1, b1, y2, y3, y4, y5, y6, y7, y8, y9, y10, y11, y12, y13, y14, y15, y16, y17, y18, hP1, ha1, hT1, rfl⟩
      have hi9 : i < 8 := by omega
      refine ⟨_, rfl, p, l, ns, a1, b1, 4, rfl, by decide, hP1, by omega, fun tF rl row un a3 b3 H3 hF ha3 hP3 hK3 => ?_⟩
      have hT3 := tabs_kp hT1 hK3 hP1
      refine ⟨tF, _, rfl, .inl (.inl hF.ht), rfl, _, _, rfl, _, _, rfl, rfl, ?_⟩
      have hrl := hF.len
      -- piece, m, r
      refine ⟨_, rfl, _, rfl, mk_pcR (un := un) (.inl (.inl (.inl hF.hl))) (by omega) hF.u1 (hF.ub.up (by decide)) fun pp pr u H4 hL s4 hpp => ?_⟩
      have hPc : Pc row pr un u := ⟨hrl, hF.bd, hF.ub, hL⟩
      refine ⟨_, rfl, _, _, rfl, rfl, ⟨by decide, by decide, by decide⟩, by show 5 ≤ sizeLine; decide, fun l5 hl5 => ?_⟩
      have s5 := s4.trans (same_new (o := .lst [.int 1, .int 2, .int 7, .int 720, .int ((10 : Int) ^ (25 : Int).toNat)]) hl5)
      have k5 := same_new (o := .lst [.int 1, .int 2, .int 7, .int 720, .int ((10 : Int) ^ (25 : Int).toNat)]) hl5
      have e5 : (upd H4 l5 (.lst [.int 1, .int 2, .int 7, .int 720, .int ((10 : Int) ^ (25 : Int).toNat)])) l5 = some (.lst [.int 1, .int 2, .int 7, .int 720, .int ((10 : Int) ^ (25 : Int).toNat)]) := upd_same
      generalize upd H4 l5 (.lst [.int 1, .int 2, .int 7, .int 720, .int ((10 : Int) ^ (25 : Int).toNat)]) = H5 at s5 k5 e5 ⊢
      have hP5 := hP3.same s5
      have hpp5 := hpp.same k5
      have er5 := s5 _ _ hF.hl
      have hT5 := tabs_same hT3 s5
      refine ⟨p, l, l5, ns, a3, b3, _, rfl, hP5, by omega, .inl (.inl e5), ne_of e5 hP5.hd (by intro q; cases q), by show 1 ≤ 5; decide, by show 5 ≤ 100000; decide, fun j1 mv a6 b6 H6 hj1 ha6 hP6 hK6 => ?_⟩
      obtain ⟨m, rfl, hm1, hm2⟩ : ∃ m : Int, mv = .int m ∧ 1 ≤ m ∧ Bd 200 m := by
        have hm := List.mem_of_getElem? hj1
        simp only [List.mem_cons, List.not_mem_nil, or_false] at hm
        rcases hm with rfl | rfl | rfl | rfl | rfl
        all_goals exact ⟨_, rfl, by decide +kernel, by unfold Bd; decide +kernel⟩
      refine ⟨_, rfl, p, l, ns, a6, b6, rfl, hP6, by omega, fun x a7 b7 H7 hx ha7 hP7 hK7 => ?_⟩
      have hK57 := hK6.trans hK7
      have hpp7 := hpp5.kp hK57 hP5.hd
      have er7 := kp_lst hK57 hP5 er5
      have hT7 := tabs_kp hT5 hK57 hP5
      refine ⟨by show 3 ≤ sizeLine; decide, fun t8 ht8 => ?_⟩
      have s8 := same_new (o := .tup [.ref pp, .int m, .int x]) ht8
      have e8 : (upd H7 t8 (.tup [.ref pp, .int m, .int x])) t8 = some (.tup [.ref pp, .int m, .int x]) := upd_same
      generalize upd H7 t8 (.tup [.ref pp, .int m, .int x]) = H8 at s8 e8 ⊢
      refine ⟨t8, _, rfl, .inl (.inl e8), rfl, _, _, rfl, _, _, rfl, _, _, rfl, rfl, ?_⟩
      have hP8 := hP7.same s8
      have hpp8 := hpp7.same s8
      have er8 := s8 _ _ er7
      have hT8 := tabs_same hT7 s8
      refine chk_str (row := row) (pr := pr) (un := un) (u := u) (m := m) (x := x) (pp := pp) (rl := rl) hPc hpp8 er8 hm1 hm2 (hx.up (by decide)) rfl rfl rfl rfl rfl fun H9 s9 => ?_
      refine chk_isp (row := row) (pr := pr) (un := un) (u := u) (pp := pp) (rl := rl) hPc (hpp8.same s9) (s9 _ _ er8) rfl rfl rfl fun H10 s10 => ?_
      have s810 := s9.trans s10
      have hP10 := hP8.same s810
      have hpp10 := hpp8.same s810
      have hT10 := tabs_same hT8 s810
      -- spot, values
      refine ⟨_, rfl, p, l, ns, a7, b7, rfl, hP10, by omega, fun spot a11 b11 H11 hspot ha11 hP11 hK11 => ?_⟩
      have hpp11 := hpp10.kp hK11 hP10.hd
      have hT11 := tabs_kp hT10 hK11 hP10
      refine ⟨_, rfl, p, l, ns, a11, b11, _, rfl, hP11, by omega, by decide, by decide, fun d1 a12 b12 H12 d10 d11 ha12 hP12 hK12 => ?_⟩
      refine ⟨d1, rfl, by omega, by omega, fun vl hvl => ?_⟩
      have hvH : H11 vl = none := by
        refine hK12.free (fun z => ?_) hvl
        rw [z, hP12.hd] at hvl; cases hvl
      have hvp : vl ≠ p := fun z => by rw [z, hP11.hd] at hvH; cases hvH
      refine lc_range (lo := 0) (n := d1.toNat) (fun i H' => ∃ (acc : List Int) (a' b' : Int), H' vl = some (.lst (acc.map V.int)) ∧ acc.length = i ∧ (∀ c ∈ acc, Bd 201 c) ∧ Pen H' p l ns a' b' ∧ a' ≤ a11 + 1 + 3 * i ∧ Kp p H11 H')
        ⟨[], a12, b12, upd_same, rfl, fun c hc => (by cases hc), hP12.newlst hvl, by omega, hK12.trans (Kp.new _ hvl)⟩ ?_ ?_
      · rintro k Hx hk ⟨acc, a', b', hA, hl, hb, hPx, hax, hKx⟩
        refine ⟨rfl, _, rfl, p, l, ns, a', b', rfl, hPx, by omega, fun c a5' b5' H5' hc ha5' hP5' hK5' => ?_⟩
        refine ⟨_, hK5' _ _ hvp hA, by rw [List.length_map]; exact small1000 (by omega), acc ++ [c], a5', b5', by rw [upd_same, List.map_append]; rfl, by rw [List.length_append, hl]; rfl, fun x hx => ?_, ?_, by omega, (hKx.trans hK5').mut hvH⟩
        · rcases List.mem_append.mp hx with z | z
          · exact hb x z
          · rw [List.mem_singleton.mp z]; exact hc
        · exact ⟨by rw [upd_ne (Ne.symm hvp)]; exact hP5'.hd, by rw [upd_ne (fun z => by rw [← z, hP11.hl] at hvH; cases hvH)]; exact hP5'.hl, hP5'.len, hP5'.a0, hP5'.b0⟩
      · rintro H13 ⟨vals, a13, b13, ev13, hvlen, hvb, hP13, ha13, hK13⟩
        have hv5 : vals.length ≤ 5 := by omega
        refine ⟨by show 2 ≤ sizeLine; decide, fun t14 ht14 => ?_⟩
        have s14 := same_new (o := .tup [.int spot, .ref vl]) ht14
        have e14 : (upd H13 t14 (.tup [.int spot, .ref vl])) t14 = some (.tup [.int spot, .ref vl]) := upd_same
        generalize upd H13 t14 (.tup [.int spot, .ref vl]) = H14 at s14 e14 ⊢
        refine ⟨t14, _, rfl, .inl (.inl e14), rfl, _, _, rfl, _, _, rfl, rfl, ?_⟩
        have ev14 := s14 _ _ ev13
        have hP14 := hP13.same s14
        have hpp14 := (hpp11.kp hK13 hP11.hd).same s14
        have hT14 := tabs_same (tabs_kp hT11 hK13 hP11) s14
        -- told
        refine ⟨rfl, _, rfl, _, rfl, vl, _, rfl, .inl (.inl (.inl ev14)), fun l15 hl15 => ?_⟩
        have s15 := same_new (o := .lst (vals.map V.int)) hl15
        have e15 : (upd H14 l15 (.lst (vals.map V.int))) l15 = some (.lst (vals.map V.int)) := upd_same
        generalize upd H14 l15 (.lst (vals.map V.int)) = H15 at s15 e15 ⊢
        refine ⟨.int spot, l15, _, rfl, .inl (.inl (.inl e15)), by rw [List.length_map]; omega, .inr ⟨spot, rfl, hspot.up (by decide), .inr ⟨vals, rfl, fun c hc => (hvb c hc).up (by decide), fun tp tt U ts tz H16 s16 hX bt hU bU hTh hTL => ?_⟩⟩⟩
        have s1416 := s15.trans s16
        refine chk_told CW (tp := tp) (vl := vl) (t := tt) (s := ts) (r := vals) (U := U) (z := tz) (p := spot) hX hTh hTL (by omega) (hTL.bd bt) (hTL.ub bU) (hspot.up (by decide)) (s1416 _ _ ev14) fun H17 s17 => ?_
        have s1417 := s1416.trans s17
        have hP17 := hP14.same s1417
        have ev17 := s1417 _ _ ev14
        have hpp17 := hpp14.same s1417
        have hT17 := tabs_same hT14 s1417
        -- number, low
        refine ⟨_, rfl, p, l, ns, a13, b13, rfl, hP17, by omega, fun nu a18 b18 H18 hnu ha18 hP18 hK18 => ?_⟩
        refine ⟨_, rfl, p, l, ns, a18, b18, _, rfl, hP18, by omega, by decide, by decide, fun d2 a19 b19 H19 d20 d21 ha19 hP19 hK19 => ?_⟩
        refine ⟨_, _, rfl, rfl, ?_⟩
        dsimp only
        refine ⟨by show 2 ≤ sizeLine; decide, fun t20 ht20 => ?_⟩
        have blo : Bd 10 (d2 - 4) := by unfold Bd; omega
        generalize d2 - 4 = lo at blo ⊢
        have hK1719 := hK18.trans hK19
        have s20 := same_new (o := .tup [.int nu, .int lo]) ht20
        have e20 : (upd H19 t20 (.tup [.int nu, .int lo])) t20 = some (.tup [.int nu, .int lo]) := upd_same
        generalize upd H19 t20 (.tup [.int nu, .int lo]) = H20 at s20 e20 ⊢
        refine ⟨t20, _, rfl, .inl (.inl e20), rfl, _, _, rfl, _, _, rfl, rfl, ?_⟩
        have hP20 := hP19.same s20
        have ev20 := s20 _ _ (kp_lst hK1719 hP17 ev17)
        have hpp20 := (hpp17.kp hK1719 hP17.hd).same s20
        have hT20 := tabs_same (tabs_kp hT17 hK1719 hP17) s20
        -- known
        refine ⟨_, rfl, p, l, ns, a19, b19, _, rfl, hP20, by omega, by decide, by decide, fun d3 a21 b21 H21 d30 d31 ha21 hP21 hK21 => ?_⟩
        refine ⟨_, _, rfl, rfl, _, rfl, by omega, by omega, fun kl hkl => ?_⟩
        refine lc_range (lo := 0) (n := (3 + d3).toNat) (fun i H' => Same H21 H' ∧ H' kl = some (.lst ((mkL (sqs nu spot lo) i).map V.int))) ⟨same_new hkl, upd_same⟩ ?_ ?_
        · rintro k Hx hk ⟨sx, hA⟩
          have b1 : Bd 206 (spot + (0 + (k : Int))) := Bd.add' (hspot.up (show 201 ≤ 205 by decide)) (Bd.up (a := 4) (by unfold Bd; omega) (by decide)) (by decide)
          have b2 : Bd 207 (spot + (0 + (k : Int)) + lo) := Bd.add' b1 (blo.up (by decide)) (by decide)
          refine ⟨rfl, _, rfl, _, rfl, _, rfl, _, _, rfl, rfl, _, rfl, _, _, rfl, rfl, _, _, rfl, rfl, wide_pow2 b2 (by decide), _, _, rfl, rfl, ?_, ?_⟩
          · rw [pw2]
            exact wide_mul hnu (Bd.mul b2 b2 (Nat.le_refl _)) (by decide) (by decide) (by decide)
          rw [pw2, show spot + (0 + (k : Int)) + lo = spot + lo + (k : Int) by omega]
          refine ⟨_, hA, by rw [List.length_map, mkL_len]; exact small1000 (by omega), same_mut sx hkl, ?_⟩
          rw [upd_same, mkL_succ']
          rfl
        rintro H22 ⟨s22, ek22⟩
        have hn3 : 3 ≤ (3 + d3).toNat := by omega
        have hn6 : (3 + d3).toNat ≤ 6 := by omega
        generalize (3 + d3).toNat = kn at ek22 hn3 hn6
        refine chk_sq CW (kl := kl) (p := spot) (nu := nu) (lo := lo) (r := mkL (sqs nu spot lo) kn) (by rw [mkL_len]; omega) (by rw [mkL_len]; exact hn3) (fun c hc => ?_) (hspot.up (by decide)) hnu blo ek22 (fun j hj => ?_) rfl rfl rfl rfl fun H23 s23 => ?_
        · obtain ⟨k, hk, rfl⟩ := List.mem_map.mp hc
          exact sqs_bd hnu (hspot.up (by decide)) blo (by have := List.mem_range.mp hk; omega)
        · rw [mkL_len] at hj
          rw [cf_mkL, if_pos hj]; rfl
        have s2123 := s22.trans s23
        have hP23 := hP21.same s2123
        have ev23 := s2123 _ _ (kp_lst hK21 hP20 ev20)
        have hpp23 := (hpp20.kp hK21 hP20.hd).same s2123
        have hT23 := tabs_same (tabs_kp hT20 hK21 hP20) s2123
        -- odd
        refine ⟨_, rfl, _, rfl, by show 5 ≤ sizeLine; decide, fun l24 hl24 => ?_⟩
        have s24 := same_new (o := .lst [.int 0, .int (-3), .bl true, .non, .str "2"]) hl24
        have e24 : (upd H23 l24 (.lst [.int 0, .int (-3), .bl true, .non, .str "2"])) l24 = some (.lst [.int 0, .int (-3), .bl true, .non, .str "2"]) := upd_same
        generalize upd H23 l24 (.lst [.int 0, .int (-3), .bl true, .non, .str "2"]) = H24 at s24 e24 ⊢
        have hP24 := hP23.same s24
        refine ⟨p, l, l24, ns, a21, b21, _, rfl, hP24, by omega, .inl (.inl e24), ne_of e24 hP24.hd (by intro q; cases q), by show 1 ≤ 5; decide, by show 5 ≤ 100000; decide, fun j2 ov a25 b25 H25 hj2 ha25 hP25 hK25 => ?_⟩
        have hov : (∀ H', (∃ i, ov = .int i ∧ ¬ 1 ≤ i) ∨ NotInt K H' ov) ∧ DataV ov := by
          have hm := List.mem_of_getElem? hj2
          simp only [List.mem_cons, List.not_mem_nil, or_false] at hm
          rcases hm with rfl | rfl | rfl | rfl | rfl
          · exact ⟨fun _ => .inl ⟨_, rfl, by decide⟩, .int _⟩
          · exact ⟨fun _ => .inl ⟨_, rfl, by decide⟩, .int _⟩
          · exact ⟨fun H' => .inr (noi_bl K _ H'), .bl _⟩
          · exact ⟨fun H' => .inr (noi_non K H'), .non⟩
          · exact ⟨fun H' => .inr (noi_str K _ H'), .str (by decide +kernel) (by decide +kernel) (by decide +kernel)⟩
        have ev25 := kp_lst hK25 hP24 (s24 _ _ ev23)
        have hpp25 := (hpp23.same s24).kp hK25 hP24.hd
        have hT25 := tabs_kp (tabs_same hT23 s24) hK25 hP24
        -- wrong
        refine ⟨_, rfl, by show 1 ≤ sizeLine; decide, fun tO htO => ?_⟩
        have s26 := same_new (o := .tup [.int 1]) htO
        have eO26 : (upd H25 tO (.tup [.int 1])) tO = some (.tup [.int 1]) := upd_same
        generalize upd H25 tO (.tup [.int 1]) = H26 at s26 eO26 ⊢
        refine ⟨by show 4 ≤ sizeLine; decide, fun l27 hl27 => ?_⟩
        have s27 := s26.trans (same_new (o := .lst [.non, .str "0", .bl true, .ref tO]) hl27)
        have eO27 := same_new (o := .lst [.non, .str "0", .bl true, .ref tO]) hl27 _ _ eO26
        have e27 : (upd H26 l27 (.lst [.non, .str "0", .bl true, .ref tO])) l27 = some (.lst [.non, .str "0", .bl true, .ref tO]) := upd_same
        generalize upd H26 l27 (.lst [.non, .str "0", .bl true, .ref tO]) = H27 at s27 eO27 e27 ⊢
        have hP27 := hP25.same s27
        refine ⟨p, l, l27, ns, a25, b25, _, rfl, hP27, by omega, .inl (.inl e27), ne_of e27 hP27.hd (by intro q; cases q), by show 1 ≤ 4; decide, by show 4 ≤ 100000; decide, fun j3 wv a28 b28 H28 hj3 ha28 hP28 hK28 => ?_⟩
        have hwv : ∀ H' : Hp, H' tO = some (.tup [.int 1]) → NotInt K H' wv ∧ DataAt K H' wv := fun H' k1 => by
          have hm := List.mem_of_getElem? hj3
          simp only [List.mem_cons, List.not_mem_nil, or_false] at hm
          rcases hm with rfl | rfl | rfl | rfl
          · exact ⟨noi_non K H', DataV.non.at_ K H'⟩
          · exact ⟨noi_str K _ H', (DataV.str (by decide +kernel) (by decide +kernel) (by decide +kernel)).at_ K H'⟩
          · exact ⟨noi_bl K _ H', (DataV.bl _).at_ K H'⟩
          · exact ⟨⟨"tuple", false, false, .base (.tup k1), by decide +kernel, by decide +kernel, rfl⟩, _, .tup (.inl (.inl k1)) (.cons (.int _) .nil), by decide +kernel, by decide +kernel, by decide +kernel⟩
        have ev28 := kp_lst hK28 hP27 (s27 _ _ ev25)
        have hpp28 := (hpp25.same s27).kp hK28 hP27.hd
        have hT28 := tabs_kp (tabs_same hT25 s27) hK28 hP27
        have eO28 := kp_tup hK28 hP27 eO27
        -- the faults of stretched
        refine ⟨hT28, fun H29 y29 hT29 => ?_⟩
        have hP29 := hP28.ext y29
        have hpp29 := hpp28.kx (Kx.of_ext (p := p) y29) hP28.hd
        have eO29 := (Kx.of_ext (p := p) y29).tup hP28.hd eO28
        have ev29 := (Kx.of_ext (p := p) y29).lst hP28.hd ev28
        refine flt_str (k := 15) (pp := pp) (pr := pr) (u := u) hpp29 hPc.pl hPc.pb hPc.L.u1 hPc.uu rfl rfl rfl rfl (fun H' _ => hov.2.at_ K H') (fun E h => .inl ⟨hov.1 H29, h⟩) fun H30 s30 => ?_
        refine ⟨_, rfl, iteF ?_⟩
        have hP30 := hP29.same s30
        refine ⟨tabs_same hT29 s30, fun H31 y31 hT31 => ?_⟩
        have hP31 := hP30.ext y31
        have hpp31 := (hpp29.same s30).kx (Kx.of_ext (p := p) y31) hP30.hd
        have eO31 := (Kx.of_ext (p := p) y31).tup hP30.hd (s30 _ _ eO29)
        have ev31 := (Kx.of_ext (p := p) y31).lst hP30.hd (s30 _ _ ev29)
        refine flt_str (k := 16) (pp := pp) (pr := pr) (u := u) hpp31 hPc.pl hPc.pb hPc.L.u1 hPc.uu rfl rfl rfl rfl (fun H' s => (hwv H' (s _ _ eO31)).2) (fun E h => .inr ⟨m, rfl, hm1, (hwv H31 eO31).1, h⟩) fun H32 s32 => ?_
        refine ⟨_, rfl, iteF ?_⟩
        have hP32 := hP31.same s32
        have eO32 := s32 _ _ eO31
        have ev32 := s32 _ _ ev31
        have hT32 := tabs_same hT31 s32
        -- at
        refine ⟨_, rfl, _, rfl, vl, _, rfl, .inl (.inl (.inl ev32)), _, _, rfl, rfl, p, l, ns, a28, b28, _, rfl, hP32, by omega, by rw [List.length_map]; omega, by rw [List.length_map]; omega, fun d7 a33 b33 H33 d70 d71 ha33 hP33 hK33 => ?_⟩
        obtain ⟨at_, rfl⟩ : ∃ k : Nat, d7 = (k : Int) := ⟨d7.toNat, by omega⟩
        have hat : at_ ≤ vals.length := by rw [List.length_map] at d71; omega
        have eO33 := kp_tup hK33 hP32 eO32
        have ev33 := kp_lst hK33 hP32 ev32
        have hT33 := tabs_kp hT32 hK33 hP32
        -- bad
        refine ⟨_, rfl, _, rfl, _, rfl, vl, _, rfl, .inl (.inl ev33), fun t34 ht34 => ?_⟩
        rw [cut_take, ← List.map_take]
        have s34 := same_new (o := .lst ((vals.take at_).map V.int)) ht34
        have e34 : (upd H33 t34 (.lst ((vals.take at_).map V.int))) t34 = some (.lst ((vals.take at_).map V.int)) := upd_same
        generalize upd H33 t34 (.lst ((vals.take at_).map V.int)) = H34 at s34 e34 ⊢
        refine ⟨_, rfl, by show 1 ≤ sizeLine; decide, fun l35 hl35 => ?_⟩
        have s35 := s34.trans (same_new (o := .lst [wv]) hl35)
        have e35 : (upd H34 l35 (.lst [wv])) l35 = some (.lst [wv]) := upd_same
        have e345 := same_new (o := .lst [wv]) hl35 _ _ e34
        generalize upd H34 l35 (.lst [wv]) = H35 at s35 e35 e345 ⊢
        have htl : (vals.take at_).length = at_ := by rw [List.length_take]; omega
        refine ⟨t34, l35, _, _, rfl, rfl, e345, e35, by rw [List.length_map, htl]; exact Nat.le_trans (show at_ + 1 ≤ 100000 by omega) (by decide), fun l36 hl36 => ?_⟩
        have s36 := s35.trans (same_new (o := .lst ((vals.take at_).map V.int ++ [wv])) hl36)
        have e36 : (upd H35 l36 (.lst ((vals.take at_).map V.int ++ [wv]))) l36 = some (.lst ((vals.take at_).map V.int ++ [wv])) := upd_same
        generalize upd H35 l36 (.lst ((vals.take at_).map V.int ++ [wv])) = H36 at s36 e36 ⊢
        refine ⟨_, rfl, _, rfl, _, rfl, vl, _, rfl, .inl (.inl (s36 _ _ ev33)), fun t37 ht37 => ?_⟩
        rw [cut_lo, ← List.map_drop]
        have s37 := s36.trans (same_new (o := .lst ((vals.drop at_).map V.int)) ht37)
        have e37 : (upd H36 t37 (.lst ((vals.drop at_).map V.int))) t37 = some (.lst ((vals.drop at_).map V.int)) := upd_same
        have e367 := same_new (o := .lst ((vals.drop at_).map V.int)) ht37 _ _ e36
        generalize upd H36 t37 (.lst ((vals.drop at_).map V.int)) = H37 at s37 e37 e367 ⊢
        have hdl : (vals.drop at_).length ≤ 5 := by rw [List.length_drop]; omega
        refine ⟨l36, t37, _, _, rfl, rfl, e367, e37, by rw [List.length_append, List.length_map, List.length_map, htl]; exact Nat.le_trans (show at_ + 1 + (vals.drop at_).length ≤ 100000 by omega) (by decide), fun l38 hl38 => ?_⟩
        have s38 := s37.trans (same_new (o := .lst ((vals.take at_).map V.int ++ [wv] ++ (vals.drop at_).map V.int)) hl38)
        have e38 : (upd H37 l38 (.lst ((vals.take at_).map V.int ++ [wv] ++ (vals.drop at_).map V.int))) l38 = some (.lst ((vals.take at_).map V.int ++ wv :: (vals.drop at_).map V.int)) := by rw [upd_same, List.append_assoc]; rfl
        generalize upd H37 l38 (.lst ((vals.take at_).map V.int ++ [wv] ++ (vals.drop at_).map V.int)) = H38 at s38 e38 ⊢
        have hbl : ((vals.take at_).map V.int ++ wv :: (vals.drop at_).map V.int).length ≤ 9 := by rw [List.length_append, List.length_cons, List.length_map, List.length_map, htl]; rw [List.length_drop]; omega
        have hP38 := hP33.same s38
        have eO38 := s38 _ _ eO33
        have hT38 := tabs_same hT33 s38
        -- the faults of through
        refine ⟨hT38, fun H39 y39 hT39 => ?_⟩
        have hP39 := hP38.ext y39
        have eO39 := (Kx.of_ext (p := p) y39).tup hP38.hd eO38
        have eb39 := (Kx.of_ext (p := p) y39).lst hP38.hd e38
        refine flt_place (j := 0) (v := wv) (bl := l38) rfl rfl eb39 hbl (hwv H39 eO39).1 (fun H' s => (hwv H' (s _ _ eO39)).2) fun H40 s40 => ?_
        refine ⟨_, rfl, iteF ?_⟩
        have hP40 := hP39.same s40
        refine ⟨tabs_same hT39 s40, fun H41 y41 hT41 => ?_⟩
        have eO41 := (Kx.of_ext (p := p) y41).tup hP40.hd (s40 _ _ eO39)
        have eb41 := (Kx.of_ext (p := p) y41).lst hP40.hd (s40 _ _ eb39)
        refine flt_row (p := spot) (v := wv) (bl := l38) (r := vals.take at_) rfl (by rw [htl]; rfl) rfl (hspot.up (by decide)) eb41 hbl (hwv H41 eO41).1 fun H42 s42 => ?_
        refine ⟨_, rfl, iteF ?_⟩
        exact ⟨a33, b33, _, _, _, _, _, _, _, _, _, _, _, _, _, _, _, _, _, (hP40.ext y41).same s42, by omega, tabs_same hT41 s42, rfl⟩
    · rintro σ H1 ⟨a1, b1, y2, y3, y4, y5, y6, y7, y8, y9, y10, y11, y12, y13, y14, y15, y16, y17, y18, hP1, ha1, hT1, rfl⟩
      refine ⟨rfl, Nat.zero_le _, fun l1 hl1 => ?_⟩
      have e1 : (upd H1 l1 (.lst [])) l1 = some (.lst (([] : List Int).map V.int)) := upd_same
      generalize upd H1 l1 (.lst []) = H2 at e1 ⊢
      refine ⟨.int 5, l1, _, rfl, .inl (.inl (.inl e1)), Nat.zero_le _, .inr ⟨5, rfl, by unfold Bd; decide, .inr ⟨[], rfl, fun c hc => (by cases hc), fun tp tt U ts tz H3 s3 hX bt hU bU hTh hTL => ?_⟩⟩⟩
      refine ⟨Nat.zero_le _, fun l4 hl4 => ?_⟩
      have s4 := same_new (o := .lst []) hl4
      have e4 : (upd H3 l4 (.lst [])) l4 = some (.lst (([] : List Int).map V.int)) := upd_same
      generalize upd H3 l4 (.lst []) = H4 at s4 e4 ⊢
      refine mk_pcR (un := 1) (.inl (.inl (.inl e4))) (Nat.zero_le _) (by decide) (Bd.up (a := 1) (by unfold Bd; decide) (by decide)) fun p5 s5 z5 H5 L5 k5 hp5 => ?_
      have hz : ∀ j, cf tt j = 0 := by
        obtain ⟨L0, h1, h2, _⟩ := hTh
        have h0 : L0 ≤ 0 := h1
        exact fun j => h2 j (by omega)
      have hlt := thr_len hTh hTL
      obtain ⟨e5, e6⟩ := hTL.unique L5 fun j => by show cf tt j * _ = cf [] j * _; rw [hz j, cf_nil, Int.zero_mul, Int.zero_mul]
      exact rd_eq (hX.same (s4.trans k5)) hp5 (Nat.le_trans hlt (Nat.zero_le _)) ⟨e5, e6⟩ (q _)
end
end Ef
set_option Elab.async false
set_option linter.all false
set_option maxRecDepth 100000
set_option maxHeartbeats 8000000
namespace Ef
open PySem PySem.Spec PyProof.Rows L2 ClX
theorem at_mk {K : PySem.W.Frag} {h : Heap} {mg : Str → Option Value} {x : Str} {st : Stmt} {f : Addr} {oc kV doc pm cdv ct : Value} {od an : Option Addr} {osl : Array (Option Value)} (X : K.In h) (G : h.Ns mainGlobals mg) (a : PySem.W.nsIn K mainGlobals x = some (some (.ref f)))
    (l : K.lookup f = some ⟨oc, od, .func (PySem.W.fnOf x x (defArgs st) (defBody st) (defScope st) .none kV doc pm an cdv ct), osl⟩) (c : PySem.W.codeIn K cdv x = true) (k : PySem.W.keepIn K (.ref f) = true) : At K mg x st := ⟨f, _, PySem.W.mg_of X G a, fun_mk l c k⟩
theorem exm_by {K : PySem.W.Frag} {S : Addr} {c : Value} {b : Bool} (h1 : PySem.W.subIn K (.ref S) (.type "BaseException") = some true) (h2 : PySem.W.isClsIn K S = true) (h3 : PySem.W.typeIn K (.ref S) = some (.type "type")) (h4 : PySem.W.subIn K c (.ref S) = some b) :
    PySem.W.exmOne K c (.ref S) = some b := by
  unfold PySem.W.exmOne PySem.W.kitCls
  have h2' : (PySem.W.clsIn K S).isSome = true := h2
  rw [h1, if_pos (by rfl)]
  show (if ((PySem.W.clsIn K S).isSome && PySem.W.typeIn K (.ref S) == some (.type "type")) = true then PySem.W.subIn K c (.ref S) else none) = some b
  rw [h2', h3, if_pos (by rfl)]
  exact h4
theorem kit_by {K : PySem.W.Frag} {S : Addr} {c : Value} {b : Bool} (h2 : PySem.W.isClsIn K S = true) (h3 : PySem.W.typeIn K (.ref S) = some (.type "type")) (h4 : PySem.W.subIn K c (.ref S) = some b) (hc : (c == .ref S) = false := by rfl) :
    PySem.W.kitOne K c (.ref S) = some b := by
  unfold PySem.W.kitOne PySem.W.kitCls
  have h2' : (PySem.W.clsIn K S).isSome = true := h2
  rw [if_neg (by rw [hc]; exact Bool.false_ne_true)]
  show (if ((PySem.W.clsIn K S).isSome && PySem.W.typeIn K (.ref S) == some (.type "type")) = true then PySem.W.subIn K c (.ref S) else none) = some b
  rw [h2', h3, if_pos (by rfl)]
  exact h4
abbrev sErrB : Stmt := inClass (top 6) 0
abbrev sErrN : Stmt := inClass (top 8) 0
theorem scErrB : FnScope ["self", "n"] ["self", "n"] (defScope sErrB) := ⟨rfl, rfl, rfl, by decide +kernel, rfl, by decide +kernel, by decide +kernel⟩
theorem scErrN : FnScope ["self", "number"] ["self", "number"] (defScope sErrN) := ⟨rfl, rfl, rfl, by decide +kernel, rfl, by decide +kernel, by decide +kernel⟩
theorem ok_errB {P : Program} {w : World} {K : PySem.W.Frag} {mg : Str → Option Value} {base : Heap} {f C fI : Addr} {fd : FuncData} (F : Fun K "__init__" "BadPlace.__init__" sErrB f fd) (T : ErrF K mg "BadPlace" "n" C fI) : FnOk P w K mg base CX0 1 f fd ["self", "n"] (spErr K C "n") := by
  refine F.ok scErrB (fun vs H Q E h => ?_) (fun cdv A outer s H vs Q E hr h => ?_)
  · obtain ⟨a, v, rfl, _⟩ := h
    rfl
  · obtain ⟨a, v, rfl, ha, q⟩ := h
    refine ⟨_, (pss_one (ps_ost (pv 0) (pv 1))), ?_⟩
    exact ⟨_, rfl, _, rfl, a, C, rfl, T.oex, T.nN, .inl ⟨ha, fun dx h1 h2 => q dx h1 h2⟩⟩
theorem ok_errN {P : Program} {w : World} {K : PySem.W.Frag} {mg : Str → Option Value} {base : Heap} {f C fI : Addr} {fd : FuncData} (F : Fun K "__init__" "BadNumber.__init__" sErrN f fd) (T : ErrF K mg "BadNumber" "number" C fI) : FnOk P w K mg base CX0 1 f fd ["self", "number"] (spErr K C "number") := by
  refine F.ok scErrN (fun vs H Q E h => ?_) (fun cdv A outer s H vs Q E hr h => ?_)
  · obtain ⟨a, v, rfl, _⟩ := h
    rfl
  · obtain ⟨a, v, rfl, ha, q⟩ := h
    refine ⟨_, (pss_one (ps_ost (pv 0) (pv 1))), ?_⟩
    exact ⟨_, rfl, _, rfl, a, C, rfl, T.oex, T.nN, .inl ⟨ha, fun dx h1 h2 => q dx h1 h2⟩⟩
theorem binds_thr {K : PySem.W.Frag} {f : Addr} {fd : FuncData} (F : FunD K "row_through" "row_through" (defArgs sThr) (defBody sThr) (defScope sThr) [V.int 1] [] f fd) : ∃ ds, Vals [.int 1] ds ∧ Binds K fd ["place", "values", "step"] ds := by
  refine F.binds1 (ps := ["place", "values", "step"]) 2 0 (fun z => by cases z) rfl (fun T kV doc pm an cdv ct us its hu hi => ?_)
  match us, hu, its, hi with
  | [_, _], _, [_], _ => exact ⟨_, rfl, rfl⟩
theorem all_mk {w : World} {K : PySem.W.Frag} {h : Heap} {mg : Str → Option Value} {l : PySem.W.OpenLaw} {fa C CR CU CB CN tD tE cL PT f0 f1 f2 f3 f4 f5 f6 f7 f8 f9 f10 f11 f12 f13 f14 f15 f16 f17 f18 f19 f20 f21 f22 p23 f23 f24 f25 f26 f27 f28 f29 f30 f31  : Addr} (X : K.In h) (G : h.Ns mainGlobals mg) (hfa : mg "law" = some (.ref fa))
    {od0 an0 od1 an1 od2 an2 od3 an3 od4 an4 od5 an5 od6 an6 od7 an7 od8 an8 od9 an9 od10 an10 od11 an11 od12 an12 od13 an13 od14 an14 od15 an15 od16 an16 od17 an17 od18 an18 od19 an19 od20 an20 od21 an21 od22 an22 od23 an23 od24 an24 od25 an25 od26 an26 od27 an27 od28 an28 od29 an29 od30 an30 od31 an31 odD odE : Option Addr} {sl0 sl1 sl2 sl3 sl4 sl5 sl6 sl7 sl8 sl9 sl10 sl11 sl12 sl13 sl14 sl15 sl16 sl17 sl18 sl19 sl20 sl21 sl22 sl23 sl24 sl25 sl26 sl27 sl28 sl29 sl30 sl31 slD slE : Array (Option Value)} {oc0 kV0 dc0 pm0 cd0 ct0 oc1 kV1 dc1 pm1 cd1 ct1 oc2 kV2 dc2 pm2 cd2 ct2 oc3 kV3 dc3 pm3 cd3 ct3 oc4 kV4 dc4 pm4 cd4 ct4 oc5 kV5 dc5 pm5 cd5 ct5 oc6 kV6 dc6 pm6 cd6 ct6 oc7 kV7 dc7 pm7 cd7 ct7 oc8 kV8 dc8 pm8 cd8 ct8 oc9 kV9 dc9 pm9 cd9 ct9 oc10 kV10 dc10 pm10 cd10 ct10 oc11 kV11 dc11 pm11 cd11 ct11 oc12 kV12 dc12 pm12 cd12 ct12 oc13 kV13 dc13 pm13 cd13 ct13 oc14 kV14 dc14 pm14 cd14 ct14 oc15 kV15 dc15 pm15 cd15 ct15 oc16 kV16 dc16 pm16 cd16 ct16 oc17 kV17 dc17 pm17 cd17 ct17 oc18 kV18 dc18 pm18 cd18 ct18 oc19 kV19 dc19 pm19 cd19 ct19 oc20 kV20 dc20 pm20 cd20 ct20 oc21 kV21 dc21 pm21 cd21 ct21 oc22 kV22 dc22 pm22 cd22 ct22 oc23 kV23 dc23 pm23 cd23 ct23 oc24 kV24 dc24 pm24 cd24 ct24 oc25 kV25 dc25 pm25 cd25 ct25 oc26 kV26 dc26 pm26 ct26 oc27 kV27 dc27 pm27 cd27 ct27 oc28 kV28 dc28 pm28 cd28 ct28 oc29 kV29 dc29 pm29 cd29 ct29 oc30 kV30 dc30 pm30 cd30 ct30 oc31 kV31 dc31 pm31 cd31 ct31 ocD ocE : Value} {tkD tkE : Tok} {nD nE : Nat} {rest23 : List Value} {nmCR qCR : Str} {NCR : Addr} {bsCR bmCR : List Value} {snCR : List Str} {subCR : List Value} {abCR : Bool} {colCR : Option Bool} {ddCR : Option Addr} {e0CR e1CR e2CR e3CR e5CR : Option Value} {nmCU qCU : Str} {NCU : Addr} {bsCU bmCU : List Value} {snCU : List Str} {subCU : List Value} {abCU : Bool} {colCU : Option Bool} {ddCU : Option Addr} {e0CU e1CU e2CU e3CU e5CU : Option Value} {nmCB qCB : Str} {NCB : Addr} {bsCB bmCB : List Value} {snCB : List Str} {subCB : List Value} {abCB : Bool} {colCB : Option Bool} {ddCB : Option Addr} {e0CB e1CB e2CB e3CB e5CB : Option Value} {nmCN qCN : Str} {NCN : Addr} {bsCN bmCN : List Value} {snCN : List Str} {subCN : List Value} {abCN : Bool} {colCN : Option Bool} {ddCN : Option Addr} {e0CN e1CN e2CN e3CN e5CN : Option Value}
    (aC : PySem.W.nsIn K mainGlobals "Piece" = some (some (.ref C)))
    (a0 : PySem.W.nsIn K mainGlobals "is_int" = some (some (.ref f0)))
    (l0 : K.lookup f0 = some ⟨oc0, od0, .func (PySem.W.fnOf "is_int" "is_int" (defArgs sIsInt) (defBody sIsInt) (defScope sIsInt) .none kV0 dc0 pm0 an0 cd0 ct0), sl0⟩)
    (c0 : PySem.W.codeIn K cd0 "is_int" = true)
    (k0 : PySem.W.keepIn K (.ref f0) = true)
    (a1 : PySem.W.nsIn K mainGlobals "is_int_from" = some (some (.ref f1)))
    (l1 : K.lookup f1 = some ⟨oc1, od1, .func (PySem.W.fnOf "is_int_from" "is_int_from" (defArgs sFrom) (defBody sFrom) (defScope sFrom) .none kV1 dc1 pm1 an1 cd1 ct1), sl1⟩)
    (c1 : PySem.W.codeIn K cd1 "is_int_from" = true)
    (k1 : PySem.W.keepIn K (.ref f1) = true)
    (a2 : PySem.W.nsIn K mainGlobals "trimmed" = some (some (.ref f2)))
    (l2 : K.lookup f2 = some ⟨oc2, od2, .func (PySem.W.fnOf "trimmed" "trimmed" (defArgs sTrim) (defBody sTrim) (defScope sTrim) .none kV2 dc2 pm2 an2 cd2 ct2), sl2⟩)
    (c2 : PySem.W.codeIn K cd2 "trimmed" = true)
    (k2 : PySem.W.keepIn K (.ref f2) = true)
    (a3 : PySem.W.nsIn K mainGlobals "common_divisor" = some (some (.ref f3)))
    (l3 : K.lookup f3 = some ⟨oc3, od3, .func (PySem.W.fnOf "common_divisor" "common_divisor" (defArgs sCom) (defBody sCom) (defScope sCom) .none kV3 dc3 pm3 an3 cd3 ct3), sl3⟩)
    (c3 : PySem.W.codeIn K cd3 "common_divisor" = true)
    (k3 : PySem.W.keepIn K (.ref f3) = true)
    (a4 : PySem.W.nsIn K mainGlobals "value_at" = some (some (.ref f4)))
    (l4 : K.lookup f4 = some ⟨oc4, od4, .func (PySem.W.fnOf "value_at" "value_at" (defArgs sVal) (defBody sVal) (defScope sVal) .none kV4 dc4 pm4 an4 cd4 ct4), sl4⟩)
    (c4 : PySem.W.codeIn K cd4 "value_at" = true)
    (k4 : PySem.W.keepIn K (.ref f4) = true)
    (a5 : PySem.W.nsIn K mainGlobals "row_times" = some (some (.ref f5)))
    (l5 : K.lookup f5 = some ⟨oc5, od5, .func (PySem.W.fnOf "row_times" "row_times" (defArgs sTm) (defBody sTm) (defScope sTm) .none kV5 dc5 pm5 an5 cd5 ct5), sl5⟩)
    (c5 : PySem.W.codeIn K cd5 "row_times" = true)
    (k5 : PySem.W.keepIn K (.ref f5) = true)
    (a6 : PySem.W.nsIn K mainGlobals "row_sum" = some (some (.ref f6)))
    (l6 : K.lookup f6 = some ⟨oc6, od6, .func (PySem.W.fnOf "row_sum" "row_sum" (defArgs sSum) (defBody sSum) (defScope sSum) .none kV6 dc6 pm6 an6 cd6 ct6), sl6⟩)
    (c6 : PySem.W.codeIn K cd6 "row_sum" = true)
    (k6 : PySem.W.keepIn K (.ref f6) = true)
    (a7 : PySem.W.nsIn K mainGlobals "row_product" = some (some (.ref f7)))
    (l7 : K.lookup f7 = some ⟨oc7, od7, .func (PySem.W.fnOf "row_product" "row_product" (defArgs sProd) (defBody sProd) (defScope sProd) .none kV7 dc7 pm7 an7 cd7 ct7), sl7⟩)
    (c7 : PySem.W.codeIn K cd7 "row_product" = true)
    (k7 : PySem.W.keepIn K (.ref f7) = true)
    (a8 : PySem.W.nsIn K mainGlobals "row_stretched" = some (some (.ref f8)))
    (l8 : K.lookup f8 = some ⟨oc8, od8, .func (PySem.W.fnOf "row_stretched" "row_stretched" (defArgs sStr) (defBody sStr) (defScope sStr) .none kV8 dc8 pm8 an8 cd8 ct8), sl8⟩)
    (c8 : PySem.W.codeIn K cd8 "row_stretched" = true)
    (k8 : PySem.W.keepIn K (.ref f8) = true)
    (a9 : PySem.W.nsIn K mainGlobals "_check_row" = some (some (.ref f9)))
    (l9 : K.lookup f9 = some ⟨oc9, od9, .func (PySem.W.fnOf "_check_row" "_check_row" (defArgs sCheck) (defBody sCheck) (defScope sCheck) .none kV9 dc9 pm9 an9 cd9 ct9), sl9⟩)
    (c9 : PySem.W.codeIn K cd9 "_check_row" = true)
    (k9 : PySem.W.keepIn K (.ref f9) = true)
    (a10 : PySem.W.nsIn K mainGlobals "_law_pen" = some (some (.ref f10)))
    (l10 : K.lookup f10 = some ⟨oc10, od10, .func (PySem.W.fnOf "_law_pen" "_law_pen" (defArgs sPen) (defBody sPen) (defScope sPen) .none kV10 dc10 pm10 an10 cd10 ct10), sl10⟩)
    (c10 : PySem.W.codeIn K cd10 "_law_pen" = true)
    (k10 : PySem.W.keepIn K (.ref f10) = true)
    (a11 : PySem.W.nsIn K mainGlobals "_law_draw" = some (some (.ref f11)))
    (l11 : K.lookup f11 = some ⟨oc11, od11, .func (PySem.W.fnOf "_law_draw" "_law_draw" (defArgs sDraw) (defBody sDraw) (defScope sDraw) .none kV11 dc11 pm11 an11 cd11 ct11), sl11⟩)
    (c11 : PySem.W.codeIn K cd11 "_law_draw" = true)
    (k11 : PySem.W.keepIn K (.ref f11) = true)
    (a12 : PySem.W.nsIn K mainGlobals "_law_pick" = some (some (.ref f12)))
    (l12 : K.lookup f12 = some ⟨oc12, od12, .func (PySem.W.fnOf "_law_pick" "_law_pick" (defArgs sPick) (defBody sPick) (defScope sPick) .none kV12 dc12 pm12 an12 cd12 ct12), sl12⟩)
    (c12 : PySem.W.codeIn K cd12 "_law_pick" = true)
    (k12 : PySem.W.keepIn K (.ref f12) = true)
    (a13 : PySem.W.nsIn K mainGlobals "_law_gcd" = some (some (.ref f13)))
    (l13 : K.lookup f13 = some ⟨oc13, od13, .func (PySem.W.fnOf "_law_gcd" "_law_gcd" (defArgs sGcd) (defBody sGcd) (defScope sGcd) .none kV13 dc13 pm13 an13 cd13 ct13), sl13⟩)
    (c13 : PySem.W.codeIn K cd13 "_law_gcd" = true)
    (k13 : PySem.W.keepIn K (.ref f13) = true)
    (a14 : PySem.W.nsIn K mainGlobals "_law_entry" = some (some (.ref f14)))
    (l14 : K.lookup f14 = some ⟨oc14, od14, .func (PySem.W.fnOf "_law_entry" "_law_entry" (defArgs sEntry) (defBody sEntry) (defScope sEntry) .none kV14 dc14 pm14 an14 cd14 ct14), sl14⟩)
    (c14 : PySem.W.codeIn K cd14 "_law_entry" = true)
    (k14 : PySem.W.keepIn K (.ref f14) = true)
    (a15 : PySem.W.nsIn K mainGlobals "_law_fraction" = some (some (.ref f15)))
    (l15 : K.lookup f15 = some ⟨oc15, od15, .func (PySem.W.fnOf "_law_fraction" "_law_fraction" (defArgs sFrac) (defBody sFrac) (defScope sFrac) .none kV15 dc15 pm15 an15 cd15 ct15), sl15⟩)
    (c15 : PySem.W.codeIn K cd15 "_law_fraction" = true)
    (k15 : PySem.W.keepIn K (.ref f15) = true)
    (a16 : PySem.W.nsIn K mainGlobals "_law_upper" = some (some (.ref f16)))
    (l16 : K.lookup f16 = some ⟨oc16, od16, .func (PySem.W.fnOf "_law_upper" "_law_upper" (defArgs sUp) (defBody sUp) (defScope sUp) .none kV16 dc16 pm16 an16 cd16 ct16), sl16⟩)
    (c16 : PySem.W.codeIn K cd16 "_law_upper" = true)
    (k16 : PySem.W.keepIn K (.ref f16) = true)
    (a17 : PySem.W.nsIn K mainGlobals "_law_is_piece" = some (some (.ref f17)))
    (l17 : K.lookup f17 = some ⟨oc17, od17, .func (PySem.W.fnOf "_law_is_piece" "_law_is_piece" (defArgs sIsp) (defBody sIsp) (defScope sIsp) .none kV17 dc17 pm17 an17 cd17 ct17), sl17⟩)
    (c17 : PySem.W.codeIn K cd17 "_law_is_piece" = true)
    (k17 : PySem.W.keepIn K (.ref f17) = true)
    (a18 : PySem.W.nsIn K mainGlobals "_law_far" = some (some (.ref f18)))
    (l18 : K.lookup f18 = some ⟨oc18, od18, .func (PySem.W.fnOf "_law_far" "_law_far" (defArgs sFar) (defBody sFar) (defScope sFar) .none kV18 dc18 pm18 an18 cd18 ct18), sl18⟩)
    (c18 : PySem.W.codeIn K cd18 "_law_far" = true)
    (k18 : PySem.W.keepIn K (.ref f18) = true)
    (a19 : PySem.W.nsIn K mainGlobals "_law_fault" = some (some (.ref f19)))
    (l19 : K.lookup f19 = some ⟨oc19, od19, .func (PySem.W.fnOf "_law_fault" "_law_fault" (defArgs sFault) (defBody sFault) (defScope sFault) .none kV19 dc19 pm19 an19 cd19 ct19), sl19⟩)
    (c19 : PySem.W.codeIn K cd19 "_law_fault" = true)
    (k19 : PySem.W.keepIn K (.ref f19) = true)
    (a20 : PySem.W.nsIn K mainGlobals "_law_is_stretched" = some (some (.ref f20)))
    (l20 : K.lookup f20 = some ⟨oc20, od20, .func (PySem.W.fnOf "_law_is_stretched" "_law_is_stretched" (defArgs sIss) (defBody sIss) (defScope sIss) .none kV20 dc20 pm20 an20 cd20 ct20), sl20⟩)
    (c20 : PySem.W.codeIn K cd20 "_law_is_stretched" = true)
    (k20 : PySem.W.keepIn K (.ref f20) = true)
    (a21 : PySem.W.findIn K (.ref C) "__init__" = some (some (.ref f21)))
    (i21 : PySem.W.isFn K (.ref f21) = true)
    (l21 : K.lookup f21 = some ⟨oc21, od21, .func (PySem.W.fnOf "__init__" "Piece.__init__" (defArgs sInit) (defBody sInit) (defScope sInit) (.ref tD) kV21 dc21 pm21 an21 cd21 ct21), sl21⟩)
    (c21 : PySem.W.codeIn K cd21 "Piece.__init__" = true)
    (k21 : PySem.W.keepIn K (.ref f21) = true)
    (lD : K.lookup tD = some ⟨ocD, odD, .seq #[.int 1 tkD] nD, slD⟩)
    (a22 : PySem.W.nsIn K mainGlobals "row_through" = some (some (.ref f22)))
    (l22 : K.lookup f22 = some ⟨oc22, od22, .func (PySem.W.fnOf "row_through" "row_through" (defArgs sThr) (defBody sThr) (defScope sThr) (.ref tE) kV22 dc22 pm22 an22 cd22 ct22), sl22⟩)
    (c22 : PySem.W.codeIn K cd22 "row_through" = true)
    (k22 : PySem.W.keepIn K (.ref f22) = true)
    (lE : K.lookup tE = some ⟨ocE, odE, .seq #[.int 1 tkE] nE, slE⟩)
    (a23 : PySem.W.findCls K (.ref C) (.type "type") "through" = some (.get (.builtin "classmethod.__get__") (.ref p23) .none (.ref C)))
    (r23 : PySem.W.recIn K p23 "classmethod" = some (.ref f23 :: rest23))
    (i23 : PySem.W.fnIn K f23 = true)
    (l23 : K.lookup f23 = some ⟨oc23, od23, .func (PySem.W.fnOf "through" "Piece.through" (defArgs sThrough) (defBody sThrough) (defScope sThrough) .none kV23 dc23 pm23 an23 cd23 ct23), sl23⟩)
    (c23 : PySem.W.codeIn K cd23 "Piece.through" = true)
    (k23 : PySem.W.keepIn K (.ref f23) = true)
    (a24 : PySem.W.findIn K (.ref C) "stretched" = some (some (.ref f24)))
    (fnS : PySem.W.isFn K (.ref f24) = true)
    (l24 : K.lookup f24 = some ⟨oc24, od24, .func (PySem.W.fnOf "stretched" "Piece.stretched" (defArgs sStretched) (defBody sStretched) (defScope sStretched) .none kV24 dc24 pm24 an24 cd24 ct24), sl24⟩)
    (c24 : PySem.W.codeIn K cd24 "Piece.stretched" = true)
    (k24 : PySem.W.keepIn K (.ref f24) = true)
    (a25 : PySem.W.findIn K (.ref C) "__call__" = some (some (.ref f25)))
    (i25 : PySem.W.isFn K (.ref f25) = true)
    (n25 : PySem.W.fnIn K f25 = true)
    (l25 : K.lookup f25 = some ⟨oc25, od25, .func (PySem.W.fnOf "__call__" "Piece.__call__" (defArgs sCall) (defBody sCall) (defScope sCall) .none kV25 dc25 pm25 an25 cd25 ct25), sl25⟩)
    (c25 : PySem.W.codeIn K cd25 "Piece.__call__" = true)
    (k25 : PySem.W.keepIn K (.ref f25) = true)
    (rd : PySem.W.readsIn K C (.type "type") = true)
    (gaC : PySem.W.specialIn K (.ref C) "__getattribute__" = some (some (.builtin "type.__getattribute__")))
    (a26 : PySem.W.nsIn K mainGlobals "law" = some (some (.ref f26)))
    (l26 : K.lookup f26 = some ⟨oc26, od26, .func (PySem.W.fnOf "law" "law" (defArgs sLaw) (defBody sLaw) (defScope sLaw) .none kV26 dc26 pm26 an26 (.ref cL) ct26), sl26⟩)
    (c26 : PySem.W.codeIn K (.ref cL) "law" = true)
    (tP : PySem.W.tabIn K "law" = some (cL, PT))
    (hP : PySem.W.codeHdIn K cL PT = true)
    (nP : K.lookup PT = none)
    (a27 : PySem.W.findIn K (.ref C) "__eq__" = some (some (.ref f27)))
    (i27 : PySem.W.isFn K (.ref f27) = true)
    (t27 : PySem.W.typeIn K (.ref f27) = some (.type "function"))
    (l27 : K.lookup f27 = some ⟨oc27, od27, .func (PySem.W.fnOf "__eq__" "Piece.__eq__" (defArgs sEq) (defBody sEq) (defScope sEq) .none kV27 dc27 pm27 an27 cd27 ct27), sl27⟩)
    (c27 : PySem.W.codeIn K cd27 "Piece.__eq__" = true)
    (k27 : PySem.W.keepIn K (.ref f27) = true)
    (ne : PySem.W.findIn K (.ref C) "__ne__" = some (some (.builtin "object.__ne__")))
    (sli : PySem.W.subIn K (.type "list") (.ref C) = some false)
    (jC : PySem.W.isClsIn K C = true)
    (tC : PySem.W.typeIn K (.ref C) = some (.type "type"))
    (mCR : PySem.W.nsIn K mainGlobals "BadRow" = some (some (.ref CR)))
    (oCR : K.lookup CR = some (excClassObj nmCR qCR CR NCR bsCR bmCR true snCR subCR abCR colCR ddCR e0CR e1CR e2CR e3CR e5CR "ValueError.__new__"))
    (vCR : PySem.HandSPX.refsVE bmCR = true)
    (sCR : PySem.W.findIn K (.ref CR) "__setattr__" = some (some (.builtin "object.__setattr__")))
    (xCR : PySem.W.subIn K (.ref CR) (.type "BaseException") = some true)
    (tCR : PySem.W.typeIn K (.ref CR) = some (.type "type"))
    (kCR : PySem.W.keepIn K (.ref CR) = true)
    (iCR : PySem.W.findIn K (.ref CR) "__init__" = some (some (.ref f28)))
    (uCR : PySem.W.typeIn K (.ref f28) = some (.type "function"))
    (nCR : PySem.W.findIn K (.ref CR) "index" = some none)
    (gaCR : PySem.W.findIn K (.ref CR) "__getattribute__" = some (some (.builtin "BaseException.__getattribute__")))
    (ggCR : PySem.W.findIn K (.ref CR) "__getattr__" = some none)
    (hdCR : PySem.W.hasDictIn K CR = true)
    (l28 : K.lookup f28 = some ⟨oc28, od28, .func (PySem.W.fnOf "__init__" "BadRow.__init__" (defArgs sErrR) (defBody sErrR) (defScope sErrR) .none kV28 dc28 pm28 an28 cd28 ct28), sl28⟩)
    (c28 : PySem.W.codeIn K cd28 "BadRow.__init__" = true)
    (k28 : PySem.W.keepIn K (.ref f28) = true)
    (mCU : PySem.W.nsIn K mainGlobals "BadUnder" = some (some (.ref CU)))
    (oCU : K.lookup CU = some (excClassObj nmCU qCU CU NCU bsCU bmCU true snCU subCU abCU colCU ddCU e0CU e1CU e2CU e3CU e5CU "ValueError.__new__"))
    (vCU : PySem.HandSPX.refsVE bmCU = true)
    (sCU : PySem.W.findIn K (.ref CU) "__setattr__" = some (some (.builtin "object.__setattr__")))
    (xCU : PySem.W.subIn K (.ref CU) (.type "BaseException") = some true)
    (tCU : PySem.W.typeIn K (.ref CU) = some (.type "type"))
    (kCU : PySem.W.keepIn K (.ref CU) = true)
    (iCU : PySem.W.findIn K (.ref CU) "__init__" = some (some (.ref f29)))
    (uCU : PySem.W.typeIn K (.ref f29) = some (.type "function"))
    (nCU : PySem.W.findIn K (.ref CU) "under" = some none)
    (gaCU : PySem.W.findIn K (.ref CU) "__getattribute__" = some (some (.builtin "BaseException.__getattribute__")))
    (ggCU : PySem.W.findIn K (.ref CU) "__getattr__" = some none)
    (hdCU : PySem.W.hasDictIn K CU = true)
    (l29 : K.lookup f29 = some ⟨oc29, od29, .func (PySem.W.fnOf "__init__" "BadUnder.__init__" (defArgs sErrU) (defBody sErrU) (defScope sErrU) .none kV29 dc29 pm29 an29 cd29 ct29), sl29⟩)
    (c29 : PySem.W.codeIn K cd29 "BadUnder.__init__" = true)
    (k29 : PySem.W.keepIn K (.ref f29) = true)
    (mCB : PySem.W.nsIn K mainGlobals "BadPlace" = some (some (.ref CB)))
    (oCB : K.lookup CB = some (excClassObj nmCB qCB CB NCB bsCB bmCB true snCB subCB abCB colCB ddCB e0CB e1CB e2CB e3CB e5CB "ValueError.__new__"))
    (vCB : PySem.HandSPX.refsVE bmCB = true)
    (sCB : PySem.W.findIn K (.ref CB) "__setattr__" = some (some (.builtin "object.__setattr__")))
    (xCB : PySem.W.subIn K (.ref CB) (.type "BaseException") = some true)
    (tCB : PySem.W.typeIn K (.ref CB) = some (.type "type"))
    (kCB : PySem.W.keepIn K (.ref CB) = true)
    (iCB : PySem.W.findIn K (.ref CB) "__init__" = some (some (.ref f30)))
    (uCB : PySem.W.typeIn K (.ref f30) = some (.type "function"))
    (nCB : PySem.W.findIn K (.ref CB) "n" = some none)
    (gaCB : PySem.W.findIn K (.ref CB) "__getattribute__" = some (some (.builtin "BaseException.__getattribute__")))
    (ggCB : PySem.W.findIn K (.ref CB) "__getattr__" = some none)
    (hdCB : PySem.W.hasDictIn K CB = true)
    (l30 : K.lookup f30 = some ⟨oc30, od30, .func (PySem.W.fnOf "__init__" "BadPlace.__init__" (defArgs sErrB) (defBody sErrB) (defScope sErrB) .none kV30 dc30 pm30 an30 cd30 ct30), sl30⟩)
    (c30 : PySem.W.codeIn K cd30 "BadPlace.__init__" = true)
    (k30 : PySem.W.keepIn K (.ref f30) = true)
    (mCN : PySem.W.nsIn K mainGlobals "BadNumber" = some (some (.ref CN)))
    (oCN : K.lookup CN = some (excClassObj nmCN qCN CN NCN bsCN bmCN true snCN subCN abCN colCN ddCN e0CN e1CN e2CN e3CN e5CN "ValueError.__new__"))
    (vCN : PySem.HandSPX.refsVE bmCN = true)
    (sCN : PySem.W.findIn K (.ref CN) "__setattr__" = some (some (.builtin "object.__setattr__")))
    (xCN : PySem.W.subIn K (.ref CN) (.type "BaseException") = some true)
    (tCN : PySem.W.typeIn K (.ref CN) = some (.type "type"))
    (kCN : PySem.W.keepIn K (.ref CN) = true)
    (iCN : PySem.W.findIn K (.ref CN) "__init__" = some (some (.ref f31)))
    (uCN : PySem.W.typeIn K (.ref f31) = some (.type "function"))
    (nCN : PySem.W.findIn K (.ref CN) "number" = some none)
    (gaCN : PySem.W.findIn K (.ref CN) "__getattribute__" = some (some (.builtin "BaseException.__getattribute__")))
    (ggCN : PySem.W.findIn K (.ref CN) "__getattr__" = some none)
    (hdCN : PySem.W.hasDictIn K CN = true)
    (l31 : K.lookup f31 = some ⟨oc31, od31, .func (PySem.W.fnOf "__init__" "BadNumber.__init__" (defArgs sErrN) (defBody sErrN) (defScope sErrN) .none kV31 dc31 pm31 an31 cd31 ct31), sl31⟩)
    (c31 : PySem.W.codeIn K cd31 "BadNumber.__init__" = true)
    (k31 : PySem.W.keepIn K (.ref f31) = true)
    (jN : PySem.W.isClsIn K CN = true)
    (jB : PySem.W.isClsIn K CB = true)
    (jR : PySem.W.isClsIn K CR = true)
    (xNN : PySem.W.subIn K (.ref CN) (.ref CN) = some true)
    (xBN : PySem.W.subIn K (.ref CB) (.ref CN) = some false)
    (xRN : PySem.W.subIn K (.ref CR) (.ref CN) = some false)
    (xBB : PySem.W.subIn K (.ref CB) (.ref CB) = some true)
    (xRB : PySem.W.subIn K (.ref CR) (.ref CB) = some false)
    (xRR : PySem.W.subIn K (.ref CR) (.ref CR) = some true)
    (pg : PySem.W.plainGet K C Str.empty = true)
    (hd : PySem.W.hasDictIn K C = true)
    (po : PySem.W.plainOver K C = true)
    (sa : PySem.W.findIn K (.ref C) "__setattr__" = some (some (.builtin "object.__setattr__")))
    (mk : PySem.W.makesIn K C = true)
    (kc : PySem.W.keepIn K (.ref C) = true)
    (cc : PySem.W.findIn K (.ref C) "__class__" = some (some (.builtin "object.__class__")))
    (cg : PySem.W.specialIn K (.builtin "object.__class__") "__get__" = some (some (.builtin "getset_descriptor.__get__")))
    (ctk : PySem.W.takesIn K (.builtin "object.__class__") = some true)
    (co : PySem.W.mroIn K C (.type "object") = some true)
    (nr : PySem.W.findIn K (.ref C) "row" = some none)
    (nu : PySem.W.findIn K (.ref C) "under" = some none)
    (zg : PySem.W.nsIn K mainGlobals "gcd" = some (some (.builtin "math.gcd")))
    (z0 : PySem.W.nsIn K mainGlobals "int" = some none)
    (z1 : PySem.W.nsIn K mainGlobals "len" = some none)
    (z2 : PySem.W.nsIn K mainGlobals "list" = some none)
    (z3 : PySem.W.nsIn K mainGlobals "isinstance" = some none)
    (z4 : PySem.W.nsIn K mainGlobals "bool" = some none)
    (z5 : PySem.W.nsIn K mainGlobals "enumerate" = some none)
    (z6 : PySem.W.nsIn K mainGlobals "reversed" = some none)
    (z7 : PySem.W.nsIn K mainGlobals "range" = some none)
    (z8 : PySem.W.nsIn K mainGlobals "tuple" = some none)
    (z9 : PySem.W.nsIn K mainGlobals "abs" = some none)
    (z10 : PySem.W.nsIn K mainGlobals "max" = some none)
    (z11 : PySem.W.nsIn K mainGlobals "min" = some none)
    (z12 : PySem.W.nsIn K mainGlobals "all" = some none)
    (z13 : PySem.W.nsIn K mainGlobals "zip" = some none)
    (z14 : PySem.W.nsIn K mainGlobals "any" = some none)
    (Y : ∀ p : Addr, p = PT → h.get? p = some (PySem.W.tabObj #[]))
    : LamX.LawAtS l w K CX0 11 63 "script" mg fa h := by
  have e := hfa.symm.trans (PySem.W.mg_of X G a26)
  cases e
  have T : TxtJ mg := { int := PySem.W.mg_none_of X G z0, len := PySem.W.mg_none_of X G z1, list := PySem.W.mg_none_of X G z2, isinstance := PySem.W.mg_none_of X G z3, bool := PySem.W.mg_none_of X G z4, enumerate := PySem.W.mg_none_of X G z5, reversed := PySem.W.mg_none_of X G z6, range := PySem.W.mg_none_of X G z7, tuple := PySem.W.mg_none_of X G z8, abs := PySem.W.mg_none_of X G z9, max := PySem.W.mg_none_of X G z10, all := PySem.W.mg_none_of X G z12, min := PySem.W.mg_none_of X G z11, zip := PySem.W.mg_none_of X G z13, gcd := PySem.W.mg_of X G zg }
  have CP : ClsP K mg C := ⟨⟨pg, hd, po, sa⟩, PySem.W.mg_of X G aC, nr, nu⟩
  have CW : ClsQ K mg C := { toClsP := CP, cc := cc, cg := cg, ct := ctk, co := co, sl := sli }
  have FD : FunD K "__init__" "Piece.__init__" (defArgs sInit) (defBody sInit) (defScope sInit) [V.int 1] [] f21 _ := ⟨⟨_, _, _, _, _, _, _, _, _, _, rfl, l21, c21, .inr ⟨fun z => (by cases z), tD, _, _, _, rfl, lD, rfl, .cons ⟨_, rfl⟩ .nil⟩, .inl rfl⟩, k21⟩
  have bI := binds_init FD
  obtain ⟨ds1, hd1, bI1⟩ := binds_init1 FD
  have M : Mk K C f21 := ⟨mk, a21, i21, kc⟩
  have FCR := fun_mk (st := sErrR) l28 c28 k28
  have bCR := FCR.binds (ps := ["self", "index"]) fun _ _ _ _ _ _ us hl => match us, hl with | [_, _], _ => rfl
  have ECR : ErrF K mg "BadRow" "index" CR f28 := ⟨⟨⟨_, _, _, _, _, _, _, _, _, _, _, _, _, _, _, oCR, vCR⟩, sCR, xCR, tCR, kCR⟩, PySem.W.mg_of X G mCR, iCR, uCR, nCR, ⟨gaCR, ggCR, xCR, hdCR⟩⟩
  have FCU := fun_mk (st := sErrU) l29 c29 k29
  have bCU := FCU.binds (ps := ["self", "under"]) fun _ _ _ _ _ _ us hl => match us, hl with | [_, _], _ => rfl
  have ECU : ErrF K mg "BadUnder" "under" CU f29 := ⟨⟨⟨_, _, _, _, _, _, _, _, _, _, _, _, _, _, _, oCU, vCU⟩, sCU, xCU, tCU, kCU⟩, PySem.W.mg_of X G mCU, iCU, uCU, nCU, ⟨gaCU, ggCU, xCU, hdCU⟩⟩
  have FCB := fun_mk (st := sErrB) l30 c30 k30
  have bCB := FCB.binds (ps := ["self", "n"]) fun _ _ _ _ _ _ us hl => match us, hl with | [_, _], _ => rfl
  have ECB : ErrF K mg "BadPlace" "n" CB f30 := ⟨⟨⟨_, _, _, _, _, _, _, _, _, _, _, _, _, _, _, oCB, vCB⟩, sCB, xCB, tCB, kCB⟩, PySem.W.mg_of X G mCB, iCB, uCB, nCB, ⟨gaCB, ggCB, xCB, hdCB⟩⟩
  have FCN := fun_mk (st := sErrN) l31 c31 k31
  have bCN := FCN.binds (ps := ["self", "number"]) fun _ _ _ _ _ _ us hl => match us, hl with | [_, _], _ => rfl
  have ECN : ErrF K mg "BadNumber" "number" CN f31 := ⟨⟨⟨_, _, _, _, _, _, _, _, _, _, _, _, _, _, _, oCN, vCN⟩, sCN, xCN, tCN, kCN⟩, PySem.W.mg_of X G mCN, iCN, uCN, nCN, ⟨gaCN, ggCN, xCN, hdCN⟩⟩
  have FEq := fun_mk (st := sEq) l27 c27 k27
  have bE := FEq.binds (ps := ["self", "other"]) fun _ _ _ _ _ _ us hl => match us, hl with | [_, _], _ => rfl
  have FFa := fun_mk (st := sFault) l19 c19 k19
  have bFa := FFa.binds (ps := ["ask"]) fun _ _ _ _ _ _ us hl => match us, hl with | [_], _ => rfl
  have hli : PySem.W.kitOne K (.type "list") (.ref C) = some false := kit_by jC tC sli
  have FTh : FunD K "row_through" "row_through" (defArgs sThr) (defBody sThr) (defScope sThr) [V.int 1] [] f22 _ := ⟨⟨_, _, _, _, _, _, _, _, _, _, rfl, l22, c22, .inr ⟨fun z => (by cases z), tE, _, _, _, rfl, lE, rfl, .cons ⟨_, rfl⟩ .nil⟩, .inl rfl⟩, k22⟩
  obtain ⟨ds2, hd2, bTh⟩ := binds_thr FTh
  have FmG := fun_mk (st := sThrough) l23 c23 k23
  have bmG := FmG.binds (ps := ["cls", "place", "values"]) fun _ _ _ _ _ _ us hl => match us, hl with | [_, _, _], _ => rfl
  have FmS := fun_mk (st := sStretched) l24 c24 k24
  have bmS := FmS.binds (ps := ["self", "m", "r"]) fun _ _ _ _ _ _ us hl => match us, hl with | [_, _, _], _ => rfl
  have FmA := fun_mk (st := sCall) l25 c25 k25
  have bmA := FmA.binds (ps := ["self", "n"]) fun _ _ _ _ _ _ us hl => match us, hl with | [_, _], _ => rfl
  refine ⟨PySem.W.fnOf "law" "law" (defArgs sLaw) (defBody sLaw) (defScope sLaw) .none kV26 dc26 pm26 an26 (.ref cL) ct26, [(cL, PT)], spLaw K PT, fun p hp => ?_, fun p hp => ?_, fun p hp => ?_, fun s u => .of_eq rfl, fun H a ns hl _ ht hS => ⟨a, ns, rfl, hS, hl, fun p hp => ?_, fun _ => rfl⟩, fun base hKb _ hTB => ?_⟩
  · rw [List.mem_singleton.mp hp]; exact Y _ rfl
  · rw [List.mem_singleton.mp hp]; exact nP
  · rw [List.mem_singleton.mp hp]; exact PySem.W.codeHd_of_K X hP
  · rw [List.mem_singleton.mp hp]; exact LamX.TabS.nil (ht (cL, PT) (List.mem_singleton.mpr rfl))
  have dIsInt := df_isint (P := l.prog) (w := w) (base := base) (at_mk X G a0 l0 c0 k0) T.toTxtW
  have dFrom := df_from (P := l.prog) (w := w) (base := base) (at_mk X G a1 l1 c1 k1) dIsInt
  have dTrim := df_trim (P := l.prog) (w := w) (base := base) (at_mk X G a2 l2 c2 k2) T.toTxtW
  have dCom := df_com (P := l.prog) (w := w) (base := base) (at_mk X G a3 l3 c3 k3) T.toTxtQ
  have dVal := df_val (P := l.prog) (w := w) (base := base) (at_mk X G a4 l4 c4 k4) 
  have dTm := df_tm (P := l.prog) (w := w) (base := base) (at_mk X G a5 l5 c5 k5) 
  have dSum1 := df_sum1 (P := l.prog) (w := w) (base := base) (at_mk X G a6 l6 c6 k6) T
  have dSum := df_sum (P := l.prog) (w := w) (base := base) (at_mk X G a6 l6 c6 k6) T dSum1
  have dProd := df_prod (P := l.prog) (w := w) (base := base) (at_mk X G a7 l7 c7 k7) T dSum dTm
  have dStr := df_str (P := l.prog) (w := w) (base := base) (at_mk X G a8 l8 c8 k8) T dSum dProd
  have dPen := df_pen (P := l.prog) (w := w) (base := base) (at_mk X G a10 l10 c10 k10) T.toTxtP
  have dDraw := df_draw (P := l.prog) (w := w) (base := base) (at_mk X G a11 l11 c11 k11) T.toTxtP
  have dPick := df_pick (P := l.prog) (w := w) (base := base) (at_mk X G a12 l12 c12 k12) T.toTxtP dDraw
  have dGcd := df_gcd (P := l.prog) (w := w) (base := base) (at_mk X G a13 l13 c13 k13) T
  have dEntry := df_entry (P := l.prog) (w := w) (base := base) (at_mk X G a14 l14 c14 k14) dDraw dPick
  have dFar := df_far (P := l.prog) (w := w) (base := base) (at_mk X G a18 l18 c18 k18) dDraw dPick
  have dFrac := df_frac (P := l.prog) (w := w) (base := base) (at_mk X G a15 l15 c15 k15) T dDraw dPick dEntry
  have dUp := df_up (P := l.prog) (w := w) (base := base) (at_mk X G a16 l16 c16 k16) T
  have dIsp := df_isp (P := l.prog) (w := w) (base := base) (at_mk X G a17 l17 c17 k17) T CW dGcd
  have dIss := df_iss (P := l.prog) (w := w) (base := base) (at_mk X G a20 l20 c20 k20) T CP dUp
  have gR := ok_errR (P := l.prog) (w := w) (base := base) FCR ECR
  have gU := ok_errU (P := l.prog) (w := w) (base := base) FCU ECU
  have dCk := dx_check (P := l.prog) (w := w) (base := base) (PySem.W.mg_of X G a9) (fun_mk (st := sCheck) l9 c9 k9) T.toTxtW ECR gR bCR dIsInt
  have FI := ok_init (P := l.prog) (w := w) (base := base) FD T.toTxtQ CP ECU gU bCU dCk dFrom dTrim dCom
  have gE := ok_eq (P := l.prog) (w := w) (base := base) FEq T.toTxtQ CW hli
  have gB := ok_errB (P := l.prog) (w := w) (base := base) FCB ECB
  have gN := ok_errN (P := l.prog) (w := w) (base := base) FCN ECN
  have gTh := ok_thr (P := l.prog) (w := w) (base := base) FTh T (PySem.W.mg_none_of X G z14) dSum dProd
  have dThr : DfD l.prog w K mg base 4 "row_through" ["place", "values", "step"] [V.int 1] (spThr K) := ⟨f22, _, ds2, PySem.W.mg_of X G a22, k22, hd2, bTh, gTh⟩
  have GG : FnR l.prog w K mg base (CX l.prog w) 6 f23 (spThrough K C CB CR) := (FnOk.raw (ok_through (P := l.prog) (w := w) (base := base) FmG T M FI bI ECB gB bCB dCk dIsInt dThr) bmG .nil).imp fun vs H Q E h => by rw [List.append_nil]; exact h
  have GS := ok_stretched (P := l.prog) (w := w) (base := base) FmS T CP M FI bI ECN gN bCN dIsInt dFrom dStr
  have GA := ok_call (P := l.prog) (w := w) (base := base) FmA CP dIsInt dVal
  exact ok_law l26 c26 T CW M FI bI bI1 hd1 ⟨f27, _, a27, i27, t27, k27, bE, gE⟩ ne ⟨rd, gaC⟩ ⟨a23, ⟨rest23, r23⟩, i23⟩ GG ⟨a24, fnS, k24⟩ GS bmS ⟨a25, i25, n25, GA, bmA⟩ ⟨PySem.W.mg_of X G a19, k19, l19, c19, bFa⟩ ECN ECB ECR ⟨exm_by xCN jN tCN xNN, exm_by xCN jN tCN xBN, exm_by xCN jN tCN xRN, exm_by xCB jB tCB xBB, exm_by xCB jB tCB xRB, exm_by xCR jR tCR xRR⟩ (hTB (cL, PT) (List.mem_singleton.mpr rfl)) dPen dDraw dPick dEntry dFar dFrac dIsp dIss
end Ef
set_option Elab.async false
set_option linter.all false
open PySem PySem.W PyProof.Rows in
set_option maxRecDepth 100000 in
set_option maxHeartbeats 0 in
theorem PySem.Challenge.cw_everyfloor_k05_whole_pieces_stretched_an_holds : PySem.Challenge.rw_everyfloor_k05_whole_pieces_stretched_an.Holds := by
  w_on; o_law; k_head; (case hw => w_witness2)
  k_fill
  refine LamX.walk_ofTs (l := PySem.Challenge.rw_everyfloor_k05_whole_pieces_stretched_an) (n := 63) (k := 11) (x := "script") (CX := fun _ => L2.CX0) rfl (by decide) rfl ⟨rfl, by decide, by decide⟩ (fun w h Y => Y.1) ?F (fun _ _ _ _ _ z => z)
  case F =>
    intro w mg fa h Y KX G hmg
    refine' Ef.all_mk (l := PySem.Challenge.rw_everyfloor_k05_whole_pieces_stretched_an) KX G hmg ?aC ?a0 ?l0 ?c0 ?k0 ?a1 ?l1 ?c1 ?k1 ?a2 ?l2 ?c2 ?k2 ?a3 ?l3 ?c3 ?k3 ?a4 ?l4 ?c4 ?k4 ?a5 ?l5 ?c5 ?k5 ?a6 ?l6 ?c6 ?k6 ?a7 ?l7 ?c7 ?k7 ?a8 ?l8 ?c8 ?k8 ?a9 ?l9 ?c9 ?k9 ?a10 ?l10 ?c10 ?k10 ?a11 ?l11 ?c11 ?k11 ?a12 ?l12 ?c12 ?k12 ?a13 ?l13 ?c13 ?k13 ?a14 ?l14 ?c14 ?k14 ?a15 ?l15 ?c15 ?k15 ?a16 ?l16 ?c16 ?k16 ?a17 ?l17 ?c17 ?k17 ?a18 ?l18 ?c18 ?k18 ?a19 ?l19 ?c19 ?k19 ?a20 ?l20 ?c20 ?k20 ?a21 ?i21 ?l21 ?c21 ?k21 ?lD ?a22 ?l22 ?c22 ?k22 ?lE ?a23 ?r23 ?i23 ?l23 ?c23 ?k23 ?a24 ?fnS ?l24 ?c24 ?k24 ?a25 ?i25 ?n25 ?l25 ?c25 ?k25 ?rd ?gaC ?a26 ?l26 ?c26 ?tP ?hP ?nP ?a27 ?i27 ?t27 ?l27 ?c27 ?k27 ?ne ?sli ?jC ?tC ?mCR ?oCR ?vCR ?sCR ?xCR ?tCR ?kCR ?iCR ?uCR ?nCR ?gaCR ?ggCR ?hdCR ?l28 ?c28 ?k28 ?mCU ?oCU ?vCU ?sCU ?xCU ?tCU ?kCU ?iCU ?uCU ?nCU ?gaCU ?ggCU ?hdCU ?l29 ?c29 ?k29 ?mCB ?oCB ?vCB ?sCB ?xCB ?tCB ?kCB ?iCB ?uCB ?nCB ?gaCB ?ggCB ?hdCB ?l30 ?c30 ?k30 ?mCN ?oCN ?vCN ?sCN ?xCN ?tCN ?kCN ?iCN ?uCN ?nCN ?gaCN ?ggCN ?hdCN ?l31 ?c31 ?k31 ?jN ?jB ?jR ?xNN ?xBN ?xRN ?xBB ?xRB ?xRR ?pg ?hd ?po ?sa ?mk ?kc ?cc ?cg ?ctk ?co ?nr ?nu ?zg ?z0 ?z1 ?z2 ?z3 ?z4 ?z5 ?z6 ?z7 ?z8 ?z9 ?z10 ?z11 ?z12 ?z13 ?z14 ?hYY
    (case aC => k_is)
    (case a0 => k_is)
    (case l0 => k_is)
    (case c0 => k_is)
    (case k0 => k_is)
    (case a1 => k_is)
    (case l1 => k_is)
    (case c1 => k_is)
    (case k1 => k_is)
    (case a2 => k_is)
    (case l2 => k_is)
    (case c2 => k_is)
    (case k2 => k_is)
    (case a3 => k_is)
    (case l3 => k_is)
    (case c3 => k_is)
    (case k3 => k_is)
    (case a4 => k_is)
    (case l4 => k_is)
    (case c4 => k_is)
    (case k4 => k_is)
    (case a5 => k_is)
    (case l5 => k_is)
    (case c5 => k_is)
    (case k5 => k_is)
    (case a6 => k_is)
    (case l6 => k_is)
    (case c6 => k_is)
    (case k6 => k_is)
    (case a7 => k_is)
    (case l7 => k_is)
    (case c7 => k_is)
    (case k7 => k_is)
    (case a8 => k_is)
    (case l8 => k_is)
    (case c8 => k_is)
    (case k8 => k_is)
    (case a9 => k_is)
    (case l9 => k_is)
    (case c9 => k_is)
    (case k9 => k_is)
    (case a10 => k_is)
    (case l10 => k_is)
    (case c10 => k_is)
    (case k10 => k_is)
    (case a11 => k_is)
    (case l11 => k_is)
    (case c11 => k_is)
    (case k11 => k_is)
    (case a12 => k_is)
    (case l12 => k_is)
    (case c12 => k_is)
    (case k12 => k_is)
    (case a13 => k_is)
    (case l13 => k_is)
    (case c13 => k_is)
    (case k13 => k_is)
    (case a14 => k_is)
    (case l14 => k_is)
    (case c14 => k_is)
    (case k14 => k_is)
    (case a15 => k_is)
    (case l15 => k_is)
    (case c15 => k_is)
    (case k15 => k_is)
    (case a16 => k_is)
    (case l16 => k_is)
    (case c16 => k_is)
    (case k16 => k_is)
    (case a17 => k_is)
    (case l17 => k_is)
    (case c17 => k_is)
    (case k17 => k_is)
    (case a18 => k_is)
    (case l18 => k_is)
    (case c18 => k_is)
    (case k18 => k_is)
    (case a19 => k_is)
    (case l19 => k_is)
    (case c19 => k_is)
    (case k19 => k_is)
    (case a20 => k_is)
    (case l20 => k_is)
    (case c20 => k_is)
    (case k20 => k_is)
    (case a21 => k_is)
    (case i21 => k_is)
    (case l21 => k_is)
    (case c21 => k_is)
    (case k21 => k_is)
    (case lD => k_is)
    (case a22 => k_is)
    (case l22 => k_is)
    (case c22 => k_is)
    (case k22 => k_is)
    (case lE => k_is)
    (case a23 => k_is)
    (case r23 => k_is)
    (case i23 => k_is)
    (case l23 => k_is)
    (case c23 => k_is)
    (case k23 => k_is)
    (case a24 => k_is)
    (case fnS => k_is)
    (case l24 => k_is)
    (case c24 => k_is)
    (case k24 => k_is)
    (case a25 => k_is)
    (case i25 => k_is)
    (case n25 => k_is)
    (case l25 => k_is)
    (case c25 => k_is)
    (case k25 => k_is)
    (case rd => k_is)
    (case gaC => k_is)
    (case a26 => k_is)
    (case l26 => k_is)
    (case c26 => k_is)
    (case tP => first | k_is | rfl | decide +kernel)
    (case hP => first | k_is | rfl | decide +kernel)
    (case nP => first | k_is | decide +kernel | rfl)
    (case a27 => k_is)
    (case i27 => k_is)
    (case t27 => k_is)
    (case l27 => k_is)
    (case c27 => k_is)
    (case k27 => k_is)
    (case ne => k_is)
    (case sli => k_is)
    (case jC => k_is)
    (case tC => k_is)
    (case mCR => k_is)
    (case oCR => k_is)
    (case vCR => decide +kernel)
    (case sCR => k_is)
    (case xCR => k_is)
    (case tCR => k_is)
    (case kCR => k_is)
    (case iCR => k_is)
    (case uCR => k_is)
    (case nCR => k_is)
    (case gaCR => k_is)
    (case ggCR => k_is)
    (case hdCR => k_is)
    (case l28 => k_is)
    (case c28 => k_is)
    (case k28 => k_is)
    (case mCU => k_is)
    (case oCU => k_is)
    (case vCU => decide +kernel)
    (case sCU => k_is)
    (case xCU => k_is)
    (case tCU => k_is)
    (case kCU => k_is)
    (case iCU => k_is)
    (case uCU => k_is)
    (case nCU => k_is)
    (case gaCU => k_is)
    (case ggCU => k_is)
    (case hdCU => k_is)
    (case l29 => k_is)
    (case c29 => k_is)
    (case k29 => k_is)
    (case mCB => k_is)
    (case oCB => k_is)
    (case vCB => decide +kernel)
    (case sCB => k_is)
    (case xCB => k_is)
    (case tCB => k_is)
    (case kCB => k_is)
    (case iCB => k_is)
    (case uCB => k_is)
    (case nCB => k_is)
    (case gaCB => k_is)
    (case ggCB => k_is)
    (case hdCB => k_is)
    (case l30 => k_is)
    (case c30 => k_is)
    (case k30 => k_is)
    (case mCN => k_is)
    (case oCN => k_is)
    (case vCN => decide +kernel)
    (case sCN => k_is)
    (case xCN => k_is)
    (case tCN => k_is)
    (case kCN => k_is)
    (case iCN => k_is)
    (case uCN => k_is)
    (case nCN => k_is)
    (case gaCN => k_is)
    (case ggCN => k_is)
    (case hdCN => k_is)
    (case l31 => k_is)
    (case c31 => k_is)
    (case k31 => k_is)
    (case jN => k_is)
    (case jB => k_is)
    (case jR => k_is)
    (case xNN => k_is)
    (case xBN => k_is)
    (case xRN => k_is)
    (case xBB => k_is)
    (case xRB => k_is)
    (case xRR => k_is)
    (case pg => k_is)
    (case hd => k_is)
    (case po => k_is)
    (case sa => k_is)
    (case mk => k_is)
    (case kc => k_is)
    (case cc => k_is)
    (case cg => k_is)
    (case ctk => k_is)
    (case co => k_is)
    (case nr => k_is)
    (case nu => k_is)
    (case zg => k_is)
    (case z0 => k_is)
    (case z1 => k_is)
    (case z2 => k_is)
    (case z3 => k_is)
    (case z4 => k_is)
    (case z5 => k_is)
    (case z6 => k_is)
    (case z7 => k_is)
    (case z8 => k_is)
    (case z9 => k_is)
    (case z10 => k_is)
    (case z11 => k_is)
    (case z12 => k_is)
    (case z13 => k_is)
    (case z14 => k_is)
    (case hYY => intro p hp; subst hp; exact Y.2 _ (by decide))
#print axioms PySem.Challenge.cw_everyfloor_k05_whole_pieces_stretched_an_holds
