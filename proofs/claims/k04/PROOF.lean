import PyProof.Rows.All
import Wide.All
import OpenK.AllK
import Wide.FinOn
import HandS.ForMost
import PySem.Challenge.RW_everyfloor_k04_whole_quotients_of_pieces
import KE.GoesEnum
import HandS.Style
import HandS.TupAny
import KE.KCallOwn
import HandS.ExcOwn
import HandS.ForExc
import HandS.TryMany
import HandS.IsInst
import HandS.Gcd
import HandS.ExcInit
import HandS.ExcField
import HandS.Property
import HandS.Conv
import HandS.Wide
import HandS.Rev
import HandS.More
import HandS.ClsMeth
import HandS.OwnEq
import HandS.Defaults
import KE.KOpsOwn
import PyProof.FactsAll.int_1
import PyProof.TwoTypes
import HandS.Zip
import HandS.Walk
import HandS.Star
import HandS.Small
import HandS.TryOnly
set_option Elab.async false
set_option linter.all false
set_option maxRecDepth 100000
set_option maxHeartbeats 4000000
namespace Ef
open PySem PySem.Spec PyProof.Rows L2
def top (i : Nat) : Stmt := PySem.Challenge.pw_everyfloor_k04_whole_quotients_of_pieces.main.body.getD i (.Pass ⟨0, 0, 0, 0⟩)
abbrev sPen : Stmt := top 30
abbrev sDraw : Stmt := top 31
abbrev sPick : Stmt := top 32
/-! ### the pen -/
def penD (l : Addr) (a b : Int) : List (Key × V) := [(.inr "cells", .ref l), (.inr "at", .int a), (.inr "left", .int b)]
theorem pen_cells (l : Addr) (a b : Int) : valV (penD l a b) (Sum.inr "cells") = some (.ref l) := by with_unfolding_all rfl
theorem pen_at (l : Addr) (a b : Int) : valV (penD l a b) (Sum.inr "at") = some (.int a) := by with_unfolding_all rfl
theorem pen_left (l : Addr) (a b : Int) : valV (penD l a b) (Sum.inr "left") = some (.int b) := by with_unfolding_all rfl
theorem put_at (l : Addr) (a b c : Int) : putK (penD l a b) (Sum.inr "at") (.int c) = penD l c b := by with_unfolding_all rfl
theorem put_left (l : Addr) (a b c : Int) : putK (penD l a b) (Sum.inr "left") (.int c) = penD l a c := by with_unfolding_all rfl
/-- at p stands the pen: its list of ints at l, its place a, what is left b -/
structure Pen (H : Hp) (p l : Addr) (ns : List Int) (a b : Int) : Prop where
  hd : H p = some (.dK (penD l a b))
  hl : H l = some (.lst (ns.map V.int))
  len : ns.length ≤ 63
  a0 : 0 ≤ a
  b0 : 0 ≤ b
/-- all that is tracked but p is as it was -/
def Kp (p : Addr) (H H' : Hp) : Prop := ∀ x o, x ≠ p → H x = some o → H' x = some o
theorem Kp.refl (p : Addr) (H : Hp) : Kp p H H := fun _ _ _ h => h
theorem Kp.trans {p : Addr} {H H1 H2 : Hp} (a : Kp p H H1) (b : Kp p H1 H2) : Kp p H H2 := fun x o n h => b x o n (a x o n h)
theorem Kp.put {p : Addr} {H : Hp} (o : HO) : Kp p H (upd H p o) := fun x u n h => by rw [upd_ne n]; exact h
theorem Kp.new {p q : Addr} {H : Hp} (o : HO) (hq : H q = none) : Kp p H (upd H q o) := fun x u n h => by rw [upd_ne (ne_of_none h hq)]; exact h
/-! ### data -/
theorem dp_ints {K : PySem.W.Frag} {H : Hp} : ∀ ns : List Int, DpAll K H (ns.map V.int) (ns.map PyData.int)
  | [] => .nil
  | n :: ns => .cons (.int n) (dp_ints ns)
theorem dp_bls {K : PySem.W.Frag} {H : Hp} : ∀ bs : List Bool, DpAll K H (bs.map V.bl) (bs.map PyData.bool)
  | [] => .nil
  | n :: ns => .cons (.bl n) (dp_bls ns)
theorem can_ints : ∀ ns : List Int, PyData.canLayAll0 (ns.map PyData.int) = true ∧ PyData.depthAll (ns.map PyData.int) = 0
  | [] => ⟨rfl, rfl⟩
  | n :: ns => by
    obtain ⟨h1, h2⟩ := can_ints ns
    constructor
    · show (PyData.canLay0 (.int n) && PyData.canLayAll0 (ns.map PyData.int)) = true
      rw [h1]; rfl
    · show max (PyData.depth (.int n)) (PyData.depthAll (ns.map PyData.int)) = 0
      rw [h2]; rfl
theorem can_bls : ∀ ns : List Bool, PyData.canLayAll0 (ns.map PyData.bool) = true ∧ PyData.depthAll (ns.map PyData.bool) = 0
  | [] => ⟨rfl, rfl⟩
  | n :: ns => by
    obtain ⟨h1, h2⟩ := can_bls ns
    constructor
    · show (PyData.canLay0 (.bool n) && PyData.canLayAll0 (ns.map PyData.bool)) = true
      rw [h1]; rfl
    · show max (PyData.depth (.bool n)) (PyData.depthAll (ns.map PyData.bool)) = 0
      rw [h2]; rfl
theorem sh_list {ds : List PyData} (h1 : PyData.canLayAll0 ds = true) (h2 : PyData.depthAll ds = 0) : SeqAt.shaped (.list ds) = true ∧ SeqAt.shaped (.tuple ds) = true := by
  constructor
  · show (PyData.canLayAll0 ds && decide (PyData.depthAll ds + 1 ≤ 64)) = true
    rw [h1, h2]; rfl
  · show (PyData.canLayAll0 ds && decide (PyData.depthAll ds + 1 ≤ 64)) = true
    rw [h1, h2]; rfl
theorem eqv_nil (ns : List Int) : PyData.eqv (.list (ns.map PyData.int)) (.list []) = ns.isEmpty := by
  cases ns with
  | nil => rfl
  | cons n ns => rfl
theorem eqv_bls : ∀ as bs : List Bool, PyData.eqvAll (as.map PyData.bool) (bs.map PyData.bool) = decide (as = bs)
  | [], [] => rfl
  | [], _ :: _ => rfl
  | _ :: _, [] => rfl
  | a :: as, b :: bs => by
    show (PyData.eqv (.bool a) (.bool b) && PyData.eqvAll (as.map PyData.bool) (bs.map PyData.bool)) = _
    rw [eqv_bls as bs]
    show ((a == b) && decide (as = bs)) = decide (a :: as = b :: bs)
    by_cases h1 : a = b <;> by_cases h2 : as = bs <;> simp [h1, h2]
end Ef
set_option Elab.async false
set_option linter.all false
set_option maxRecDepth 100000
set_option maxHeartbeats 4000000
namespace Ef
open PySem PySem.Spec PyProof.Rows L2
structure TxtP (mg : Str → Option Value) : Prop where
  int : mg "int" = none
  len : mg "len" = none
  list : mg "list" = none
/-- what a draw promises -/
def spDraw : Sp := fun vs H Q _ => ∃ (p l : Addr) (ns : List Int) (a b m : Int), vs = [.ref p, .int m] ∧ Pen H p l ns a b ∧ a ≤ 1073741824 ∧ 1 ≤ m ∧ m < 1073741824 ∧
  ∀ (d a' b' : Int) (H' : Hp), 0 ≤ d → d < m → a' ≤ a + 1 → Pen H' p l ns a' b' → Kp p H H' → Q (.int d) H'
theorem scDraw : FnScope ["pen", "many", "digit", "at", "cell", "mixed"] ["pen", "many"] (defScope sDraw) := ⟨rfl, rfl, rfl, by decide +kernel, rfl, by decide +kernel, by decide +kernel⟩
section
variable {P : Program} {w : World} {K : PySem.W.Frag} {mg : Str → Option Value} {base : Heap}
theorem Pen.ne {H : Hp} {p l : Addr} {ns : List Int} {a b : Int} (h : Pen H p l ns a b) : l ≠ p := ne_of h.hl h.hd (by intro q; cases q)
theorem Pen.put {H : Hp} {p l : Addr} {ns : List Int} {a b : Int} (h : Pen H p l ns a b) {a' b' : Int} (ha : 0 ≤ a') (hb : 0 ≤ b') : Pen (upd H p (.dK (penD l a' b'))) p l ns a' b' :=
  ⟨upd_same, by rw [upd_ne h.ne]; exact h.hl, h.len, ha, hb⟩
theorem Pen.kp {H H' : Hp} {p l : Addr} {ns : List Int} {a b : Int} (h : Pen H p l ns a b) (k : Kp p H H') (hp : H' p = H p) : Pen H' p l ns a b := ⟨hp.trans h.hd, k _ _ h.ne h.hl, h.len, h.a0, h.b0⟩
theorem emB (x k : Int) (h : 0 < k) (h2 : k < 2 ^ 64) : -(2 ^ 64) < x % k ∧ x % k < 2 ^ 64 := by
  have h1 := Int.emod_nonneg x (show k ≠ 0 by omega)
  have h3 := Int.emod_lt_of_pos x h
  omega
theorem Pen.gl {H : Hp} {p l : Addr} {ns : List Int} {a b : Int} (h : Pen H p l ns a b) : DGet H p (.str "left") (some (.int b)) := by
  have z := DGet.k (k := Sum.inr "left") h.hd
  rw [pen_left] at z
  exact z
theorem Pen.ga {H : Hp} {p l : Addr} {ns : List Int} {a b : Int} (h : Pen H p l ns a b) : DGet H p (.str "at") (some (.int a)) := by
  have z := DGet.k (k := Sum.inr "at") h.hd
  rw [pen_at] at z
  exact z
theorem Pen.gc {H : Hp} {p l : Addr} {ns : List Int} {a b : Int} (h : Pen H p l ns a b) : DGet H p (.str "cells") (some (.ref l)) := by
  have z := DGet.k (k := Sum.inr "cells") h.hd
  rw [pen_cells] at z
  exact z
theorem Pen.pl {H : Hp} {p l : Addr} {ns : List Int} {a b c : Int} (h : Pen H p l ns a b) : DPut H p (.str "left") (.int c) (upd H p (.dK (penD l a c))) := by
  have z := DPut.k (k := Sum.inr "left") (v := .int c) h.hd (by show 3 < sizeLine; decide)
  rw [put_left] at z
  exact z
theorem Pen.pa {H : Hp} {p l : Addr} {ns : List Int} {a b c : Int} (h : Pen H p l ns a b) : DPut H p (.str "at") (.int c) (upd H p (.dK (penD l c b))) := by
  have z := DPut.k (k := Sum.inr "at") (v := .int c) h.hd (by show 3 < sizeLine; decide)
  rw [put_at] at z
  exact z
theorem ok_draw {f : Addr} {fd : FuncData} (F : Fun K "_law_draw" "_law_draw" sDraw f fd) (T : TxtP mg) : FnOk P w K mg base CX0 1 f fd ["pen", "many"] spDraw := by
  refine F.ok scDraw (fun vs H Q E h => ?_) (fun cdv A outer s H vs Q E hr h => ?_)
  · obtain ⟨p, l, ns, a, b, m, rfl, _⟩ := h
    rfl
  · obtain ⟨p, l, ns, a, b, m, rfl, hP, ha, hm1, hm2, q⟩ := h
    have hu := hu_of hr
    refine ⟨_, (pss_cons (ps_if (pt_cmpR op_ge (pe_dget hu (pv 0) pe_str (fun _ _ => rfl)) (pv 1) (nomark _)) (pss_cons (ps_set (i := 2) scDraw.nd rfl (.inl rfl) (pe_op op_mod (pe_callTy call_int1 (by rfl) T.int (by decide +kernel) (pa_cons (pe_dget hu (pv 0) pe_str (fun _ _ => rfl)) pa_nil)) (pv 1)))
      (pss_cons (ps_dput hu (pv 0) pe_str (pe_op op_fdiv (pe_dget hu (pv 0) pe_str (fun _ _ => rfl)) (pv 1)) rfl)
      (pss_one (ps_ret (pv 2))))) pss_nil)
      (pss_cons (ps_set (i := 3) scDraw.nd rfl (.inl rfl) (pe_dget hu (pv 0) pe_str (fun _ _ => rfl)))
      (pss_cons (ps_dput hu (pv 0) pe_str (pe_op op_add (pv 3) pe_int) rfl)
      (pss_cons (ps_set (i := 4) scDraw.nd rfl (.inl rfl) (pe_op op_add (pe_op op_mul pe_int (pv 3)) pe_int))
      (pss_cons (ps_if (pt_cmpR (op_neD hr.units) (pe_dget hu (pv 0) pe_str (fun _ _ => rfl)) (pe_lst pa_nil) (nomark _)) (pss_one (ps_set (i := 4) scDraw.nd rfl (.inl rfl) (pe_ix ix_list (pe_dget hu (pv 0) pe_str (fun _ _ => rfl)) (pe_op op_mod (pe_callTy call_int1 (by rfl) T.int (by decide +kernel) (pa_cons (pv 3) pa_nil)) (pe_callB call_len_seq (by rfl) T.len PySem.boot_len (pa_cons (pe_dget hu (pv 0) pe_str (fun _ _ => rfl)) pa_nil))) (fun _ _ => rfl)))) pss_nil)
      (pss_cons (ps_if (pw_and (pt_cmpR op_lt (pv 3) (pe_callB call_len_seq (by rfl) T.len PySem.boot_len (pa_cons (pe_dget hu (pv 0) pe_str (fun _ _ => rfl)) pa_nil)) (nomark _)) (pw_and1 (pt_cmpR op_ge (pv 4) (pe_op op_pow pe_int pe_int) (nomark _)))).pt (pss_cons (ps_dput hu (pv 0) pe_str (pe_op op_fdiv (pe_op op_sub (pv 4) (pe_op op_pow pe_int pe_int)) (pv 1)) rfl)
      (pss_one (ps_ret (pe_op op_mod (pe_callTy call_int1 (by rfl) T.int (by decide +kernel) (pa_cons (pe_op op_sub (pv 4) (pe_op op_pow pe_int pe_int)) pa_nil)) (pv 1))))) pss_nil)
      (pss_cons (ps_set (i := 5) scDraw.nd rfl (.inl rfl) (pe_op op_add (pe_op op_add (pe_op op_add (pe_op op_mul (pe_op op_mod (pe_callTy call_int1 (by rfl) T.int (by decide +kernel) (pa_cons (pv 4) pa_nil)) pe_int) pe_int) (pe_op op_mul (pe_op op_mul pe_int (pv 3)) (pv 3))) (pe_op op_mul pe_int (pv 3))) pe_int))
      (pss_cons (ps_set (i := 5) scDraw.nd rfl (.inl rfl) (pe_op op_mod (pe_callTy call_int1 (by rfl) T.int (by decide +kernel) (pa_cons (pv 5) pa_nil)) pe_int))
      (pss_cons (ps_set (i := 5) scDraw.nd rfl (.inl rfl) (pe_op op_mod (pe_callTy call_int1 (by rfl) T.int (by decide +kernel) (pa_cons (pe_op op_mul (pv 5) (pe_op op_add (pv 5) pe_int)) pa_nil)) pe_int))
      (pss_one (ps_ret (pe_op op_mod (pe_callTy call_int1 (by rfl) T.int (by decide +kernel) (pa_cons (pe_op op_fdiv (pe_op op_mod (pe_callTy call_int1 (by rfl) T.int (by decide +kernel) (pa_cons (pe_op op_mul (pv 5) (pv 5)) pa_nil)) pe_int) pe_int) pa_nil)) (pv 1))))))))))))), ?_⟩
    -- if pen['left'] >= many
    refine ⟨_, rfl, p, _, rfl, hP.gl, _, rfl, _, _, rfl, rfl, _, rfl, ?_⟩
    refine ite2 (fun hb => ?_) (fun hb => ?_)
    · -- digit; pen['left']; return
      refine ⟨_, rfl, p, _, rfl, hP.gl, .inl ⟨_, rfl, ?_⟩⟩
      refine ⟨_, rfl, _, _, rfl, rfl, by omega, ?_⟩
      refine ⟨_, rfl, p, _, rfl, hP.gl, _, rfl, _, _, rfl, rfl, ⟨by omega, hm2⟩, _, rfl, p, _, rfl, hP.pl, ?_⟩
      refine ⟨_, rfl, ?_⟩
      exact q _ _ _ _ (Int.emod_nonneg _ (by omega)) (Int.emod_lt_of_pos _ (by omega)) (by omega) (hP.put hP.a0 (Int.ediv_nonneg hP.b0 (by omega))) (Kp.put _)
    · -- at = pen['at']; pen['at'] = at + 1
      refine ⟨_, rfl, p, _, rfl, hP.ga, ?_⟩
      refine ⟨_, rfl, _, _, rfl, rfl, _, rfl, p, _, rfl, hP.pa, ?_⟩
      have hP4 := hP.put (a' := a + 1) (b' := b) (by have := hP.a0; omega) hP.b0
      have a0 := hP.a0
      have b0 := hP.b0
      have k1 : Kp p H (upd H p (.dK (penD l (a + 1) b))) := Kp.put _
      have aE : ∀ {x : Int}, x = a → -(2 ^ 64) < x ∧ x < 2 ^ 64 := fun e => by subst e; constructor <;> omega
      -- cell = 37 * at + 11
      refine ⟨_, rfl, _, _, rfl, rfl, .inl ⟨by decide, by decide⟩, _, _, rfl, rfl, ?_⟩
      -- if pen['cells'] != []
      refine ⟨_, rfl, p, _, rfl, hP4.gc, Nat.zero_le _, fun t ht => ?_⟩
      have hP2 : Pen (upd (upd H p (.dK (penD l (a + 1) b))) t (.lst [])) p l ns (a + 1) b := hP4.kp (Kp.new _ ht) (upd_ne (ne_of_none hP4.hd ht))
      have k2 := k1.trans (Kp.new (.lst []) ht)
      have hT : SqL K (upd (upd H p (.dK (penD l (a + 1) b))) t (.lst [])) t [] := .inl (.inl upd_same)
      refine ⟨_, _, .lst (.inl (.inl hP2.hl)) (dp_ints ns), .lst hT .nil, (sh_list (can_ints ns).1 (can_ints ns).2).1, (sh_list rfl rfl).1, _, rfl, ?_⟩
      generalize upd (upd H p (.dK (penD l (a + 1) b))) t (.lst []) = H2 at hP2 k2 hT ⊢
      rw [eqv_nil]
      have hm0 : (0 : Int) < m := by omega
      refine ite2 ?g1 ?g2
      case' g1 =>
        intro he
        have hn : 0 < ns.length := by
          cases ns with
          | nil => exact absurd he (by decide)
          | cons n ns => exact Nat.succ_pos _
        have hlt : (a % (ns.length : Int)).toNat < ns.length := by
          have h1 := Int.emod_nonneg a (show (ns.length : Int) ≠ 0 by omega)
          have h2 := Int.emod_lt_of_pos a (show (0 : Int) < (ns.length : Int) by omega)
          omega
        refine ⟨_, rfl, p, _, rfl, hP2.gc, _, rfl, .inl ⟨_, rfl, _, rfl, p, _, rfl, hP2.gc, _, _, rfl, .inl (.inl (.inl hP2.hl)), _, _, rfl, rfl, by rw [List.length_map]; omega, l, _, _, .int ns[(a % (ns.length : Int)).toNat], rfl, rfl, .inl (.inl hP2.hl), ?_, ?_⟩⟩
        · rw [List.length_map]
          exact at_of (Int.toNat_of_nonneg (Int.emod_nonneg a (show (ns.length : Int) ≠ 0 by omega))).symm (by rw [List.getElem?_map, List.getElem?_eq_getElem hlt]; rfl)
        generalize ns[(a % (ns.length : Int)).toNat] = c
      case' g2 =>
        intro he
        generalize 37 * a + 11 = c
      all_goals
        refine ⟨_, rfl, _, rfl, p, _, rfl, hP2.gc, _, _, rfl, .inl (.inl (.inl hP2.hl)), _, _, rfl, rfl, _, rfl, ?_⟩
        refine ite2 ?_ ?_
      all_goals intro h1
      all_goals try
        (refine ⟨_, rfl, _, _, rfl, rfl, ⟨by decide, by decide, by decide⟩, _, _, rfl, rfl, _, rfl, ?_⟩
         refine ite2 ?_ ?_ <;> intro h2)
      all_goals try
        (refine ⟨_, rfl, _, _, rfl, rfl, ⟨by decide, by decide, by decide⟩, _, _, rfl, rfl, _, rfl, _, _, rfl, rfl, ⟨hm0, hm2⟩, _, rfl, p, _, rfl, hP2.pl, ?_⟩
         refine ⟨_, rfl, _, _, rfl, rfl, ⟨by decide, by decide, by decide⟩, _, _, rfl, rfl, .inl ⟨_, rfl, _, rfl, _, _, rfl, rfl, hm0, ?_⟩⟩
         exact q _ _ _ _ (Int.emod_nonneg _ (Int.ne_of_gt hm0)) (Int.emod_lt_of_pos _ hm0) (Int.le_refl _) (hP2.put hP2.a0 (Int.ediv_nonneg (Int.sub_nonneg_of_le (of_decide_eq_true h2)) (Int.le_of_lt hm0))) (k2.trans (Kp.put _)))
      all_goals try refine iteF ?_
      all_goals
        refine ⟨_, rfl, .inl ⟨_, rfl, _, _, rfl, rfl, (by show (0 : Int) < _; decide), _, _, rfl, rfl, .inr ⟨by decide, by decide⟩, _, rfl, _, _, rfl, rfl, .inl ⟨by decide, by decide⟩, _, rfl, _, _, rfl, rfl, .inr (aE rfl), _, _, rfl, rfl, _, rfl, _, _, rfl, rfl, .inl ⟨by decide, by decide⟩, _, _, rfl, rfl, _, _, rfl, rfl, ?_⟩⟩
        refine ⟨_, rfl, .inl ⟨_, rfl, _, _, rfl, rfl, (by show (0 : Int) < _; decide), ?_⟩⟩
        refine ⟨_, rfl, _, rfl, _, _, rfl, rfl, _, _, rfl, rfl, .inl (emB _ _ (by decide) (by decide)), .inl ⟨_, rfl, _, _, rfl, rfl, (by show (0 : Int) < _; decide), ?_⟩⟩
        refine ⟨_, rfl, _, rfl, _, _, rfl, rfl, .inl (emB _ _ (by decide) (by decide)), .inl ⟨_, rfl, _, _, rfl, rfl, (by show (0 : Int) < _; decide), _, _, rfl, rfl, ⟨by decide, by decide⟩, .inl ⟨_, rfl, _, rfl, _, _, rfl, rfl, hm0, ?_⟩⟩⟩
        exact q _ _ _ _ (Int.emod_nonneg _ (Int.ne_of_gt hm0)) (Int.emod_lt_of_pos _ hm0) (Int.le_refl _) hP2 k2
end
end Ef
set_option Elab.async false
set_option linter.all false
set_option maxRecDepth 100000
set_option maxHeartbeats 4000000
namespace Ef
open PySem PySem.Spec PyProof.Rows L2
/-- a def of the text, by its name -/
structure Df (P : Program) (w : World) (K : PySem.W.Frag) (mg : Str → Option Value) (base : Heap) (k : Nat) (x : Str) (ps : List Str) (sp : Sp) : Prop where
  ex : ∃ f fd, mg x = some (.ref f) ∧ PySem.W.keepIn K (.ref f) = true ∧ Binds K fd ps [] ∧ FnOk P w K mg base CX0 k f fd ps sp
theorem Df.call {X : Cx} {k : Nat} {x : Str} {ps : List Str} {sp : Sp} {e : Expr} {es : List Expr} {t : TA} {p pos : Pos} (D : Df X.prog X.w X.K X.mg X.base k x ps sp) (hr : Room k X.A) (ha : PA X (e :: es) t) (hg : Gl X x := by rfl)
    (hdb : (x == ("__debug__" : Str)) = false := by decide) (he : starEach (e :: es) X.env = (false, eval e X.env) :: starEach es X.env := by rfl) (hpl : (backTo pos (starEach es X.env)).any (·.1) = false := by rfl) :
    PE X (.Call (.Name x p) (e :: es) [] pos) (tCall sp [] E0 t) := by
  obtain ⟨f, fd, hm, hk, hb, F⟩ := D.ex
  exact pe_call F hr hg hm hk hb .nil pass0 ha hdb he hpl
/-- where the text's def stands behind the top -/
structure At (K : PySem.W.Frag) (mg : Str → Option Value) (x : Str) (st : Stmt) : Prop where
  ex : ∃ f fd, mg x = some (.ref f) ∧ Fun K x x st f fd
section
variable {P : Program} {w : World} {K : PySem.W.Frag} {mg : Str → Option Value} {base : Heap}
theorem Kp.of_same {p : Addr} {H H' : Hp} (h : Same H H') : Kp p H H' := fun x o _ e => h x o e
theorem Kp.rd {p : Addr} {H H' : Hp} {q : Addr} {u : HO} (k : Kp p H H') (n : q ≠ p) (h : Rd H q u) : Rd H' q u := by
  rcases h with h | ⟨o, h⟩
  · exact .inl (k _ _ n h)
  · exact .inr ⟨o, k _ _ n h⟩
theorem Kp.sql {p : Addr} {H H' : Hp} {q : Addr} {xs : List V} (k : Kp p H H') (n : q ≠ p) (h : SqL K H q xs) : SqL K H' q xs := by
  rcases h with h | h
  · exact .inl (k.rd n h)
  · exact .inr h
theorem Kp.sqt {p : Addr} {H H' : Hp} {q : Addr} {xs : List V} (k : Kp p H H') (n : q ≠ p) (h : SqT K H q xs) : SqT K H' q xs := by
  rcases h with h | h
  · exact .inl (k.rd n h)
  · exact .inr h
theorem Kp.free {p : Addr} {H H' : Hp} (k : Kp p H H') {q : Addr} (n : q ≠ p) (h : H' q = none) : H q = none := by
  cases e : H q with
  | none => rfl
  | some o => rw [k q o n e] at h; cases h
theorem Kp.mut {p q : Addr} {H H' : Hp} {o : HO} (k : Kp p H H') (h : H q = none) : Kp p H (upd H' q o) := fun x u n e => by
  rw [upd_ne (ne_of_none e h)]
  exact k x u n e
theorem small1000' {n : Nat} (h : n ≤ 100000) : n < sizeLine := Nat.lt_of_le_of_lt h (by decide)
theorem df_draw (A : At K mg "_law_draw" sDraw) (T : TxtP mg) : Df P w K mg base 1 "_law_draw" ["pen", "many"] spDraw := by
  obtain ⟨f, fd, hm, F⟩ := A.ex
  exact ⟨f, fd, hm, F.kp, F.binds (fun _ _ _ _ _ _ us hl => match us, hl with | [_, _], _ => rfl), ok_draw F T⟩
/-! ### _law_pen -/
def spPen (K : PySem.W.Frag) : Sp := fun vs H Q _ => ∃ (a : Addr) (ns : List Int), vs = [.ref a] ∧ SqL K H a (ns.map V.int) ∧ ns.length ≤ 63 ∧ ∀ (p l : Addr) (H' : Hp), H p = none → Same H H' → Pen H' p l ns 0 0 → Q (.ref p) H'
theorem scPen : FnScope ["script"] ["script"] (defScope sPen) := ⟨rfl, rfl, rfl, by decide +kernel, rfl, by decide +kernel, by decide +kernel⟩
theorem cut63 (xs : List V) (h : xs.length ≤ 63) : cutV xs none (some 63) = xs := by
  unfold cutV
  rw [HT.sIx_none, show HT.sIx xs.length xs.length (some 63) = min 63 xs.length from HT.sIx_nat xs.length xs.length 63, Nat.min_eq_right h]
  simp
theorem df_pen (A : At K mg "_law_pen" sPen) (T : TxtP mg) : Df P w K mg base 1 "_law_pen" ["script"] (spPen K) := by
  obtain ⟨f, fd, hm, F⟩ := A.ex
  refine ⟨f, fd, hm, F.kp, F.binds (fun _ _ _ _ _ _ us hl => match us, hl with | [_], _ => rfl), F.ok scPen (fun vs H Q E h => ?_) (fun cdv A outer s H vs Q E hr h => ?_)⟩
  · obtain ⟨a, ns, rfl, _⟩ := h
    rfl
  · obtain ⟨a, ns, rfl, hS, hlen, q⟩ := h
    refine ⟨_, (pss_one (ps_ret (pe_disp (pps_cons pe_str (pe_callTy call_list_of (by rfl) T.list (by decide +kernel) (pa_cons (pe_slice sl_list (pv 0) po_none (po_some pe_int)) pa_nil)) (pps_cons pe_str pe_int (pps_cons pe_str pe_int pps_nil))) (by rfl) (by rfl) (fun z => by cases z) (by decide)))), ?_⟩
    intro p hp
    have s1 : Same H (upd H p (.dK [])) := fun b o e => by rw [upd_ne (ne_of_none e hp)]; exact e
    refine ⟨_, rfl, 63, rfl, a, _, rfl, s1.seq hS, fun c hc => ?_⟩
    rw [cut63 _ (by rw [List.length_map]; exact hlen)]
    have s2 : Same H (upd (upd H p (.dK [])) c (.lst (ns.map V.int))) := s1.trans fun b o e => by rw [upd_ne (ne_of_none e hc)]; exact e
    refine ⟨c, _, rfl, .inl (.inl (.inl upd_same)), fun l hl => ?_⟩
    have s3 : Same H (upd (upd (upd H p (.dK [])) c (.lst (ns.map V.int))) l (.lst (ns.map V.int))) := s2.trans fun b o e => by rw [upd_ne (ne_of_none e hl)]; exact e
    have hpc : p ≠ c := fun z => by rw [← z, upd_same] at hc; cases hc
    have hpl : p ≠ l := fun z => by rw [← z, upd_ne hpc, upd_same] at hl; cases hl
    refine ⟨by rw [upd_ne hpl, upd_ne hpc, upd_same], penD l 0 0, rfl, by show 3 ≤ 15; decide, ?_⟩
    refine q p l _ hp (fun b o e => ?_) ⟨upd_same, by rw [upd_ne hpl.symm, upd_same], hlen, Int.le_refl 0, Int.le_refl 0⟩
    rw [upd_ne (ne_of_none e hp)]
    exact s3 _ _ e
/-! ### _law_pick -/
def spPick (K : PySem.W.Frag) : Sp := fun vs H Q _ => ∃ (p l q : Addr) (ns : List Int) (a b : Int) (xs : List V), vs = [.ref p, .ref q] ∧ Pen H p l ns a b ∧ a ≤ 1073741824 ∧ SqL K H q xs ∧ q ≠ p ∧ 1 ≤ xs.length ∧ xs.length ≤ 100000 ∧
  ∀ (j : Nat) (v : V) (a' b' : Int) (H' : Hp), xs[j]? = some v → a' ≤ a + 1 → Pen H' p l ns a' b' → Kp p H H' → Q v H'
theorem scPick : FnScope ["pen", "some"] ["pen", "some"] (defScope sPick) := ⟨rfl, rfl, rfl, by decide +kernel, rfl, by decide +kernel, by decide +kernel⟩
theorem df_pick (A : At K mg "_law_pick" sPick) (T : TxtP mg) (Ddraw : Df P w K mg base 1 "_law_draw" ["pen", "many"] spDraw) : Df P w K mg base 2 "_law_pick" ["pen", "some"] (spPick K) := by
  obtain ⟨f, fd, hm, F⟩ := A.ex
  refine ⟨f, fd, hm, F.kp, F.binds (fun _ _ _ _ _ _ us hl => match us, hl with | [_, _], _ => rfl), F.ok scPick (fun vs H Q E h => ?_) (fun cdv A outer s H vs Q E hr h => ?_)⟩
  · obtain ⟨p, l, q, ns, a, b, xs, rfl, _⟩ := h
    rfl
  · obtain ⟨p, l, q, ns, a, b, xs, rfl, hP, ha, hS, hqp, h1, h2, k⟩ := h
    refine ⟨_, (pss_one (ps_ret (pe_ix ix_list (pv 1) (Ddraw.call (hr.mono (by decide)) (pa_cons (pv 0) (pa_cons (pe_callB call_len_seq (by rfl) T.len PySem.boot_len (pa_cons (pv 1) pa_nil)) pa_nil))) (fun _ _ => rfl)))), ?_⟩
    refine ⟨_, rfl, _, rfl, _, rfl, _, _, rfl, .inl hS, p, l, ns, a, b, _, rfl, hP, ha, by omega, by omega, fun d a' b' H' d0 d1 ha' hP' hK => ?_⟩
    have hd : d.toNat < xs.length := by omega
    exact ⟨q, _, _, _, rfl, rfl, hK.sql hqp hS, at_of (Int.toNat_of_nonneg d0).symm (List.getElem?_eq_getElem hd), k _ _ _ _ _ (List.getElem?_eq_getElem hd) ha' hP' hK⟩
end
end Ef
set_option Elab.async false
set_option linter.all false
set_option maxRecDepth 100000
set_option maxHeartbeats 2000000
/-! for i, x in enumerate(t), t a tuple -/
namespace Ef
open PySem PySem.Spec PyProof.Rows L2
def IteT (K : PySem.W.Frag) (a : Addr) : It :=
  ⟨fun i H => ∃ (xs : List V) (x : V), SqT K H a xs ∧ xs[i]? = some x, fun i H v H' => ∃ T x, v = .ref T ∧ H T = none ∧ H' = upd H T (.tup [.int (i : Nat), x]) ∧ ∀ xs, SqT K H a xs → xs[i]? = some x, fun i H => ∃ xs : List V, SqT K H a xs ∧ xs.length ≤ i⟩
/-- at vals end -/
theorem draws_end {prog : Program} {w : World} {A : Around} (hh : A.handled = none) (it t : Addr) (items : Array Value) (n : Nat) (hn : items.size ≤ n) :
    Draws prog w A it [it, t] n (fun _ _ => True) (fun i h => i = n ∧ h.IsTupleIter it t n ∧ h.IsTuple t items) where
  live := fun _ _ sta => let ⟨o, ho, _⟩ := sta.2.1; ⟨o, ho⟩
  frame := fun _ _ _ sta hk => ⟨sta.1, sta.2.1.at fun o e => hk it (by simp) o e, sta.2.2.at fun o e => hk t (by simp) o e⟩
  item := fun i s Q E hi sta hQ => absurd sta.1 (Nat.ne_of_lt hi)
  done := fun s Q E sta hE => wpAny_nextOf_tuple_end hh sta.2.1 sta.2.2 (by simp; omega) hE
theorem turn_enumT {P : Program} {w : World} {K : PySem.W.Frag} {elts : List Expr} {kk : Nat} {tpos : Pos} (a e it : Addr) :
    Turn P w K (.Tuple elts kk tpos) (IteT K a) [e, it] e (fun i h => (∃ was, IsEnum h e it (0 + ((i : Nat) : Int)) was) ∧ h.IsTupleIter it a i ∧ e ≠ it ∧ a ≠ it ∧ a ≠ e) where
  mem := by simp
  obj := fun i h sta b hb => by
    obtain ⟨⟨was, hEn⟩, ⟨o, ho, hc, hd⟩, _⟩ := sta
    have eOr : b = e ∨ b = it := by simpa using hb
    rcases eOr with z | z
    · rw [z]; exact ⟨_, hEn, fun v q => nomatch q⟩
    · rw [z]; exact ⟨o, ho, fun v q => by rw [hd] at q; cases q⟩
  keep := fun i h h' sta k => let ⟨⟨was, hEn⟩, hi, eNi⟩ := sta; ⟨⟨was, k e (by simp) _ hEn⟩, hi.at fun o q => k it (by simp) o q, eNi⟩
  item := by
    intro X hP hw hK hc i pins s σ H E I hFp sta hGo
    subst hP hw hK
    obtain ⟨⟨was, hEn⟩, hIt, eNi, aNi, aNe⟩ := sta
    obtain ⟨xs, x, hSq, hx⟩ := hGo
    obtain ⟨vals, rVs, p, zLen⟩ := I.tuple hSq
    obtain ⟨u, hu, ru⟩ := rVs.get hx
    have eIn : e < s.heap.objs.size := Heap.lt_size hEn
    have iIn : it < s.heap.objs.size := by obtain ⟨_, q, _⟩ := hIt; exact Heap.lt_size q
    have hlt : i < vals.toArray.size := by
      rcases Nat.lt_or_ge i vals.length with q | q
      · simpa using q
      · rw [List.getElem?_eq_none q] at hu; cases hu
    refine wpAny_pyNext_enum_itemC (Draws.tuple (A := X.A.in1) (I.ok.hd hc) it a aNi vals.toArray) hEn ⟨hIt, p⟩ hlt eNi (by simp [eNi, Ne.symm aNe]) fun y h' tk hy ho hit' hT zNew hk => ?_
    refine ⟨_, rfl, wpAny_letOwnedTupleGo_enum (s := { s with heap := h', toks := tk + 1 }) ho fun h'' he' sBut => ?_⟩
    have hT2 : h''.get? s.heap.objs.size = some { cls := .type "tuple", data := .seq #[.int (0 + ((i : Nat) : Int)) tk, y] } := (sBut.2 _ (Nat.ne_of_gt eIn)).trans hT
    have ey : y = u := by
      have z : vals[i]? = some y := by simpa using hy
      exact Option.some.inj (z.symm.trans hu)
    have e0 : (0 + ((i : Nat) : Int)) = (i : Int) := Int.zero_add _
    rw [e0] at hT2
    have fresh1 : ObjOk X.prog X.w (upd H s.heap.objs.size (.tup [.int (i : Nat), x])) h'' s.heap.objs.size (.tup [.int (i : Nat), x]) :=
      ⟨by show 2 ≤ sizeLine; decide, [.int i tk, y], .cons ⟨_, rfl⟩ (.cons (ey ▸ ru) .nil), ⟨_, hT2, rfl, _, rfl⟩⟩
    have J1 : Inv X pins σ (upd H s.heap.objs.size (.tup [.int (i : Nat), x])) { s with heap := h'', toks := tk + 1 } :=
      I.turnedNew (ch := [e, it]) (fun b ob hb q => (sBut.2 b (fun z => hb (by simp [z]))).trans (hk b ob (fun z => hb (by simp [z])) (fun z => hb (by simp [z])) q)) hFp (Nat.le_refl _) fresh1
    refine ⟨.ref s.heap.objs.size, _, J1, rfl, ⟨_, x, rfl, I.hok.fresh (Nat.le_refl _), rfl, fun ys hy => by rw [I.tuple_inj hy hSq]; exact hx⟩, ⟨⟨y, ?_⟩, hit'.1.at fun o q => (sBut.2 it (Ne.symm eNi)).trans q, eNi, aNi, aNe⟩, fun b hb => ?_⟩
    · have e1 : (0 + ((i + 1 : Nat) : Int)) = 0 + (i : Int) + 1 := by omega
      rw [e1]; exact he'
    · have bIn : b < s.heap.objs.size := by
        have eOr : b = e ∨ b = it := by simpa using hb
        rcases eOr with z | z
        · rw [z]; exact eIn
        · rw [z]; exact iIn
      rw [upd_ne (Nat.ne_of_lt bIn)]
      exact (hFp b hb).1
  done := by
    intro X hP hw hK hc i pins s σ H E I hFp sta hGo
    subst hP hw hK
    obtain ⟨⟨was, hEn⟩, hIt, eNi, aNi, aNe⟩ := sta
    obtain ⟨xs, hSq, hx⟩ := hGo
    obtain ⟨vals, rVs, p, zLen⟩ := I.tuple hSq
    obtain ⟨g0, g1, g2, g3, g4, g5⟩ := hFp it (by simp)
    have hl := rVs.length
    exact wpAny_pyNext_enum_endD (draws_end (A := X.A.in1) (I.ok.hd hc) it a vals.toArray i (by simp; omega)) hEn ⟨rfl, hIt, p⟩ fun h' eb => ⟨rfl, I.turned (t' := s.toks) (fun b o hb q => eb b o hb q) g0 g1 g3 g4 g5⟩
  self := fun A i s Q E sta h => let ⟨⟨_, hEn⟩, _⟩ := sta; wpAny_pyIter_enum hEn h
def iEnumT (K : PySem.W.Frag) (ta : TA) : TI := fun σ H R => ta σ H fun vs H1 => ∃ a xs, vs = [.ref a] ∧ SqT K H1 a xs ∧ R (IteT K a) H1
/-- a list or a tuple -/
def iEnumS (K : PySem.W.Frag) (ta : TA) : TI := fun σ H R => ta σ H fun vs H1 => ∃ a xs, vs = [.ref a] ∧ ((SqL K H1 a xs ∧ R (Ite K a) H1) ∨ (SqT K H1 a xs ∧ R (IteT K a) H1))
/-- enumerate(t): vals two fresh1 cells -/
theorem call_enumerate_tuple {prog : Program} {w : World} {A : Around} {E : Value → Shared → Prop} {s : Shared} {l : Addr} {items : Array Value} {Q : Value → Shared → Prop} (hL : s.heap.IsTuple l items)
    (h : ∀ h', IsEnum h' (s.heap.objs.size + 1) s.heap.objs.size (0 + ((0 : Nat) : Int)) .none → h'.IsTupleIter s.heap.objs.size l 0 → h'.objs.size = s.heap.objs.size + 2 →
      (∀ b o, s.heap.get? b = some o → h'.get? b = some o) → Q (.ref (s.heap.objs.size + 1)) { s with heap := h' }) :
    wpAny (model prog w) A (call (.type "enumerate") [.ref l]) Q E s := by
  have B := begins_tuple l items
  have M : Meets (Builtin.«enumerate.__new__» ⟨[.type "enumerate", .ref l], []⟩) (fun _ R s => s.heap.IsTuple l items ∧
      R (.ok (.ret (.ref (s.heap.push { cls := .type "tuple_iterator", data := .fields #[.ref l, .int 0 0] }).objs.size)))
        { s with heap := (s.heap.push { cls := .type "tuple_iterator", data := .fields #[.ref l, .int 0 0] }).push { cls := .type "enumerate", data := .fields #[.none, .bool false, .ref s.heap.objs.size, rawInt 0, .none, .none] } }) :=
    .of_wp fun prog w A R s h => by
      obtain ⟨heap0, g, d, tk, os⟩ := s
      obtain ⟨h1, h⟩ := h
      have subE := sub_enumerate
      have q1 : ∀ {A' : Around} {E : Value → Shared → Prop} {Q : Value → Shared → Prop}, Q (.ref heap0.objs.size) ⟨heap0.push { cls := .type "tuple_iterator", data := .fields #[.ref l, .int 0 0] }, g, d, tk, os⟩ → wpAny (model prog w) A' (pyIter (.ref l)) Q E ⟨heap0, g, d, tk, os⟩ :=
        fun q => B.iter prog w _ _ ⟨heap0, g, d, tk, os⟩ _ h1 q
      obtain ⟨oT, hoT, hcT, nT, hdT⟩ := id h1
      wp_walk using q1, AutoSeq1.wpAny_loadPart' hoT
      refine wpAny_stack_any fun sta => wpAny_pure ?_
      split
      · rename_i c _ _ _ _ _
        cases (c == Value.type "enumerate")
        · wp_walk using q1, AutoSeq1.wpAny_loadPart' hoT
          exact ⟨_, rfl, h⟩
        · wp_walk using q1, AutoSeq1.wpAny_loadPart' hoT
          exact ⟨_, rfl, h⟩
      · wp_walk using q1, AutoSeq1.wpAny_loadPart' hoT
        exact ⟨_, rfl, h⟩
  refine callType_new F.called_enumerate (by decide) (F.typeCall_enumerate_1 _) (F.newCall_enumerate_1 _) (fun obj => F.args_object_init_2 obj _) F.entry_enumerate_new M ⟨hL, ?_⟩
  have zLen : (s.heap.push { cls := .type "tuple_iterator", data := .fields #[.ref l, .int 0 0] }).objs.size = s.heap.objs.size + 1 := Heap.size_push ..
  show _ ∧ _
  rw [zLen]
  have hEn : IsEnum ((s.heap.push { cls := .type "tuple_iterator", data := .fields #[.ref l, .int 0 0] }).push
      { cls := .type "enumerate", data := .fields #[.none, .bool false, .ref s.heap.objs.size, rawInt 0, .none, .none] }) (s.heap.objs.size + 1) s.heap.objs.size 0 .none := by
    have := Heap.get?_push_size (s.heap.push { cls := .type "tuple_iterator", data := .fields #[.ref l, .int 0 0] })
      (o := { cls := .type "enumerate", data := .fields #[.none, .bool false, .ref s.heap.objs.size, rawInt 0, .none, .none] }) rfl
    rw [zLen] at this; exact this
  refine ⟨⟨_, hEn, rfl⟩, h _ hEn ⟨_, Heap.get?_push_of_some _ (Heap.get?_push_size _ rfl), rfl, rfl⟩ (by rw [Heap.size_push, zLen]) fun b o x => Heap.get?_push_of_some _ (Heap.get?_push_of_some _ x)⟩
theorem pi_enumS {X : Cx} {e : Expr} {ta : TA} {p pos tpos : Pos} {elts : List Expr} {kk : Nat} (hGo : Gl X "enumerate") (hm : X.mg "enumerate" = none) (ha : PA X [e] ta) (hs : starEach [e] X.env = [(false, eval e X.env)] := by rfl) :
    PI X (.Tuple elts kk tpos) (.Call (.Name "enumerate" p) [e] [] pos) (iEnumS X.K ta) := by
  refine ⟨fun pins s σ H R I h => ?_⟩
  refine Call_ (ld_blt I hGo hm boot_enumerate (PyProof.Rows.callWith_type1 (thn (ha.run pos pins s σ H _ I h) fun us s1 ⟨vs, H1, J1, r1, q1⟩ => ?_) hs rfl))
  obtain ⟨a, xs, ex, q⟩ := q1
  subst ex
  cases r1 with
  | cons r rr =>
    cases rr
    cases r
    have far : ∀ b, b ∈ [s1.heap.objs.size + 1, s1.heap.objs.size] → s1.heap.objs.size ≤ b := fun b hb => by
      have eOr : b = s1.heap.objs.size + 1 ∨ b = s1.heap.objs.size := by simpa using hb
      rcases eOr with z | z
      · rw [z]; exact Nat.le_add_right _ _
      · rw [z]; exact Nat.le_refl _
    rcases q with ⟨hSq, q⟩ | ⟨hSq, q⟩
    · obtain ⟨vals, rVs, pSeq, zLen⟩ := J1.list hSq
      refine call_enumerate_list pSeq.isList fun h' hEn hIt zNew hk => wpAny_pyIter_enum hEn ?_
      have J2 : Inv X pins σ H1 { s1 with heap := h' } := J1.kept (t' := s1.toks) hk
      exact ⟨s1.heap.objs.size + 1, [s1.heap.objs.size + 1, s1.heap.objs.size], _, _, H1, rfl, J2, turn_enum a (s1.heap.objs.size + 1) s1.heap.objs.size, ⟨⟨.none, hEn⟩, hIt, Nat.succ_ne_self _⟩, fun b hb => J1.fpOk (far b hb) (J1.hok.fresh (far b hb)), q⟩
    · obtain ⟨vals, rVs, pSeq, zLen⟩ := J1.tuple hSq
      have hal : a < s1.heap.objs.size := by obtain ⟨o, ho, _⟩ := (show s1.heap.IsTuple a vals.toArray from pSeq); exact Heap.lt_size ho
      refine call_enumerate_tuple (show s1.heap.IsTuple a vals.toArray from pSeq) fun h' hEn hIt zNew hk => wpAny_pyIter_enum hEn ?_
      have J2 : Inv X pins σ H1 { s1 with heap := h' } := J1.kept (t' := s1.toks) hk
      exact ⟨s1.heap.objs.size + 1, [s1.heap.objs.size + 1, s1.heap.objs.size], _, _, H1, rfl, J2, turn_enumT a (s1.heap.objs.size + 1) s1.heap.objs.size, ⟨⟨.none, hEn⟩, hIt, Nat.succ_ne_self _, Nat.ne_of_lt hal, Nat.ne_of_lt (Nat.lt_succ_of_lt hal)⟩, fun b hb => J1.fpOk (far b hb) (J1.hok.fresh (far b hb)), q⟩
end Ef
set_option Elab.async false
set_option linter.all false
set_option maxRecDepth 100000
set_option maxHeartbeats 2000000
/-! t[::-1] of a tuple; o(..) by the class's own __call__ -/
namespace Ef
open PySem PySem.Spec PyProof.Rows L2
theorem pick_back (its : Array Value) : (List.filterMap (fun k : Nat => its[((its.size : Int) - 1 + (k : Int) * (-1)).toNat]?) (List.range its.size)).toArray = its.toList.reverse.toArray := by
  congr 1
  have e : ∀ (l : List Nat), (∀ k ∈ l, k < its.size) → List.filterMap (fun k : Nat => its[((its.size : Int) - 1 + (k : Int) * (-1)).toNat]?) l = List.filterMap (fun x : Nat => its[x]?) (l.map fun k => its.size - 1 - k) := by
    intro l hl
    induction l with
    | nil => rfl
    | cons k l ih =>
      have := hl k (List.mem_cons_self)
      have q : ((its.size : Int) - 1 + (k : Int) * (-1)).toNat = its.size - 1 - k := by omega
      rw [List.map_cons, List.filterMap_cons, List.filterMap_cons, q, ih fun k hk => hl k (List.mem_cons_of_mem _ hk)]
  rw [e _ (fun k hk => List.mem_range.mp hk), PySem.W.krv_range, List.filterMap_reverse] 
  congr 1
  exact PySem.W.krv_all its
theorem places_back (n : Nat) : Builtin.Slice.slicePlaces ((n : Int) - 1) (-1) (-1) = n := by
  unfold Builtin.Slice.slicePlaces
  rw [if_neg (by decide)]
  split
  · have : ((n : Int) - 1 - -1 - 1) / -(-1 : Int) = (n : Int) - 1 := by
      rw [Int.neg_neg, Int.ediv_one]; omega
    rw [this]; omega
  · omega
theorem sliceApplied_back {prog : Program} {w : World} {A : Around} {E : Value → Shared → Prop} {s : Shared} {sl : Addr} {vl vu vs : Value} {n : Nat} {Q : Int × Int × Nat → Shared → Prop} (hs : s.heap.IsSliceOf sl vl vu vs) (pl : IsPart vl none) (pu : IsPart vu none) (ps : IsPart vs (some (-1)))
    (h : Q ((n : Int) - 1, -1, n) s) : wpAny (model prog w) A (Builtin.Slice.sliceApplied (.ref sl) (pure ↑n)) Q E s := by
  obtain ⟨os, hos, hcs, hds⟩ := id hs
  unfold Builtin.Slice.sliceApplied
  refine wpAny_bind ?_
  unfold Builtin.Slice.sliceFields
  refine wpAny_bind (wpAny_field hos hds rfl (wpAny_bind (wpAny_field hos hds rfl (wpAny_bind (wpAny_field hos hds rfl (wpAny_pure ?_))))))
  refine wpAny_bind (HT.slicePart_ ps ?_)
  dsimp only [Option.getD]
  rw [if_neg (by decide)]
  refine wpAny_bind (HT.slicePart_ pl (wpAny_bind (HT.slicePart_ pu (wpAny_bind (wpAny_pure ?_)))))
  have e : Builtin.Slice.sliceAdjust none none (-1) (n : Int) = ((n : Int) - 1, -1) := by
    unfold Builtin.Slice.sliceAdjust
    simp
  rw [e]
  dsimp only
  rw [places_back]
  exact wpAny_pure h
theorem getItem_tuple_back {prog : Program} {w : World} {A : Around} {E : Value → Shared → Prop} {s : Shared} {t sl : Addr} {items : Array Value} {vl vu vs : Value} {Q : Value → Shared → Prop} (ht : IsTup s.heap t items) (hs : s.heap.IsSliceOf sl vl vu vs) (pl : IsPart vl none) (pu : IsPart vu none) (ps : IsPart vs (some (-1)))
    (h : Q (.ref s.heap.objs.size) { s with heap := s.heap.push { cls := .type "tuple", data := .seq items.toList.reverse.toArray } }) (hsz : items.size ≤ sizeLine) : wpAny (model prog w) A (getItem (.ref t) (.ref sl)) Q E s := by
  obtain ⟨os, hos, hcs, hds⟩ := id hs
  have hTs : s.TypeIs (.ref sl) "slice" := ⟨os, hos, hcs⟩
  unfold getItem
  refine wpAny_holding (wpAny_bind (wpAny_sequenceKey (IsTup.typeIs ht) (by decide) (wpAny_bind (wpAny_callSpecial?_slot (IsTup.typeIs ht) slot_tuple_getitem (wpAny_call_entry slot_tuple_getitem (IsTup.typeIs ht) entry_tuple_getitem ?_ (args_tuple_getitem _ _))))))
  unfold Builtin.«tuple.__getitem__»
  show wpAny _ _ (Builtin.Tuple.tupleItemsOf (.ref t) >>= fun xs => _) _ _ _
  refine wpAny_bind (tupleItemsOf_ ht (wpAny_bind (wpAny_typeOf hTs ?_)))
  rw [if_pos (by decide)]
  refine wpAny_bind (sliceApplied_back (n := items.size) hs pl pu ps ?_)
  dsimp only
  rw [if_neg (by simp)]
  rw [pick_back]
  unfold Builtin.Tuple.tupleExact
  refine wpAny_bind (wpAny_newObj_type (wpAny_pure ⟨_, rfl, wpAny_pure h⟩) ?_)
  show items.toList.reverse.toArray.size ≤ sizeLine
  simpa using hsz
def tRevT (K : PySem.W.Frag) (te : TE) : TE := fun σ H Q => te σ H fun x H1 => ∃ a xs, x = .ref a ∧ SqT K H1 a xs ∧ ∀ p, H1 p = none → Q (.ref p) (upd H1 p (.tup xs.reverse))
theorem pe_revT {X : Cx} {e : Expr} {te : TE} {k : Nat} {p1 p2 p3 pos : Pos} (he : PE X e te) : PE X (e.Subscript (Expr.Slice none none (some (Expr.UnaryOp UnaryOp.USub (Expr.Constant (Const.int 1) k p1) p2)) p3) pos) (tRevT X.K te) := by
  refine ⟨fun pins s σ H Q I h => ?_⟩
  refine Subscript_ (thn (he.run pins s σ H _ I h) fun v s1 ⟨x, H1, I1, r1, a, xs, ex, hx, q⟩ => ?_)
  subst ex
  cases r1
  have hst := po_some (pe_un (X := X) (pos := p2) un_neg (pe_int (X := X) (i := 1) (j := k) (pos := p1)))
  refine wpAny_Slice (thn (po_none.run pins s1 σ H1 (fun o H2 => o = none ∧ H2 = H1) I1 ⟨rfl, rfl⟩) fun vl s2 ⟨l, H2, I2, pl, el, e2⟩ => ?_)
  subst el e2
  refine thn (po_none.run pins s2 σ _ (fun o H3 => o = none ∧ H3 = _) I2 ⟨rfl, rfl⟩) fun vu s3 ⟨u, H3, I3, pu, eu, e3⟩ => ?_
  subst eu e3
  refine thn (hst.run pins s3 σ _ (fun o H4 => o = some (-1) ∧ H4 = _) I3 ⟨1, rfl, -1, rfl, rfl, rfl⟩) fun vs s4 ⟨o, H4, I4, ps, eo, e4⟩ => ?_
  subst eo e4
  have I5 := I4.kept (t' := s4.toks) (fun b ob q => Heap.get?_push_of_some { cls := Value.type "slice", data := Data.fields #[vl, vu, vs] } q)
  obtain ⟨its, r, ht, hz⟩ := I5.tuple hx
  have hlen := r.length
  refine tail_any (IsTup.typeIs ht) slot_tuple_getitem.lookup (getItem_tuple_back ht (Heap.IsSliceOf.new s4.heap vl vu vs) pl pu ps ?_ ?_) (Eq.refl (subscripted _ false (Value.ref a) (Value.ref s4.heap.objs.size)))
  · refine ⟨.ref _, upd _ _ (.tup xs.reverse), Inv.laid I5 (fun b ob q => Heap.get?_push_of_some _ q) (Nat.le_refl _) ?_, rfl, q _ (I5.hok.fresh (Nat.le_refl _))⟩
    exact ⟨by rw [List.length_reverse]; exact hz, its.reverse, Vals.reverse r, ⟨_, Heap.get?_push_size _ rfl, rfl, 0, rfl⟩⟩
  · rw [List.size_toArray, ← hlen]; exact hz
end Ef
set_option Elab.async false
set_option linter.all false
set_option maxRecDepth 100000
set_option maxHeartbeats 2000000
namespace Ef
open PySem PySem.Spec PyProof.Rows L2
theorem callWith_inst {M : Model} {A : Around} {E : Value → Shared → Prop} {s : Shared} {pos : Pos} {x C : Addr} {ox : Obj} {first : List Value} {Q : Value → Shared → Prop} {args : List (Bool × Sem Value)} {keywords : List (Option Str × Sem Value)}
    (hplain : ((args.any fun x => x.fst) || keywords.any fun x => x.fst.isNone) = false) (hd : ox.data = Data.plain)
    (h : wpAny M A (evalArgs (.ref x) true args keywords) (fun a s₁ => (∃ od, PySem.W.InstAt s₁.heap x ox C od) ∧ wpAny M A (call (.ref x) (first ++ a.pos) a.kw) Q E s₁) E s) : wpAny M A (callWith pos (.ref x) first args keywords) Q E s := by
  unfold callWith
  refine wpAny_bind (wpAny_holding (wpAny_mono h (fun a s₁ h₁ => ?_) fun _ _ y => y))
  obtain ⟨⟨od, J⟩, h1⟩ := h₁
  refine wpAny_bind (wpAny_standAt ?_)
  have L := PySem.W.kco_keeper (M := M) J hd
  simp only [hplain]
  refine wpAny_bind (L.here ?_)
  have tail : ∀ {t : Sem Value}, wpAny M A t Q E s₁ → wpAny M A (t >>= fun r => do holding [r] point; pure r) Q E s₁ := fun {t} ht => wpAny_bind (wpAny_mono ht (fun r s₂ hr => wpAny_bind (wpAny_holding (wpAny_point (wpAny_pure hr)))) fun _ _ y => y)
  exact tail (wpAny_operateT h1)
/-- o(e, ..), o a local name that holds an instance of the class at C -/
def tCallI (C : Addr) (i : Nat) (sp : Sp) (E : L2.St → XK) (t : TA) : TE := fun σ H Q => ∃ a dx fs, σ[i]? = some (some (.ref a)) ∧ H a = some (.ins C dx fs) ∧ t σ H fun vs H1 => (∃ fs', H1 a = some (.ins C dx fs')) ∧ sp (.ref a :: vs) H1 Q (E σ)
theorem pe_callI {X : Cx} {CX : CXT} {k i : Nat} {C f : Addr} {fd : FuncData} {ps : List Str} {sp : Sp} {E : L2.St → XK} {x : Str} {p pos : Pos} {e : Expr} {es : List Expr} {t : TA}
    (hf : PySem.W.findIn X.K (.ref C) "__call__" = some (some (.ref f))) (hi : PySem.W.isFn X.K (.ref f) = true) (hn : PySem.W.fnIn X.K f = true)
    (F : FnOk X.prog X.w X.K X.mg X.base CX k f fd ps sp) (hr : Room k X.A) (hb : Binds X.K fd ps []) (hx : ∀ σ, PassesAt CX X σ (E σ)) (ha : PA X (e :: es) t)
    (hN : X.N[i]? = some x := by rfl) (hv : Vis X.env.scope x := by first | exact Or.inl rfl | exact Or.inr (Or.inl rfl) | exact Or.inr (Or.inr rfl))
    (hdb : (x == ("__debug__" : Str)) = false := by decide) (hcd : (x == ("__classdict__" : Str)) = false := by decide)
    (hst : starEach (e :: es) X.env = (false, eval e X.env) :: starEach es X.env := by rfl) (hpl : (backTo pos (starEach es X.env)).any (·.1) = false := by rfl) : PE X (.Call (.Name x p) (e :: es) [] pos) (tCallI C i sp E t) := by
  refine ⟨fun pins s σ H Q I h => ?_⟩
  obtain ⟨a, dx, fs, hs, ea, ht⟩ := h
  have hx' := pe_var (X := X) (pos := p) hN hv hdb hcd
  refine wpAny_Call_Name_kw (thn (hx'.run pins s σ H (fun v H1 => v = .ref a ∧ H1 = H) I ⟨.ref a, hs, rfl, rfl⟩) fun u s1 ⟨v, H1, I1, r1, q1⟩ => ?_)
  obtain ⟨rfl, rfl⟩ := q1
  cases r1
  show wpAny _ _ (callWith pos (.ref a) [] (backTo pos (starEach (e :: es) X.env)) []) _ _ _
  have w1 := thn (ha.run pos pins s1 σ _ _ I1 ht) (Q' := fun us s2 => (∃ od, PySem.W.InstAt s2.heap a (PySem.W.instObj C dx) C od) ∧ wpAny (model X.prog X.w) X.A (call (.ref a) ([] ++ us)) (EP X pins σ Q) X.xe s2) fun us s2 ⟨vs, H2, I2, r, ⟨fs', ea2⟩, q⟩ => by
    obtain ⟨mA2, OM2, _⟩ := ins_get I2.hok ea2
    obtain ⟨od2, J2, _⟩ := OM2.look
    refine ⟨⟨_, J2⟩, wpAny_call (PySem.W.kco_code I2.kIn J2 rfl hf hi hn ?_)⟩
    have hl : (.ref a :: us : List Value).length = ps.length := by rw [← F.len _ _ _ _ q]; exact congrArg (· + 1) r.length.symm
    have b := hb s2 (.ref a :: us) I2.kIn (by rw [List.append_nil]; exact hl)
    rw [List.append_nil] at b
    refine codeAny_mono (F.run X.A X.stack s2 H2 { pos := .ref a :: us } (.ref a :: us) (.ref a :: vs) Q (E σ) hr I2.env0 b (.cons rfl r) q) fun res s' hq => ?_
    cases res with
    | error er => exact hx σ pins H2 s2 er s' I2 hq
    | ok fl =>
      cases fl with
      | ret u => exact I2.after hq
      | next => exact False.elim hq
      | brk => exact False.elim hq
      | cont => exact False.elim hq
  rw [hst] at w1 ⊢
  refine callWith_inst (by simp only [backTo, List.any_cons] at hpl ⊢; simpa using hpl) rfl (PySem.Calls.evalArgs_plain w1)
end Ef
set_option Elab.async false
set_option linter.all false
set_option maxRecDepth 100000
set_option maxHeartbeats 2000000
/-! try with several clauses, each with a name -/
namespace Ef
open PySem PySem.Spec PyProof.Rows L2
abbrev AsC := Value × Nat × (Addr → Value → Option Addr → TS)
/-- the ends of a named clause: its name is gone behind it -/
def EndsAs (i : Nat) (D : Ends) : Ends := { nx := fun σ' H' => D.nx (σ'.set i none) H', rt := D.rt, bk := fun σ' H' => D.bk (σ'.set i none) H', ct := fun σ' H' => D.ct (σ'.set i none) H' }
def wAsL (K : PySem.W.Frag) (Wout : WX) (D : Ends) : List AsC → WX
  | [] => Wout
  | (c, i, ts) :: r => fun cls d σ H => ∃ b, PySem.W.exmOne K cls c = some b ∧ (b = true → ∀ a, H a = none → ts a cls d (EndsAs i D) (σ.set i (some (.ref a))) H) ∧ (b = false → wAsL K Wout D r cls d σ H)
inductive HdsAs (X : Cx) : List ExceptHandler → List AsC → Prop
  | nil : HdsAs X [] []
  | cons {x n : Str} {c : Value} {i : Nat} {ts : Addr → Value → Option Addr → TS} {b₀ : Stmt} {suite : List Stmt} {np pos' : Pos} {hds : List ExceptHandler} {l : List AsC}
      (hi : X.N[i]? = some n) (hln : X.env.kindOf n = some NameKind.local) (hc : Names X x c)
      (hsu : ∀ (a : Addr) (oe : Obj) (cls : Value) (d : Option Addr) (pn : List (Addr × Obj)), Zc cls d oe → (∃ vs, oe.data = Data.fields vs) → PSs (X.suite a ((a, oe) :: pn)) (b₀ :: suite) (ts a cls d))
      (r : HdsAs X hds l) : HdsAs X (ExceptHandler.ExceptHandler (some (Expr.Name x np)) (some n) (b₀ :: suite) pos' :: hds) ((c, i, ts) :: l)
/-- what stands when a clause is looked for -/
structure LandAs (X : Cx) (pins : List (Addr × Obj)) (σ : L2.St) (H : Hp) (sI : Shared) (B : Heap) (a : Addr) (cls : Value) (d : Option Addr) (s : Shared) : Prop where
  J : Inv X pins σ H sI
  nb : ∀ (b : Addr) (o : Obj), sI.heap.get? b = some o → ¬b ∈ frs X.stack → B.get? b = some o
  up : sI.heap.UpToSlots s.heap
  fl : PySem.HandSPX.FlyingZ B (X.env :: X.outer) a (Zc cls d) s.heap
  na : H a = none
  os : s.os = sI.os
  ag : PyProof.Rows.AllBare s.gens
theorem handle_as {X : Cx} {pins : List (Addr × Obj)} {σ : L2.St} {H : Hp} {sI : Shared} {B : Heap} {a : Addr} {cls : Value} {d : Option Addr} {D : Ends} {Wout : WX} (hs : X.stack = X.env :: X.outer) (hf : X.env.frame = some X.env.locals) (hN : X.N.Nodup) (tk : Takes X Wout) :
    ∀ {hds : List ExceptHandler} {l : List AsC}, HdsAs X hds l → ∀ {s : Shared}, LandAs X pins σ H sI B a cls d s → wAsL X.K Wout D l cls d σ H →
      wpAny (model X.prog X.w) X.A (handleBy (.ref a) X.env hds) (SP X pins D) X.xe s := by
  intro hds l hh
  induction hh with
  | nil =>
    intro s L h
    have k := id L.fl
    obtain ⟨k1, k2, k3, oe, vs, T, oT, ts', he, hz, hd, h1, hr⟩ := k
    refine wpAny_handleBy_nil ?_
    refine wpAny_bind (wpAny_field he hd h1 ?_)
    rw [if_neg (by simp)]
    refine wpAny_bind ?_
    rw [hf]
    refine PySem.HandSPX.setFlight_upZ L.fl fun h4 hh4 up4 => wpAny_throw (tk _ _ ⟨a, B, sI, pins, σ, H, cls, d, rfl, L.J, L.nb, Heap.UpToSlots.trans L.up up4, Or.inr (Or.inr (by rw [hs]; exact hh4)), L.na, L.os, L.ag, h⟩)
  | @cons x n c i ts b₀ suite np pos' hds l hi hln hc hsu r ih =>
    intro s L h
    have ok := L.J.ok
    have hloc : L2.Loc X.env.scope n := Or.inl hln
    have J3 := Inv.landed L.J L.nb L.fl.1 L.up L.os L.ag
    obtain ⟨oe3, vs3, he3, hz3, hd3⟩ := L.fl.there
    have notFr : ∀ {h' : Heap} {oe : Obj} {vs : Array Value}, h'.FunFrames B (X.env :: X.outer) → h'.get? a = some oe → oe.data = Data.fields vs → a ∉ List.filterMap (fun (x : Env) => x.frame) (X.env :: X.outer) := fun ff e dd hm => by
      obtain ⟨_, o', e', hnf⟩ := Heap.FunFrames.mem ff hm
      rw [e] at e'
      cases e'
      exact hnf _ dd
    have nfr := notFr L.fl.2.2.1 he3 hd3
    have nL : a ≠ X.env.locals := fun z => nfr (List.mem_filterMap.mpr ⟨X.env, List.mem_cons_self, by rw [hf, z]⟩)
    have nF : a ∉ X.fs := fun hm => by
      obtain ⟨e, he, q⟩ := List.mem_filterMap.mp hm
      exact nfr (List.mem_filterMap.mpr ⟨e, List.mem_cons_of_mem _ he, q⟩)
    have S3 := Inv.suite J3 he3 hd3 L.na nL nF
    obtain ⟨b, hb1, hyes, hno⟩ := h
    refine wpAny_handleBy_cons (codeAny_handlers_test ?_) (fun q => nomatch q)
    have LM : PySem.W.Looks (model X.prog X.w) s.heap (excMatches (.ref a) c) b := PySem.W.exm_one J3.kIn (fun A Q E s k q => wpAny_typeOf_ref (k a oe3 he3) (by rw [hz3.1]; exact q)) hb1
    have test : ∀ {Q E}, Q c s → wpAny (model X.prog X.w) (X.suite a ((a, oe3) :: (X.pn ++ pins))).A (eval (.Name x np) X.env) Q E s := fun {Q E} q => by
      obtain ⟨hg, hdbg, hm | ⟨hm, hv, hnn⟩⟩ := hc
      · exact ld_glob S3 hg hm q hdbg
      · exact ld_blt S3 hg hm hv q hnn hdbg
    refine test (LM.here ?_)
    cases b with
    | false => exact ih L (hno rfl)
    | true =>
      refine codeAny_handlers_suite_as (PySem.HandSPX.lands_againZ L.fl fun h4 fl4 up4 => ?_)
      have J4 := Inv.landed (s' := { s with heap := h4 }) L.J L.nb fl4.1 (Heap.UpToSlots.trans L.up up4) L.os L.ag
      obtain ⟨oe4, vs4, he4, hz4, hd4⟩ := fl4.there
      have S4 := Inv.suite J4 he4 hd4 L.na nL nF
      refine store_ok (X := X.suite a ((a, oe4) :: (X.pn ++ pins))) (pins := []) (v := .ref a) S4 hN hi hloc rfl (fun s5 S5 => wpAny_mono ((hsu a oe4 cls d (X.pn ++ pins) hz4 ⟨vs4, hd4⟩).run [] s5 (σ.set i (some (.ref a))) H (EndsAs i D) S5 (hyes rfl a L.na)) (fun f s6 hsp => ?_) fun _ _ z => False.elim z) (Or.inr hln)
      have end_ : ∀ {σ6 : L2.St} {H6 : Hp} {Q : Unit → Shared → Prop}, Inv (X.suite a ((a, oe4) :: (X.pn ++ pins))) [] σ6 H6 s6 → (∀ s7, Inv X pins (σ6.set i none) H6 s7 → Q () s7) → wpAny (model X.prog X.w) X.A (do bindName X.env n Value.none; unbindBehindTheSuite X.env n pos') Q X.xe s6 := fun S6 hq => gone_ok (Inv.unsuite S6 ok) hN hi hln hq
      cases f with
      | next => obtain ⟨σ6, H6, S6, q6⟩ := hsp; exact end_ S6 fun s7 J7 => ⟨_, _, J7, q6⟩
      | brk => obtain ⟨σ6, H6, S6, q6⟩ := hsp; exact end_ S6 fun s7 J7 => ⟨_, _, J7, q6⟩
      | cont => obtain ⟨σ6, H6, S6, q6⟩ := hsp; exact end_ S6 fun s7 J7 => ⟨_, _, J7, q6⟩
      | ret u => obtain ⟨v6, σ6, H6, S6, r6, q6⟩ := hsp; exact end_ S6 fun s7 J7 => ⟨v6, _, _, J7, r6, q6⟩
theorem ps_try_asL {X : Cx} {h₀ : ExceptHandler} {hds : List ExceptHandler} {l : List AsC} {body : List Stmt} {pos : Pos} {tb : WX → TS} {Wout : WX} (hs : X.stack = X.env :: X.outer) (hf : X.env.frame = some X.env.locals) (hN : X.N.Nodup) (tk : Takes X Wout)
    (hb : ∀ (W : WX) (pn : List (Addr × Obj)) (xe : Value → Shared → Prop), Takes (X.tr pn xe) W → PassesOwn (model X.prog X.w) X.A X.env xe → PSs (X.tr pn xe) body (tb W)) (hh : HdsAs X (h₀ :: hds) l) :
    PS X (.Try body (h₀ :: hds) [] [] pos) fun D σ H => tb (wAsL X.K Wout D l) D σ H := by
  refine ⟨fun pins s σ H D I h => ?_⟩
  have ok := I.ok
  have hfr : X.A.frames = some (X.env :: X.outer) := by rw [ok.frames, hs]
  refine wpAny_Try_except (wpAny_mono ((hb (wAsL X.K Wout D l) (X.pn ++ pins) _ (fun u s' xx => ?_) PassesOwn.looking).run [] s σ H D (Inv.toTry I _) h) (fun f s1 hsp => ?_) fun e s1 he => he)
  · obtain ⟨a, B, sI, pins', σ', H', cls, d, rfl, J', nb, up, sky, na, os, ag, hw⟩ := xx
    have J := Inv.ofTry J' ok
    have sky' : Sky B (X.env :: X.outer) a (Zc cls d) X.env.locals s'.heap := by rw [← hs]; exact sky
    exact Sky.land Zc.steady hfr hf sky' fun h3 fl3 up3 => handle_as hs hf hN tk hh ⟨J, nb, Heap.UpToSlots.trans up up3, fl3, na, os, ag⟩ hw
  · cases f with
    | next => obtain ⟨σ', H', J', q⟩ := hsp; exact wpAny_execs_nil ⟨σ', H', Inv.ofTry J' ok, q⟩
    | brk => obtain ⟨σ', H', J', q⟩ := hsp; exact ⟨σ', H', Inv.ofTry J' ok, q⟩
    | cont => obtain ⟨σ', H', J', q⟩ := hsp; exact ⟨σ', H', Inv.ofTry J' ok, q⟩
    | ret u => obtain ⟨v, σ', H', J', r, q⟩ := hsp; exact ⟨v, σ', H', Inv.ofTry J' ok, r, q⟩
end Ef
set_option Elab.async false
set_option linter.all false
/-! rows of whole numbers: values, differences, divisors -/
namespace Ef
/-- the value of a row -/
def evalR : List Int → Int → Int
  | [], _ => 0
  | c :: r, n => evalR r n * n + c
/-- of a degree below d -/
def PD : Nat → (Int → Int) → Prop
  | 0, f => ∀ n, f n = 0
  | d + 1, f => PD d fun n => f (n + 1) - f n
theorem PD.congr {d : Nat} {f g : Int → Int} (h : PD d f) (e : ∀ n, f n = g n) : PD d g := by
  have : f = g := funext e
  rw [← this]; exact h
theorem PD.add : ∀ {d : Nat} {f g : Int → Int}, PD d f → PD d g → PD d fun n => f n + g n
  | 0, f, g, hf, hg => fun n => by
    have h1 := hf n
    have h2 := hg n
    show f n + g n = 0
    rw [h1, h2]; rfl
  | d + 1, f, g, hf, hg => PD.congr (d := d) (PD.add (d := d) hf hg) fun n => by
    show (f (n + 1) - f n) + (g (n + 1) - g n) = (f (n + 1) + g (n + 1)) - (f n + g n)
    omega
theorem PD.up : ∀ {d : Nat} {f : Int → Int}, PD d f → PD (d + 1) f
  | 0, f, h => fun n => by
    have h1 := h n
    have h2 := h (n + 1)
    show f (n + 1) - f n = 0
    rw [h1, h2]; rfl
  | d + 1, f, h => PD.up (d := d) (f := fun n => f (n + 1) - f n) h
theorem PD.shift : ∀ {d : Nat} {f : Int → Int}, PD d f → PD d fun n => f (n + 1)
  | 0, f, h => fun n => h (n + 1)
  | d + 1, f, h => PD.shift (d := d) (f := fun n => f (n + 1) - f n) h
theorem PD.mulx : ∀ {d : Nat} {f : Int → Int}, PD d f → PD (d + 1) fun n => f n * n
  | 0, f, h => fun n => by
    have h1 := h n
    have h2 := h (n + 1)
    show f (n + 1) * (n + 1) - f n * n = 0
    rw [h1, h2, Int.zero_mul, Int.zero_mul]; rfl
  | d + 1, f, h => by
    have h1 := PD.mulx (d := d) (f := fun n => f (n + 1) - f n) h
    have h2 : PD (d + 1) fun n => f (n + 1) := PD.shift (d := d + 1) h
    show PD (d + 1) fun n => f (n + 1) * (n + 1) - f n * n
    refine PD.congr (d := d + 1) (PD.add h1 h2) fun n => ?_
    show (f (n + 1) - f n) * n + f (n + 1) = f (n + 1) * (n + 1) - f n * n
    rw [Int.sub_mul, Int.mul_add, Int.mul_one]
    omega
theorem PD.const (c : Int) : ∀ d : Nat, PD (d + 1) fun _ => c
  | 0 => fun n => Int.sub_self c
  | d + 1 => PD.up (PD.const c d)
theorem pd_row : ∀ r : List Int, PD r.length (evalR r)
  | [] => fun n => rfl
  | c :: r => PD.congr (d := r.length + 1) (PD.add (PD.mulx (pd_row r)) (PD.const c r.length)) fun n => rfl
theorem PD.dvd {u : Int} : ∀ {d : Nat} {f : Int → Int}, PD d f → (∀ k : Nat, k < d → u ∣ f k) → ∀ n, u ∣ f n
  | 0, f, h, _, n => by rw [h n]; exact Int.dvd_zero u
  | d + 1, f, h, hk, n => by
    have hd : ∀ n, u ∣ f (n + 1) - f n := PD.dvd (d := d) (f := fun n => f (n + 1) - f n) h fun k hk' => by
      have h1 := hk (k + 1) (by omega)
      have h2 := hk k (by omega)
      exact Int.dvd_sub h1 h2
    have h0 : u ∣ f 0 := hk 0 (by omega)
    have hp : ∀ k : Nat, u ∣ f k := fun k => by
      induction k with
      | zero => exact h0
      | succ k ih =>
        have := Int.dvd_add (hd k) ih
        rw [Int.sub_add_cancel] at this
        exact this
    have hn : ∀ k : Nat, u ∣ f (-(k : Int)) := fun k => by
      induction k with
      | zero => exact h0
      | succ k ih =>
        have h1 := hd (-((k + 1 : Nat) : Int))
        have e : -((k + 1 : Nat) : Int) + 1 = -(k : Int) := by omega
        rw [e] at h1
        have := Int.dvd_sub ih h1
        rw [Int.sub_sub_self] at this
        exact this
    rcases Int.le_total 0 n with z | z
    · have := hp n.toNat
      rw [Int.toNat_of_nonneg z] at this
      exact this
    · have := hn (-n).toNat
      rw [Int.toNat_of_nonneg (by omega), Int.neg_neg] at this
      exact this
/-- divisible at as many n in a row as the row has members: divisible everywhere -/
theorem row_dvd {r : List Int} {u : Int} (h : ∀ k : Nat, k < r.length → u ∣ evalR r k) (n : Int) : u ∣ evalR r n := (pd_row r).dvd h n
theorem eval_take : ∀ (r : List Int) (k : Nat) (n : Int), (∀ j, k ≤ j → j < r.length → r[j]? = some 0) → evalR (r.take k) n = evalR r n
  | [], k, n, _ => by rw [List.take_nil]
  | c :: r, 0, n, h => by
    have h0 : c = 0 := by
      have := h 0 (Nat.le_refl 0) (Nat.succ_pos _)
      simpa using this
    have ih := eval_take r 0 n fun j _ hj => by
      have := h (j + 1) (Nat.zero_le _) (Nat.succ_lt_succ hj)
      simpa using this
    show (0 : Int) = evalR r n * n + c
    rw [← ih, h0]
    show (0 : Int) = 0 * n + 0
    rw [Int.zero_mul]; rfl
  | c :: r, k + 1, n, h => by
    have ih := eval_take r k n fun j hk hj => by
      have := h (j + 1) (Nat.succ_le_succ hk) (Nat.succ_lt_succ hj)
      simpa using this
    show evalR (r.take k) n * n + c = evalR r n * n + c
    rw [ih]
theorem eval_map : ∀ (r : List Int) (g n : Int), (∀ c ∈ r, g ∣ c) → evalR r n = g * evalR (r.map fun c => c / g) n
  | [], g, n, _ => (Int.mul_zero g).symm
  | c :: r, g, n, h => by
    have ih := eval_map r g n fun c hc => h c (List.mem_cons_of_mem _ hc)
    show evalR r n * n + c = g * (evalR (r.map fun c => c / g) n * n + c / g)
    rw [Int.mul_add, Int.mul_ediv_cancel' (h c List.mem_cons_self), ih, Int.mul_assoc]
/-- the greatest common divisor of a number and a row -/
def gcdR (f : Nat) (t : List Int) : Nat := t.foldl (fun g c => Nat.gcd g c.natAbs) f
theorem gcdR_dvd : ∀ (t : List Int) (f : Nat), gcdR f t ∣ f ∧ ∀ c ∈ t, (gcdR f t : Int) ∣ c
  | [], f => ⟨Nat.dvd_refl f, fun c hc => by cases hc⟩
  | c :: t, f => by
    obtain ⟨h1, h2⟩ := gcdR_dvd t (Nat.gcd f c.natAbs)
    refine ⟨Nat.dvd_trans h1 (Nat.gcd_dvd_left _ _), fun x hx => ?_⟩
    rcases List.mem_cons.mp hx with rfl | hx
    · exact Int.ofNat_dvd_left.mpr (Nat.dvd_trans h1 (Nat.gcd_dvd_right _ _))
    · exact h2 x hx
theorem dvd_gcdR : ∀ (t : List Int) (f d : Nat), d ∣ f → (∀ c ∈ t, (d : Int) ∣ c) → d ∣ gcdR f t
  | [], f, d, h, _ => h
  | c :: t, f, d, h, hc => dvd_gcdR t (Nat.gcd f c.natAbs) d (Nat.dvd_gcd h (Int.ofNat_dvd_left.mp (hc c List.mem_cons_self))) fun x hx => hc x (List.mem_cons_of_mem _ hx)
theorem gcdR_one : ∀ t : List Int, gcdR 1 t = 1
  | [] => rfl
  | c :: t => by
    show gcdR (Nat.gcd 1 c.natAbs) t = 1
    rw [Nat.gcd_one_left]; exact gcdR_one t
theorem gcdR_pos {t : List Int} {f : Nat} (h : 0 < f) : 0 < gcdR f t := Nat.pos_of_dvd_of_pos (gcdR_dvd t f).1 h
theorem gcdR_take_succ {t : List Int} {f i : Nat} {c : Int} (h : t[i]? = some c) : gcdR f (t.take (i + 1)) = Nat.gcd (gcdR f (t.take i)) c.natAbs := by
  unfold gcdR
  rw [List.take_succ, h, Option.toList_some, List.foldl_append]
  rfl
/-- one lowest form -/
theorem gcdR_low {t : List Int} {f : Nat} (h : 0 < f) : gcdR (f / gcdR f t) (t.map fun c => c / (gcdR f t : Int)) = 1 := by
  have hg := gcdR_pos (t := t) h
  obtain ⟨h1, h2⟩ := gcdR_dvd t f
  obtain ⟨d1, d2⟩ := gcdR_dvd (t.map fun c => c / (gcdR f t : Int)) (f / gcdR f t)
  generalize hgd : gcdR (f / gcdR f t) (t.map fun c => c / (gcdR f t : Int)) = d at d1 d2 ⊢
  have k1 : d * gcdR f t ∣ f := by
    have := Nat.mul_dvd_mul_right d1 (gcdR f t)
    rw [Nat.div_mul_cancel h1] at this
    exact this
  have k2 : ∀ c ∈ t, ((d * gcdR f t : Nat) : Int) ∣ c := fun c hc => by
    have z := d2 (c / (gcdR f t : Int)) (List.mem_map_of_mem hc)
    have z2 := Int.mul_dvd_mul_right (gcdR f t : Int) z
    rw [Int.ediv_mul_cancel (h2 c hc)] at z2
    rw [Int.natCast_mul]
    exact z2
  have k3 := dvd_gcdR t f _ k1 k2
  have k4 := Nat.le_of_dvd hg k3
  rcases Nat.lt_or_ge d 2 with z | z
  · rcases Nat.eq_zero_or_pos d with rfl | z0
    · rw [Nat.zero_mul] at k3
      have := Nat.eq_zero_of_zero_dvd k3
      omega
    · omega
  · have := Nat.mul_le_mul_right (gcdR f t) z
    omega
/-- the row without the zeros at its end -/
def TrimOk (r t : List Int) : Prop := ∃ k, k ≤ r.length ∧ t = r.take k ∧ (∀ j, k ≤ j → j < r.length → r[j]? = some 0) ∧ (k = 0 ∨ ∃ c, r[k - 1]? = some c ∧ c ≠ 0)
/-- the least form p over u of the row r over un -/
structure Low (r : List Int) (un : Nat) (p : List Int) (u : Nat) : Prop where
  ex : ∃ (k g : Nat), 0 < g ∧ k ≤ r.length ∧ p = (r.take k).map (fun c => c / (g : Int)) ∧ (∀ c ∈ r.take k, (g : Int) ∣ c) ∧ un = g * u ∧ gcdR u p = 1 ∧ (∀ j, k ≤ j → j < r.length → r[j]? = some 0) ∧ (k = 0 ∨ ∃ c, r[k - 1]? = some c ∧ c ≠ 0)
  u1 : 0 < u
theorem Low.of_trim {r t : List Int} {un : Nat} (h : TrimOk r t) (h0 : 0 < un) : Low r un (t.map fun c => c / (gcdR un t : Int)) (un / gcdR un t) := by
  obtain ⟨k, hk, rfl, hz, hl⟩ := h
  have hg := gcdR_pos (t := r.take k) h0
  obtain ⟨h1, h2⟩ := gcdR_dvd (r.take k) un
  refine ⟨⟨k, gcdR un (r.take k), hg, hk, rfl, h2, (Nat.mul_div_cancel' h1).symm, gcdR_low h0, hz, hl⟩, Nat.div_pos (Nat.le_of_dvd h0 h1) hg⟩
theorem Low.eval {r p : List Int} {un u : Nat} (h : Low r un p u) (n : Int) : ∃ g : Int, 0 < g ∧ (un : Int) = g * u ∧ evalR r n = g * evalR p n := by
  obtain ⟨k, g, hg, hk, rfl, hd, hu, _, hz, _⟩ := h.ex
  refine ⟨g, by omega, by rw [hu, Int.natCast_mul], ?_⟩
  rw [← eval_take r k n hz, eval_map _ (g : Int) n hd]
theorem Low.mod {r p : List Int} {un u : Nat} (h : Low r un p u) (n : Int) : evalR r n % (un : Int) = 0 ↔ evalR p n % (u : Int) = 0 := by
  obtain ⟨g, hg, e1, e2⟩ := h.eval n
  rw [e1, e2, Int.mul_emod_mul_of_pos _ _ hg]
  constructor
  · intro z
    rcases Int.mul_eq_zero.mp z with z | z
    · omega
    · exact z
  · intro z
    rw [z, Int.mul_zero]
theorem Low.div {r p : List Int} {un u : Nat} (h : Low r un p u) (n : Int) : evalR r n / (un : Int) = evalR p n / (u : Int) := by
  obtain ⟨g, hg, e1, e2⟩ := h.eval n
  rw [e1, e2, Int.mul_ediv_mul_of_pos _ _ hg]
theorem Low.len {r p : List Int} {un u : Nat} (h : Low r un p u) : p.length ≤ r.length := by
  obtain ⟨k, g, hg, hk, rfl, _⟩ := h.ex
  rw [List.length_map, List.length_take]
  omega
/-- whole everywhere -/
theorem Low.whole {r p : List Int} {un u : Nat} (h : Low r un p u) : (∀ k : Nat, k < p.length → evalR p k % (u : Int) = 0) ↔ ∀ n : Int, -1 ≤ n → n < (r.length : Int) + 2 → evalR r n % (un : Int) = 0 := by
  constructor
  · intro hk n _ _
    exact (h.mod n).mpr (Int.emod_eq_zero_of_dvd (row_dvd (fun k hk' => Int.dvd_of_emod_eq_zero (hk k hk')) n))
  · intro hn k hk
    have := h.len
    exact (h.mod k).mp (hn k (by omega) (by omega))
/-- of at most b bits -/
def Bd (b : Nat) (x : Int) : Prop := x.natAbs < 2 ^ b
theorem Bd.up {a b : Nat} {x : Int} (h : Bd a x) (e : a ≤ b) : Bd b x := Nat.lt_of_lt_of_le h (Nat.pow_le_pow_right (by decide) e)
theorem Bd.step {a b c w : Nat} {x y z : Int} (hx : Bd a x) (hy : Bd b y) (hz : Bd c z) (h1 : a + b + 1 ≤ w) (h2 : c + 1 ≤ w) : Bd w (x * y + z) := by
  unfold Bd at *
  have e1 : (x * y + z).natAbs ≤ x.natAbs * y.natAbs + z.natAbs := by
    have := Int.natAbs_add_le (x * y) z
    rw [Int.natAbs_mul] at this
    exact this
  have e2 : x.natAbs * y.natAbs ≤ 2 ^ a * 2 ^ b := Nat.mul_le_mul (Nat.le_of_lt hx) (Nat.le_of_lt hy)
  rw [← Nat.pow_add] at e2
  have e3 : 2 ^ (a + b) ≤ 2 ^ (w - 1) := Nat.pow_le_pow_right (by decide) (by omega)
  have e4 : 2 ^ c ≤ 2 ^ (w - 1) := Nat.pow_le_pow_right (by decide) (by omega)
  have e5 : 2 ^ w = 2 ^ (w - 1) + 2 ^ (w - 1) := by
    rw [← Nat.two_mul, ← Nat.pow_succ', Nat.succ_eq_add_one, Nat.sub_add_cancel (by omega)]
  omega
theorem Bd.zero (b : Nat) : Bd b 0 := Nat.pow_pos (by decide)
theorem bd_eval {n : Int} {b : Nat} (hn : Bd b n) : ∀ r : List Int, (∀ c ∈ r, Bd b c) → Bd ((b + 1) * r.length) (evalR r n)
  | [], _ => Bd.zero _
  | c :: r, h => by
    have ih := bd_eval hn r fun c hc => h c (List.mem_cons_of_mem _ hc)
    have := Bd.step ih hn (h c List.mem_cons_self) (w := (b + 1) * (r.length + 1)) (by rw [Nat.mul_succ]; omega) (by rw [Nat.mul_succ]; omega)
    exact this
theorem Bd.div {b : Nat} {x g : Int} (h : Bd b x) (hg : 0 < g) : Bd b (x / g) := by
  unfold Bd at *
  rcases Int.le_total 0 x with z | z
  · have h1 := Int.ediv_nonneg z (Int.le_of_lt hg)
    have h2 : x / g ≤ x := Int.ediv_le_self g z
    omega
  · have h1 : x / g ≤ 0 := Int.ediv_nonpos_of_nonpos_of_neg z hg
    have h2 : x ≤ x / g := by
      rw [Int.le_ediv_iff_mul_le hg]
      have := Int.mul_le_mul_of_nonpos_left (c := 1) (b := g) (a := x) z (by omega)
      omega
    omega
end Ef
set_option Elab.async false
set_option linter.all false
set_option maxRecDepth 100000
set_option maxHeartbeats 4000000
namespace Ef
open PySem PySem.Spec PyProof.Rows L2
abbrev sIsInt : Stmt := top 11
abbrev sFrom : Stmt := top 12
structure TxtW (mg : Str → Option Value) : Prop extends TxtP mg where
  isinstance : mg "isinstance" = none
  bool : mg "bool" = none
  enumerate : mg "enumerate" = none
  reversed : mg "reversed" = none
  range : mg "range" = none
  tuple : mg "tuple" = none
/-- no int: a value of another built-in kind, or a truth -/
def NotInt (K : PySem.W.Frag) (H : Hp) (v : V) : Prop := ∃ (n : String) (b1 b2 : Bool), TyX K H v (.type n) ∧ kitB n "int" = some b1 ∧ kitB n "bool" = some b2 ∧ (b1 && !b2) = false
section
variable {P : Program} {w : World} {K : PySem.W.Frag} {mg : Str → Option Value} {base : Heap}
def spIsInt (K : PySem.W.Frag) : Sp := fun vs H Q _ => ∃ (v : V) (n : String) (b1 b2 : Bool), vs = [v] ∧ TyX K H v (.type n) ∧ kitB n "int" = some b1 ∧ kitB n "bool" = some b2 ∧ Q (.bl (b1 && !b2)) H
theorem scIsInt : FnScope ["value"] ["value"] (defScope sIsInt) := ⟨rfl, rfl, rfl, by decide +kernel, rfl, by decide +kernel, by decide +kernel⟩
theorem df_isint (A : At K mg "is_int" sIsInt) (T : TxtW mg) : Df P w K mg base 1 "is_int" ["value"] (spIsInt K) := by
  obtain ⟨f, fd, hm, F⟩ := A.ex
  refine ⟨f, fd, hm, F.kp, F.binds (fun _ _ _ _ _ _ us hl => match us, hl with | [_], _ => rfl), F.ok scIsInt (fun vs H Q E h => ?_) (fun cdv A outer s H vs Q E hr h => ?_)⟩
  · obtain ⟨v, n, b1, b2, rfl, _⟩ := h
    rfl
  · obtain ⟨v, n, b1, b2, rfl, ht, h1, h2, q⟩ := h
    refine ⟨_, (pss_one (ps_ret (pe_and (pe_callB call_isi (by rfl) T.isinstance (by decide +kernel) (pa_cons (pv 0) (pa_cons (pe_bltn (v := .ty "int") (by rfl) T.int (by decide +kernel) rfl) pa_nil))) (pe_one (pe_not (pe_callB call_isi (by rfl) T.isinstance (by decide +kernel) (pa_cons (pv 0) (pa_cons (pe_bltn (v := .ty "bool") (by rfl) T.bool (by decide +kernel) rfl) pa_nil)))))))), ?_⟩
    refine ⟨v, rfl, _, _, _, _, _, rfl, .ty "int", ht, kit_ty h1, b1, rfl, ?_⟩
    cases b1 with
    | true =>
      refine iteT ⟨v, rfl, _, _, _, _, _, rfl, .ty "bool", ht, kit_ty h2, b2, rfl, ?_⟩
      exact q
    | false => exact iteF q
def spFrom (K : PySem.W.Frag) : Sp := fun vs H Q _ => ∃ (v : V) (low : Int), vs = [v, .int low] ∧ ((∃ i, v = .int i ∧ Q (.bl (decide (low ≤ i))) H) ∨ (NotInt K H v ∧ Q (.bl false) H))
theorem scFrom : FnScope ["value", "low"] ["value", "low"] (defScope sFrom) := ⟨rfl, rfl, rfl, by decide +kernel, rfl, by decide +kernel, by decide +kernel⟩
theorem df_from (A : At K mg "is_int_from" sFrom) (Disint : Df P w K mg base 1 "is_int" ["value"] (spIsInt K)) : Df P w K mg base 2 "is_int_from" ["value", "low"] (spFrom K) := by
  obtain ⟨f, fd, hm, F⟩ := A.ex
  refine ⟨f, fd, hm, F.kp, F.binds (fun _ _ _ _ _ _ us hl => match us, hl with | [_, _], _ => rfl), F.ok scFrom (fun vs H Q E h => ?_) (fun cdv A outer s H vs Q E hr h => ?_)⟩
  · obtain ⟨v, low, rfl, _⟩ := h
    rfl
  · obtain ⟨v, low, rfl, h⟩ := h
    refine ⟨_, (pss_one (ps_ret (pe_and (Disint.call (hr.mono (by decide)) (pa_cons (pv 0) pa_nil)) (pe_one (pe_cmpR op_ge (pv 0) (pv 1) (nomark _)))))), ?_⟩
    rcases h with ⟨i, rfl, q⟩ | ⟨⟨n, b1, b2, ht, h1, h2, hb⟩, q⟩
    · refine ⟨_, rfl, _, "int", true, false, rfl, .base (.int i), by decide +kernel, by decide +kernel, _, rfl, ?_⟩
      exact iteT ⟨_, rfl, _, rfl, _, _, rfl, rfl, q⟩
    · refine ⟨_, rfl, _, n, b1, b2, rfl, ht, h1, h2, _, rfl, ?_⟩
      rw [hb]
      exact iteF q
end
end Ef
set_option Elab.async false
set_option linter.all false
set_option maxRecDepth 100000
set_option maxHeartbeats 2000000
/-! in, not, bool(..) by a class's own methods; a class that a local name holds, called -/
namespace Ef
open PySem PySem.Spec PyProof.Rows L2
/-- the class at C has its own method m: the def at f, which keeps sp -/
structure Own (P : Program) (w : World) (K : PySem.W.Frag) (mg : Str → Option Value) (base : Heap) (k : Nat) (C : Addr) (m : Str) (ps : List Str) (sp : Sp) : Prop where
  ex : ∃ f fd, PySem.W.findIn K (.ref C) m = some (some (.ref f)) ∧ PySem.W.isFn K (.ref f) = true ∧ PySem.W.typeIn K (.ref f) = some (.type "function") ∧ PySem.W.keepIn K (.ref f) = true ∧ Binds K fd ps [] ∧ FnOk P w K mg base CX0 k f fd ps sp
section
variable {X : Cx} {pins : List (Addr × Obj)} {σ : L2.St} {H : Hp} {s : Shared} {Q : VK} {k : Nat} {C a dx : Addr} {fs : List (Str × V)} {m : Str} {ps : List Str} {sp : Sp} {A : Around} {E' : Value → Shared → Prop}
/-- the call of a def from below the body that runs -/
theorem run_low {f : Addr} {fd : FuncData} {us : List Value} {vs : List V} (F : FnOk X.prog X.w X.K X.mg X.base CX0 k f fd ps sp) (hr : Room k A) (hfr : A.frames = X.A.frames) (hb : Binds X.K fd ps []) (I : Inv X pins σ H s) (r : Vals vs us) (h : sp vs H Q E0) :
    wpAny (model X.prog X.w) A (call (.ref f) us) (EP X pins σ Q) E' s := by
  have e0 : Env0 X.prog X.w X.K X.mg X.base A X.stack s H := by
    have e := I.env0
    exact ⟨hfr.trans e.frames, e.mod, e.bs, e.bsz, e.funs, e.frf, e.hok, e.bare⟩
  have hl : (us ++ []).length = ps.length := by rw [List.append_nil, ← r.length]; exact F.len _ _ _ _ h
  have hbt := hb s us I.kIn hl
  rw [List.append_nil] at hbt
  refine wpAny_call (codeAny_mono (F.run A X.stack s H ⟨us, []⟩ us vs Q E0 hr e0 hbt r h) fun res s' hq => ?_)
  cases res with
  | error e => exact False.elim hq
  | ok fl =>
    cases fl with
    | ret u => exact I.after hq
    | next => exact False.elim hq
    | brk => exact False.elim hq
    | cont => exact False.elim hq
/-- callSpecial? of such a method -/
theorem own_special {args : List Value} {vs : List V} {R : Option Value → Shared → Prop} (O : Own X.prog X.w X.K X.mg X.base k C m ps sp) (hr : Room k A) (hfr : A.frames = X.A.frames) (I : Inv X pins σ H s) (ea : H a = some (.ins C dx fs)) (r : Vals vs args)
    (h : sp (.ref a :: vs) H Q E0) (hR : ∀ u s', EP X pins σ Q u s' → R (some u) s') : wpAny (model X.prog X.w) A (callSpecial? (.ref a) m args) R E' s := by
  obtain ⟨f, fd, hf, hi, ht, hk, hb, F⟩ := O.ex
  obtain ⟨mA, OM, _⟩ := ins_get I.hok ea
  obtain ⟨od, J, _⟩ := OM.look
  refine PySem.W.special_fn I.kIn J hf ht ?_
  exact wpAny_mono (run_low (us := .ref a :: args) (vs := .ref a :: vs) F hr hfr hb I (.cons rfl r) h) (fun u s' z => hR u s' z) fun _ _ z => z
theorem own_unless {args : List Value} {vs : List V} {refuse : Sem Value} {R : Option Value → Shared → Prop} (O : Own X.prog X.w X.K X.mg X.base k C m ps sp) (hr : Room k A) (hfr : A.frames = X.A.frames) (I : Inv X pins σ H s) (ea : H a = some (.ins C dx fs)) (r : Vals vs args)
    (h : sp (.ref a :: vs) H Q E0) (hR : ∀ u s', EP X pins σ Q u s' → R (some u) s') : wpAny (model X.prog X.w) A (callSpecialUnlessNone? (.ref a) m args refuse) R E' s := by
  obtain ⟨f, fd, hf, hi, ht, hk, hb, F⟩ := O.ex
  obtain ⟨mA, OM, _⟩ := ins_get I.hok ea
  obtain ⟨od, J, _⟩ := OM.look
  unfold callSpecialUnlessNone? specialOf
  refine wpAny_bind (wpAny_bind (J.type.here ((PySem.W.looks_findIn I.kIn hf).here ?_)))
  refine wpAny_holding (wpAny_bind ((PySem.W.bind_fn I.kIn _ ht).here ?_))
  show wpAny _ _ (if (Value.ref f == Value.none) = true then _ else _) _ _ _
  rw [if_neg (show ¬ ((Value.ref f == Value.none) = true) from Bool.false_ne_true)]
  refine wpAny_bind (wpAny_mono (run_low (us := .ref a :: args) (vs := .ref a :: vs) F hr hfr hb I (.cons rfl r) h) (fun u s' z => wpAny_pure (hR u s' z)) fun _ _ z => z)
/-- x in o, x not in o, by o's own __contains__ -/
def rOwnIn (C : Addr) (sp : Sp) (neg : Bool) : R2 := fun x y H Q => ∃ (a dx : Addr) (fs : List (Str × V)), y = .ref a ∧ H a = some (.ins C dx fs) ∧ sp [.ref a, x] H (fun v H' => ∃ b, v = .bl b ∧ Q (.bl (if neg = true then !b else b)) H') E0
theorem contains_own {x : V} {u : Value} {R : Bool → Shared → Prop} {Qb : Bool → Hp → Prop} (O : Own X.prog X.w X.K X.mg X.base k C "__contains__" ps sp) (hr : Room k A) (hfr : A.frames = X.A.frames) (I : Inv X pins σ H s) (ea : H a = some (.ins C dx fs)) (r : RelV x u)
    (h : sp [.ref a, x] H (fun v H' => ∃ b, v = .bl b ∧ Qb b H') E0) (hR : ∀ b H' s', Inv X pins σ H' s' → Qb b H' → R b s') : wpAny (model X.prog X.w) A (contains (.ref a) u) R E' s := by
  obtain ⟨f, fd, hf, _⟩ := id O.ex
  obtain ⟨mA, OM, _⟩ := ins_get I.hok ea
  obtain ⟨od, J, _⟩ := OM.look
  unfold contains
  refine wpAny_holding ?_
  have e1 : stdlibNamesSay? (.ref a) u = none := by cases u <;> rfl
  rw [e1]
  dsimp only
  refine wpAny_bind ?_
  unfold specialOf
  refine wpAny_bind (J.type.here ((PySem.W.looks_findIn I.kIn hf).here ?_))
  show wpAny _ _ (if (some (Value.ref f) == some Value.none) = true then _ else _) _ _ _
  rw [if_neg (show ¬ ((some (Value.ref f) == some Value.none) = true) from Bool.false_ne_true)]
  refine wpAny_bind (own_unless (vs := [x]) O hr hfr I ea (.cons r .nil) h fun w' s' hz => ?_)
  obtain ⟨v, H', I', rv, b, rfl, q⟩ := hz
  cases rv
  exact wpAny_truthy_bool (hR b H' s' I' q)
theorem op_in_own (O : Own X.prog X.w X.K X.mg X.base k C "__contains__" ps sp) (hr : Room k X.A) : OpR X (compareOp .In) (rOwnIn C sp false) := by
  intro pins s σ H x y v u Q I rx ry h
  obtain ⟨a, dx, fs, rfl, ea, q⟩ := h
  cases ry
  show wpAny _ _ (contains (.ref a) v >>= fun z => pure (Value.bool z)) _ _ _
  exact wpAny_bind (contains_own O hr rfl I ea rx q fun b H' s' I' z => wpAny_pure ⟨.bl b, H', I', rfl, z⟩)
theorem op_notin_own (O : Own X.prog X.w X.K X.mg X.base k C "__contains__" ps sp) (hr : Room k X.A) : OpR X (compareOp .NotIn) (rOwnIn C sp true) := by
  intro pins s σ H x y v u Q I rx ry h
  obtain ⟨a, dx, fs, rfl, ea, q⟩ := h
  cases ry
  show wpAny _ _ (contains (.ref a) v >>= fun z => pure (Value.bool (!z))) _ _ _
  exact wpAny_bind (contains_own O hr rfl I ea rx q fun b H' s' I' z => wpAny_pure ⟨.bl (!b), H', I', rfl, z⟩)
/-- truth by an own __bool__ -/
theorem truthy_own {R : Bool → Shared → Prop} {Qb : Bool → Hp → Prop} (O : Own X.prog X.w X.K X.mg X.base k C "__bool__" ps sp) (hr : Room k A) (hfr : A.frames = X.A.frames) (I : Inv X pins σ H s) (ea : H a = some (.ins C dx fs))
    (h : sp [.ref a] H (fun v H' => ∃ b, v = .bl b ∧ Qb b H') E0) (hR : ∀ b H' s', Inv X pins σ H' s' → Qb b H' → R b s') : wpAny (model X.prog X.w) A (truthy (.ref a)) R E' s := by
  unfold truthy
  refine wpAny_bind (own_special (vs := []) (args := []) O hr hfr I ea .nil h fun w' s' hz => ?_)
  obtain ⟨v, H', I', rv, b, rfl, q⟩ := hz
  cases rv
  exact wpAny_pure (hR b H' s' I' q)
def rOwnTr (C : Addr) (sp : Sp) : V → Hp → (Bool → Hp → Prop) → Prop := fun x H Q => ∃ (a dx : Addr) (fs : List (Str × V)), x = .ref a ∧ H a = some (.ins C dx fs) ∧ sp [.ref a] H (fun v H' => ∃ b, v = .bl b ∧ Q b H') E0
/-- not o -/
theorem un_not_own (O : Own X.prog X.w X.K X.mg X.base k C "__bool__" ps sp) (hr : Room k X.A) : UnR X (unaryOp .Not) (fun x H Q => rOwnTr C sp x H fun b H' => Q (.bl (!b)) H') := by
  intro pins s σ H x v Q I rx h
  obtain ⟨a, dx, fs, rfl, ea, q⟩ := h
  cases rx
  unfold unaryOp
  refine wpAny_holding ?_
  show wpAny _ _ (truthy (.ref a) >>= fun z => pure (Value.bool (!z))) _ _ _
  exact wpAny_bind (truthy_own O hr rfl I ea q fun b H' s' I' z => wpAny_pure ⟨.bl (!b), H', I', rfl, z⟩)
theorem mono_truthy {M : Model} {E1 : Value → Shared → Prop} {x : Value} {R R' : Bool → Shared → Prop} (h : wpAny M A (truthy x) R E1 s) (hR : ∀ b s', R b s' → R' b s') : wpAny M A (truthy x) R' E1 s := wpAny_mono h (fun b s' z => hR b s' z) fun _ _ z => z
theorem bool_new_in (prog : Program) (w : World) (a : Addr) : MeetsIn prog w (Builtin.«bool.__new__» ⟨[.type "bool", .ref a], []⟩)
    (fun A R s => wpAny (model prog w) A.in1 (truthy (.ref a)) (fun b s' => R (.ok (.ret (.bool b))) s') (fun e s' => R (.error e) s') s) :=
  MeetsIn.of_wp fun A R s hs => by
    have f1 := F.conv_sub_bool
    repeat (any_goals (first | (with_reducible refine mono_truthy hs fun b s' hz => ?_) | wp_step))
    all_goals first | exact ⟨_, rfl, by assumption⟩ | skip
/-- bool(o) -/
theorem call_bool_own (O : Own X.prog X.w X.K X.mg X.base k C "__bool__" ps sp) (hr : Room (k + 2) X.A) : CallR X (.type "bool") (fun xs H Q => ∃ x, xs = [x] ∧ rOwnTr C sp x H fun b H' => Q (.bl b) H') := by
  intro pins s σ H xs us Q I r h
  obtain ⟨x, rfl, a, dx, fs, rfl, ea, q⟩ := h
  obtain rfl := Vals.ref1 r
  refine callType_newIn F.called_bool F.newNe_bool (F.typeCall_bool_1 _) (F.newCall_bool_1 _) (fun obj => F.args_object_init_2 obj _) F.entry_bool_new (bool_new_in X.prog X.w a) ?_
  exact truthy_own O hr.in1.in1 rfl I ea q fun b H' s' I' z => ⟨rfl, .bl b, H', I', rfl, z⟩
/-- C(e, ..) by a local name that holds the class -/
def tMakeL (i : Nat) (C : Addr) (sp : Sp) (t : TA) : TE := fun σ H Q => σ[i]? = some (some (.ref C)) ∧ tMake C sp [] E0 t σ H Q
theorem pe_makeL {f : Addr} {fd : FuncData} {i : Nat} {x : Str} {p pos : Pos} {e : Expr} {es : List Expr} {t : TA} (M : Mk X.K C f) (F : FnOk X.prog X.w X.K X.mg X.base CX0 k f fd ps sp) (hr : Room (k + 1) X.A) (hb : Binds X.K fd ps []) (ha : PA X (e :: es) t)
    (hN : X.N[i]? = some x := by rfl) (hv : Vis X.env.scope x := by first | exact Or.inl rfl | exact Or.inr (Or.inl rfl) | exact Or.inr (Or.inr rfl))
    (hdb : (x == ("__debug__" : Str)) = false := by decide) (hcd : (x == ("__classdict__" : Str)) = false := by decide)
    (hst : starEach (e :: es) X.env = (false, eval e X.env) :: starEach es X.env := by rfl) (hpl : (backTo pos (starEach es X.env)).any (·.1) = false := by rfl) : PE X (.Call (.Name x p) (e :: es) [] pos) (tMakeL i C sp t) := by
  refine ⟨fun pins s σ H Q I h => ?_⟩
  obtain ⟨hs, ht⟩ := h
  have hx := pe_var (X := X) (pos := p) hN hv hdb hcd
  refine wpAny_Call_Name_kw (thn (hx.run pins s σ H (fun v H1 => v = .ref C ∧ H1 = H) I ⟨.ref C, hs, rfl, rfl⟩) fun u s1 ⟨v, H1, I1, r1, q1⟩ => ?_)
  obtain ⟨rfl, rfl⟩ := q1
  cases r1
  exact PySem.W.callWith_K (h₀ := X.base) I.ok.mod.kin M.kp (thn (ha.run pos pins s1 σ _ _ I1 ht) fun us s2 ⟨vs, H2, I2, r, q⟩ => ⟨I2.kIn, run_make M F hr hb .nil pass0 I2 r q⟩) hst hpl
end
end Ef
set_option Elab.async false
set_option linter.all false
set_option maxRecDepth 100000
set_option maxHeartbeats 2000000
/-! comparisons by a class's own methods -/
namespace Ef
open PySem PySem.Spec PyProof.Rows L2
section
variable {X : Cx} {pins : List (Addr × Obj)} {σ : L2.St} {H : Hp} {s : Shared} {Q : VK} {k : Nat} {C a dx : Addr} {fs : List (Str × V)} {m : Str} {ps : List Str} {sp : Sp} {A : Around} {E' : Value → Shared → Prop}
/-- a slot of the class that holds a def: its call as a special one -/
theorem own_ifBound {args : List Value} {vs : List V} {R : Option Value → Shared → Prop} (O : Own X.prog X.w X.K X.mg X.base k C m ps sp) (hr : Room k A) (hfr : A.frames = X.A.frames) (I : Inv X pins σ H s) (ea : H a = some (.ins C dx fs)) (r : Vals vs args)
    (h : sp (.ref a :: vs) H Q E0) (hR : ∀ u s', EP X pins σ Q u s' → R (some u) s') : wpAny (model X.prog X.w) A (callSpecialIfBound? (.ref a) m args) R E' s := by
  obtain ⟨f, fd, hf, hi, ht, hk, hb, F⟩ := O.ex
  obtain ⟨mA, OM, _⟩ := ins_get I.hok ea
  obtain ⟨od, J, _⟩ := OM.look
  exact PySem.W.ifBound_K I.kIn J hf hi (wpAny_mono (run_low (us := .ref a :: args) (vs := .ref a :: vs) F hr hfr hb I (.cons rfl r) h) (fun u s' z => hR u s' z) fun _ _ z => z)
/-- what stands on the other side: of the same class, or a value of a built-in type -/
def Side (K : PySem.W.Frag) (C : Addr) (H : Hp) (y : V) : Prop := (∃ b dx fs, y = .ref b ∧ H b = some (.ins C dx fs)) ∨ (∃ b xs, y = .ref b ∧ H b = some (.lst xs))
/-- its type, and whether that is below the class -/
theorem side_type {y : V} {u : Value} {M : Model} (I : Inv X pins σ H s) (r : RelV y u) (h : Side X.K C H y) (hsub : PySem.W.subIn X.K (.type "list") (.ref C) = some false) : ∃ t : Value, PySem.W.Looks M s.heap (typeOf u) t ∧ ((t = .ref C) ∨ ((t != .ref C) = true ∧ PySem.W.Looks M s.heap (isSubtype t (.ref C)) false)) := by
  rcases h with ⟨b, dx, fs, rfl, e⟩ | ⟨b, xs, rfl, e⟩
  · cases r
    obtain ⟨mA, OM, _⟩ := ins_get I.hok e
    obtain ⟨od, J, _⟩ := OM.look
    exact ⟨.ref C, J.type, .inl rfl⟩
  · cases r
    obtain ⟨its, _, ht, _⟩ := I.list (.inl (.inl e))
    obtain ⟨o, ho, hc, _⟩ := ht.isList
    exact ⟨.type "list", fun A Q E s k q => wpAny_typeOf_ref (k b o ho) (by rw [hc]; exact q), .inr ⟨rfl, PySem.W.looks_subIn I.kIn hsub⟩⟩
def rOwnCmp (C : Addr) (sp : Sp) (K : PySem.W.Frag) (neg : Bool) : R2 := fun x y H Q => ∃ (a dx : Addr) (fs : List (Str × V)), x = .ref a ∧ H a = some (.ins C dx fs) ∧ Side K C H y ∧ sp [.ref a, y] H (fun v H' => ∃ b, v = .bl b ∧ Q (.bl (if neg = true then !b else b)) H') E0
/-- a op y by the left one's own method -/
theorem rich_own {op : CmpOp} {sym : String} {f r : Str} {y : V} {u : Value} {R : Value → Shared → Prop} {Qb : Bool → Hp → Prop} (hop : cmpInfo op = (sym, f, r)) (O : Own X.prog X.w X.K X.mg X.base k C f ps sp) (hr : Room k A) (hfr : A.frames = X.A.frames) (hsub : PySem.W.subIn X.K (.type "list") (.ref C) = some false)
    (I : Inv X pins σ H s) (ea : H a = some (.ins C dx fs)) (ry : RelV y u) (hs : Side X.K C H y) (h : sp [.ref a, y] H (fun v H' => ∃ b, v = .bl b ∧ Qb b H') E0) (hR : ∀ b H' s', Inv X pins σ H' s' → Qb b H' → R (.bool b) s') :
    wpAny (model X.prog X.w) A (richCompare op (.ref a) u) R E' s := by
  obtain ⟨mA, OM, _⟩ := ins_get I.hok ea
  obtain ⟨od, J, _⟩ := OM.look
  obtain ⟨t, Lt, ht⟩ := side_type (M := model X.prog X.w) I ry hs hsub
  have fin : wpAny (model X.prog X.w) A (tryCompare (.ref a) f u) (fun o s' => ∃ b H', o = some (.bool b) ∧ Inv X pins σ H' s' ∧ Qb b H') E' s := by
    unfold tryCompare
    refine wpAny_bind (own_ifBound (vs := [y]) O hr hfr I ea (.cons ry .nil) h fun w' s' hz => ?_)
    obtain ⟨v, H', I', rv, b, rfl, q⟩ := hz
    cases rv
    exact wpAny_pure ⟨b, H', rfl, I', q⟩
  unfold richCompare
  refine wpAny_holding (wpAny_bind (wpAny_cRoomFor (by have := hr.un; omega) ?_))
  rw [oneThing_ref]
  dsimp only
  rw [hop]
  dsimp only
  refine wpAny_bind (J.type.here (wpAny_bind (Lt.here ?_)))
  rcases ht with rfl | ⟨hne, Ls⟩
  · rw [if_neg (by simp)]
    refine wpAny_bind (wpAny_pure ?_)
    rw [if_neg (by decide)]
    refine wpAny_bind (wpAny_mono fin (fun o s' ⟨b, H', e, I', q⟩ => ?_) fun _ _ z => z)
    subst e
    exact wpAny_pure (hR b H' s' I' q)
  · have hne' : (Value.ref C != t) = true := by
      rw [bne_iff_ne] at hne ⊢
      exact fun z => hne z.symm
    rw [if_pos hne']
    refine wpAny_bind (Ls.here ?_)
    rw [if_neg (by decide)]
    refine wpAny_bind (wpAny_mono fin (fun o s' ⟨b, H', e, I', q⟩ => ?_) fun _ _ z => z)
    subst e
    exact wpAny_pure (hR b H' s' I' q)
/-- a op b by the left one's own method -/
theorem op_own {op : CmpOp} {sym : String} {f r : Str} (hop : cmpInfo op = (sym, f, r)) (hc : compareOp op = richCompare op) (O : Own X.prog X.w X.K X.mg X.base k C f ps sp) (hr : Room k X.A) (hsub : PySem.W.subIn X.K (.type "list") (.ref C) = some false) : OpR X (compareOp op) (rOwnCmp C sp X.K false) := by
  intro pins s σ H x y v u Q I rx ry h
  obtain ⟨a, dx, fs, rfl, ea, hs, q⟩ := h
  cases rx
  rw [hc]
  exact rich_own hop O hr rfl hsub I ea ry hs q fun b H' s' I' z => ⟨.bl b, H', I', rfl, z⟩
/-- a != b by the left one's own __eq__, where the class has no own __ne__ -/
theorem try_ne {y : V} {u : Value} {Qb : Bool → Hp → Prop} (O : Own X.prog X.w X.K X.mg X.base k C "__eq__" ps sp) (hr : Room (k + 1) A) (hfr : A.frames = X.A.frames) (hne : PySem.W.findIn X.K (.ref C) "__ne__" = some (some (.builtin "object.__ne__"))) (hmro : PySem.W.mroIn X.K C (.type "object") = some true)
    (I : Inv X pins σ H s) (ea : H a = some (.ins C dx fs)) (ry : RelV y u) (h : sp [.ref a, y] H (fun v H' => ∃ b, v = .bl b ∧ Qb b H') E0) :
    wpAny (model X.prog X.w) A (tryCompare (.ref a) "__ne__" u) (fun o s' => ∃ b H', o = some (.bool (!b)) ∧ Inv X pins σ H' s' ∧ Qb b H') E' s := by
  obtain ⟨mA, OM, _⟩ := ins_get I.hok ea
  obtain ⟨od, J, _⟩ := OM.look
  have body : wpAny (model X.prog X.w) A.in1 (Builtin.«object.__ne__» ⟨[.ref a, u], []⟩) (fun fin s' => ∃ b H', fin = Fin.done (Flow.ret (.bool (!b))) ∧ Inv X pins σ H' s' ∧ Qb b H') E' s := by
    unfold Builtin.«object.__ne__»
    refine wpAny_bind ?_
    unfold slotArgs
    refine wpAny_ite_false rfl (wpAny_ite_false rfl (wpAny_pure ?_))
    refine wpAny_bind (wpAny_cRoomFor (by have := hr.in1.un; omega) ?_)
    refine wpAny_bind (own_ifBound (vs := [y]) O hr.in1 (hfr) I ea (.cons ry .nil) h fun w' s' hz => ?_)
    obtain ⟨v, H', I', rv, b, rfl, q⟩ := hz
    cases rv
    refine wpAny_bind (wpAny_truthy_bool ?_)
    exact wpAny_pure ⟨b, H', rfl, I', q⟩
  have cl : wpAny (model X.prog X.w) A (call (.builtin "object.__ne__") [.ref a, u]) (fun v s' => ∃ b H', v = .bool (!b) ∧ Inv X pins σ H' s' ∧ Qb b H') E' s := by
    refine wpAny_call (codeAny_call_builtin F.cmp_object.ne.plain F.cmpEntry_ne (PySem.W.check_slot F.cmpKind_ne F.cmpSplit_ne (PySem.W.Looks.andThen J.type (PySem.W.looks_mroIn I.kIn hmro)) (F.cmpArgs_ne (.ref a) u) (wpAny_mono body (fun fin s' ⟨b, H', e, I', q⟩ => ?_) fun _ _ z => z)))
    subst e
    exact ⟨b, H', rfl, I', q⟩
  unfold tryCompare callSpecialIfBound? bindSpecialIfBound?
  refine wpAny_bind (wpAny_holding (wpAny_bind (wpAny_bind (wpAny_bind (J.type.here ((PySem.W.looks_findIn I.kIn hne).here ?_))))))
  have fin : wpAny (model X.prog X.w) A (do let r ← call (.builtin "object.__ne__") [.ref a, u]; pure (some r)) (fun o s' => wpAny (model X.prog X.w) A (match o with | some Value.notImplemented => pure none | none => pure none | some v => pure (some v)) (fun o s' => ∃ b H', o = some (.bool (!b)) ∧ Inv X pins σ H' s' ∧ Qb b H') E' s') E' s := by
    refine wpAny_bind (wpAny_mono cl (fun v s' ⟨b, H', e, I', q⟩ => wpAny_pure ?_) fun _ _ z => z)
    subst e
    exact wpAny_pure ⟨b, H', rfl, I', q⟩
  refine wpAny_bind (wpAny_askSetting (wpAny_ite ?_))
  split
  · exact wpAny_bind (wpAny_of_eq (F.cmp_object.ne.bind (.ref a)) (wpAny_pure fin))
  · exact wpAny_tryCatch (wpAny_bind (wpAny_of_eq (F.cmp_object.ne.bind (.ref a)) (wpAny_pure fin)))
theorem op_ne_own (O : Own X.prog X.w X.K X.mg X.base k C "__eq__" ps sp) (hr : Room (k + 1) X.A) (hsub : PySem.W.subIn X.K (.type "list") (.ref C) = some false) (hne : PySem.W.findIn X.K (.ref C) "__ne__" = some (some (.builtin "object.__ne__"))) (hmro : PySem.W.mroIn X.K C (.type "object") = some true) : OpR X (compareOp .NotEq) (rOwnCmp C sp X.K true) := by
  intro pins s σ H x y v u Q I rx ry h
  obtain ⟨a, dx, fs, rfl, ea, hs, q⟩ := h
  cases rx
  show wpAny _ _ (richCompare .NotEq (.ref a) u) _ _ _
  obtain ⟨mA, OM, _⟩ := ins_get I.hok ea
  obtain ⟨od, J, _⟩ := OM.look
  obtain ⟨t, Lt, ht⟩ := side_type (M := model X.prog X.w) I ry hs hsub
  have fin := try_ne (E' := X.xe) O hr rfl hne hmro I ea ry q
  unfold richCompare
  refine wpAny_holding (wpAny_bind (wpAny_cRoomFor (by have := hr.un; omega) ?_))
  rw [oneThing_ref]
  dsimp only [cmpInfo]
  refine wpAny_bind (J.type.here (wpAny_bind (Lt.here ?_)))
  rcases ht with rfl | ⟨hne, Ls⟩
  · rw [if_neg (by simp)]
    refine wpAny_bind (wpAny_pure ?_)
    rw [if_neg (by decide)]
    refine wpAny_bind (wpAny_mono fin (fun o s' ⟨b, H', e, I', q⟩ => ?_) fun _ _ z => z)
    subst e
    exact wpAny_pure ⟨.bl (!b), H', I', rfl, q⟩
  · have hne' : (Value.ref C != t) = true := by
      rw [bne_iff_ne] at hne ⊢
      exact fun z => hne z.symm
    rw [if_pos hne']
    refine wpAny_bind (Ls.here ?_)
    rw [if_neg (by decide)]
    refine wpAny_bind (wpAny_mono fin (fun o s' ⟨b, H', e, I', q⟩ => ?_) fun _ _ z => z)
    subst e
    exact wpAny_pure ⟨.bl (!b), H', I', rfl, q⟩
end
end Ef
set_option Elab.async false
set_option linter.all false
set_option maxRecDepth 100000
set_option maxHeartbeats 4000000
namespace Ef
open PySem PySem.Spec PyProof.Rows L2
abbrev sTrim : Stmt := top 15
abbrev sCom : Stmt := top 16
abbrev sCheck : Stmt := top 26
structure TxtQ (mg : Str → Option Value) : Prop extends TxtW mg where
  gcd : mg "gcd" = some (.builtin "math.gcd")
theorem Same.tup {K : PySem.W.Frag} {H H' : Hp} {a : Addr} {xs : List V} (e : Same H H') (h : SqT K H a xs) : SqT K H' a xs := by
  rcases h with (h | ⟨o, h⟩) | h
  · exact .inl (.inl (e _ _ h))
  · exact .inl (.inr ⟨o, e _ _ h⟩)
  · exact .inr h
theorem same_new {H : Hp} {p : Addr} {o : HO} (h : H p = none) : Same H (upd H p o) := fun b x e => by rw [upd_ne (ne_of_none e h)]; exact e
theorem same_mut {H0 H : Hp} {p : Addr} {o : HO} (h : Same H0 H) (hp : H0 p = none) : Same H0 (upd H p o) := fun b x e => by rw [upd_ne (ne_of_none e hp)]; exact h b x e
theorem dint (a b : Int) : decide (V.int a = V.int b) = decide (a = b) := by
  by_cases h : a = b
  · rw [decide_eq_true h, decide_eq_true (by rw [h])]
  · rw [decide_eq_false h, decide_eq_false (fun z => h (V.int.inj z))]
/-- a list or a tuple -/
def Seqs (K : PySem.W.Frag) (H : Hp) (a : Addr) (xs : List V) : Prop := SqL K H a xs ∨ SqT K H a xs
theorem Seqs.same {K : PySem.W.Frag} {H H' : Hp} {a : Addr} {xs : List V} (h : Seqs K H a xs) (e : Same H H') : Seqs K H' a xs := h.elim (fun h => .inl (e.seq h)) fun h => .inr (Same.tup e h)
theorem get_int {r : List Int} {k : Nat} (h : k < r.length) : ∃ c, r[k]? = some c ∧ (r.map V.int)[k]? = some (.int c) := ⟨r[k], List.getElem?_eq_getElem h, by rw [List.getElem?_map, List.getElem?_eq_getElem h]; rfl⟩
theorem atI_of {xs : List V} {i : Int} {j : Nat} {v : V} (e : i = (j : Int)) (h : xs[j]? = some v) : atI xs i = some v := at_of e h
theorem cut_hi (xs : List V) (k : Nat) (hk : k ≤ xs.length) : cutV xs none (some (k : Int)) = xs.take k := by
  unfold cutV
  rw [HT.sIx_none, HT.sIx_nat, Nat.min_eq_left hk, List.drop_zero, Nat.sub_zero]
theorem sl_seqs {K : PySem.W.Frag} {H : Hp} {a : Addr} {xs : List V} {lo hi : Option Int} {Q : VK} (h : Seqs K H a xs) (q : ∀ p H', Same H H' → Seqs K H' p (cutV xs lo hi) → Q (.ref p) H') : rSlL K (.ref a) lo hi H Q ∨ rSlA K (.ref a) lo hi H Q := by
  rcases h with h | h
  · exact .inl ⟨a, _, rfl, h, fun p hp => q p _ (same_new hp) (.inl (.inl (.inl upd_same)))⟩
  · refine .inr ⟨a, _, rfl, h, fun hw => ?_, fun hw p hp => q p _ (same_new hp) (.inr (.inl (.inl upd_same)))⟩
    refine q a H (Same.refl H) ?_
    have e2 : cutV xs lo hi = xs := by
      unfold cutV
      rw [hw.1, hw.2, List.drop_zero, Nat.sub_zero, List.take_length]
    rw [e2]
    exact .inr h
theorem ix_seqs {K : PySem.W.Frag} {H : Hp} {a : Addr} {xs : List V} {i : Int} {v : V} {Q : VK} (h : Seqs K H a xs) (e : atI xs i = some v) (q : Q v H) : rIx K (.ref a) (.int i) H Q := by
  rcases h with h | h
  · exact .inl ⟨a, _, _, _, rfl, rfl, h, e, q⟩
  · exact .inr (.inl ⟨a, _, _, _, rfl, rfl, h, e, q⟩)
section
variable {P : Program} {w : World} {K : PySem.W.Frag} {mg : Str → Option Value} {base : Heap}
/-! ### trimmed -/
def spTrim (K : PySem.W.Frag) : Sp := fun vs H Q _ => ∃ (a : Addr) (r : List Int), vs = [.ref a] ∧ Seqs K H a (r.map V.int) ∧ r.length ≤ 100 ∧ ∀ H' l t, Same H H' → H' l = some (.lst (t.map V.int)) → TrimOk r t → Q (.ref l) H'
theorem scTrim : FnScope ["row", "size"] ["row"] (defScope sTrim) := ⟨rfl, rfl, rfl, by decide +kernel, rfl, by decide +kernel, by decide +kernel⟩
theorem df_trim (A : At K mg "trimmed" sTrim) (T : TxtW mg) : Df P w K mg base 1 "trimmed" ["row"] (spTrim K) := by
  obtain ⟨f, fd, hm, F⟩ := A.ex
  refine ⟨f, fd, hm, F.kp, F.binds (fun _ _ _ _ _ _ us hl => match us, hl with | [_], _ => rfl), F.ok scTrim (fun vs H Q E h => ?_) (fun cdv A outer s H vs Q E hr h => ?_)⟩
  · obtain ⟨a, r, rfl, _⟩ := h
    rfl
  · obtain ⟨a, r, rfl, hS, hl, q⟩ := h
    refine ⟨_, (pss_cons (ps_set (i := 1) scTrim.nd rfl (.inl rfl) (pe_callB call_len_seq (by rfl) T.len PySem.boot_len (pa_cons (pv 0) pa_nil)))
      (pss_cons (ps_while PassesOwn.never (pw_and (pt_cmpR op_gt (pv 1) pe_int (nomark _)) (pw_and1 (pt_cmpR op_eq (pe_ix ix_seq (pv 0) (pe_op op_sub (pv 1) pe_int) (fun _ _ => rfl)) pe_int (nomark _)))).pt
      (pss_one (ps_set (i := 1) scTrim.nd rfl (.inl rfl) (pe_op op_sub (pv 1) pe_int))))
      (pss_one (ps_ret (pe_callTy call_list_of (by rfl) T.list (by decide +kernel) (pa_cons (pe_slice (sl_list.or sl_tupA) (pv 0) po_none (po_some (pv 1))) pa_nil)))))), ?_⟩
    refine ⟨_, rfl, a, _, rfl, hS, ?_⟩
    refine ⟨fun m σ H' => H' = H ∧ m ≤ r.length ∧ σ = [some (.ref a), some (.int (m : Int))] ∧ ∀ j, m ≤ j → j < r.length → r[j]? = some 0, ⟨r.length, rfl, Nat.le_refl _, by rw [List.length_map]; rfl, fun j h1 h2 => absurd h2 (by omega)⟩, fun m σ H' hW => ?_⟩
    obtain ⟨rfl, hm2, rfl, hz⟩ := hW
    have fin : ∀ (hk : m = 0 ∨ ∃ c, r[m - 1]? = some c ∧ c ≠ 0) (xs : List V), xs = (r.take m).map V.int → ∀ H1, Same H' H1 → ∀ l, H1 l = none → Q (.ref l) (upd H1 l (.lst xs)) := fun hk xs ex H1 s1 l hl' =>
      q _ l (r.take m) (s1.trans (same_new hl')) (by rw [upd_same, ex]) ⟨m, hm2, rfl, hz, hk⟩
    have ecut : cutV (r.map V.int) none (some (m : Int)) = (r.take m).map V.int := by rw [cut_hi _ m (by rw [List.length_map]; exact hm2), List.map_take]
    refine ⟨_, rfl, _, _, rfl, rfl, _, rfl, ?_⟩
    cases m with
    | zero =>
      refine iteF ?_
      refine ⟨_, rfl, _, rfl, _, rfl, sl_seqs hS fun p H1 s1 hp => ?_⟩
      exact ⟨p, _, rfl, hp, fin (.inl rfl) _ ecut H1 s1⟩
    | succ k =>
      rw [decide_eq_true (show (0 : Int) < ((k + 1 : Nat) : Int) by omega)]
      obtain ⟨c, hc, hc2⟩ := get_int (r := r) (k := k) (by omega)
      refine iteT ⟨_, rfl, _, rfl, _, _, rfl, rfl, ix_seqs hS (atI_of (j := k) (by omega) hc2) ⟨rfl, _, rfl, ?_⟩⟩
      rw [dint]
      refine ite2 (fun hb => ?_) (fun hb => ?_)
      · have hc0 := of_decide_eq_true hb
        subst hc0
        refine ⟨fun σ H2 => H2 = H' ∧ σ = [some (.ref a), some (.int (k : Int))], fun σ' H2 ⟨e1, e2⟩ => ⟨k, Nat.lt_succ_self k, e1, by omega, e2, fun j h1 h2 => ?_⟩, _, rfl, _, _, rfl, rfl, rfl, by show [some (V.ref a), some (V.int (((k + 1 : Nat) : Int) - 1))] = _; rw [show ((k + 1 : Nat) : Int) - 1 = (k : Int) by omega]⟩
        rcases Nat.lt_or_ge j (k + 1) with z | z
        · have e : j = k := by omega
          rw [e]; exact hc
        · exact hz j z h2
      · refine ⟨_, rfl, _, rfl, _, rfl, sl_seqs hS fun p H1 s1 hp => ?_⟩
        exact ⟨p, _, rfl, hp, fin (.inr ⟨c, hc, fun z => hb (decide_eq_true z)⟩) _ ecut H1 s1⟩
/-! ### common_divisor -/
def spCom (K : PySem.W.Frag) : Sp := fun vs H Q _ => ∃ (a : Addr) (t : List Int) (f : Nat), vs = [.int f, .ref a] ∧ SqL K H a (t.map V.int) ∧ Q (.int (gcdR f t : Nat)) H
theorem scCom : FnScope ["first", "row", "shared", "number"] ["first", "row"] (defScope sCom) := ⟨rfl, rfl, rfl, by decide +kernel, rfl, by decide +kernel, by decide +kernel⟩
theorem df_com (A : At K mg "common_divisor" sCom) (T : TxtQ mg) : Df P w K mg base 1 "common_divisor" ["first", "row"] (spCom K) := by
  obtain ⟨f, fd, hm, F⟩ := A.ex
  refine ⟨f, fd, hm, F.kp, F.binds (fun _ _ _ _ _ _ us hl => match us, hl with | [_, _], _ => rfl), F.ok scCom (fun vs H Q E h => ?_) (fun cdv A outer s H vs Q E hr h => ?_)⟩
  · obtain ⟨a, t, f, rfl, _⟩ := h
    rfl
  · obtain ⟨a, t, f, rfl, hS, q⟩ := h
    refine ⟨_, (pss_cons (ps_set (i := 2) scCom.nd rfl (.inl rfl) (pv 0))
      (pss_cons (ps_for PassesOwn.never rfl (pi_list (pv 1)) (pg_name (i := 3) scCom.nd rfl (.inl rfl))
      (pss_cons (ps_if (pt_cmpR op_eq (pv 2) pe_int (nomark _)) (pss_one (ps_ret pe_int)) pss_nil)
      (pss_one (ps_set (i := 2) scCom.nd rfl (.inl rfl) (pe_callBfun cr_gcd (by rfl) T.gcd (pa_cons (pv 2) (pa_cons (pv 3) pa_nil)))))))
      (pss_one (ps_ret (pv 2))))), ?_⟩
    refine ⟨_, rfl, _, rfl, a, rfl, ⟨_, hS⟩, for_list (K := K) (a := a) (xs := t.map V.int) (fun i σ H' => H' = H ∧ ∃ y : Option V, σ = [some (.int f), some (.ref a), some (.int (gcdR f (t.take i) : Nat)), y])
      ⟨rfl, none, rfl⟩ (fun i σ H' _ ⟨e, _⟩ => e ▸ hS) ?_ ?_⟩
    · rintro i x σ H' hi ⟨rfl, y, rfl⟩
      rw [List.getElem?_map] at hi
      obtain ⟨c, hc, rfl⟩ := Option.map_eq_some_iff.mp hi
      refine ⟨_, rfl, rfl, _, rfl, ?_⟩
      rw [dint]
      refine ite2 (fun hb => ?_) (fun hb => ?_)
      · have h1 : gcdR f (t.take i) = 1 := by have := of_decide_eq_true hb; omega
        have h2 : gcdR f t = 1 := by
          have e : gcdR f t = gcdR (gcdR f (t.take i)) (t.drop i) := by
            unfold gcdR
            rw [← List.foldl_append, List.take_append_drop]
          rw [e, h1, gcdR_one]
        rw [h2] at q
        exact q
      · exact ⟨_, rfl, _, rfl, _, _, rfl, rfl, some (.int c), by rw [gcdR_take_succ hc]; rfl⟩
    · rintro σ H' ⟨rfl, y, rfl⟩
      rw [List.length_map, List.take_length]
      exact ⟨_, rfl, q⟩
/-! ### errors with one field -/
/-- the error class x at C with one field f -/
structure ErrF (K : PySem.W.Frag) (mg : Str → Option Value) (x fl : Str) (C fI : Addr) : Prop where
  oex : OexC K C
  mgC : mg x = some (.ref C)
  iC : PySem.W.findIn K (.ref C) "__init__" = some (some (.ref fI))
  tI : PySem.W.typeIn K (.ref fI) = some (.type "function")
  nN : PySem.W.findIn K (.ref C) fl = some none
  xf : XfC K C
def spErr (K : PySem.W.Frag) (C : Addr) (fl : Str) : Sp := fun vs H Q _ => ∃ (a : Addr) (v : V), vs = [.ref a, v] ∧ H a = some (exo a C none) ∧ ∀ dx, H dx = none → dx ≠ a → Q .non (upd (upd H dx (exd dx [(fl, v)])) a (exo a C (some dx)))
/-- an error made and flying -/
theorem mk_err {C : Addr} {fl : Str} {H : Hp} {v : V} {R : XK} (h : ∀ d H', Same H H' → H d = none → H' d = some (.xd [(fl, v)]) → R (.ref C) (some d) H') :
    [v].length ≤ 1000 ∧ ∀ a, H a = none → spErr K C fl (.ref a :: ([v] ++ [])) (upd H a (exo a C none)) (fun v H2 => v = .non ∧ ∃ (d : Addr) (fs : List (Str × V)), H2 a = some (exo a C (some d)) ∧ H2 d = some (exd d fs) ∧ H d = none ∧ R (.ref C) (some d) (upd (del H2 a) d (.xd fs))) (fun _ _ _ => False) := by
  refine ⟨by show 1 ≤ 1000; decide, fun a ha => ⟨a, v, rfl, upd_same, fun dx h1 h2 => ⟨rfl, dx, _, upd_same, by rw [upd_ne h2, upd_same], ?_, ?_⟩⟩⟩
  · rw [upd_ne h2] at h1; exact h1
  · have hdx : H dx = none := by rw [upd_ne h2] at h1; exact h1
    refine h dx _ (fun b o e => ?_) hdx upd_same
    have nb : b ≠ dx := ne_of_none e hdx
    have na : b ≠ a := ne_of_none e ha
    rw [upd_ne nb]
    unfold del
    rw [if_neg na, upd_ne na, upd_ne nb, upd_ne na]
    exact e
theorem NotInt.same {H H' : Hp} {v : V} (h : NotInt K H v) (e : Same H H') : NotInt K H' v := by
  obtain ⟨n, b1, b2, ht, h1, h2, h3⟩ := h
  refine ⟨n, b1, b2, ?_, h1, h2, h3⟩
  cases ht with
  | base hb =>
    cases hb with
    | non => exact .base .non
    | bl x => exact .base (.bl x)
    | int x => exact .base (.int x)
    | str x => exact .base (.str x)
    | flt x => exact .base (.flt x)
    | lst h => exact .base (.lst (e _ _ h))
    | frz h => exact .base (.frz (e _ _ h))
    | tup h => exact .base (.tup (e _ _ h))
    | dK h => exact .base (.dK (e _ _ h))
    | dT h => exact .base (.dT (e _ _ h))
  | byt b => exact .byt b
  | set h => exact .set (e _ _ h)
  | kList h h' => exact .kList h h'
  | kTuple h h' => exact .kTuple h h'
  | kDict h h' => exact .kDict h h'
  | fTuple h => exact .fTuple (e _ _ h)
  | fDict h => exact .fDict (e _ _ h)
/-! ### _check_row -/
def spCheck (K : PySem.W.Frag) (CR : Addr) : Sp := fun vs H Q E => ∃ (a : Addr) (xs : List V), vs = [.ref a] ∧ Seqs K H a xs ∧ xs.length ≤ 1000 ∧
  ((∃ r : List Int, xs = r.map V.int ∧ ∀ H', Same H H' → Q .non H') ∨ (∃ (r : List Int) (v : V) (ys : List V), xs = r.map V.int ++ v :: ys ∧ NotInt K H v ∧ ∀ d H', Same H H' → H d = none → H' d = some (.xd [("index", .int (r.length : Int))]) → E (.ref CR) (some d) H'))
theorem scCheck : FnScope ["row", "index", "number"] ["row"] (defScope sCheck) := ⟨rfl, rfl, rfl, by decide +kernel, rfl, by decide +kernel, by decide +kernel⟩
/-- the first members are whole numbers -/
theorem check_step {K : PySem.W.Frag} {H H3 : Hp} {CR : Addr} {xs : List V} {i : Nat} {x : V} {Q : VK} {E : XK} (hx : xs[i]? = some x) (sm : Same H H3)
    (q : (∃ r : List Int, xs = r.map V.int ∧ ∀ H', Same H H' → Q .non H') ∨ (∃ (r : List Int) (v : V) (ys : List V), xs = r.map V.int ++ v :: ys ∧ NotInt K H v ∧ ∀ d H', Same H H' → H d = none → H' d = some (.xd [("index", .int (r.length : Int))]) → E (.ref CR) (some d) H'))
    (hi : ∀ (r : List Int) (v : V) (ys : List V), xs = r.map V.int ++ v :: ys → NotInt K H v → i ≤ r.length) :
    (∃ c, x = .int c ∧ ∀ (r : List Int) (v : V) (ys : List V), xs = r.map V.int ++ v :: ys → NotInt K H v → i + 1 ≤ r.length) ∨ (NotInt K H x ∧ ∀ d H', Same H H' → H d = none → H' d = some (.xd [("index", .int (i : Int))]) → E (.ref CR) (some d) H') := by
  rcases q with ⟨r, rfl, q⟩ | ⟨r, v, ys, rfl, hN, q⟩
  · rw [List.getElem?_map] at hx
    obtain ⟨c, hc, rfl⟩ := Option.map_eq_some_iff.mp hx
    refine .inl ⟨c, rfl, fun r2 v ys e hN => ?_⟩
    have h1 := hi r2 v ys e hN
    rcases Nat.lt_or_ge i r2.length with z | z
    · exact z
    · have ei : i = r2.length := by omega
      have e2 : (r.map V.int)[i]? = some v := by rw [e, ei, List.getElem?_append_right (by rw [List.length_map]; exact Nat.le_refl _), List.length_map, Nat.sub_self]; rfl
      rw [List.getElem?_map, hc] at e2
      injection e2 with e2
      obtain ⟨n, b1, b2, ht, k1, k2, k3⟩ := hN
      rw [← e2] at ht
      cases ht with
      | base hb =>
        cases hb
        have h1 : kitB "int" "int" = some true := by decide +kernel
        have h2 : kitB "int" "bool" = some false := by decide +kernel
        rw [h1] at k1; rw [h2] at k2
        injection k1 with k1; injection k2 with k2
        rw [← k1, ← k2] at k3
        cases k3
  · have h1 := hi r v ys rfl hN
    rcases Nat.lt_or_ge i r.length with z | z
    · rw [List.getElem?_append_left (by rw [List.length_map]; exact z), List.getElem?_map] at hx
      obtain ⟨c, hc, rfl⟩ := Option.map_eq_some_iff.mp hx
      refine .inl ⟨c, rfl, fun r2 v2 ys2 e hN2 => ?_⟩
      have h2 := hi r2 v2 ys2 e hN2
      rcases Nat.lt_or_ge i r2.length with w | w
      · exact w
      · have ei : i = r2.length := by omega
        have e2 : (r.map V.int ++ v :: ys)[i]? = some v2 := by rw [e, ei, List.getElem?_append_right (by rw [List.length_map]; exact Nat.le_refl _), List.length_map, Nat.sub_self]; rfl
        rw [List.getElem?_append_left (by rw [List.length_map]; exact z), List.getElem?_map, hc] at e2
        injection e2 with e2
        obtain ⟨n, b1, b2, ht, k1, k2, k3⟩ := hN2
        rw [← e2] at ht
        cases ht with
        | base hb =>
          cases hb
          have h1 : kitB "int" "int" = some true := by decide +kernel
          have h2 : kitB "int" "bool" = some false := by decide +kernel
          rw [h1] at k1; rw [h2] at k2
          injection k1 with k1; injection k2 with k2
          rw [← k1, ← k2] at k3
          cases k3
    · have ei : i = r.length := by omega
      subst ei
      rw [List.getElem?_append_right (by rw [List.length_map]; exact Nat.le_refl _), List.length_map, Nat.sub_self] at hx
      injection hx with hx
      rw [← hx]
      exact .inr ⟨hN, q⟩
end
end Ef
set_option Elab.async false
set_option linter.all false
/-! x is not True, for any x -/
namespace Ef
open PySem PySem.Spec PyProof.Rows L2
/-- no truth value -/
def NoBl : V → Prop
  | .int _ => True
  | .non => True
  | .str _ => True
  | .ref _ => True
  | _ => False
def rNotX : R2 := fun x y H Q => ∃ b : Bool, y = .bl b ∧ ((∃ a : Bool, x = .bl a ∧ Q (.bl (!decide (a = b))) H) ∨ (NoBl x ∧ Q (.bl true) H))
theorem op_notX {X : Cx} : OpR X (compareOp .IsNot) rNotX := by
  intro pins s σ H x y v u Q I rx ry h
  obtain ⟨b, rfl, ⟨a, rfl, q⟩ | ⟨hn, q⟩⟩ := h
  · exact op_notBl pins s σ H _ _ v u Q I rx ry ⟨a, b, rfl, rfl, q⟩
  · cases ry
    have fin : isSame v (.bool b) = pure false → wpAny (model X.prog X.w) X.A (compareOp .IsNot v (.bool b)) (EP X pins σ Q) X.xe s := fun e => by
      show wpAny _ _ (isSame v (.bool b) >>= fun z => pure (Value.bool !z)) _ _ _
      rw [e]
      exact wpAny_bind (wpAny_pure (wpAny_pure ⟨.bl true, H, I, rfl, q⟩))
    cases x with
    | int i =>
      obtain ⟨t, rfl⟩ := rx
      exact fin rfl
    | non => cases rx; exact fin rfl
    | str x =>
      obtain ⟨t, rfl⟩ := rx
      exact fin rfl
    | ref a => cases rx; exact fin rfl
    | _ => exact hn.elim
end Ef
set_option Elab.async false
set_option linter.all false
/-! x is not True, for any x at all -/
namespace Ef
open PySem PySem.Spec PyProof.Rows L2
def rNotA : R2 := fun x y H Q => ∃ b : Bool, y = .bl b ∧ ((∃ a : Bool, x = .bl a ∧ Q (.bl (!decide (a = b))) H) ∨ ((∀ c, x ≠ .bl c) ∧ Q (.bl true) H))
theorem op_notA {X : Cx} : OpR X (compareOp .IsNot) rNotA := by
  intro pins s σ H x y v u Q I rx ry h
  obtain ⟨b, rfl, ⟨a, rfl, q⟩ | ⟨hn, q⟩⟩ := h
  · exact op_notBl pins s σ H _ _ v u Q I rx ry ⟨a, b, rfl, rfl, q⟩
  · cases ry
    have fin : isSame v (.bool b) = pure false → wpAny (model X.prog X.w) X.A (compareOp .IsNot v (.bool b)) (EP X pins σ Q) X.xe s := fun e => by
      show wpAny _ _ (isSame v (.bool b) >>= fun z => pure (Value.bool !z)) _ _ _
      rw [e]
      exact wpAny_bind (wpAny_pure (wpAny_pure ⟨.bl true, H, I, rfl, q⟩))
    cases x with
    | bl c => exact absurd rfl (hn c)
    | int i =>
      obtain ⟨t, rfl⟩ := rx
      exact fin rfl
    | non => cases rx; exact fin rfl
    | str x =>
      obtain ⟨t, rfl⟩ := rx
      exact fin rfl
    | ref a => cases rx; exact fin rfl
    | byt x => obtain ⟨t, rfl⟩ := rx; exact fin rfl
    | flt x => obtain ⟨t, rfl⟩ := rx; exact fin rfl
    | ty x => cases rx; exact fin rfl
theorem NoBl.all {v : V} (h : NoBl v) : ∀ c, v ≠ .bl c := fun c e => by subst e; exact h
end Ef
set_option Elab.async false
set_option linter.all false
/-! x is True, for any x at all; what is no integer -/
namespace Ef
open PySem PySem.Spec PyProof.Rows L2
def rIsA : R2 := fun x y H Q => ∃ b : Bool, y = .bl b ∧ ((∃ a : Bool, x = .bl a ∧ Q (.bl (decide (a = b))) H) ∨ ((∀ c, x ≠ .bl c) ∧ Q (.bl false) H))
theorem op_isA {X : Cx} : OpR X (compareOp .Is) rIsA := by
  intro pins s σ H x y v u Q I rx ry h
  obtain ⟨b, rfl, ⟨a, rfl, q⟩ | ⟨hn, q⟩⟩ := h
  · exact op_isBl pins s σ H _ _ v u Q I rx ry ⟨a, b, rfl, rfl, q⟩
  · cases ry
    have fin : isSame v (.bool b) = pure false → wpAny (model X.prog X.w) X.A (compareOp .Is v (.bool b)) (EP X pins σ Q) X.xe s := fun e => by
      show wpAny _ _ (isSame v (.bool b) >>= fun z => pure (Value.bool z)) _ _ _
      rw [e]
      exact wpAny_bind (wpAny_pure (wpAny_pure ⟨.bl false, H, I, rfl, q⟩))
    cases x with
    | bl c => exact absurd rfl (hn c)
    | int i =>
      obtain ⟨t, rfl⟩ := rx
      exact fin rfl
    | non => cases rx; exact fin rfl
    | str x =>
      obtain ⟨t, rfl⟩ := rx
      exact fin rfl
    | ref a => cases rx; exact fin rfl
    | byt x => obtain ⟨t, rfl⟩ := rx; exact fin rfl
    | flt x => obtain ⟨t, rfl⟩ := rx; exact fin rfl
    | ty x => cases rx; exact fin rfl
theorem ty_cases {K : PySem.W.Frag} {H : Hp} {v : V} {n : String} {b1 b2 : Bool} (t : TyX K H v (.type n)) (k1 : kitB n "int" = some b1) (k2 : kitB n "bool" = some b2) (hb : (b1 && !b2) = false) :
    (∃ c, v = .bl c) ∨ (b1 = false ∧ ∀ c, v ≠ .bl c) := by
  cases b1 with
  | false =>
    by_cases h : ∃ c, v = .bl c
    · exact .inl h
    · exact .inr ⟨rfl, fun c e => h ⟨c, e⟩⟩
  | true =>
    cases b2 with
    | false => cases hb
    | true =>
      have no : ∀ {m : String}, kitB m "bool" = some false → m = n → False := fun h e => by
        rw [e, k2] at h; cases h
      cases t with
      | base b =>
        cases b with
        | bl c => exact .inl ⟨c, rfl⟩
        | non => exact (no (by decide +kernel) rfl).elim
        | int i => exact (no (by decide +kernel) rfl).elim
        | str x => exact (no (by decide +kernel) rfl).elim
        | flt x => exact (no (by decide +kernel) rfl).elim
        | lst e => exact (no (by decide +kernel) rfl).elim
        | frz e => exact (no (by decide +kernel) rfl).elim
        | tup e => exact (no (by decide +kernel) rfl).elim
        | dK e => exact (no (by decide +kernel) rfl).elim
        | dT e => exact (no (by decide +kernel) rfl).elim
      | byt b => exact (no (by decide +kernel) rfl).elim
      | set e => exact (no (by decide +kernel) rfl).elim
      | kList e c => exact (no (by decide +kernel) rfl).elim
      | kTuple e c => exact (no (by decide +kernel) rfl).elim
      | kDict e c => exact (no (by decide +kernel) rfl).elim
      | fTuple e => exact (no (by decide +kernel) rfl).elim
      | fDict e => exact (no (by decide +kernel) rfl).elim
theorem kit_int : kitB "int" "int" = some true := by decide +kernel
theorem kit_boolint : kitB "bool" "int" = some true := by decide +kernel
end Ef
set_option Elab.async false
set_option linter.all false
set_option maxRecDepth 100000
set_option maxHeartbeats 4000000
namespace Ef
open PySem PySem.Spec PyProof.Rows L2
abbrev sErrR : Stmt := inClass (top 4) 0
abbrev sErrU : Stmt := inClass (top 5) 0
section
variable {P : Program} {w : World} {K : PySem.W.Frag} {mg : Str → Option Value} {base : Heap}
theorem scErrR : FnScope ["self", "index"] ["self", "index"] (defScope sErrR) := ⟨rfl, rfl, rfl, by decide +kernel, rfl, by decide +kernel, by decide +kernel⟩
theorem scErrU : FnScope ["self", "under"] ["self", "under"] (defScope sErrU) := ⟨rfl, rfl, rfl, by decide +kernel, rfl, by decide +kernel, by decide +kernel⟩
theorem ok_errR {f C fI : Addr} {fd : FuncData} (F : Fun K "__init__" "BadRow.__init__" sErrR f fd) (T : ErrF K mg "BadRow" "index" C fI) : FnOk P w K mg base CX0 1 f fd ["self", "index"] (spErr K C "index") := by
  refine F.ok scErrR (fun vs H Q E h => ?_) (fun cdv A outer s H vs Q E hr h => ?_)
  · obtain ⟨a, v, rfl, _⟩ := h
    rfl
  · obtain ⟨a, v, rfl, ha, q⟩ := h
    refine ⟨_, (pss_one (ps_ost (pv 0) (pv 1))), ?_⟩
    exact ⟨_, rfl, _, rfl, a, C, rfl, T.oex, T.nN, .inl ⟨ha, fun dx h1 h2 => q dx h1 h2⟩⟩
theorem ok_errU {f C fI : Addr} {fd : FuncData} (F : Fun K "__init__" "BadUnder.__init__" sErrU f fd) (T : ErrF K mg "BadUnder" "under" C fI) : FnOk P w K mg base CX0 1 f fd ["self", "under"] (spErr K C "under") := by
  refine F.ok scErrU (fun vs H Q E h => ?_) (fun cdv A outer s H vs Q E hr h => ?_)
  · obtain ⟨a, v, rfl, _⟩ := h
    rfl
  · obtain ⟨a, v, rfl, ha, q⟩ := h
    refine ⟨_, (pss_one (ps_ost (pv 0) (pv 1))), ?_⟩
    exact ⟨_, rfl, _, rfl, a, C, rfl, T.oex, T.nN, .inl ⟨ha, fun dx h1 h2 => q dx h1 h2⟩⟩
/-- a def that may raise, by its name -/
structure DfX (P : Program) (w : World) (K : PySem.W.Frag) (mg : Str → Option Value) (base : Heap) (k : Nat) (x : Str) (ps : List Str) (sp : Sp) (f : Addr) (fd : FuncData) : Prop where
  at_ : mg x = some (.ref f)
  kp : PySem.W.keepIn K (.ref f) = true
  b : Binds K fd ps []
  F : FnOk P w K mg base (CX P w) k f fd ps sp
theorem dx_check {f CR fR : Addr} {fd fdR : FuncData} (hm : mg "_check_row" = some (.ref f)) (F : Fun K "_check_row" "_check_row" sCheck f fd) (T : TxtW mg) (ER : ErrF K mg "BadRow" "index" CR fR) (FR : FnOk P w K mg base CX0 1 fR fdR ["self", "index"] (spErr K CR "index")) (bR : Binds K fdR ["self", "index"] [])
    (Disint : Df P w K mg base 1 "is_int" ["value"] (spIsInt K)) : DfX P w K mg base 3 "_check_row" ["row"] (spCheck K CR) f fd := by
  refine ⟨hm, F.kp, F.binds (fun _ _ _ _ _ _ us hl => match us, hl with | [_], _ => rfl), F.okX scCheck (fun vs H Q E h => ?_) (fun cdv A outer s H vs Q E hr h => ?_)⟩
  · obtain ⟨a, xs, rfl, _⟩ := h
    rfl
  · obtain ⟨a, xs, rfl, hB, hl, q⟩ := h
    refine ⟨_, (pss_one (ps_for (passes_of rfl) rfl (pi_enumS (by rfl) T.enumerate (pa_cons (pv 0) pa_nil)) (pg_tup (by rfl) (pgs_cons (pg_name (i := 1) scCheck.nd rfl (.inl rfl)) (pgs_cons (pg_name (i := 2) scCheck.nd rfl (.inl rfl)) pgs_nil)))
      (pss_one (ps_if (pw_or (pt_not (pt_val (pe_callB call_isi (by rfl) T.isinstance (by decide +kernel) (pa_cons (pv 2) (pa_cons (pe_bltn (v := .ty "int") (by rfl) T.int (by decide +kernel) rfl) pa_nil))))) (pw_or (pt_cmpR op_isA (pv 2) pe_bl (nomark _)) (pw_or1 (pt_cmpR op_isA (pv 2) pe_bl (nomark _))))).pt (pss_one (ps_raise rfl (takes_of rfl rfl rfl rfl) (pmk_oex ER.oex ER.iC ER.tI FR (hr.mono (by decide)) bR .nil pass0 (by rfl) ER.mgC (pa_cons (pv 1) pa_nil)))) pss_nil)))), ?_⟩
    have hend : ∀ H', Same H H' → (∀ (r : List Int) (v : V) (ys : List V), xs = r.map V.int ++ v :: ys → NotInt K H v → xs.length ≤ r.length) → Q .non H' := fun H' sm hi => by
      rcases q with ⟨r, _, q⟩ | ⟨r, v, ys, e, hN, _⟩
      · exact q H' sm
      · have := hi r v ys e hN
        rw [e, List.length_append, List.length_map, List.length_cons] at this
        omega
    refine ⟨_, rfl, a, xs, rfl, ?_⟩
    rcases hB with hB | hB
    case' inl =>
      refine .inl ⟨hB, ?_⟩
      refine ⟨fun i m σ H3 => ∃ y2 y3, σ = [some (.ref a), y2, y3] ∧ i + m = xs.length ∧ Same H H3 ∧ ∀ (r : List Int) (v : V) (ys : List V), xs = r.map V.int ++ v :: ys → NotInt K H v → i ≤ r.length, ⟨xs.length, none, none, rfl, by omega, Same.refl H, fun _ _ _ _ _ => Nat.zero_le _⟩, fun i m σ H3 hW => ?_⟩
      have hsame : ∀ H3, Same H H3 → SqL K H3 a xs := fun H3 sm => sm.seq hB
    case' inr =>
      refine .inr ⟨hB, ?_⟩
      refine ⟨fun i m σ H3 => ∃ y2 y3, σ = [some (.ref a), y2, y3] ∧ i + m = xs.length ∧ Same H H3 ∧ ∀ (r : List Int) (v : V) (ys : List V), xs = r.map V.int ++ v :: ys → NotInt K H v → i ≤ r.length, ⟨xs.length, none, none, rfl, by omega, Same.refl H, fun _ _ _ _ _ => Nat.zero_le _⟩, fun i m σ H3 hW => ?_⟩
      have hsame : ∀ H3, Same H H3 → SqT K H3 a xs := fun H3 sm => Same.tup sm hB
    all_goals
      obtain ⟨y2, y3, rfl, em, sm, hI⟩ := hW
      by_cases hi : i < xs.length
      · obtain ⟨x, hx⟩ : ∃ x, xs[i]? = some x := ⟨xs[i], List.getElem?_eq_getElem hi⟩
        refine .inr ⟨⟨_, _, hsame _ sm, hx⟩, fun σ' H' => ∃ y2 y3, σ' = [some (.ref a), y2, y3] ∧ Same H H' ∧ ∀ (r : List Int) (v : V) (ys : List V), xs = r.map V.int ++ v :: ys → NotInt K H v → i + 1 ≤ r.length, fun σ' H' hN => ?_, fun y H' hy => ?_⟩
        · obtain ⟨z2, z3, e, sm', hI'⟩ := hN
          exact ⟨m - 1, by omega, z2, z3, e, by omega, sm', hI'⟩
        · obtain ⟨T, x1, rfl, nT, rfl, f1⟩ := hy
          have ex1 := Option.some.inj ((f1 _ (hsame _ sm)).symm.trans hx)
          subst ex1
          have sT : Same H (upd H3 T (.tup [.int (i : Nat), x1])) := sm.trans fun b o e => by rw [upd_ne (ne_of_none e nT)]; exact e
          refine ⟨T, _, rfl, .inl (.inl upd_same), rfl, _, _, rfl, _, _, rfl, rfl, ?_⟩
          generalize upd H3 T (.tup [.int (i : Nat), x1]) = H5 at sT ⊢
          rcases check_step hx sm q hI with ⟨c, rfl, hI'⟩ | ⟨hN, qE⟩
          · refine ⟨_, rfl, _, _, _, _, _, rfl, .ty "int", .base (.int c), kit_ty kit_int, true, rfl, iteF ?_⟩
            refine ⟨_, rfl, _, rfl, .inr ⟨fun c e => (nomatch e), _, rfl, iteF ?_⟩⟩
            exact ⟨_, rfl, _, rfl, .inr ⟨fun c e => (nomatch e), _, rfl, iteF ⟨_, _, rfl, sT, hI'⟩⟩⟩
          · have qF : E (.ref CR) = E (.ref CR) := rfl
            have flying : ∀ d H', Same H5 H' → H5 d = none → H' d = some (.xd [("index", .int (i : Int))]) → E (.ref CR) (some d) H' := fun d H' s2 hd hx => qE d H' (sT.trans s2) (sT.free hd) hx
            obtain ⟨nm, b1, b2, ht, k1, k2, hb⟩ := hN.same sT
            rcases ty_cases ht k1 k2 hb with ⟨c, rfl⟩ | ⟨rfl, hnb⟩
            · refine ⟨_, rfl, _, _, _, _, _, rfl, .ty "int", .base (.bl c), kit_ty kit_boolint, true, rfl, iteF ?_⟩
              refine ⟨_, rfl, _, rfl, .inl ⟨c, rfl, _, rfl, ?_⟩⟩
              cases c with
              | true => exact iteT ⟨_, rfl, mk_err (v := .int (i : Int)) (R := E) flying⟩
              | false => exact iteF ⟨_, rfl, _, rfl, .inl ⟨false, rfl, _, rfl, iteT ⟨_, rfl, mk_err (v := .int (i : Int)) (R := E) flying⟩⟩⟩
            · refine ⟨_, rfl, _, _, _, _, _, rfl, .ty "int", ht, kit_ty k1, false, rfl, iteT ?_⟩
              exact ⟨_, rfl, mk_err (v := .int (i : Int)) (R := E) flying⟩
      · exact .inl ⟨⟨_, hsame _ sm, by omega⟩, hend _ sm fun r v ys e hN => by have := hI r v ys e hN; omega⟩
end
end Ef
set_option Elab.async false
set_option linter.all false
set_option maxRecDepth 100000
set_option maxHeartbeats 4000000
namespace Ef
open PySem PySem.Spec PyProof.Rows L2
abbrev sInit : Stmt := inClass (top 24) 0
abbrev sEq : Stmt := inClass (top 24) 6
/-- the attributes -/
def pf (ra : Addr) (u : Int) : List (Str × V) := putF "under" (.int u) (putF "row" (.ref ra) [])
/-- at p a piece of the row r over u -/
def PAt (K : PySem.W.Frag) (C : Addr) (H : Hp) (p : Addr) (r : List Int) (u : Nat) : Prop := ∃ dx ra : Addr, H p = some (.ins C dx (pf ra u)) ∧ SqT K H ra (r.map V.int)
theorem PAt.same {K : PySem.W.Frag} {C : Addr} {H H' : Hp} {p : Addr} {r : List Int} {u : Nat} (h : PAt K C H p r u) (e : Same H H') : PAt K C H' p r u := by
  obtain ⟨dx, ra, h1, h2⟩ := h
  exact ⟨dx, ra, e _ _ h1, Same.tup e h2⟩
/-- the class, what the text has of it -/
structure ClsP (K : PySem.W.Frag) (mg : Str → Option Value) (C : Addr) : Prop where
  cl : Cls K C
  mgC : mg "Piece" = some (.ref C)
  nR : NoAttr K C "row"
  nU : NoAttr K C "under"
theorem sqt_upd {K : PySem.W.Frag} {H : Hp} {a p C dx : Addr} {fs : List (Str × V)} {xs : List V} {o : HO} (h : SqT K H a xs) (hp : H p = some (.ins C dx fs)) : SqT K (upd H p o) a xs := by
  rcases h with (h | ⟨z, h⟩) | h
  · exact .inl (.inl (by rw [upd_ne (ne_of h hp (by intro q; cases q))]; exact h))
  · exact .inl (.inr ⟨z, by rw [upd_ne (ne_of h hp (by intro q; cases q))]; exact h⟩)
  · exact .inr h
theorem lk_ne {f g : Str} {v : V} {fs : List (Str × V)} (h : ¬ g = f) : (putF f v fs).lookup g = fs.lookup g := by rw [lookup_putF, if_neg h]
theorem lk_eq {f : Str} {v : V} {fs : List (Str × V)} : (putF f v fs).lookup f = some v := by rw [lookup_putF, if_pos rfl]
theorem pf_under {ra : Addr} {u : Int} : (pf ra u).lookup ("under" : Str) = some (.int u) := lk_eq
theorem pf_row {ra : Addr} {u : Int} : (pf ra u).lookup ("row" : Str) = some (.ref ra) := (lk_ne (by decide +kernel)).trans lk_eq
section
variable {P : Program} {w : World} {K : PySem.W.Frag} {mg : Str → Option Value} {base : Heap}
/-- no integer from 1 on -/
def BadUn (K : PySem.W.Frag) (H : Hp) (v : V) : Prop := (NotInt K H v ∧ v ≠ .bl false) ∨ ∃ i : Int, v = .int i ∧ i < 1
def spInit (K : PySem.W.Frag) (C CR CU : Addr) : Sp := fun vs H Q E => ∃ (H0 : Hp) (p dx a : Addr) (xs : List V) (v : V), vs = [.ref p, .ref a, v] ∧ Same H0 H ∧ H0 p = none ∧ H p = some (.ins C dx []) ∧ Seqs K H0 a xs ∧ xs.length ≤ 100 ∧
  ((∃ (r : List Int) (z : V) (ys : List V), xs = r.map V.int ++ z :: ys ∧ NotInt K H0 z ∧ ∀ d H', Same H0 H' → H0 d = none → H' d = some (.xd [("index", .int (r.length : Int))]) → E (.ref CR) (some d) H') ∨
   (∃ r : List Int, xs = r.map V.int ∧ ((∃ un : Nat, v = .int (un : Int) ∧ 0 < un ∧ Bd 8000 (un : Int) ∧ ∀ (pr : List Int) (u : Nat) (H' : Hp), Low r un pr u → Same H0 H' → PAt K C H' p pr u → Q .non H') ∨
     (BadUn K H0 v ∧ ∀ d H', Same H0 H' → H0 d = none → H' d = some (.xd [("under", v)]) → E (.ref CU) (some d) H'))))
theorem scInit : FnScope ["self", "row", "under", "numbers", "shared", "number"] ["self", "row", "under"] (defScope sInit) := ⟨rfl, rfl, rfl, by decide +kernel, rfl, by decide +kernel, by decide +kernel⟩
theorem binds_init {f : Addr} {fd : FuncData} (F : FunD K "__init__" "Piece.__init__" (defArgs sInit) (defBody sInit) (defScope sInit) [V.int 1] [] f fd) : Binds K fd ["self", "row", "under"] [] := by
  have z : ∃ ds, Vals (List.drop 1 [V.int 1]) ds ∧ Binds K fd ["self", "row", "under"] ds := by
    refine F.binds1 (ps := ["self", "row", "under"]) 3 1 (fun z => by cases z) rfl (fun T kV doc pm an cdv ct us its hu hi => ?_)
    match us, hu, its, hi with
    | [_, _, _], _, [_], _ => exact ⟨_, rfl, rfl⟩
  obtain ⟨ds, hv, hb⟩ := z
  cases hv
  exact hb
theorem binds_init1 {f : Addr} {fd : FuncData} (F : FunD K "__init__" "Piece.__init__" (defArgs sInit) (defBody sInit) (defScope sInit) [V.int 1] [] f fd) : ∃ ds, Vals [.int 1] ds ∧ Binds K fd ["self", "row", "under"] ds := by
  refine F.binds1 (ps := ["self", "row", "under"]) 2 0 (fun z => by cases z) rfl (fun T kV doc pm an cdv ct us its hu hi => ?_)
  match us, hu, its, hi with
  | [_, _], _, [_], _ => exact ⟨_, rfl, rfl⟩
theorem ok_init {f C CR CU fU fk : Addr} {fd fdU fdk : FuncData} (F : FunD K "__init__" "Piece.__init__" (defArgs sInit) (defBody sInit) (defScope sInit) [V.int 1] [] f fd) (T : TxtQ mg) (CW : ClsP K mg C)
    (EU : ErrF K mg "BadUnder" "under" CU fU) (FU : FnOk P w K mg base CX0 1 fU fdU ["self", "under"] (spErr K CU "under")) (bU : Binds K fdU ["self", "under"] []) (CKR : DfX P w K mg base 3 "_check_row" ["row"] (spCheck K CR) fk fdk)
    (Disintfrom : Df P w K mg base 2 "is_int_from" ["value", "low"] (spFrom K)) (Dtrimmed : Df P w K mg base 1 "trimmed" ["row"] (spTrim K)) (Dcommondivisor : Df P w K mg base 1 "common_divisor" ["first", "row"] (spCom K)) :
    FnOk P w K mg base (CX P w) 4 f fd ["self", "row", "under"] (spInit K C CR CU) := by
  refine FunD.ok F scInit (fun vs H Q E h => ?_) (fun cdv A outer s H vs Q E hr h => ?_)
  · obtain ⟨H0, p, dx, a, xs, v, rfl, _⟩ := h
    rfl
  · obtain ⟨H0, p, dx, a, xs, v, rfl, s0, p0, hp, hS, hl, q⟩ := h
    refine ⟨_, (pss_cons (ps_expr (pe_callS CKR.F (hr.mono (by decide)) (by rfl) CKR.at_ CKR.kp CKR.b (fun σ => passAt (takes_of rfl rfl rfl rfl) σ) (pa_cons (pv 1) pa_nil)))
      (pss_cons (ps_if (pw_or (pt_not (pt_val (pe_callB call_isi (by rfl) T.isinstance (by decide +kernel) (pa_cons (pv 2) (pa_cons (pe_bltn (v := .ty "int") (by rfl) T.int (by decide +kernel) rfl) pa_nil))))) (pw_or (pt_cmpR op_isA (pv 2) pe_bl (nomark _)) (pw_or1 (pt_cmpR op_lt (pv 2) pe_int (nomark _))))).pt (pss_one (ps_raise rfl (takes_of rfl rfl rfl rfl) (pmk_oex EU.oex EU.iC EU.tI FU (hr.mono (by decide)) bU .nil pass0 (by rfl) EU.mgC (pa_cons (pv 2) pa_nil)))) pss_nil)
      (pss_cons (ps_set (i := 3) scInit.nd rfl (.inl rfl) (Dtrimmed.call (hr.mono (by decide)) (pa_cons (pv 1) pa_nil)))
      (pss_cons (ps_set (i := 4) scInit.nd rfl (.inr rfl) (pe_ifExp (pt_cmpR op_gt (pv 2) pe_int (nomark _)) (Dcommondivisor.call (hr.mono (by decide)) (pa_cons (pv 2) (pa_cons (pv 3) pa_nil))) pe_int))
      (pss_cons (ps_fld (pv 0) (pe_callTy call_tuple_of (by rfl) T.tuple (by decide +kernel) (pa_cons (pe_ifExp (pt_cmpR op_eq (pv 4) pe_int (nomark _)) (pv 3) (pe_lc (own := [("number", 5)]) (g := gName 5) (by rfl) scInit.nd (pi_list (pv 3)) (blkOk_by (own := [("number", 5)]) (N := ["self", "row", "under", "numbers", "shared", "number"]) (sc := defScope sInit) (by decide +kernel)) (fun _ _ _ _ _ => pg_name (i := 5) scInit.nd rfl (Or.inl rfl)) (fun _ _ _ _ _ => pts_nil) (fun _ _ _ _ _ => (pe_op op_fdivW (pv 5) (pv 4))))) pa_nil)) rfl)
      (pss_one (ps_fld (pv 0) (pe_op op_fdivW (pv 2) (pv 4)) rfl))))))), ?_⟩
    refine ⟨_, rfl, a, xs, rfl, hS.same s0, by omega, ?_⟩
    rcases q with ⟨r, z, ys, e, hN, q⟩ | ⟨r, rfl, q⟩
    · exact .inr ⟨r, z, ys, e, hN.same s0, fun d H' s1 hd hx => q d H' (s0.trans s1) (s0.free hd) hx⟩
    refine .inl ⟨r, rfl, fun H1 s1 => ?_⟩
    have s01 := s0.trans s1
    rw [List.length_map] at hl
    rcases q with ⟨un, rfl, hu, hub, q⟩ | ⟨hB, q⟩
    case' inr =>
      rcases hB with ⟨hN, hf⟩ | ⟨i, rfl, hi⟩
      · have flying : ∀ d H', Same H1 H' → H1 d = none → H' d = some (.xd [("under", v)]) → E (.ref CU) (some d) H' := fun d H' s2 hd hx => q d H' (s01.trans s2) (s01.free hd) hx
        obtain ⟨nm, b1, b2, ht, k1, k2, hb⟩ := hN.same s01
        rcases ty_cases ht k1 k2 hb with ⟨c, rfl⟩ | ⟨rfl, hnb⟩
        · cases c with
          | false => exact absurd rfl hf
          | true =>
            refine ⟨_, rfl, _, _, _, _, _, rfl, .ty "int", .base (.bl true), kit_ty kit_boolint, true, rfl, iteF ?_⟩
            exact ⟨_, rfl, _, rfl, .inl ⟨true, rfl, _, rfl, iteT ⟨_, rfl, mk_err (v := .bl true) (R := E) flying⟩⟩⟩
        · refine ⟨_, rfl, _, _, _, _, _, rfl, .ty "int", ht, kit_ty k1, false, rfl, iteT ?_⟩
          exact ⟨_, rfl, mk_err (v := v) (R := E) flying⟩
      · refine ⟨_, rfl, _, _, _, _, _, rfl, .ty "int", .base (.int i), kit_ty kit_int, true, rfl, iteF ?_⟩
        refine ⟨_, rfl, _, rfl, .inr ⟨fun c e => (nomatch e), _, rfl, iteF ?_⟩⟩
        refine ⟨_, rfl, _, _, rfl, rfl, _, rfl, ?_⟩
        rw [decide_eq_true hi]
        refine iteT ?_
        exact ⟨_, rfl, mk_err (v := .int i) (R := E) fun d H' s2 hd hx => q d H' (s01.trans s2) (s01.free hd) hx⟩
    refine ⟨_, rfl, _, _, _, _, _, rfl, .ty "int", .base (.int (un : Int)), kit_ty kit_int, true, rfl, iteF ?_⟩
    refine ⟨_, rfl, _, rfl, .inr ⟨fun c e => (nomatch e), _, rfl, iteF ?_⟩⟩
    refine ⟨_, rfl, _, _, rfl, rfl, _, rfl, ?_⟩
    rw [decide_eq_false (show ¬ (un : Int) < 1 by omega)]
    refine iteF ?_
    refine ⟨_, rfl, a, r, rfl, hS.same s01, hl, fun H2 l t s2 h2 ht => ?_⟩
    have s02 := s01.trans s2
    have hg := gcdR_pos (t := t) hu
    obtain ⟨gd1, gd2⟩ := gcdR_dvd t un
    have hgb : Bd 8000 ((gcdR un t : Nat) : Int) := by
      have h1 := Nat.le_of_dvd hu gd1
      unfold Bd at *
      rw [Int.natAbs_natCast] at *
      exact Nat.lt_of_le_of_lt h1 hub
    have hLow := Low.of_trim ht hu
    have h1g : un = 1 → gcdR un t = 1 := fun e => by rw [e]; exact gcdR_one t
    have hp2 : H2 p = some (.ins C dx []) := s2 _ _ (s1 _ _ hp)
    have htl : t.length ≤ 100 := by
      obtain ⟨k, hk, rfl, _⟩ := ht
      rw [List.length_take]; omega
    have fin : ∀ (ra : Addr) (H4 : Hp) (g : Nat), gcdR un t = g → Same H2 H4 → SqT K H4 ra ((t.map fun c => c / (g : Int)).map V.int) →
        Q .non (upd H4 p (.ins C dx (putF "under" (.int ((un / g : Nat) : Int)) (putF "row" (.ref ra) [])))) := fun ra H4 g hgg s4 e4 => by
      subst hgg
      exact q _ _ _ hLow (same_mut (s02.trans s4) p0) ⟨dx, ra, upd_same, sqt_upd e4 (s4 _ _ hp2)⟩
    have one : ∀ (ra : Addr), H2 ra = none → SqT K (upd H2 ra (.tup (t.map V.int))) ra ((t.map fun c => c / ((1 : Nat) : Int)).map V.int) := fun ra hra => by
      rw [show (t.map fun c => c / ((1 : Nat) : Int)) = t from (List.map_congr_left fun c _ => Int.ediv_one c).trans (List.map_id _)]
      exact .inl (.inl upd_same)
    -- shared
    refine ⟨_, rfl, _, _, rfl, rfl, _, rfl, ?_⟩
    refine ite2 (fun hb => ?_) (fun hb => ?_)
    · refine ⟨_, rfl, _, rfl, l, t, un, rfl, .inl (.inl h2), ?_⟩
      generalize hgg : gcdR un t = g at hg hgb ⊢
      have hgi : (0 : Int) < (g : Int) := by omega
      -- self.row
      refine ⟨_, rfl, rfl, _, rfl, ?_⟩
      by_cases hg1 : g = 1
      · subst hg1
        refine iteT ⟨_, rfl, l, _, rfl, .inl ⟨.inl (.inl h2), fun ra hra => ?_⟩⟩
        have s4 := same_new (o := .tup (t.map V.int)) hra
        have e4 := one ra hra
        generalize upd H2 ra (.tup (t.map V.int)) = H4 at s4 e4 ⊢
        refine ⟨_, rfl, p, C, dx, _, rfl, s4 _ _ hp2, CW.cl, CW.nR, (by show 0 < 1000; decide), ?_⟩
        refine ⟨_, rfl, _, rfl, _, _, rfl, rfl, wide_div hgi hgb (by decide) (by decide), _, rfl, p, C, dx, _, rfl, upd_same, CW.cl, CW.nU, (by show 1 < 1000; decide), ?_⟩
        rw [upd_upd]
        exact fin ra H4 1 hgg s4 e4
      rw [decide_eq_false (show ¬ V.int (g : Int) = V.int 1 from fun z => hg1 (by injection z with z; omega))]
      refine iteF ⟨_, rfl, l, rfl, ⟨_, .inl (.inl h2)⟩, fun D hD => ?_⟩
      refine lc_list (K := K) (a := l) (xs := t.map V.int) (fun i H' => Same H2 H' ∧ H' D = some (.lst (((t.take i).map fun c => c / (g : Int)).map V.int))) ⟨same_new hD, upd_same⟩ (fun i H' _ hh => .inl (.inl (hh.1 _ _ h2))) ?_ ?_
      · rintro i x H' hi ⟨sx, hx⟩
        rw [List.getElem?_map] at hi
        obtain ⟨c, hc, rfl⟩ := Option.map_eq_some_iff.mp hi
        refine ⟨rfl, _, rfl, _, rfl, _, _, rfl, rfl, wide_div hgi hgb (by decide) (by decide), _, hx, ?_, same_mut sx hD, ?_⟩
        · rw [List.length_map, List.length_map, List.length_take]
          exact Nat.lt_of_le_of_lt (show min i t.length ≤ 100 by omega) (by decide)
        · rw [upd_same, List.take_succ, hc, Option.toList_some, List.map_append, List.map_append]
          rfl
      · rintro H3 ⟨s3, h3⟩
        rw [List.length_map, List.take_length] at h3
        refine ⟨D, _, rfl, .inl ⟨.inl (.inl h3), fun ra hra => ?_⟩⟩
        have s4 := s3.trans (same_new (o := .tup ((t.map fun c => c / (g : Int)).map V.int)) hra)
        have e4 : SqT K (upd H3 ra (.tup ((t.map fun c => c / (g : Int)).map V.int))) ra ((t.map fun c => c / (g : Int)).map V.int) := .inl (.inl upd_same)
        generalize upd H3 ra (.tup ((t.map fun c => c / (g : Int)).map V.int)) = H4 at s4 e4 ⊢
        refine ⟨_, rfl, p, C, dx, _, rfl, s4 _ _ hp2, CW.cl, CW.nR, (by show 0 < 1000; decide), ?_⟩
        -- self.under
        refine ⟨_, rfl, _, rfl, _, _, rfl, rfl, wide_div hgi hgb (by decide) (by decide), _, rfl, p, C, dx, _, rfl, upd_same, CW.cl, CW.nU, (by show 1 < 1000; decide), ?_⟩
        rw [upd_upd]
        exact fin ra H4 g hgg s4 e4
    · have hu1 : un = 1 := by
        have : ¬ (1 : Int) < (un : Int) := fun z => hb (decide_eq_true z)
        omega
      refine ⟨_, rfl, rfl, _, rfl, iteT ⟨_, rfl, l, _, rfl, .inl ⟨.inl (.inl h2), fun ra hra => ?_⟩⟩⟩
      have s4 := same_new (o := .tup (t.map V.int)) hra
      have e4 := one ra hra
      generalize upd H2 ra (.tup (t.map V.int)) = H4 at s4 e4 ⊢
      refine ⟨_, rfl, p, C, dx, _, rfl, s4 _ _ hp2, CW.cl, CW.nR, (by show 0 < 1000; decide), ?_⟩
      refine ⟨_, rfl, _, rfl, _, _, rfl, rfl, wide_div (b := 8000) (by decide) (show Bd 8000 1 from by unfold Bd; decide) (by decide) (by decide), _, rfl, p, C, dx, _, rfl, upd_same, CW.cl, CW.nU, (by show 1 < 1000; decide), ?_⟩
      rw [upd_upd]
      exact fin ra H4 1 (h1g hu1) s4 e4
/-! ### == -/
def spEq (K : PySem.W.Frag) (C : Addr) : Sp := fun vs H Q _ => ∃ (p : Addr) (y : V) (r1 : List Int) (u1 : Nat), vs = [.ref p, y] ∧ PAt K C H p r1 u1 ∧ r1.length ≤ 1000 ∧
  ((∃ (b : Addr) (r2 : List Int) (u2 : Nat), y = .ref b ∧ PAt K C H b r2 u2 ∧ r2.length ≤ 1000 ∧ Q (.bl (decide (r1 = r2 ∧ u1 = u2))) H) ∨ (∃ (b : Addr) (xs : List V), y = .ref b ∧ H b = some (.lst xs) ∧ Q (.bl false) H))
theorem scEq : FnScope ["self", "other"] ["self", "other"] (defScope sEq) := ⟨rfl, rfl, rfl, by decide +kernel, rfl, by decide +kernel, by decide +kernel⟩
structure ClsQ (K : PySem.W.Frag) (mg : Str → Option Value) (C : Addr) : Prop extends ClsP K mg C where
  cc : PySem.W.findIn K (.ref C) "__class__" = some (some (.builtin "object.__class__"))
  cg : PySem.W.specialIn K (.builtin "object.__class__") "__get__" = some (some (.builtin "getset_descriptor.__get__"))
  ct : PySem.W.takesIn K (.builtin "object.__class__") = some true
  co : PySem.W.mroIn K C (.type "object") = some true
  sl : PySem.W.subIn K (.type "list") (.ref C) = some false
theorem eqv_ints : ∀ as bs : List Int, PyData.eqvAll (as.map PyData.int) (bs.map PyData.int) = decide (as = bs)
  | [], [] => rfl
  | [], _ :: _ => rfl
  | _ :: _, [] => rfl
  | a :: as, b :: bs => by
    show (PyData.eqv (.int a) (.int b) && PyData.eqvAll (as.map PyData.int) (bs.map PyData.int)) = _
    rw [eqv_ints as bs]
    show (decide (a = b) && decide (as = bs)) = decide (a :: as = b :: bs)
    by_cases h1 : a = b <;> by_cases h2 : as = bs <;> simp [h1, h2]
theorem ok_eq {f C : Addr} {fd : FuncData} (F : Fun K "__eq__" "Piece.__eq__" sEq f fd) (T : TxtQ mg) (CW : ClsQ K mg C) (hli : PySem.W.kitOne K (.type "list") (.ref C) = some false) : FnOk P w K mg base CX0 1 f fd ["self", "other"] (spEq K C) := by
  refine F.ok scEq (fun vs H Q E h => ?_) (fun cdv A outer s H vs Q E hr h => ?_)
  · obtain ⟨p, y, r1, u1, rfl, _⟩ := h
    rfl
  · obtain ⟨p, y, r1, u1, rfl, ⟨dx, ra, h1, h2⟩, hl1, q⟩ := h
    refine ⟨_, (pss_one (ps_ret (pe_and (pe_callB call_isi (by rfl) T.isinstance (by decide +kernel) (pa_cons (pv 1) (pa_cons (pe_glob (v := .ref C) (by rfl) CW.mgC rfl) pa_nil))) (pe_and (pe_cmpR (op_eqD hr.units) (pe_fld (pv 0) rfl) (pe_fld (pv 1) rfl) (nomark _)) (pe_one (pe_cmpR op_eq (pe_fld (pv 0) rfl) (pe_fld (pv 1) rfl) (nomark _))))))), ?_⟩
    rcases q with ⟨b, r2, u2, rfl, ⟨dx2, ra2, k1, k2⟩, hl2, q⟩ | ⟨b, xs, rfl, hb, q⟩
    · refine ⟨_, rfl, _, _, _, _, true, rfl, .own C, .base (.ins k1 CW.cl CW.cc CW.cg CW.ct CW.co), if_pos (by simp), ?_⟩
      refine ⟨_, rfl, iteT ?_⟩
      refine ⟨_, rfl, p, C, dx, _, _, rfl, h1, CW.cl, CW.nR, pf_row, _, rfl, b, C, dx2, _, _, rfl, k1, CW.cl, CW.nR, pf_row, _, _, .tup h2 (dp_ints r1), .tup k2 (dp_ints r2), (sh_list (can_ints r1).1 (can_ints r1).2).2, (sh_list (can_ints r2).1 (can_ints r2).2).2, _, rfl, ?_⟩
      rw [show PyData.eqv (.tuple (r1.map PyData.int)) (.tuple (r2.map PyData.int)) = decide (r1 = r2) from eqv_ints r1 r2]
      by_cases hr : r1 = r2
      · rw [decide_eq_true hr]
        refine iteT ⟨_, rfl, p, C, dx, _, _, rfl, h1, CW.cl, CW.nU, pf_under, _, rfl, b, C, dx2, _, _, rfl, k1, CW.cl, CW.nU, pf_under, rfl, ?_⟩
        have e : decide (V.int (u1 : Int) = V.int (u2 : Int)) = decide (r1 = r2 ∧ u1 = u2) := by
          rw [dint]
          by_cases hu : u1 = u2
          · rw [decide_eq_true (show (u1 : Int) = (u2 : Int) by rw [hu]), decide_eq_true (show r1 = r2 ∧ u1 = u2 from ⟨hr, hu⟩)]
          · rw [decide_eq_false (show ¬ (u1 : Int) = (u2 : Int) by omega), decide_eq_false (show ¬ (r1 = r2 ∧ u1 = u2) from fun z => hu z.2)]
        dsimp only
        rw [e]
        exact q
      · rw [decide_eq_false hr]
        rw [decide_eq_false (fun z => hr z.1)] at q
        exact iteF q
    · refine ⟨_, rfl, _, _, _, _, false, rfl, .own C, .base (.lst hb), hli, ?_⟩
      exact ⟨_, rfl, iteF q⟩
end
end Ef
set_option Elab.async false
set_option linter.all false
set_option maxRecDepth 100000
set_option maxHeartbeats 4000000
namespace Ef
open PySem PySem.Spec PyProof.Rows L2
abbrev sGcd : Stmt := top 33
abbrev sEntry : Stmt := top 34
abbrev sFrac : Stmt := top 35
structure TxtJ (mg : Str → Option Value) : Prop extends TxtQ mg where
  abs : mg "abs" = none
  max : mg "max" = none
  all : mg "all" = none
  min : mg "min" = none
  zip : mg "zip" = none
theorem Bd.add {a b w : Nat} {x y : Int} (hx : Bd a x) (hy : Bd b y) (h1 : a + 1 ≤ w) (h2 : b + 1 ≤ w) : Bd w (x + y) := by
  unfold Bd at *
  have e1 := Int.natAbs_add_le x y
  have e3 : 2 ^ a ≤ 2 ^ (w - 1) := Nat.pow_le_pow_right (by decide) (by omega)
  have e4 : 2 ^ b ≤ 2 ^ (w - 1) := Nat.pow_le_pow_right (by decide) (by omega)
  have e5 : 2 ^ w = 2 ^ (w - 1) + 2 ^ (w - 1) := by
    rw [← Nat.two_mul, ← Nat.pow_succ', Nat.succ_eq_add_one, Nat.sub_add_cancel (by omega)]
  omega
section
variable {P : Program} {w : World} {K : PySem.W.Frag} {mg : Str → Option Value} {base : Heap}
def spGcd : Sp := fun vs H Q _ => ∃ (a b : Int), vs = [.int a, .int b] ∧ Q (.int (Nat.gcd a.natAbs b.natAbs : Nat)) H
theorem scGcd : FnScope ["a", "b"] ["a", "b"] (defScope sGcd) := ⟨rfl, rfl, rfl, by decide +kernel, rfl, by decide +kernel, by decide +kernel⟩
theorem abs_nat (a : Int) : (if a < 0 then -a else a) = (a.natAbs : Int) := by
  split <;> omega
theorem df_gcd (A : At K mg "_law_gcd" sGcd) (T : TxtJ mg) : Df P w K mg base 1 "_law_gcd" ["a", "b"] spGcd := by
  obtain ⟨f, fd, hm, F⟩ := A.ex
  refine ⟨f, fd, hm, F.kp, F.binds (fun _ _ _ _ _ _ us hl => match us, hl with | [_, _], _ => rfl), F.ok scGcd (fun vs H Q E h => ?_) (fun cdv A outer s H vs Q E hr h => ?_)⟩
  · obtain ⟨a, b, rfl, _⟩ := h
    rfl
  · obtain ⟨a, b, rfl, q⟩ := h
    refine ⟨_, (pss_cons (ps_par (i := 0) (j := 1) (by rfl) scGcd.nd rfl rfl (by decide) rfl rfl (pa_cons (pe_callB call_abs (by rfl) T.abs (by decide +kernel) (pa_cons (pv 0) pa_nil)) (pa_cons (pe_callB call_abs (by rfl) T.abs (by decide +kernel) (pa_cons (pv 1) pa_nil)) pa_nil)) (by rfl))
      (pss_cons (ps_while PassesOwn.never (pt_cmpR op_ne (pv 1) pe_int (nomark _))
      (pss_one (ps_par (i := 0) (j := 1) (by rfl) scGcd.nd rfl rfl (by decide) rfl rfl (pa_cons (pv 1) (pa_cons (pe_op op_mod (pv 0) (pv 1)) pa_nil)) (by rfl))))
      (pss_one (ps_ret (pv 0))))), ?_⟩
    refine ⟨_, rfl, _, rfl, _, rfl, _, rfl, _, _, rfl, ?_⟩
    rw [abs_nat, abs_nat]
    refine ⟨fun m σ H' => ∃ x y : Nat, H' = H ∧ σ = [some (.int (x : Int)), some (.int (y : Int))] ∧ m = y ∧ Nat.gcd x y = Nat.gcd a.natAbs b.natAbs, ⟨_, _, _, rfl, rfl, rfl, rfl⟩, fun m σ H' hW => ?_⟩
    obtain ⟨x, y, rfl, rfl, rfl, hg⟩ := hW
    refine ⟨_, rfl, rfl, _, rfl, ?_⟩
    rw [dint]
    cases m with
    | zero =>
      refine iteF ?_
      rw [Nat.gcd_zero_right] at hg
      rw [← hg] at q
      exact ⟨_, rfl, q⟩
    | succ y =>
      rw [decide_eq_false (show ¬ (((y + 1 : Nat) : Int) = 0) by omega)]
      refine iteT ⟨fun σ H2 => ∃ z : Nat, H2 = H' ∧ σ = [some (.int ((y + 1 : Nat) : Int)), some (.int (z : Int))] ∧ z < y + 1 ∧ Nat.gcd (y + 1) z = Nat.gcd a.natAbs b.natAbs, fun σ' H2 ⟨z, e1, e2, e3, e4⟩ => ⟨z, e3, y + 1, z, e1, e2, rfl, e4⟩, ?_⟩
      refine ⟨_, rfl, _, rfl, _, rfl, _, _, rfl, rfl, by omega, _, _, rfl, x % (y + 1), rfl, ?_, Nat.mod_lt _ (Nat.succ_pos y), ?_⟩
      · rfl
      · rw [← hg, Nat.gcd_comm, ← Nat.gcd_rec, Nat.gcd_comm]
/-! ### _law_entry, _law_far -/
def spEntry : Sp := fun vs H Q _ => ∃ (p l : Addr) (ns : List Int) (a b : Int), vs = [.ref p] ∧ Pen H p l ns a b ∧ a ≤ 1000000000 ∧ ∀ (c a' b' : Int) (H' : Hp), Bd 201 c → a' ≤ a + 3 → Pen H' p l ns a' b' → Kp p H H' → Q (.int c) H'
theorem scEntry : FnScope ["pen", "way"] ["pen"] (defScope sEntry) := ⟨rfl, rfl, rfl, by decide +kernel, rfl, by decide +kernel, by decide +kernel⟩
theorem bd_small {x : Int} {b : Nat} (h1 : -(2 ^ 20) < x) (h2 : x < 2 ^ 20) (hb : 20 ≤ b) : Bd b x := Bd.up (a := 20) (by unfold Bd; omega) hb
theorem Pen.newlst {H : Hp} {p l : Addr} {ns : List Int} {a b : Int} (h : Pen H p l ns a b) {q : Addr} {o : HO} (hq : H q = none) : Pen (upd H q o) p l ns a b := h.kp (Kp.new _ hq) (upd_ne (ne_of_none h.hd hq))
theorem df_entry (A : At K mg "_law_entry" sEntry) (Ddraw : Df P w K mg base 1 "_law_draw" ["pen", "many"] spDraw) (Dpick : Df P w K mg base 2 "_law_pick" ["pen", "some"] (spPick K)) : Df P w K mg base 3 "_law_entry" ["pen"] spEntry := by
  obtain ⟨f, fd, hm, F⟩ := A.ex
  refine ⟨f, fd, hm, F.kp, F.binds (fun _ _ _ _ _ _ us hl => match us, hl with | [_], _ => rfl), F.ok scEntry (fun vs H Q E h => ?_) (fun cdv A outer s H vs Q E hr h => ?_)⟩
  · obtain ⟨p, l, ns, a, b, rfl, _⟩ := h
    rfl
  · obtain ⟨p, l, ns, a, b, rfl, hP, ha, q⟩ := h
    refine ⟨_, (pss_cons (ps_set (i := 1) scEntry.nd rfl (.inl rfl) (Ddraw.call (hr.mono (by decide)) (pa_cons (pv 0) (pa_cons pe_int pa_nil))))
      (pss_cons (ps_if (pt_cmpR op_eq (pv 1) pe_int (nomark _)) (pss_one (ps_ret pe_int)) pss_nil)
      (pss_cons (ps_if (pt_cmpR op_lt (pv 1) pe_int (nomark _)) (pss_one (ps_ret (pe_op op_sub (Ddraw.call (hr.mono (by decide)) (pa_cons (pv 0) (pa_cons pe_int pa_nil))) pe_int))) pss_nil)
      (pss_one (ps_ret (pe_op op_add (Dpick.call (hr.mono (by decide)) (pa_cons (pv 0) (pa_cons (pe_lst (pa_cons (pe_op op_add (pe_op op_pow pe_int pe_int) pe_int) (pa_cons (pe_op op_sub (pe_un un_neg (pe_op op_pow pe_int pe_int)) pe_int) (pa_cons (pe_op op_pow pe_int pe_int) (pa_cons (pe_un un_neg (pe_op op_pow pe_int pe_int)) pa_nil))))) pa_nil))) (Ddraw.call (hr.mono (by decide)) (pa_cons (pv 0) (pa_cons pe_int pa_nil))))))))), ?_⟩
    refine ⟨_, rfl, p, l, ns, a, b, _, rfl, hP, by omega, by decide, by decide, fun d1 a1 b1 H1 d10 d11 ha1 hP4 hK1 => ?_⟩
    refine ⟨_, rfl, rfl, _, rfl, ?_⟩
    refine ite2 (fun _ => q _ _ _ _ (Bd.zero _) (by omega) hP4 hK1) (fun _ => ?_)
    refine ⟨_, rfl, _, _, rfl, rfl, _, rfl, ?_⟩
    refine ite2 (fun _ => ?_) (fun _ => ?_)
    · refine ⟨_, rfl, p, l, ns, a1, b1, _, rfl, hP4, by omega, by decide, by decide, fun d2 a2 b2 H2 d20 d21 ha2 hP2 hK2 => ?_⟩
      exact ⟨_, _, rfl, rfl, q _ _ _ _ (bd_small (by omega) (by omega) (by decide)) (by omega) hP2 (hK1.trans hK2)⟩
    · refine ⟨_, rfl, ?_⟩
      refine ⟨_, _, rfl, rfl, ⟨by decide, by decide, by decide⟩, _, _, rfl, rfl, ?_⟩
      refine ⟨_, _, rfl, rfl, ⟨by decide, by decide, by decide⟩, _, rfl, _, _, rfl, rfl, ?_⟩
      refine ⟨_, _, rfl, rfl, ⟨by decide, by decide, by decide⟩, ?_⟩
      refine ⟨_, _, rfl, rfl, ⟨by decide, by decide, by decide⟩, _, rfl, ?_⟩
      refine ⟨by show 4 ≤ sizeLine; decide, fun t ht => ?_⟩
      refine ⟨p, l, t, ns, a1, b1, _, rfl, hP4.newlst ht, by omega, .inl (.inl upd_same), fun z => ?_, by show 1 ≤ 4; decide, by show 4 ≤ 100000; decide, ?_⟩
      · rw [z, hP4.hd] at ht; cases ht
      · intro j v a2 b2 H2 hj ha2 hP2 hK2
        have hx : ∃ x : Int, v = .int x ∧ Bd 200 x := by
          have hm := List.mem_of_getElem? hj
          simp only [List.mem_cons, List.not_mem_nil, or_false] at hm
          rcases hm with rfl | rfl | rfl | rfl
          · exact ⟨_, rfl, by unfold Bd; decide +kernel⟩
          · exact ⟨_, rfl, by unfold Bd; decide +kernel⟩
          · exact ⟨_, rfl, by unfold Bd; decide +kernel⟩
          · exact ⟨_, rfl, by unfold Bd; decide +kernel⟩
        obtain ⟨x, rfl, hx⟩ := hx
        refine ⟨_, rfl, p, l, ns, a2, b2, _, rfl, hP2, by omega, by decide, by decide, fun d3 a3 b3 H3 d30 d31 ha3 hP4 hK3 => ?_⟩
        exact ⟨_, _, rfl, rfl, q _ _ _ _ (Bd.add hx (bd_small (b := 20) (by omega) (by omega) (by decide)) (by decide) (by decide)) (by omega) hP4 (hK1.trans (((Kp.new _ ht).trans hK2).trans hK3))⟩
end
/-- a drawn fraction: the tuple of its row and its divisor -/
structure Frac (H : Hp) (t l : Addr) (r : List Int) (un m : Nat) : Prop where
  ht : H t = some (.tup [.ref l, .int un])
  hl : H l = some (.lst (r.map V.int))
  len : r.length ≤ m + 1
  bd : ∀ c ∈ r, Bd 201 c
  u1 : 0 < un
  ub : Bd 67 (un : Int)
def spFrac : Sp := fun vs H Q _ => ∃ (p l : Addr) (ns : List Int) (a b : Int) (m : Nat), vs = [.ref p, .int (m : Int)] ∧ m ≤ 5 ∧ Pen H p l ns a b ∧ a ≤ 900000000 ∧
  ∀ (t rl : Addr) (r : List Int) (un : Nat) (a' b' : Int) (H' : Hp), Frac H' t rl r un m → a' ≤ a + 100 → Pen H' p l ns a' b' → Kp p H H' → Q (.ref t) H'
theorem scFrac : FnScope ["pen", "most", "row", "k"] ["pen", "most"] (defScope sFrac) := ⟨rfl, rfl, rfl, by decide +kernel, rfl, by decide +kernel, by decide +kernel⟩
theorem Low.last {r p : List Int} {un u : Nat} (h : Low r un p u) (h0 : 0 < p.length) : p.getLastD 0 ≠ 0 := by
  obtain ⟨k, g, hg, hk, rfl, hd, hu, _, hz, hl⟩ := h.ex
  rw [List.length_map, List.length_take] at h0
  rcases hl with rfl | ⟨c, hc, hc0⟩
  · omega
  · have hkl : k - 1 < r.length := by omega
    have e : (r.take k)[k - 1]? = some c := by rw [List.getElem?_take, if_pos (by omega)]; exact hc
    have hm := hd c (List.mem_of_getElem? e)
    have e2 : ((r.take k).map fun c => c / (g : Int)).getLastD 0 = c / (g : Int) := by
      rw [List.getLastD_eq_getLast?, List.getLast?_eq_getElem?, List.length_map, List.length_take, Nat.min_eq_left hk, List.getElem?_map, e]
      rfl
    rw [e2]
    intro z
    have := Int.mul_ediv_cancel' hm
    rw [z, Int.mul_zero] at this
    exact hc0 this.symm
theorem Low.at {r p : List Int} {un u : Nat} (h : Low r un p u) {j : Nat} {c : Int} (hj : r[j]? = some c) : ∃ x, (p ++ List.replicate (r.length - p.length) 0)[j]? = some x ∧ x * (un : Int) = c * (u : Int) := by
  obtain ⟨k, g, hg, hk, rfl, hd, hu, _, hz, hl⟩ := h.ex
  have hlen : ((r.take k).map fun c => c / (g : Int)).length = k := by rw [List.length_map, List.length_take]; omega
  have hjl : j < r.length := by
    rcases Nat.lt_or_ge j r.length with z | z
    · exact z
    · rw [List.getElem?_eq_none z] at hj; cases hj
  rcases Nat.lt_or_ge j k with z | z
  · have e : (r.take k)[j]? = some c := by rw [List.getElem?_take, if_pos z]; exact hj
    refine ⟨c / (g : Int), ?_, ?_⟩
    · rw [List.getElem?_append_left (by rw [hlen]; exact z), List.getElem?_map, e]
      rfl
    · rw [hu, Int.natCast_mul, ← Int.mul_assoc, Int.ediv_mul_cancel (hd c (List.mem_of_getElem? e))]
  · refine ⟨0, ?_, ?_⟩
    · rw [List.getElem?_append_right (by rw [hlen]; exact z), hlen, List.getElem?_replicate, if_pos (by omega)]
    · have := hz j z hjl
      rw [hj] at this
      injection this with this
      rw [this, Int.zero_mul, Int.zero_mul]
theorem Low.gcd {r p : List Int} {un u : Nat} (h : Low r un p u) : gcdR u p = 1 := by
  obtain ⟨k, g, hg, hk, hp, hd, hu, h1, _⟩ := h.ex
  exact h1
theorem Low.bd {r p : List Int} {un u b : Nat} (h : Low r un p u) (hb : ∀ c ∈ r, Bd b c) : ∀ c ∈ p, Bd b c := fun c hc => by
  obtain ⟨k, g, hg, hk, rfl, _⟩ := h.ex
  obtain ⟨x, hx, rfl⟩ := List.mem_map.mp hc
  exact (hb x (List.mem_of_mem_take hx)).div (by omega)
theorem Low.ub {r p : List Int} {un u b : Nat} (h : Low r un p u) (hb : Bd b (un : Int)) : Bd b (u : Int) := by
  obtain ⟨k, g, hg, hk, _, _, hu, _⟩ := h.ex
  have : u ≤ un := by rw [hu]; exact Nat.le_mul_of_pos_left u hg
  unfold Bd at *
  rw [Int.natAbs_natCast] at *
  omega
theorem sqt_ty {K : PySem.W.Frag} {H : Hp} {a : Addr} {xs : List V} (h : SqT K H a xs) : TyX K H (.ref a) (.type "tuple") := by
  rcases h with (h | ⟨o, h⟩) | ⟨o, its, n, h1, h2, _⟩
  · exact .base (.tup h)
  · exact .fTuple h
  · exact .kTuple h1 h2
abbrev sIsp : Stmt := top 36
theorem at_last {r : List Int} (h : 0 < r.length) : atI (r.map V.int) (-1) = some (.int (r.getLastD 0)) := by
  unfold atI ixN
  rw [if_neg (by decide), if_pos (by rw [List.length_map]; omega), List.length_map]
  show (r.map V.int)[((-1 : Int) + (r.length : Int)).toNat]? = _
  rw [show ((-1 : Int) + (r.length : Int)).toNat = r.length - 1 by omega, List.getElem?_map]
  have e : r[r.length - 1]? = some (r.getLastD 0) := by
    rw [← List.getLast?_eq_getElem?, List.getLastD_eq_getLast?]
    cases r with
    | nil => exact absurd h (Nat.lt_irrefl 0)
    | cons c r => rw [List.getLast?_cons]; rfl
  rw [e]
  rfl
section
variable {P : Program} {w : World} {K : PySem.W.Frag} {mg : Str → Option Value} {base : Heap}
theorem df_frac (A : At K mg "_law_fraction" sFrac) (T : TxtJ mg) (Ddraw : Df P w K mg base 1 "_law_draw" ["pen", "many"] spDraw) (Dpick : Df P w K mg base 2 "_law_pick" ["pen", "some"] (spPick K)) (Dentry : Df P w K mg base 3 "_law_entry" ["pen"] spEntry) : Df P w K mg base 4 "_law_fraction" ["pen", "most"] spFrac := by
  obtain ⟨f, fd, hm, F⟩ := A.ex
  refine ⟨f, fd, hm, F.kp, F.binds (fun _ _ _ _ _ _ us hl => match us, hl with | [_, _], _ => rfl), F.ok scFrac (fun vs H Q E h => ?_) (fun cdv A outer s H vs Q E hr h => ?_)⟩
  · obtain ⟨p, l, ns, a, b, m, rfl, _⟩ := h
    rfl
  · obtain ⟨p, l, ns, a, b, m, rfl, hm5, hP, ha, q⟩ := h
    refine ⟨_, (pss_cons (ps_setLc (i := 2) (own := [("k", 3)]) (g := gName 3) (by rfl) scFrac.nd rfl rfl (sw_true rfl rfl rfl (by decide +kernel)) (pi_range1 (by rfl) T.range (pa_cons (Ddraw.call (hr.mono (by decide)) (pa_cons (pv 0) (pa_cons (pe_op op_add (pv 1) pe_int) pa_nil))) pa_nil)) (blkOk_by (own := [("k", 3)]) (N := ["pen", "most", "row", "k"]) (sc := defScope sFrac) (by decide +kernel)) (fun _ _ _ _ _ => pg_name (i := 3) scFrac.nd rfl (Or.inl rfl)) (fun _ _ _ _ _ => pts_nil) (fun _ _ _ _ _ => (Dentry.call (hr.mono (by decide)) (pa_cons (pv 0) pa_nil))))
      (pss_one (ps_ret (pe_tup (pa_cons (pv 2) (pa_cons (Dpick.call (hr.mono (by decide)) (pa_cons (pv 0) (pa_cons (pe_lst (pa_cons pe_int (pa_cons pe_int (pa_cons pe_int (pa_cons pe_int (pa_cons pe_int (pa_cons pe_int (pa_cons pe_int (pa_cons (pe_op op_pow pe_int pe_int) pa_nil))))))))) pa_nil))) pa_nil)))))), ?_⟩
    refine ⟨_, rfl, _, rfl, _, _, rfl, rfl, p, l, ns, a, b, _, rfl, hP, by omega, by omega, by omega, fun d1 a1 b1 H1 d10 d11 ha1 hP4 hK1 => ?_⟩
    refine ⟨d1, rfl, by omega, by omega, fun D hD => ?_⟩
    have hDH : H D = none := by
      refine hK1.free (fun z => ?_) hD
      rw [z, hP4.hd] at hD; cases hD
    have hDp : D ≠ p := fun z => by rw [z, hP.hd] at hDH; cases hDH
    refine lc_range (lo := 0) (n := d1.toNat) (fun i H' => ∃ (acc : List Int) (a' b' : Int), H' D = some (.lst (acc.map V.int)) ∧ acc.length = i ∧ (∀ c ∈ acc, Bd 201 c) ∧ Pen H' p l ns a' b' ∧ a' ≤ a + 1 + 3 * i ∧ Kp p H H')
      ⟨[], a1, b1, upd_same, rfl, fun c hc => (by cases hc), hP4.newlst hD, by omega, hK1.trans (Kp.new _ hD)⟩ ?_ ?_
    · rintro i H4 hi ⟨acc, a', b', hA, hl, hb, hP4, ha4, hK4⟩
      refine ⟨rfl, _, rfl, p, l, ns, a', b', rfl, hP4, by omega, fun c a5 b5 H5 hc ha5 hP5 hK5 => ?_⟩
      refine ⟨_, hK5 _ _ hDp hA, by rw [List.length_map]; exact small1000' (by omega), acc ++ [c], a5, b5, by rw [upd_same, List.map_append]; rfl, by rw [List.length_append, hl]; rfl, fun x hx => ?_, ?_, by omega, (hK4.trans hK5).mut hDH⟩
      · rcases List.mem_append.mp hx with z | z
        · exact hb x z
        · rw [List.mem_singleton.mp z]; exact hc
      · exact ⟨by rw [upd_ne (Ne.symm hDp)]; exact hP5.hd, by rw [upd_ne (fun z => by rw [← z, hP.hl] at hDH; cases hDH)]; exact hP5.hl, hP5.len, hP5.a0, hP5.b0⟩
    · rintro H4 ⟨acc, a', b', hA, hl, hb, hP4, ha4, hK4⟩
      refine ⟨_, rfl, _, rfl, ?_⟩
      refine ⟨_, _, rfl, rfl, ⟨by decide, by decide, by decide⟩, by show 8 ≤ sizeLine; decide, fun t ht => ?_⟩
      refine ⟨p, l, t, ns, a', b', _, rfl, hP4.newlst ht, by omega, .inl (.inl upd_same), fun z => ?_, by show 1 ≤ 8; decide, by show 8 ≤ 100000; decide, ?_⟩
      · rw [z, hP4.hd] at ht; cases ht
      · intro j v a5 b5 H5 hj ha5 hP5 hK5
        have hx : ∃ un : Nat, v = .int (un : Int) ∧ 0 < un ∧ Bd 67 (un : Int) := by
          have hm := List.mem_of_getElem? hj
          simp only [List.mem_cons, List.not_mem_nil, or_false] at hm
          rcases hm with rfl | rfl | rfl | rfl | rfl | rfl | rfl | rfl
          · exact ⟨1, rfl, by decide, by unfold Bd; decide +kernel⟩
          · exact ⟨1, rfl, by decide, by unfold Bd; decide +kernel⟩
          · exact ⟨2, rfl, by decide, by unfold Bd; decide +kernel⟩
          · exact ⟨3, rfl, by decide, by unfold Bd; decide +kernel⟩
          · exact ⟨4, rfl, by decide, by unfold Bd; decide +kernel⟩
          · exact ⟨6, rfl, by decide, by unfold Bd; decide +kernel⟩
          · exact ⟨12, rfl, by decide, by unfold Bd; decide +kernel⟩
          · exact ⟨10 ^ 20, rfl, by decide, by unfold Bd; decide +kernel⟩
        obtain ⟨un, rfl, hu, hub⟩ := hx
        refine ⟨by show 2 ≤ sizeLine; decide, fun tt htt => ?_⟩
        have hA5 := hK5 _ _ hDp (show (upd H4 t _) D = _ from by rw [upd_ne (ne_of_none hA ht)]; exact hA)
        exact q tt D acc un a5 b5 _ ⟨upd_same, by rw [upd_ne (ne_of_none hA5 htt)]; exact hA5, by omega, fun c hc => hb c hc, hu, hub⟩ (by omega) (hP5.newlst htt) ((hK4.trans ((Kp.new _ ht).trans hK5)).trans (Kp.new _ htt))
theorem flat_rep (k : Nat) : (List.replicate k [V.int 0]).flatten = (List.replicate k (0 : Int)).map V.int := by
  induction k with
  | zero => rfl
  | succ k ih => rw [List.replicate_succ, List.flatten_cons, ih, List.replicate_succ]; rfl
def spIsp (K : PySem.W.Frag) (C : Addr) : Sp := fun vs H Q _ => ∃ (p a : Addr) (r pr : List Int) (un u : Nat), vs = [.ref p, .ref a, .int un] ∧ PAt K C H p pr u ∧ SqL K H a (r.map V.int) ∧ Low r un pr u ∧ r.length ≤ 60 ∧ (∀ c ∈ r, Bd 12000 c) ∧ Bd 12000 (un : Int) ∧ ∀ H', Same H H' → Q (.bl true) H'
theorem scIsp : FnScope ["piece", "row", "under", "divisor", "entry", "told", "k"] ["piece", "row", "under"] (defScope sIsp) := ⟨rfl, rfl, rfl, by decide +kernel, rfl, by decide +kernel, by decide +kernel⟩
theorem df_isp {C : Addr} (A : At K mg "_law_is_piece" sIsp) (T : TxtJ mg) (CW : ClsQ K mg C) (Dgcd : Df P w K mg base 1 "_law_gcd" ["a", "b"] spGcd) : Df P w K mg base 2 "_law_is_piece" ["piece", "row", "under"] (spIsp K C) := by
  obtain ⟨f, fd, hm, F⟩ := A.ex
  refine ⟨f, fd, hm, F.kp, F.binds (fun _ _ _ _ _ _ us hl => match us, hl with | [_, _, _], _ => rfl), F.ok scIsp (fun vs H Q E h => ?_) (fun cdv A outer s H vs Q E hr h => ?_)⟩
  · obtain ⟨p, a, r, pr, un, u, rfl, _⟩ := h
    rfl
  · obtain ⟨p, a, r, pr, un, u, rfl, ⟨dx, ra, h1, h2⟩, hS, hL, hl, hb, hub, q⟩ := h
    refine ⟨_, (pss_cons (ps_if (pw_or (pt_not (pt_val (pe_callB call_isi (by rfl) T.isinstance (by decide +kernel) (pa_cons (pv 0) (pa_cons (pe_glob (v := .ref C) (by rfl) CW.mgC rfl) pa_nil))))) (pw_or (pt_not (pt_val (pe_callB call_isi (by rfl) T.isinstance (by decide +kernel) (pa_cons (pe_fld (pv 0) rfl) (pa_cons (pe_bltn (v := .ty "tuple") (by rfl) T.tuple (by decide +kernel) rfl) pa_nil))))) (pw_or1 (pt_cmpR op_lt (pe_fld (pv 0) rfl) pe_int (nomark _))))).pt (pss_one (ps_ret pe_bl)) pss_nil)
      (pss_cons (ps_set (i := 3) scIsp.nd rfl (.inl rfl) (pe_fld (pv 0) rfl))
      (pss_cons (ps_for PassesOwn.never rfl (pi_tup (pe_fld (pv 0) rfl)) (pg_name (i := 4) scIsp.nd rfl (.inl rfl))
      (pss_one (ps_set (i := 3) scIsp.nd rfl (.inl rfl) (Dgcd.call (hr.mono (by decide)) (pa_cons (pv 3) (pa_cons (pv 4) pa_nil))))))
      (pss_cons (ps_if (pw_or (pt_cmpR op_ne (pv 3) pe_int (nomark _)) (pw_or (pw_and (pt_cmpR op_gt (pe_callB call_len_seq (by rfl) T.len PySem.boot_len (pa_cons (pe_fld (pv 0) rfl) pa_nil)) pe_int (nomark _)) (pw_and1 (pt_cmpR op_eq (pe_ix ix_tup (pe_fld (pv 0) rfl) (pe_un un_neg pe_int) (fun _ _ => rfl)) pe_int (nomark _)))).pt (pw_or1 (pt_cmpR op_gt (pe_callB call_len_seq (by rfl) T.len PySem.boot_len (pa_cons (pe_fld (pv 0) rfl) pa_nil)) (pe_callB call_len_seq (by rfl) T.len PySem.boot_len (pa_cons (pv 1) pa_nil)) (nomark _))))).pt (pss_one (ps_ret pe_bl)) pss_nil)
      (pss_cons (ps_set (i := 5) scIsp.nd rfl (.inr rfl) (pe_op op_cat (pe_callTy call_list_of (by rfl) T.list (by decide +kernel) (pa_cons (pe_fld (pv 0) rfl) pa_nil)) (pe_op op_rep (pe_lst (pa_cons pe_int pa_nil)) (pe_op op_sub (pe_callB call_len_seq (by rfl) T.len PySem.boot_len (pa_cons (pv 1) pa_nil)) (pe_callB call_len_seq (by rfl) T.len PySem.boot_len (pa_cons (pe_fld (pv 0) rfl) pa_nil))))))
      (pss_one (ps_ret (pe_callB (cr_all rfl) (by rfl) T.all (by decide +kernel) (pa_cons (pe_lc (own := [("k", 6)]) (g := gName 6) (by rfl) scIsp.nd (pi_range1 (by rfl) T.range (pa_cons (pe_callB call_len_seq (by rfl) T.len PySem.boot_len (pa_cons (pv 1) pa_nil)) pa_nil)) (blkOk_by (own := [("k", 6)]) (N := ["piece", "row", "under", "divisor", "entry", "told", "k"]) (sc := defScope sIsp) (by decide +kernel)) (fun _ _ _ _ _ => pg_name (i := 6) scIsp.nd rfl (Or.inl rfl)) (fun _ _ _ _ _ => pts_nil) (fun _ _ _ _ _ => (pe_cmpR op_eq (pe_op op_mulW (pe_ix (show IxR _ (rIx K) from ix_seq) (pv 5) (pv 6) (fun _ _ => rfl)) (pv 2)) (pe_op op_mulW (pe_ix (show IxR _ (rIx K) from ix_seq) (pv 1) (pv 6) (fun _ _ => rfl)) (show PE _ _ (tFld K (tVar 0) "under") from pe_fld (pv 0) (by rfl))) (nomark _)))) pa_nil))))))))), ?_⟩
    refine ⟨_, rfl, _, _, _, _, true, rfl, .own C, .base (.ins h1 CW.cl CW.cc CW.cg CW.ct CW.co), if_pos (by simp), ?_⟩
    refine ⟨_, rfl, iteF ?_⟩
    refine ⟨_, rfl, p, C, dx, _, _, rfl, h1, CW.cl, CW.nR, pf_row, _, _, _, _, true, rfl, .ty "tuple", sqt_ty h2, kit_ty (by decide +kernel), ?_⟩
    refine ⟨_, rfl, iteF ?_⟩
    refine ⟨_, rfl, p, C, dx, _, _, rfl, h1, CW.cl, CW.nU, pf_under, _, _, rfl, rfl, _, rfl, ?_⟩
    have hu := hL.u1
    rw [decide_eq_false (show ¬ (u : Int) < 1 by omega)]
    refine iteF ?_
    -- divisor
    refine ⟨_, rfl, p, C, dx, _, _, rfl, h1, CW.cl, CW.nU, pf_under, ?_⟩
    refine ⟨_, rfl, p, C, dx, _, _, rfl, h1, CW.cl, CW.nR, pf_row, ra, rfl, ⟨_, h2⟩, for_tup (K := K) (a := ra) (xs := pr.map V.int) (fun i σ H' => H' = H ∧ ∃ y : Option V, σ = [some (.ref p), some (.ref a), some (.int un), some (.int (gcdR u (pr.take i) : Nat)), y, none, none])
      ⟨rfl, none, rfl⟩ (fun i σ H' _ ⟨e, _⟩ => e ▸ h2) ?_ ?_⟩
    · rintro i x σ H' hi ⟨rfl, y, rfl⟩
      rw [List.getElem?_map] at hi
      obtain ⟨c, hc, rfl⟩ := Option.map_eq_some_iff.mp hi
      exact ⟨_, rfl, _, rfl, _, _, rfl, rfl, some (.int c), by rw [gcdR_take_succ hc]; rfl⟩
    rintro σ H' ⟨rfl, y, rfl⟩
    rw [List.length_map, List.take_length, hL.gcd]
    refine ⟨_, rfl, rfl, _, rfl, ?_⟩
    refine iteF ?_
    have hlen := hL.len
    refine ⟨_, rfl, p, C, dx, _, _, rfl, h1, CW.cl, CW.nR, pf_row, ra, _, rfl, .inr h2, _, _, rfl, rfl, _, rfl, ?_⟩
    rw [List.length_map]
    rcases Nat.eq_zero_or_pos pr.length with z | z
    case' inl =>
      rw [decide_eq_false (show ¬ (0 : Int) < (pr.length : Int) by omega)]
      refine iteF ?_
    case' inr =>
      rw [decide_eq_true (show (0 : Int) < (pr.length : Int) by omega)]
      refine iteT ⟨_, rfl, p, C, dx, _, _, rfl, h1, CW.cl, CW.nR, pf_row, _, rfl, ra, _, _, _, rfl, rfl, h2, at_last z, rfl, _, rfl, ?_⟩
      rw [dint, decide_eq_false (hL.last z)]
      refine iteF ?_
    all_goals
      refine ⟨_, rfl, p, C, dx, _, _, rfl, h1, CW.cl, CW.nR, pf_row, ra, _, rfl, .inr h2, _, rfl, a, _, rfl, .inl hS, _, _, rfl, rfl, _, rfl, ?_⟩
      rw [List.length_map, List.length_map, decide_eq_false (show ¬ (r.length : Int) < (pr.length : Int) by omega)]
      refine iteF ?_
      -- told
      refine ⟨_, rfl, p, C, dx, _, _, rfl, h1, CW.cl, CW.nR, pf_row, ra, _, rfl, .inr h2, fun t0 ht0 => ?_⟩
      have s0 := same_new (o := .lst (pr.map V.int)) ht0
      have e0 : (upd H' t0 (.lst (pr.map V.int))) t0 = some (.lst (pr.map V.int)) := upd_same
      generalize upd H' t0 (.lst (pr.map V.int)) = H0 at s0 e0 ⊢
      refine ⟨by show 1 ≤ sizeLine; decide, fun t3 ht3 => ?_⟩
      have s3 := s0.trans (same_new (o := .lst [.int 0]) ht3)
      have e3 : (upd H0 t3 (.lst [.int 0])) t3 = some (.lst [.int 0]) := upd_same
      have e03 := same_new (o := .lst [.int 0]) ht3 _ _ e0
      generalize upd H0 t3 (.lst [.int 0]) = H3 at s3 e3 e03 ⊢
      refine ⟨_, rfl, a, _, rfl, .inl (s3.seq hS), _, rfl, p, C, dx, _, _, rfl, s3 _ _ h1, CW.cl, CW.nR, pf_row, ra, _, rfl, .inr (Same.tup s3 h2), _, _, rfl, rfl, t3, _, _, rfl, rfl, e3, ?_⟩
      rw [List.length_map, List.length_map]
      have ek2 : ((r.length : Int) - (pr.length : Int)).toNat = r.length - pr.length := by omega
      rw [ek2]
      refine ⟨by omega, by omega, by show 1 * _ ≤ _; exact Nat.le_trans (show _ ≤ 100000 by omega) (by decide), fun t4 ht4 => ?_⟩
      have s4 := s3.trans (same_new (o := .lst (List.replicate (r.length - pr.length) [V.int 0]).flatten) ht4)
      have e04 := same_new (o := .lst (List.replicate (r.length - pr.length) [V.int 0]).flatten) ht4 _ _ e03
      have e4 : (upd H3 t4 (.lst (List.replicate (r.length - pr.length) [V.int 0]).flatten)) t4 = some (.lst ((List.replicate (r.length - pr.length) (0 : Int)).map V.int)) := by rw [upd_same, ← flat_rep]
      generalize upd H3 t4 (.lst (List.replicate (r.length - pr.length) [V.int 0]).flatten) = H4 at s4 e4 e04 ⊢
      refine ⟨t0, t4, _, _, rfl, rfl, e04, e4, by rw [List.length_map, List.length_map, List.length_replicate]; exact Nat.le_trans (show _ ≤ 100000 by omega) (by decide), fun t5 ht5 => ?_⟩
      rw [← List.map_append]
      have s5 := s4.trans (same_new (o := .lst ((pr ++ List.replicate (r.length - pr.length) 0).map V.int)) ht5)
      have e5 : (upd H4 t5 (.lst ((pr ++ List.replicate (r.length - pr.length) 0).map V.int))) t5 = some (.lst ((pr ++ List.replicate (r.length - pr.length) 0).map V.int)) := upd_same
      generalize upd H4 t5 (.lst ((pr ++ List.replicate (r.length - pr.length) 0).map V.int)) = H5 at s5 e5 ⊢
      -- all
      refine ⟨_, rfl, a, _, rfl, .inl (s5.seq hS), _, rfl, by rw [List.length_map]; omega, by rw [List.length_map]; omega, fun D hD => ?_⟩
      rw [List.length_map]
      refine lc_range (lo := 0) (n := r.length) (fun i Hx => Same H5 Hx ∧ Hx D = some (.lst ((List.replicate i true).map V.bl))) ⟨same_new hD, upd_same⟩ ?_ ?_
      · rintro i Hx hi ⟨sx, hx⟩
        obtain ⟨c, hc, gc⟩ := get_int (r := r) (k := i) hi
        obtain ⟨x, hx1, hx2⟩ := hL.at hc
        have gx : ((pr ++ List.replicate (r.length - pr.length) 0).map V.int)[i]? = some (.int x) := by rw [List.getElem?_map, hx1]; rfl
        have ei : (0 + (i : Nat) : Int) = ((i : Nat) : Int) := Int.zero_add _
        have bx : Bd 12000 x := by
          rcases List.mem_append.mp (List.mem_of_getElem? hx1) with k | k
          · exact hL.bd hb x k
          · rw [(List.mem_replicate.mp k).2]; exact Bd.zero _
        refine ⟨rfl, _, rfl, _, rfl, .inl ⟨t5, _, _, _, rfl, rfl, .inl (.inl (sx _ _ e5)), atI_of ei gx, _, rfl, _, _, rfl, rfl, wide_mul bx hub (by decide) (by decide) (by decide), ?_⟩⟩
        refine ⟨_, rfl, _, rfl, .inl ⟨a, _, _, _, rfl, rfl, (s5.trans sx).seq hS, atI_of ei gc, _, rfl, p, C, dx, _, _, rfl, (s5.trans sx) _ _ h1, CW.cl, CW.nU, pf_under, _, _, rfl, rfl, wide_mul (hb c (List.mem_of_getElem? hc)) (hL.ub hub) (by decide) (by decide) (by decide), rfl, ?_⟩⟩
        dsimp only
        rw [dint, hx2, decide_eq_true rfl]
        refine ⟨_, hx, by rw [List.length_map, List.length_replicate]; exact small1000' (by omega), same_mut sx hD, ?_⟩
        rw [upd_same, List.replicate_succ', List.map_append]
        rfl
      · rintro H6 ⟨s6, h6⟩
        refine ⟨D, _, rfl, .inl (.inl h6), ?_⟩
        have : (List.replicate r.length true).all id = true := by
          rw [List.all_eq_true]
          intro b hb
          rw [(List.mem_replicate.mp hb).2]; rfl
        rw [this]
        exact q H6 (s5.trans s6)
end
end Ef
set_option Elab.async false
set_option linter.all false
/-! one least form -/
namespace Ef
theorem gcdR_mul (d : Nat) : ∀ (t : List Int) (f : Nat), gcdR (d * f) (t.map fun c => (d : Int) * c) = d * gcdR f t
  | [], f => rfl
  | c :: t, f => by
    show gcdR (Nat.gcd (d * f) ((d : Int) * c).natAbs) (t.map fun c => (d : Int) * c) = d * gcdR (Nat.gcd f c.natAbs) t
    rw [Int.natAbs_mul, Int.natAbs_natCast, Nat.gcd_mul_left]
    exact gcdR_mul d t _
/-- the member, or 0 -/
theorem Low.cross {r p : List Int} {un u : Nat} (h : Low r un p u) (j : Nat) : p.getD j 0 * (un : Int) = r.getD j 0 * (u : Int) := by
  obtain ⟨k, g, hg, hk, rfl, hd, hu, _, hz, hl⟩ := h.ex
  rcases Nat.lt_or_ge j k with z | z
  · have hjl : j < r.length := by omega
    have e : (r.take k)[j]? = some r[j] := by rw [List.getElem?_take, if_pos z, List.getElem?_eq_getElem hjl]
    have e1 : ((r.take k).map fun c => c / (g : Int)).getD j 0 = r[j] / (g : Int) := by rw [List.getD_eq_getElem?_getD, List.getElem?_map, e]; rfl
    have e2 : r.getD j 0 = r[j] := by rw [List.getD_eq_getElem?_getD, List.getElem?_eq_getElem hjl]; rfl
    rw [e1, e2, hu, Int.natCast_mul, ← Int.mul_assoc, Int.ediv_mul_cancel (hd _ (List.mem_of_getElem? e))]
  · have e1 : ((r.take k).map fun c => c / (g : Int)).getD j 0 = 0 := by
      rw [List.getD_eq_getElem?_getD, List.getElem?_eq_none (by rw [List.length_map, List.length_take]; omega)]; rfl
    have e2 : r.getD j 0 = 0 := by
      rcases Nat.lt_or_ge j r.length with w | w
      · rw [List.getD_eq_getElem?_getD, hz j z w]; rfl
      · rw [List.getD_eq_getElem?_getD, List.getElem?_eq_none w]; rfl
    rw [e1, e2, Int.zero_mul, Int.zero_mul]
theorem Low.un0 {r p : List Int} {un u : Nat} (h : Low r un p u) : 0 < un := by
  obtain ⟨k, g, hg, hk, _, _, hu, _⟩ := h.ex
  rw [hu]; exact Nat.mul_pos hg h.u1
theorem Low.gcd1 {r p : List Int} {un u : Nat} (h : Low r un p u) : gcdR u p = 1 := by
  obtain ⟨k, g, hg, hk, hp, hd, hu, h1, _⟩ := h.ex
  exact h1
/-- no 0 at the end -/
theorem Low.end_ {r p : List Int} {un u : Nat} (h : Low r un p u) (j : Nat) (hj : j + 1 = p.length) : p.getD j 0 ≠ 0 := by
  obtain ⟨k, g, hg, hk, rfl, hd, hu, _, hz, hl⟩ := h.ex
  rw [List.length_map, List.length_take] at hj
  rcases hl with rfl | ⟨c, hc, hc0⟩
  · omega
  · have ej : j = k - 1 := by omega
    have e : (r.take k)[j]? = some c := by rw [List.getElem?_take, if_pos (by omega), ej]; exact hc
    have e1 : ((r.take k).map fun c => c / (g : Int)).getD j 0 = c / (g : Int) := by rw [List.getD_eq_getElem?_getD, List.getElem?_map, e]; rfl
    rw [e1]
    intro z
    have := Int.mul_ediv_cancel' (hd c (List.mem_of_getElem? e))
    rw [z, Int.mul_zero] at this
    exact hc0 this.symm
theorem dvd_of_cross {p q : List Int} {u v : Nat} (h1 : gcdR u p = 1) (hc : ∀ j, p.getD j 0 * (v : Int) = q.getD j 0 * (u : Int)) : u ∣ v := by
  have h := gcdR_mul v p u
  rw [h1, Nat.mul_one] at h
  rw [← h]
  refine dvd_gcdR _ _ _ (Nat.dvd_mul_left u v) fun c hcm => ?_
  obtain ⟨x, hx, rfl⟩ := List.mem_map.mp hcm
  obtain ⟨j, hj, rfl⟩ := List.getElem_of_mem hx
  have e := hc j
  have e2 : p.getD j 0 = p[j] := by rw [List.getD_eq_getElem?_getD, List.getElem?_eq_getElem hj]; rfl
  rw [e2] at e
  rw [Int.mul_comm, e]
  exact Int.dvd_mul_left _ _
theorem ext_getD : ∀ {p q : List Int}, (∀ j, p.getD j 0 = q.getD j 0) → (∀ j, j + 1 = p.length → p.getD j 0 ≠ 0) → (∀ j, j + 1 = q.length → q.getD j 0 ≠ 0) → p = q := by
  intro p q h hp hq
  have hlen : ∀ {p q : List Int}, (∀ j, p.getD j 0 = q.getD j 0) → (∀ j, j + 1 = p.length → p.getD j 0 ≠ 0) → p.length ≤ q.length := by
    intro p q h hp
    rcases Nat.lt_or_ge q.length p.length with z | z
    · have h1 := hp (p.length - 1) (by omega)
      rw [h (p.length - 1)] at h1
      rw [List.getD_eq_getElem?_getD, List.getElem?_eq_none (by omega)] at h1
      exact absurd rfl h1
    · exact z
  have l1 := hlen h hp
  have l2 := hlen (fun j => (h j).symm) hq
  refine List.ext_getElem (by omega) fun j h1 h2 => ?_
  have := h j
  rw [List.getD_eq_getElem?_getD, List.getD_eq_getElem?_getD, List.getElem?_eq_getElem h1, List.getElem?_eq_getElem h2] at this
  exact this
/-- two rows that are one over their divisors have one least form -/
theorem Low.unique {r s p q : List Int} {un vn u v : Nat} (h1 : Low r un p u) (h2 : Low s vn q v) (e : ∀ j, r.getD j 0 * (vn : Int) = s.getD j 0 * (un : Int)) : p = q ∧ u = v := by
  have z1 := h1.un0
  have z2 := h2.un0
  have hc : ∀ j, p.getD j 0 * (v : Int) = q.getD j 0 * (u : Int) := fun j => by
    have a := h1.cross j
    have b := h2.cross j
    have c := e j
    have k : p.getD j 0 * (v : Int) * ((un : Int) * (vn : Int)) = q.getD j 0 * (u : Int) * ((un : Int) * (vn : Int)) := by
      have s1 : p.getD j 0 * (v : Int) * ((un : Int) * (vn : Int)) = (p.getD j 0 * (un : Int)) * (v : Int) * (vn : Int) := by
        simp only [Int.mul_assoc, Int.mul_comm, Int.mul_left_comm]
      have s2 : q.getD j 0 * (u : Int) * ((un : Int) * (vn : Int)) = (q.getD j 0 * (vn : Int)) * (u : Int) * (un : Int) := by
        simp only [Int.mul_assoc, Int.mul_comm, Int.mul_left_comm]
      rw [s1, s2, a, b]
      have s3 : r.getD j 0 * (u : Int) * (v : Int) * (vn : Int) = (r.getD j 0 * (vn : Int)) * ((u : Int) * (v : Int)) := by
        simp only [Int.mul_assoc, Int.mul_comm, Int.mul_left_comm]
      have s4 : s.getD j 0 * (v : Int) * (u : Int) * (un : Int) = (s.getD j 0 * (un : Int)) * ((u : Int) * (v : Int)) := by
        simp only [Int.mul_assoc, Int.mul_comm, Int.mul_left_comm]
      rw [s3, s4, c]
    have nz : ((un : Int) * (vn : Int)) ≠ 0 := by
      have := Int.mul_pos (show (0 : Int) < (un : Int) by omega) (show (0 : Int) < (vn : Int) by omega)
      omega
    exact Int.eq_of_mul_eq_mul_right nz k
  have d1 := dvd_of_cross h1.gcd1 hc
  have d2 := dvd_of_cross h2.gcd1 fun j => (hc j).symm
  have euv := Nat.dvd_antisymm d1 d2
  subst euv
  have nz : (u : Int) ≠ 0 := by have := h1.u1; omega
  exact ⟨ext_getD (fun j => Int.eq_of_mul_eq_mul_right nz (hc j)) h1.end_ h2.end_, rfl⟩
/-- one least form: one row over its divisor -/
theorem Low.back {r s p : List Int} {un vn u : Nat} (h1 : Low r un p u) (h2 : Low s vn p u) (j : Nat) : r.getD j 0 * (vn : Int) = s.getD j 0 * (un : Int) := by
  have a := h1.cross j
  have b := h2.cross j
  have nz : (u : Int) ≠ 0 := by have := h1.u1; omega
  refine Int.eq_of_mul_eq_mul_right nz ?_
  have s1 : r.getD j 0 * (vn : Int) * (u : Int) = (r.getD j 0 * (u : Int)) * (vn : Int) := by simp only [Int.mul_assoc, Int.mul_comm, Int.mul_left_comm]
  have s2 : s.getD j 0 * (un : Int) * (u : Int) = (s.getD j 0 * (u : Int)) * (un : Int) := by simp only [Int.mul_assoc, Int.mul_comm, Int.mul_left_comm]
  rw [s1, s2, ← a, ← b]
  simp only [Int.mul_assoc, Int.mul_comm, Int.mul_left_comm]
end Ef
set_option Elab.async false
set_option linter.all false
/-! rows: sums, products; least forms carried over -/
namespace Ef
/-- the member, or 0 -/
def cf (r : List Int) (j : Nat) : Int := r.getD j 0
theorem cf_nil (j : Nat) : cf [] j = 0 := by unfold cf; rw [List.getD_eq_getElem?_getD]; rfl
theorem cf_lt {r : List Int} {j : Nat} (h : j < r.length) : cf r j = r[j] := by unfold cf; rw [List.getD_eq_getElem?_getD, List.getElem?_eq_getElem h]; rfl
theorem cf_ge {r : List Int} {j : Nat} (h : r.length ≤ j) : cf r j = 0 := by unfold cf; rw [List.getD_eq_getElem?_getD, List.getElem?_eq_none h]; rfl
theorem cf_of {r : List Int} {j : Nat} {c : Int} (h : r[j]? = some c) : cf r j = c := by unfold cf; rw [List.getD_eq_getElem?_getD, h]; rfl
theorem cf_map {r : List Int} {f : Int → Int} (h0 : f 0 = 0) (j : Nat) : cf (r.map f) j = f (cf r j) := by
  rcases Nat.lt_or_ge j r.length with z | z
  · rw [cf_lt (by rw [List.length_map]; exact z), cf_lt z, List.getElem_map]
  · rw [cf_ge (by rw [List.length_map]; exact z), cf_ge z, h0]
theorem cf_cons (x : Int) (r : List Int) (j : Nat) : cf (x :: r) j = if j = 0 then x else cf r (j - 1) := by
  cases j with
  | zero => rw [if_pos rfl]; rfl
  | succ j => rw [if_neg (Nat.succ_ne_zero j)]; rfl
theorem cf_append (r s : List Int) (j : Nat) : cf (r ++ s) j = if j < r.length then cf r j else cf s (j - r.length) := by
  unfold cf
  by_cases h : j < r.length
  · rw [if_pos h, List.getD_eq_getElem?_getD, List.getD_eq_getElem?_getD, List.getElem?_append_left h]
  · rw [if_neg h, List.getD_eq_getElem?_getD, List.getD_eq_getElem?_getD, List.getElem?_append_right (by omega)]
theorem cf_rep (k j : Nat) : cf (List.replicate k 0) j = 0 := by
  rcases Nat.lt_or_ge j k with z | z
  · rw [cf_lt (by rw [List.length_replicate]; exact z), List.getElem_replicate]
  · rw [cf_ge (by rw [List.length_replicate]; exact z)]
/-- one trimmed form there is -/
theorem trim_ex : ∀ n : Nat, ∀ r : List Int, n ≤ r.length → (∀ j, n ≤ j → j < r.length → r[j]? = some 0) → ∃ t, TrimOk r t
  | 0, r, _, hz => ⟨[], 0, Nat.zero_le _, List.take_zero.symm, hz, .inl rfl⟩
  | n + 1, r, hn, hz => by
    by_cases h : r[n]? = some 0
    · refine trim_ex n r (by omega) fun j h1 h2 => ?_
      rcases Nat.eq_or_lt_of_le h1 with rfl | z
      · exact h
      · exact hz j z h2
    · have e : r[n]? = some r[n] := List.getElem?_eq_getElem (by omega)
      exact ⟨r.take (n + 1), n + 1, hn, rfl, hz, .inr ⟨r[n], by rw [Nat.add_sub_cancel]; exact e, fun z => h (by rw [e, z])⟩⟩
theorem low_ex (r : List Int) {un : Nat} (h : 0 < un) : ∃ p u, Low r un p u := by
  obtain ⟨t, ht⟩ := trim_ex r.length r (Nat.le_refl _) fun j h1 h2 => absurd h2 (by omega)
  exact ⟨_, _, Low.of_trim ht h⟩
/-- one function, one least form -/
theorem Low.move {r s p : List Int} {un vn u : Nat} (h : Low r un p u) (hv : 0 < vn) (e : ∀ j, cf r j * (vn : Int) = cf s j * (un : Int)) : Low s vn p u := by
  obtain ⟨q, v, h2⟩ := low_ex s hv
  obtain ⟨e1, e2⟩ := h.unique h2 e
  subst e1 e2
  exact h2
/-- a sum of n members -/
def sm (n : Nat) (h : Nat → Int) : Int := match n with
  | 0 => 0
  | n + 1 => sm n h + h n
theorem sm_congr {n : Nat} {f g : Nat → Int} (h : ∀ i, i < n → f i = g i) : sm n f = sm n g := by
  induction n with
  | zero => rfl
  | succ n ih =>
    show sm n f + f n = sm n g + g n
    rw [ih fun i hi => h i (by omega), h n (Nat.lt_succ_self n)]
theorem sm_head {n : Nat} {h : Nat → Int} : sm (n + 1) h = h 0 + sm n fun i => h (i + 1) := by
  induction n with
  | zero => show 0 + h 0 = h 0 + 0; omega
  | succ n ih =>
    show sm (n + 1) h + h (n + 1) = h 0 + (sm n (fun i => h (i + 1)) + h (n + 1))
    rw [ih]; omega
theorem sm_zero {n : Nat} {h : Nat → Int} (hz : ∀ i, i < n → h i = 0) : sm n h = 0 := by
  induction n with
  | zero => rfl
  | succ n ih =>
    show sm n h + h n = 0
    rw [ih fun i hi => hz i (by omega), hz n (Nat.lt_succ_self n)]; rfl
theorem sm_ext {n k : Nat} {h : Nat → Int} (hz : ∀ i, n ≤ i → i < n + k → h i = 0) : sm (n + k) h = sm n h := by
  induction k with
  | zero => rfl
  | succ k ih =>
    show sm (n + k) h + h (n + k) = sm n h
    rw [ih fun i h1 h2 => hz i h1 (by omega), hz (n + k) (by omega) (by omega)]; omega
theorem sm_mul {n : Nat} {h : Nat → Int} (c : Int) : sm n h * c = sm n fun i => h i * c := by
  induction n with
  | zero => exact Int.zero_mul c
  | succ n ih =>
    show (sm n h + h n) * c = sm n (fun i => h i * c) + h n * c
    rw [Int.add_mul, ih]
theorem sm_rev {n : Nat} {h : Nat → Int} : sm n h = sm n fun i => h (n - 1 - i) := by
  induction n with
  | zero => rfl
  | succ n ih =>
    rw [sm_head (h := fun i => h (n + 1 - 1 - i))]
    show sm n h + h n = h (n - 0) + sm n fun i => h (n - (i + 1))
    rw [ih, Nat.sub_zero, Int.add_comm]
    congr 1
    exact sm_congr fun i hi => by rw [show n - 1 - i = n - (i + 1) by omega]
/-- the product's members -/
def cv (f g : Nat → Int) (j : Nat) : Int := sm (j + 1) fun i => f i * g (j - i)
theorem cv_comm (f g : Nat → Int) (j : Nat) : cv f g j = cv g f j := by
  unfold cv
  rw [sm_rev]
  refine sm_congr fun i hi => ?_
  rw [show j + 1 - 1 - i = j - i by omega, show j - (j - i) = i by omega, Int.mul_comm]
theorem cv_scale (f g : Nat → Int) (c d : Int) (j : Nat) : cv (fun i => f i * c) (fun i => g i * d) j = cv f g j * (c * d) := by
  unfold cv
  rw [sm_mul]
  refine sm_congr fun i _ => ?_
  simp only [Int.mul_assoc, Int.mul_comm, Int.mul_left_comm]
/-- a product up to a number of the first one's members -/
def cvk (k : Nat) (f g : Nat → Int) (j : Nat) : Int := sm k fun i => if i ≤ j then f i * g (j - i) else 0
theorem cvk_succ (k : Nat) (f g : Nat → Int) (j : Nat) : cvk (k + 1) f g j = cvk k f g j + (if k ≤ j then f k * g (j - k) else 0) := rfl
theorem cvk_all {k : Nat} {f g : Nat → Int} (hz : ∀ i, k ≤ i → f i = 0) (j : Nat) : cvk k f g j = cv f g j := by
  have e1 : cvk (k + (j + 1)) f g j = cvk k f g j := sm_ext fun i h1 _ => by
    rw [hz i h1, Int.zero_mul]; split <;> rfl
  have e2 : cvk (j + 1 + k) f g j = cv f g j := by
    unfold cvk cv
    rw [sm_ext fun i h1 _ => by rw [if_neg (by omega)]]
    exact sm_congr fun i hi => by rw [if_pos (by omega)]
  rw [← e1, ← e2, Nat.add_comm]
/-- the product of two rows -/
def mulR : List Int → List Int → Nat → Int := fun a b => cv (cf a) (cf b)
theorem cv_cons (x : Int) (a : List Int) (g : Nat → Int) (j : Nat) : cv (cf (x :: a)) g j = x * g j + (if j = 0 then 0 else cv (cf a) g (j - 1)) := by
  unfold cv
  rw [sm_head]
  congr 1
  cases j with
  | zero => rfl
  | succ j =>
    rw [if_neg (Nat.succ_ne_zero j)]
    refine sm_congr fun i hi => ?_
    rw [show j + 1 - (i + 1) = j + 1 - 1 - i by omega]
    rfl
theorem cv_nil (g : Nat → Int) (j : Nat) : cv (cf []) g j = 0 := sm_zero fun i _ => by rw [cf_nil, Int.zero_mul]
theorem cv_congr {f f' g g' : Nat → Int} (hf : ∀ i, f i = f' i) (hg : ∀ i, g i = g' i) (j : Nat) : cv f g j = cv f' g' j := by
  rw [show f = f' from funext hf, show g = g' from funext hg]
/-- the product of two least forms -/
theorem Low.mul {r s p q R x : List Int} {un vn u v z : Nat} (h1 : Low r un p u) (h2 : Low s vn q v) (hR : ∀ j, cf R j = cv (cf p) (cf q) j) (h3 : Low R (u * v) x z) {S : List Int} (hS : ∀ j, cf S j = cv (cf r) (cf s) j) : Low S (un * vn) x z := by
  refine h3.move (Nat.mul_pos h1.un0 h2.un0) fun j => ?_
  rw [hR, hS, Int.natCast_mul, Int.natCast_mul, ← cv_scale, ← cv_scale]
  exact cv_congr (fun i => h1.cross i) (fun i => h2.cross i) j
/-- sums and differences of two least forms: e is 1 or -1 -/
theorem Low.add {r s p q R x : List Int} {un vn u v z w : Nat} {e : Int} (h1 : Low r un p u) (h2 : Low s vn q v) (hw : 0 < w) (hR : ∀ j, cf R j * ((u : Int) * (v : Int)) = (cf p j * (v : Int) + e * (cf q j * (u : Int))) * (w : Int)) (h3 : Low R w x z) {S : List Int} {tn : Nat} (ht : 0 < tn) (hS : ∀ j, cf S j * ((un : Int) * (vn : Int)) = (cf r j * (vn : Int) + e * (cf s j * (un : Int))) * (tn : Int)) : Low S tn x z := by
  refine h3.move ht fun j => ?_
  have c1 : cf p j * (un : Int) = cf r j * (u : Int) := h1.cross j
  have c2 : cf q j * (vn : Int) = cf s j * (v : Int) := h2.cross j
  have hu := h1.u1
  have hv := h2.u1
  have hun := h1.un0
  have hvn := h2.un0
  have nz : ((u : Int) * (v : Int)) * ((un : Int) * (vn : Int)) ≠ 0 := by
    have a := Int.mul_pos (show (0 : Int) < (u : Int) by omega) (show (0 : Int) < (v : Int) by omega)
    have b := Int.mul_pos (show (0 : Int) < (un : Int) by omega) (show (0 : Int) < (vn : Int) by omega)
    have := Int.mul_pos a b
    omega
  refine Int.eq_of_mul_eq_mul_right nz ?_
  have l1 : cf R j * (tn : Int) * (((u : Int) * (v : Int)) * ((un : Int) * (vn : Int))) = (cf R j * ((u : Int) * (v : Int))) * ((tn : Int) * ((un : Int) * (vn : Int))) := by ac_rfl
  have l2 : cf S j * (w : Int) * (((u : Int) * (v : Int)) * ((un : Int) * (vn : Int))) = (cf S j * ((un : Int) * (vn : Int))) * ((w : Int) * ((u : Int) * (v : Int))) := by ac_rfl
  rw [l1, l2, hR, hS]
  have m1 : (cf p j * (v : Int) + e * (cf q j * (u : Int))) * (w : Int) * ((tn : Int) * ((un : Int) * (vn : Int))) = ((cf p j * (un : Int)) * ((v : Int) * (vn : Int)) + e * ((cf q j * (vn : Int)) * ((u : Int) * (un : Int)))) * ((w : Int) * (tn : Int)) := by
    simp only [Int.add_mul]
    congr 1 <;> ac_rfl
  have m2 : (cf r j * (vn : Int) + e * (cf s j * (un : Int))) * (tn : Int) * ((w : Int) * ((u : Int) * (v : Int))) = ((cf r j * (u : Int)) * ((v : Int) * (vn : Int)) + e * ((cf s j * (v : Int)) * ((u : Int) * (un : Int)))) * ((w : Int) * (tn : Int)) := by
    simp only [Int.add_mul]
    congr 1 <;> ac_rfl
  rw [m1, m2, c1, c2]
/-- powers as functions -/
def pwF (f : Nat → Int) : Nat → Nat → Int
  | 0 => fun j => if j = 0 then 1 else 0
  | k + 1 => cv (pwF f k) f
theorem pwF_cross {f g : Nat → Int} {a b : Int} (h : ∀ i, f i * a = g i * b) (k : Nat) : ∀ j, pwF f k j * a ^ k = pwF g k j * b ^ k := by
  induction k with
  | zero => intro j; rw [Int.pow_zero, Int.pow_zero]; rfl
  | succ k ih =>
    intro j
    show cv (pwF f k) f j * a ^ (k + 1) = cv (pwF g k) g j * b ^ (k + 1)
    rw [Int.pow_succ, Int.pow_succ, ← cv_scale, ← cv_scale]
    exact cv_congr ih h j
/-- the product as a list -/
def mulL (a b : List Int) : List Int := (List.range (a.length + b.length)).map fun j => cv (cf a) (cf b) j
theorem mulL_len (a b : List Int) : (mulL a b).length = a.length + b.length := by unfold mulL; rw [List.length_map, List.length_range]
theorem cf_mulL (a b : List Int) (j : Nat) : cf (mulL a b) j = cv (cf a) (cf b) j := by
  rcases Nat.lt_or_ge j (a.length + b.length) with z | z
  · exact cf_of (by unfold mulL; rw [List.getElem?_map, List.getElem?_range z]; rfl)
  · rw [cf_ge (by rw [mulL_len]; exact z)]
    refine (sm_zero fun i hi => ?_).symm
    rcases Nat.lt_or_ge i a.length with y | y
    · rw [cf_ge (r := b) (by omega), Int.mul_zero]
    · rw [cf_ge (r := a) y, Int.zero_mul]
theorem sm_bd {n B : Nat} {h : Nat → Int} (hb : ∀ i, i < n → (h i).natAbs ≤ B) : (sm n h).natAbs ≤ n * B := by
  induction n with
  | zero => exact Nat.zero_le _
  | succ n ih =>
    have h1 := ih fun i hi => hb i (by omega)
    have h2 := hb n (Nat.lt_succ_self n)
    have h3 := Int.natAbs_add_le (sm n h) (h n)
    show (sm n h + h n).natAbs ≤ (n + 1) * B
    rw [Nat.succ_mul]; omega
theorem cf_bd {r : List Int} {b : Nat} (h : ∀ c ∈ r, Bd b c) (j : Nat) : Bd b (cf r j) := by
  rcases Nat.lt_or_ge j r.length with z | z
  · rw [cf_lt z]; exact h _ (List.getElem_mem z)
  · rw [cf_ge z]; exact Bd.zero b
theorem mulL_bd {r s : List Int} {a b w : Nat} (hr : ∀ c ∈ r, Bd a c) (hs : ∀ c ∈ s, Bd b c) (hl : r.length + s.length ≤ 120) (hw : a + b + 7 ≤ w) : ∀ c ∈ mulL r s, Bd w c := fun c hc => by
  unfold mulL at hc
  obtain ⟨j, hj, rfl⟩ := List.mem_map.mp hc
  have hj := List.mem_range.mp hj
  refine Bd.up (a := a + b + 7) ?_ hw
  have h1 : (cv (cf r) (cf s) j).natAbs ≤ (j + 1) * 2 ^ (a + b) := sm_bd fun i _ => by
    rw [Int.natAbs_mul, Nat.pow_add]
    exact Nat.mul_le_mul (Nat.le_of_lt (cf_bd hr i)) (Nat.le_of_lt (cf_bd hs _))
  have h2 : (j + 1) * 2 ^ (a + b) ≤ 120 * 2 ^ (a + b) := Nat.mul_le_mul_right _ (by omega)
  unfold Bd
  rw [Nat.pow_add _ _ 7]
  have := Nat.two_pow_pos (a + b)
  omega
/-- the powers as lists -/
def powL (r : List Int) : Nat → List Int
  | 0 => [1]
  | k + 1 => mulL (powL r k) r
theorem cf_powL (r : List Int) (k : Nat) : ∀ j, cf (powL r k) j = pwF (cf r) k j := by
  induction k with
  | zero =>
    intro j
    cases j with
    | zero => rfl
    | succ j => exact cf_ge (by show 1 ≤ j + 1; omega)
  | succ k ih => intro j; show cf (mulL (powL r k) r) j = _; rw [cf_mulL]; exact cv_congr ih (fun _ => rfl) j
theorem powL_len (r : List Int) (k : Nat) : (powL r k).length = 1 + k * r.length := by
  induction k with
  | zero => rw [Nat.zero_mul]; rfl
  | succ k ih => show (mulL (powL r k) r).length = _; rw [mulL_len, ih, Nat.succ_mul, Nat.add_assoc]
theorem powL_bd {r : List Int} {b : Nat} (h : ∀ c ∈ r, Bd b c) (hl : r.length ≤ 4) : ∀ k : Nat, k ≤ 6 → ∀ c ∈ powL r k, Bd (1 + k * (b + 7)) c
  | 0, _, c, hc => by
    rw [List.mem_singleton.mp hc]; unfold Bd; rw [Nat.zero_mul]; decide
  | k + 1, hk, c, hc => by
    have hk1 : k * r.length ≤ 6 * 4 := Nat.mul_le_mul (by omega) hl
    exact mulL_bd (powL_bd h hl k (by omega)) h (by rw [powL_len]; omega) (by rw [Nat.succ_mul]; omega) c hc
/-- a bound of sums and products -/
theorem Bd.mul {a b w : Nat} {x y : Int} (hx : Bd a x) (hy : Bd b y) (h : a + b ≤ w) : Bd w (x * y) := by
  refine Bd.up (a := a + b) ?_ h
  unfold Bd at *
  rw [Int.natAbs_mul, Nat.pow_add]
  exact Nat.mul_lt_mul'' hx hy
end Ef
set_option Elab.async false
set_option linter.all false
set_option maxRecDepth 100000
set_option maxHeartbeats 2000000
/-! | & - ^ and ~ by a class's own methods -/
namespace Ef
open PySem PySem.Spec PyProof.Rows L2
/-- the class at C has its own method m, which may raise -/
structure OwnG (P : Program) (w : World) (K : PySem.W.Frag) (mg : Str → Option Value) (base : Heap) (CXg : CXT) (k : Nat) (C : Addr) (m : Str) (ps : List Str) (sp : Sp) : Prop where
  ex : ∃ f fd, PySem.W.findIn K (.ref C) m = some (some (.ref f)) ∧ PySem.W.typeIn K (.ref f) = some (.type "function") ∧ Binds K fd ps [] ∧ FnOk P w K mg base CXg k f fd ps sp
/-- the class stands first among those that it looks names up in -/
def hdIn (K : PySem.W.Frag) (C : Addr) : Bool := match PySem.W.clsIn K C with
  | some cd => cd.mro.head? == some (.ref C)
  | none => false
section
variable {X : Cx} {pins : List (Addr × Obj)} {σ : L2.St} {H : Hp} {s : Shared} {Q : VK} {k : Nat} {C a dx : Addr} {fs : List (Str × V)} {m : Str} {ps : List Str} {sp : Sp} {A : Around} {E' : Value → Shared → Prop} {CXg : CXT} {E : XK}
theorem anyM_first {α : Type} {M : Model} {h : Heap} {f : α → Sem Bool} {x : α} {xs : List α} (hf : PySem.W.Looks M h (f x) true) : PySem.W.Looks M h ((x :: xs).anyM f) true := fun A Q E s e q => by
  show wpAny _ _ (f x >>= fun b => _) _ _ _
  exact wpAny_bind (hf A _ E s e (wpAny_pure q))
theorem looks_fills {K : PySem.W.Frag} {M : Model} {h : Heap} {nm : String} {f : Addr} (x : K.In h) (hd : hdIn K C = true) (hf : PySem.W.findIn K (.ref C) (dunder nm) = some (some (.ref f))) : PySem.W.Looks M h (fillsNumberSlot (.ref C) nm) true := by
  unfold hdIn at hd
  cases hc : PySem.W.clsIn K C with
  | none => rw [hc] at hd; cases hd
  | some cd =>
    rw [hc] at hd
    have hm : PySem.W.Looks M h (mroOf (.ref C)) cd.mro := (PySem.W.looks_clsIn x hc).andThen .now
    have hh : cd.mro.head? = some (.ref C) := by simpa using hd
    cases hl : cd.mro with
    | nil => rw [hl] at hh; cases hh
    | cons c r =>
      rw [hl] at hh hm
      have hc2 : c = .ref C := Option.some.inj hh
      subst hc2
      unfold fillsNumberSlot
      dsimp only
      refine hm.andThen (anyM_first ?_)
      dsimp only
      refine anyM_first ?_
      refine (PySem.W.looks_findIn x hf).andThen ?_
      dsimp only
      exact PySem.W.Looks.now
/-- a op b of two instances by the left one's own method: what it gives is an instance again -/
def rOwnBin (C : Addr) (sp : Sp) (E : XK) : R2 := fun x y H Q => ∃ (a dx b dy : Addr) (fs gs : List (Str × V)), x = .ref a ∧ y = .ref b ∧ H a = some (.ins C dx fs) ∧ H b = some (.ins C dy gs) ∧ sp [.ref a, .ref b] H (fun v H' => (∃ p, v = .ref p) ∧ Q v H') E
theorem op_bin_own {op : Operator} {sym nm : String} {f : Str} (hop : op.info = (sym, nm)) (hn : dunder nm = f) (O : OwnG X.prog X.w X.K X.mg X.base CXg k C f ps sp) (hd : hdIn X.K C = true) (hr : Room k X.A) (hx : Passes CXg X E) : OpR X (binaryOp op) (rOwnBin C sp E) := by
  intro pins s σ H x y v u Q I rx ry h
  obtain ⟨a, dx, b, dy, fs, gs, rfl, rfl, ea, eb, q⟩ := h
  cases rx
  cases ry
  subst hn
  obtain ⟨f, fd, hf, ht, hb, F⟩ := O.ex
  obtain ⟨mA, OM, _⟩ := ins_get I.hok ea
  obtain ⟨od, J, _⟩ := OM.look
  obtain ⟨mB, OMb, _⟩ := ins_get I.hok eb
  obtain ⟨odb, Jb, _⟩ := OMb.look
  have fin : wpAny (model X.prog X.w) X.A (tryMethod (.ref a) (dunder nm) (.ref b)) (fun o s' => ∃ p, o = some (.ref p) ∧ EP X pins σ Q (.ref p) s') X.xe s := by
    unfold tryMethod
    refine wpAny_bind (PySem.W.special_fn I.kIn J hf ht ?_)
    refine wpAny_mono (run_fn (us := [.ref a, .ref b]) (vs := [.ref a, .ref b]) F hr hb .nil hx I (.cons rfl (.cons rfl .nil)) q) (fun u s' hz => ?_) fun _ _ z => z
    obtain ⟨v, H', I', rv, ⟨p, rfl⟩, q'⟩ := hz
    obtain rfl : u = Value.ref p := rv
    exact wpAny_pure ⟨p, rfl, .ref p, H', I', rfl, q'⟩
  unfold binaryOp
  refine wpAny_holding ?_
  rw [hop]
  dsimp only
  refine wpAny_bind ?_
  unfold binaryOp1
  dsimp only
  refine wpAny_bind (J.type.here (wpAny_bind (Jb.type.here (wpAny_bind ((looks_fills I.kIn hd hf).here ?_)))))
  rw [if_pos (by simp)]
  refine wpAny_bind (wpAny_pure ?_)
  simp only [Bool.and_false, Bool.false_and, Bool.true_and, Bool.false_eq_true, if_false, if_true, ite_false, ite_true, pure_bind, bind_pure_comp]
  refine wpAny_bind (wpAny_mono fin (fun o s' ⟨p, e, z⟩ => ?_) fun _ _ z => z)
  subst e
  exact wpAny_pure (wpAny_pure z)
/-- ~o by an own __invert__ that gives an instance -/
def rOwnUn (C : Addr) (sp : Sp) (E : XK) : V → Hp → VK → Prop := fun x H Q => ∃ (a dx : Addr) (fs : List (Str × V)), x = .ref a ∧ H a = some (.ins C dx fs) ∧ sp [.ref a] H Q E
theorem un_inv_own (O : OwnG X.prog X.w X.K X.mg X.base CXg k C "__invert__" ps sp) (hr : Room k X.A) (hx : Passes CXg X E) : UnR X (unaryOp .Invert) (rOwnUn C sp E) := by
  intro pins s σ H x v Q I rx h
  obtain ⟨a, dx, fs, rfl, ea, q⟩ := h
  cases rx
  obtain ⟨f, fd, hf, ht, hb, F⟩ := O.ex
  obtain ⟨mA, OM, _⟩ := ins_get I.hok ea
  obtain ⟨od, J, _⟩ := OM.look
  unfold unaryOp
  refine wpAny_holding ?_
  dsimp only
  rw [if_neg (by decide)]
  refine wpAny_bind (PySem.W.special_fn I.kIn J hf ht ?_)
  refine wpAny_mono (run_fn (us := [.ref a]) (vs := [.ref a]) F hr hb .nil hx I (.cons rfl .nil) q) (fun u s' hz => ?_) fun _ _ z => z
  exact wpAny_pure hz
theorem un_neg_own (O : OwnG X.prog X.w X.K X.mg X.base CXg k C "__neg__" ps sp) (hr : Room k X.A) (hx : Passes CXg X E) : UnR X (unaryOp .USub) (rOwnUn C sp E) := by
  intro pins s σ H x v Q I rx h
  obtain ⟨a, dx, fs, rfl, ea, q⟩ := h
  cases rx
  obtain ⟨f, fd, hf, ht, hb, F⟩ := O.ex
  obtain ⟨mA, OM, _⟩ := ins_get I.hok ea
  obtain ⟨od, J, _⟩ := OM.look
  unfold unaryOp
  refine wpAny_holding ?_
  dsimp only
  rw [if_neg (by decide)]
  refine wpAny_bind (PySem.W.special_fn I.kIn J hf ht ?_)
  refine wpAny_mono (run_fn (us := [.ref a]) (vs := [.ref a]) F hr hb .nil hx I (.cons rfl .nil) q) (fun u s' hz => ?_) fun _ _ z => z
  exact wpAny_pure hz
end
end Ef
set_option Elab.async false
set_option linter.all false
set_option maxRecDepth 100000
set_option maxHeartbeats 2000000
/-! an own operator of an instance and an int, on either side -/
namespace Ef
open PySem PySem.Spec PyProof.Rows L2
section
variable {X : Cx} {pins : List (Addr × Obj)} {σ : L2.St} {H : Hp} {s : Shared} {Q : VK} {k : Nat} {C a dx : Addr} {fs : List (Str × V)} {m : Str} {ps : List Str} {sp : Sp} {A : Around} {E' : Value → Shared → Prop} {CXg : CXT} {E : XK}
/-- what the table says of the built-in int for an operator -/
structure IntOp (nm : String) (id : String) : Prop where
  fills : fillsNumberSlot (.type "int") nm = pure true
  slot : Slot "int" (dunder nm) id
  r : ∃ ro, typeLookup (.type "int") (dunderR nm) = pure ro
/-- a op i by the left one's own method: what it gives is an instance -/
def rOwnInt (C : Addr) (sp : Sp) (E : XK) : R2 := fun x y H Q => ∃ (a dx : Addr) (fs : List (Str × V)) (i : Int), x = .ref a ∧ y = .int i ∧ H a = some (.ins C dx fs) ∧ sp [.ref a, .int i] H (fun v H' => (∃ p, v = .ref p) ∧ Q v H') E
theorem op_bin_int {op : Operator} {sym nm id : String} {f g : Str} {rc : Option Value} (hop : op.info = (sym, nm)) (hn : dunder nm = f) (hg : dunderR nm = g) (O : OwnG X.prog X.w X.K X.mg X.base CXg k C f ps sp) (hd : hdIn X.K C = true)
    (hR : PySem.W.findIn X.K (.ref C) g = some rc) (hp : rc = none ∨ ∃ g : Addr, rc = some (.ref g)) (T : IntOp nm id) (hsub : PySem.W.subIn X.K (.type "int") (.ref C) = some false)
    (hr : Room k X.A) (hx : Passes CXg X E) : OpR X (binaryOp op) (rOwnInt C sp E) := by
  intro pins s σ H x y v u Q I rx ry h
  obtain ⟨a, dx, fs, i, rfl, rfl, ea, q⟩ := h
  cases rx
  obtain ⟨t, rfl⟩ := ry
  subst hn
  subst hg
  obtain ⟨f, fd, hf, ht, hb, F⟩ := O.ex
  obtain ⟨mA, OM, _⟩ := ins_get I.hok ea
  obtain ⟨od, J, _⟩ := OM.look
  obtain ⟨ro, hro⟩ := T.r
  have one : wpAny (model X.prog X.w) X.A (tryMethod (.ref a) (dunder nm) (.int i t)) (fun o s' => ∃ p, o = some (.ref p) ∧ EP X pins σ Q (.ref p) s') X.xe s := by
    unfold tryMethod
    refine wpAny_bind (PySem.W.special_fn I.kIn J hf ht ?_)
    refine wpAny_mono (run_fn (us := [.ref a, .int i t]) (vs := [.ref a, .int i]) F hr hb .nil hx I (.cons rfl (.cons ⟨_, rfl⟩ .nil)) q) (fun u s' hz => ?_) fun _ _ z => z
    obtain ⟨v, H', I', rv, ⟨p, rfl⟩, q'⟩ := hz
    obtain rfl : u = Value.ref p := rv
    exact wpAny_pure ⟨p, rfl, .ref p, H', I', rfl, q'⟩
  have kin := I.kIn
  have L1 : PySem.W.Looks (model X.prog X.w) s.heap (typeOf (.ref a)) (.ref C) := J.type
  have L2 : PySem.W.Looks (model X.prog X.w) s.heap (typeOf (.int i t)) (.type "int") := PySem.W.Looks.of_pure rfl
  have L3 : PySem.W.Looks (model X.prog X.w) s.heap (fillsNumberSlot (.ref C) nm) true := looks_fills kin hd hf
  have L4 : PySem.W.Looks (model X.prog X.w) s.heap (fillsNumberSlot (.type "int") nm) true := PySem.W.Looks.of_pure T.fills
  have L5 : PySem.W.Looks (model X.prog X.w) s.heap (isSubtype (.type "int") (.ref C)) false := PySem.W.looks_subIn kin hsub
  have L6 : PySem.W.Looks (model X.prog X.w) s.heap (numberSlotInPython (.ref C) nm) true := PySem.W.ksp_inPy kin hf hR hp
  have L7 : PySem.W.Looks (model X.prog X.w) s.heap (numberSlotInPython (.type "int") nm) false := PySem.W.Looks.of_pure rfl
  have L8 : PySem.W.Looks (model X.prog X.w) s.heap (typeLookup (.type "int") (dunderR nm)) ro := PySem.W.Looks.of_pure hro
  have hne : (Value.ref C == Value.type "int") = false := Bool.eq_false_iff.mpr fun q => by cases beq_iff_eq.mp q
  unfold binaryOp
  refine wpAny_holding ?_
  rw [hop]
  dsimp only
  refine wpAny_bind ?_
  unfold binaryOp1
  dsimp only
  refine wpAny_bind (L1.here (wpAny_bind (L2.here (wpAny_bind (L3.here ?_)))))
  simp only [hne, Bool.false_eq_true, if_false]
  refine wpAny_bind (L4.here ?_)
  simp only [Bool.and_self, if_true]
  refine wpAny_bind (L5.here ?_)
  simp only [Bool.false_eq_true, if_false, pure_bind, Bool.not_false, Bool.and_self, if_true]
  refine wpAny_bind (L6.here ?_)
  simp only [if_true]
  refine wpAny_bind (L7.here ?_)
  simp only [Bool.not_false, if_true]
  refine wpAny_bind (L8.here ?_)
  refine wpAny_bind (wpAny_mono one (fun o s' ⟨p, e, z⟩ => ?_) fun _ _ z => z)
  subst e
  exact wpAny_pure (wpAny_pure z)
/-- an int's own method declines an instance -/
def Declines (id : String) : Prop := ∀ (P : Program) (w : World) (A : Around) (E : Value → Shared → Prop) (s : Shared) (i : Int) (t : Tok) (a dx C : Addr) (Q : Value → Shared → Prop), s.heap.get? a = some (PySem.W.instObj C dx) → Q .notImplemented s → wpAny (model P w) A (call (.builtin id) [.int i t, .ref a]) Q E s
theorem intBinary_ref (name : String) (f : Int → Int → Sem Fin) (i : Int) (t : Tok) (a dx C : Addr) : Meets (Builtin.Int.intBinary name f false ⟨[.int i t, .ref a], []⟩) (fun _ R s => s.heap.get? a = some (PySem.W.instObj C dx) ∧ R (.ok (.ret Value.notImplemented)) s) :=
  .of_wp fun prog w A R s h => by
    obtain ⟨hl, h⟩ := h
    unfold Builtin.Int.intBinary slotArgs
    refine wpAny_bind (wpAny_ite_false rfl (wpAny_ite_false rfl (wpAny_pure ?_)))
    refine wpAny_bind ?_
    unfold Builtin.Int.intOfSelf asInt?
    refine wpAny_bind (wpAny_pure (wpAny_pure ?_))
    refine wpAny_bind ?_
    show wpAny _ _ (load a >>= fun o => _) _ _ _
    refine wpAny_bind (wpAny_load hl (wpAny_pure ?_))
    exact wpAny_bind (wpAny_rule (wpAny_pure ⟨_, rfl, h⟩))
theorem declines_add : Declines "int.__add__" := fun P w A E s i t a dx C Q e q =>
  call_meets PySem.F.slot_int_add (typeIs_int s i t) PySem.F.entry_int_add (PySem.F.args_int_add_2 _ _) (intBinary_ref "__add__" (fun x y => retInt (x + y)) i t a dx C) ⟨e, q⟩
theorem declines_sub : Declines "int.__sub__" := fun P w A E s i t a dx C Q e q =>
  call_meets PySem.F.slot_int_sub (typeIs_int s i t) PySem.F.entry_int_sub (PySem.F.args_int_sub_2 _ _) (intBinary_ref "__sub__" (fun x y => retInt (x - y)) i t a dx C) ⟨e, q⟩
theorem declines_mul : Declines "int.__mul__" := fun P w A E s i t a dx C Q e q =>
  call_meets PySem.F.slot_int_mul (typeIs_int s i t) PySem.F.entry_int_mul (PySem.F.args_int_mul_2 _ _) (intBinary_ref "__mul__" (fun x y => Builtin.intProduct "__mul__" x y) i t a dx C) ⟨e, q⟩
theorem intop_add : IntOp "add" "int.__add__" := ⟨PySem.F.fills_int_add, PySem.F.slot_int_add, _, PySem.F.slot_int_radd.lookup⟩
theorem intop_sub : IntOp "sub" "int.__sub__" := ⟨PySem.F.fills_int_sub, PySem.F.slot_int_sub, _, PySem.F.slot_int_rsub.lookup⟩
theorem intop_mul : IntOp "mul" "int.__mul__" := ⟨PySem.F.fills_int_mul, PySem.F.slot_int_mul, _, PySem.F.slot_int_rmul.lookup⟩
theorem intop_pow : IntOp "pow" "int.__pow__" := ⟨PySem.F.fills_int_pow, PySem.F.slot_int_pow, _, PySem.F.slot_int_rpow.lookup⟩
/-- i op a by the right one's own reflected method -/
def rOwnRef (C : Addr) (sp : Sp) (E : XK) : R2 := fun x y H Q => ∃ (a dx : Addr) (fs : List (Str × V)) (i : Int), x = .int i ∧ y = .ref a ∧ H a = some (.ins C dx fs) ∧ sp [.ref a, .int i] H (fun v H' => (∃ p, v = .ref p) ∧ Q v H') E
theorem op_bin_ref {op : Operator} {sym nm id : String} {g f1 : Str} {f0 : Addr} (hop : op.info = (sym, nm)) (hn : dunderR nm = g) (hg : dunder nm = f1) (O : OwnG X.prog X.w X.K X.mg X.base CXg k C g ps sp) (hd : hdIn X.K C = true)
    (hF : PySem.W.findIn X.K (.ref C) f1 = some (some (.ref f0))) (T : IntOp nm id) (hdec : Declines id) (hsub : PySem.W.subIn X.K (.ref C) (.type "int") = some false)
    (hr : Room k X.A) (hx : Passes CXg X E) : OpR X (binaryOp op) (rOwnRef C sp E) := by
  intro pins s σ H x y v u Q I rx ry h
  obtain ⟨a, dx, fs, i, rfl, rfl, ea, q⟩ := h
  obtain ⟨t, rfl⟩ := rx
  cases ry
  subst hn
  subst hg
  obtain ⟨f, fd, hf, ht, hb, F⟩ := O.ex
  obtain ⟨mA, OM, _⟩ := ins_get I.hok ea
  have hobj := OM.obj
  obtain ⟨od, J, _⟩ := OM.look
  have one : wpAny (model X.prog X.w) X.A (tryMethod (.ref a) (dunderR nm) (.int i t)) (fun o s' => ∃ p, o = some (.ref p) ∧ EP X pins σ Q (.ref p) s') X.xe s := by
    unfold tryMethod
    refine wpAny_bind (PySem.W.special_fn I.kIn J hf ht ?_)
    refine wpAny_mono (run_fn (us := [.ref a, .int i t]) (vs := [.ref a, .int i]) F hr hb .nil hx I (.cons rfl (.cons ⟨_, rfl⟩ .nil)) q) (fun u s' hz => ?_) fun _ _ z => z
    obtain ⟨v, H', I', rv, ⟨p, rfl⟩, q'⟩ := hz
    obtain rfl : u = Value.ref p := rv
    exact wpAny_pure ⟨p, rfl, .ref p, H', I', rfl, q'⟩
  have kin := I.kIn
  have L1 : PySem.W.Looks (model X.prog X.w) s.heap (typeOf (.ref a)) (.ref C) := J.type
  have L2 : PySem.W.Looks (model X.prog X.w) s.heap (typeOf (.int i t)) (.type "int") := PySem.W.Looks.of_pure rfl
  have L3 : PySem.W.Looks (model X.prog X.w) s.heap (fillsNumberSlot (.ref C) nm) true := looks_fills kin hd hF
  have L4 : PySem.W.Looks (model X.prog X.w) s.heap (fillsNumberSlot (.type "int") nm) true := PySem.W.Looks.of_pure T.fills
  have L5 : PySem.W.Looks (model X.prog X.w) s.heap (isSubtype (.ref C) (.type "int")) false := PySem.W.looks_subIn kin hsub
  have L7 : PySem.W.Looks (model X.prog X.w) s.heap (numberSlotInPython (.type "int") nm) false := PySem.W.Looks.of_pure rfl
  have hne : (Value.type "int" == Value.ref C) = false := Bool.eq_false_iff.mpr fun q => by cases beq_iff_eq.mp q
  unfold binaryOp
  refine wpAny_holding ?_
  rw [hop]
  dsimp only
  refine wpAny_bind ?_
  unfold binaryOp1
  dsimp only
  refine wpAny_bind (L2.here (wpAny_bind (L1.here (wpAny_bind (L4.here ?_)))))
  simp only [hne, Bool.false_eq_true, if_false]
  refine wpAny_bind (L3.here ?_)
  simp only [Bool.and_self, if_true]
  refine wpAny_bind (L5.here ?_)
  simp only [Bool.false_eq_true, if_false, pure_bind, Bool.not_false, Bool.and_self, if_true]
  refine wpAny_bind (L7.here ?_)
  simp only [Bool.false_eq_true, if_false, pure_bind]
  refine wpAny_bind (wpAny_tryMethod_declines (typeIs_int s i t) T.slot (hdec _ _ _ _ _ _ _ _ _ _ _ hobj ⟨rfl, ?_⟩))
  simp only [Bool.false_eq_true, if_false, pure_bind, Bool.not_false, Bool.and_self, if_true]
  refine wpAny_bind (wpAny_mono one (fun o s' ⟨p, e, z⟩ => ?_) fun _ _ z => z)
  subst e
  exact wpAny_bind (wpAny_rule (wpAny_pure (wpAny_pure z)))
end
end Ef
set_option Elab.async false
set_option linter.all false
set_option maxRecDepth 100000
set_option maxHeartbeats 4000000
namespace Ef
open PySem PySem.Spec PyProof.Rows L2
abbrev sTm : Stmt := top 17
abbrev sSum : Stmt := top 18
abbrev sGap : Stmt := top 19
abbrev sProd : Stmt := top 20
/-! ### a list or a tuple, walked -/
def iSeq (K : PySem.W.Frag) (tl : TE) : TI := fun σ H R => tl σ H fun x H1 => ∃ a, x = .ref a ∧ (((∃ xs, SqL K H1 a xs) ∧ R (Itl K a) H1) ∨ ((∃ xs, SqT K H1 a xs) ∧ R (Itt K a) H1))
theorem pi_seq {X : Cx} {tg l : Expr} {tl : TE} (hl : PE X l tl) : PI X tg l (iSeq X.K tl) := by
  refine ⟨fun pins s σ H R I h => ?_⟩
  refine thn (hl.run pins s σ H _ I h) fun v s1 ⟨x, H1, I1, r1, q1⟩ => ?_
  obtain ⟨a, e, q⟩ := q1
  subst e
  cases r1
  rcases q with ⟨⟨xs, hq⟩, q⟩ | ⟨⟨xs, hq⟩, q⟩
  · obtain ⟨its, rv, p, hz⟩ := I1.list hq
    refine wpAny_pyIter_list p.isList ?_
    refine ⟨s1.heap.objs.size, [s1.heap.objs.size], _, _, H1, rfl, I1.kept (t' := s1.toks) fun b o e => Heap.get?_push_of_some _ e, turn_list a _, ⟨_, Heap.get?_push_size _ rfl, rfl, rfl⟩, fun b hb => ?_, q⟩
    have e : b = s1.heap.objs.size := by simpa using hb
    subst e
    exact I1.fpOk (Nat.le_refl _) (I1.hok.fresh (Nat.le_refl _))
  · obtain ⟨its, rv, p, hz⟩ := I1.tuple hq
    refine wpAny_pyIter_tuple (show s1.heap.IsTuple a its.toArray from p) ?_
    refine ⟨s1.heap.objs.size, [s1.heap.objs.size], _, _, H1, rfl, I1.kept (t' := s1.toks) fun b o e => Heap.get?_push_of_some _ e, turn_tuple a _, ⟨_, Heap.get?_push_size _ rfl, rfl, rfl⟩, fun b hb => ?_, q⟩
    have e : b = s1.heap.objs.size := by simpa using hb
    subst e
    exact I1.fpOk (Nat.le_refl _) (I1.hok.fresh (Nat.le_refl _))
theorem walk_zipT {K : PySem.W.Frag} {a b : Addr} {xs ys : List V} {n : Nat} (hn : n = min xs.length ys.length) : Walk (RZ.ItzT K a b) n (fun H => SqT K H a xs ∧ SqT K H b ys) (YPair (fun i => xs[i]?) (fun i => ys[i]?)) := by
  subst hn
  refine ⟨fun i _ hi q => ?_, fun _ q => ⟨xs, ys, q.1, q.2, by omega⟩, fun i H v H' _ q y => ?_⟩
  · have h1 : i < xs.length := by omega
    have h2 : i < ys.length := by omega
    exact ⟨xs, ys, xs[i], ys[i], q.1, q.2, by simp [h1], by simp [h2]⟩
  · obtain ⟨T, x, z, h1, h2, h3, h4, h5⟩ := y
    exact ⟨T, x, z, h1, h2, h3, h4 xs q.1, h5 ys q.2⟩
section
variable {P : Program} {w : World} {K : PySem.W.Frag} {mg : Str → Option Value} {base : Heap}
/-- a comprehension over a list or a tuple of whole numbers that makes one of each -/
theorem lc_seqs {a : Addr} {r : List Int} {f : Int → Int} {H1 : Hp} {σ : L2.St} {Qd : Addr → Hp → Prop} {g : TG} {te : TE} {vs : List Nat} (ha : Seqs K H1 a (r.map V.int)) (hl : r.length ≤ 1000)
    (hs : ∀ (c : Int) (H : Hp) (R : VK), c ∈ r → Same H1 H → R (.int (f c)) H → g (.int c) (wipe σ vs) H fun σ2 H2 => wipe σ2 vs = wipe σ vs ∧ te σ2 H2 R)
    (hd : ∀ D H', H1 D = none → Same H1 H' → H' D = some (.lst ((r.map f).map V.int)) → Qd D H') :
    let R : It → Hp → Prop := fun J H1 => ∀ D, H1 D = none → ∃ W : Nat → Nat → Hp → Prop, (∃ m, W 0 m (upd H1 D (.lst []))) ∧ ∀ i m H, W i m H → (J.stop i H ∧ Qd D H) ∨ (J.go i H ∧ ∃ Nx : Hp → Prop, (∀ H', Nx H' → ∃ m', m' < m ∧ W (i + 1) m' H') ∧ ∀ y H', J.yld i H y H' → g y (wipe σ vs) H' fun σ2 H2 => wipe σ2 vs = wipe σ vs ∧ tYes σ2 H2 fun b H3 => if b = true then te σ2 H3 fun z H4 => ∃ acc, H4 D = some (.lst acc) ∧ acc.length < sizeLine ∧ Nx (upd H4 D (.lst (acc ++ [z]))) else Nx H3)
    ((∃ xs, SqL K H1 a xs) ∧ R (Itl K a) H1) ∨ ((∃ xs, SqT K H1 a xs) ∧ R (Itt K a) H1) := by
  have step : ∀ (D : Addr) (i : Nat) (y : V) (H' : Hp), H1 D = none → (r.map V.int)[i]? = some y → Same H1 H' → H' D = some (.lst (((r.take i).map f).map V.int)) → g y (wipe σ vs) H' fun σ2 H2 => wipe σ2 vs = wipe σ vs ∧ tYes σ2 H2 fun b H3 => if b = true then te σ2 H3 fun z H4 => ∃ acc, H4 D = some (.lst acc) ∧ acc.length < sizeLine ∧ Same H1 (upd H4 D (.lst (acc ++ [z]))) ∧ (upd H4 D (.lst (acc ++ [z]))) D = some (.lst (((r.take (i + 1)).map f).map V.int)) else Same H1 H3 ∧ H3 D = some (.lst (((r.take (i + 1)).map f).map V.int)) := by
    intro D i y H' hD hi sx hx
    rw [List.getElem?_map] at hi
    obtain ⟨c, hc, rfl⟩ := Option.map_eq_some_iff.mp hi
    refine hs c H' _ (List.mem_of_getElem? hc) sx ⟨_, hx, ?_, same_mut sx hD, ?_⟩
    · rw [List.length_map, List.length_map, List.length_take]
      exact Nat.lt_of_le_of_lt (show min i r.length ≤ 1000 by omega) (by decide)
    · rw [upd_same, List.take_succ, hc, Option.toList_some, List.map_append, List.map_append]
      rfl
  rcases ha with ha | ha
  · refine .inl ⟨⟨_, ha⟩, fun D hD => ?_⟩
    refine lc_list (K := K) (a := a) (xs := r.map V.int) (tt := tYes) (fun i H' => Same H1 H' ∧ H' D = some (.lst (((r.take i).map f).map V.int))) ⟨same_new hD, upd_same⟩ (fun i H' _ hh => hh.1.seq ha) (fun i y H' hi ⟨sx, hx⟩ => step D i y H' hD hi sx hx) ?_
    rintro H3 ⟨s3, h3⟩
    rw [List.length_map, List.take_length] at h3
    exact hd D H3 hD s3 h3
  · refine .inr ⟨⟨_, ha⟩, fun D hD => ?_⟩
    refine lc_tup (K := K) (a := a) (xs := r.map V.int) (tt := tYes) (fun i H' => Same H1 H' ∧ H' D = some (.lst (((r.take i).map f).map V.int))) ⟨same_new hD, upd_same⟩ (fun i H' _ hh => Same.tup hh.1 ha) (fun i y H' hi ⟨sx, hx⟩ => step D i y H' hD hi sx hx) ?_
    rintro H3 ⟨s3, h3⟩
    rw [List.length_map, List.take_length] at h3
    exact hd D H3 hD s3 h3
/-! ### row_times -/
def spTm (K : PySem.W.Frag) : Sp := fun vs H Q _ => ∃ (a : Addr) (r : List Int) (f : Int), vs = [.ref a, .int f] ∧ Seqs K H a (r.map V.int) ∧ r.length ≤ 1000 ∧ (∀ c ∈ r, Bd 9000 c) ∧ Bd 9000 f ∧ ∀ l H', H l = none → Same H H' → H' l = some (.lst ((r.map fun c => c * f).map V.int)) → Q (.ref l) H'
theorem scTm : FnScope ["row", "factor", "number"] ["row", "factor"] (defScope sTm) := ⟨rfl, rfl, rfl, by decide +kernel, rfl, by decide +kernel, by decide +kernel⟩
theorem df_tm (A : At K mg "row_times" sTm) : Df P w K mg base 1 "row_times" ["row", "factor"] (spTm K) := by
  obtain ⟨f, fd, hm, F⟩ := A.ex
  refine ⟨f, fd, hm, F.kp, F.binds (fun _ _ _ _ _ _ us hl => match us, hl with | [_, _], _ => rfl), F.ok scTm (fun vs H Q E h => ?_) (fun cdv A outer s H vs Q E hr h => ?_)⟩
  · obtain ⟨a, r, f, rfl, _⟩ := h
    rfl
  · obtain ⟨a, r, f, rfl, hS, hl, hb, hf, q⟩ := h
    refine ⟨_, (pss_one (ps_ret (pe_lc (own := [("number", 2)]) (g := gName 2) (by rfl) scTm.nd (pi_seq (pv 0)) (blkOk_by (own := [("number", 2)]) (N := ["row", "factor", "number"]) (sc := defScope sTm) (by decide +kernel)) (fun _ _ _ _ _ => pg_name (i := 2) scTm.nd rfl (Or.inl rfl)) (fun _ _ _ _ _ => pts_nil) (fun _ _ _ _ _ => (pe_op op_mulW (pv 2) (pv 1)))))), ?_⟩
    refine ⟨_, rfl, a, rfl, lc_seqs (f := fun c => c * f) hS hl (fun c H R hc _ h => ⟨rfl, _, rfl, _, rfl, _, _, rfl, rfl, wide_mul (hb c hc) hf (by decide) (by decide) (by decide), h⟩) fun D H' hD s1 h1 => q D H' hD s1 h1⟩
end
end Ef
set_option Elab.async false
set_option linter.all false
set_option maxRecDepth 100000
set_option maxHeartbeats 4000000
namespace Ef
open PySem PySem.Spec PyProof.Rows L2
section
variable {P : Program} {w : World} {K : PySem.W.Frag} {mg : Str → Option Value} {base : Heap}
/-- two lists, or two tuples -/
def Two (K : PySem.W.Frag) (H : Hp) (a b : Addr) (xs ys : List V) : Prop := (SqL K H a xs ∧ SqL K H b ys) ∨ (SqT K H a xs ∧ SqT K H b ys)
theorem Two.fst {K : PySem.W.Frag} {H : Hp} {a b : Addr} {xs ys : List V} (h : Two K H a b xs ys) : Seqs K H a xs := h.elim (fun h => .inl h.1) fun h => .inr h.1
theorem Two.snd {K : PySem.W.Frag} {H : Hp} {a b : Addr} {xs ys : List V} (h : Two K H a b xs ys) : Seqs K H b ys := h.elim (fun h => .inl h.2) fun h => .inr h.2
theorem Two.swap {K : PySem.W.Frag} {H : Hp} {a b : Addr} {xs ys : List V} (h : Two K H a b xs ys) : Two K H b a ys xs := h.elim (fun h => .inl ⟨h.2, h.1⟩) fun h => .inr ⟨h.2, h.1⟩
theorem Two.same {K : PySem.W.Frag} {H H' : Hp} {a b : Addr} {xs ys : List V} (h : Two K H a b xs ys) (e : Same H H') : Two K H' a b xs ys := h.elim (fun h => .inl ⟨e.seq h.1, e.seq h.2⟩) fun h => .inr ⟨Same.tup e h.1, Same.tup e h.2⟩
/-- the members one by one with those of the other -/
def zipR (f : Int → Int → Int) (r s : List Int) : List Int := List.zipWith f r s
/-- a comprehension over two rows of whole numbers at once -/
theorem lc_two {a b : Addr} {r s : List Int} {f : Int → Int → Int} {H1 : Hp} {σ : L2.St} {Qd : Addr → Hp → Prop} {g : TG} {te : TE} {vs : List Nat} (ha : Two K H1 a b (r.map V.int) (s.map V.int)) (hl : r.length ≤ 1000)
    (hs : ∀ (x y : Int) (T : Addr) (H : Hp) (R : VK), x ∈ r → y ∈ s → Same H1 H → H T = some (.tup [.int x, .int y]) → R (.int (f x y)) H → g (.ref T) (wipe σ vs) H fun σ2 H2 => wipe σ2 vs = wipe σ vs ∧ te σ2 H2 R)
    (hd : ∀ D H', H1 D = none → Same H1 H' → H' D = some (.lst ((zipR f r s).map V.int)) → Qd D H') :
    let R : It → Hp → Prop := fun J H1 => ∀ D, H1 D = none → ∃ W : Nat → Nat → Hp → Prop, (∃ m, W 0 m (upd H1 D (.lst []))) ∧ ∀ i m H, W i m H → (J.stop i H ∧ Qd D H) ∨ (J.go i H ∧ ∃ Nx : Hp → Prop, (∀ H', Nx H' → ∃ m', m' < m ∧ W (i + 1) m' H') ∧ ∀ y H', J.yld i H y H' → g y (wipe σ vs) H' fun σ2 H2 => wipe σ2 vs = wipe σ vs ∧ tYes σ2 H2 fun b H3 => if b = true then te σ2 H3 fun z H4 => ∃ acc, H4 D = some (.lst acc) ∧ acc.length < sizeLine ∧ Nx (upd H4 D (.lst (acc ++ [z]))) else Nx H3)
    ∃ a' b' xs ys, [V.ref a, V.ref b] = [V.ref a', V.ref b'] ∧ ((SqL K H1 a' xs ∧ SqL K H1 b' ys ∧ R (Itz K a' b') H1) ∨ (SqT K H1 a' xs ∧ SqT K H1 b' ys ∧ R (RZ.ItzT K a' b') H1)) := by
  refine ⟨a, b, r.map V.int, s.map V.int, rfl, ?_⟩
  have step : ∀ (D : Addr) (i : Nat) (x : V) (H H' : Hp), H1 D = none → i < min r.length s.length → (Same H1 H ∧ H D = some (.lst (((zipR f r s).take i).map V.int))) → YPair (fun i => (r.map V.int)[i]?) (fun i => (s.map V.int)[i]?) i H x H' → g x (wipe σ vs) H' fun σ2 H2 => wipe σ2 vs = wipe σ vs ∧ tYes σ2 H2 fun b H3 => if b = true then te σ2 H3 fun z H4 => ∃ acc, H4 D = some (.lst acc) ∧ acc.length < sizeLine ∧ (Same H1 (upd H4 D (.lst (acc ++ [z]))) ∧ (upd H4 D (.lst (acc ++ [z]))) D = some (.lst (((zipR f r s).take (i + 1)).map V.int))) else (Same H1 H3 ∧ H3 D = some (.lst (((zipR f r s).take (i + 1)).map V.int))) := by
    rintro D i x H H' hD hi ⟨sx, hx⟩ ⟨T, y, z, rfl, nT, rfl, ey, ez⟩
    dsimp only at ey ez
    rw [List.getElem?_map, List.getElem?_eq_getElem (by omega)] at ey ez
    injection ey with ey
    injection ez with ez
    subst ey ez
    have sT := sx.trans (same_new (o := .tup [.int r[i], .int s[i]]) nT)
    have hT : (upd H T (.tup [.int r[i], .int s[i]])) D = some (.lst (((zipR f r s).take i).map V.int)) := by rw [upd_ne (ne_of_none hx nT)]; exact hx
    have eT : (upd H T (.tup [.int r[i], .int s[i]])) T = some (.tup [.int r[i], .int s[i]]) := upd_same
    refine hs r[i] s[i] T _ _ (List.getElem_mem _) (List.getElem_mem _) sT eT ⟨_, hT, ?_, same_mut sT hD, ?_⟩
    · rw [List.length_map, List.length_take]
      exact Nat.lt_of_le_of_lt (show min i _ ≤ 1000 by omega) (by decide)
    · have e : (zipR f r s)[i]? = some (f r[i] s[i]) := by
        unfold zipR
        rw [List.getElem?_zipWith, List.getElem?_eq_getElem (by omega), List.getElem?_eq_getElem (by omega)]
      rw [upd_same, List.take_succ, e, Option.toList_some, List.map_append]
      rfl
  have hlen : (zipR f r s).length = min r.length s.length := by unfold zipR; rw [List.length_zipWith]
  have fin : ∀ (D : Addr) (H' : Hp), H1 D = none → (Same H1 H' ∧ H' D = some (.lst (((zipR f r s).take (min r.length s.length)).map V.int))) → Qd D H' := fun D H' hD ⟨s3, h3⟩ => by
    rw [← hlen, List.take_length] at h3
    exact hd D H' hD s3 h3
  rcases ha with ⟨ha, hb⟩ | ⟨ha, hb⟩
  · refine .inl ⟨ha, hb, fun D hD => ?_⟩
    exact lc_it (tt := tYes) (walk_zip (n := min r.length s.length) (by rw [List.length_map, List.length_map])) (fun i H' => Same H1 H' ∧ H' D = some (.lst (((zipR f r s).take i).map V.int))) ⟨same_new hD, by rw [upd_same]; rfl⟩ (fun i H' _ h => ⟨h.1.seq ha, h.1.seq hb⟩) (fun i x H H' hi hp hy => step D i x H H' hD hi hp hy) (fun H' h => fin D H' hD h)
  · refine .inr ⟨ha, hb, fun D hD => ?_⟩
    exact lc_it (tt := tYes) (walk_zipT (n := min r.length s.length) (by rw [List.length_map, List.length_map])) (fun i H' => Same H1 H' ∧ H' D = some (.lst (((zipR f r s).take i).map V.int))) ⟨same_new hD, by rw [upd_same]; rfl⟩ (fun i H' _ h => ⟨Same.tup h.1 ha, Same.tup h.1 hb⟩) (fun i x H H' hi hp hy => step D i x H H' hD hi hp hy) (fun H' h => fin D H' hD h)
theorem cut_lo (xs : List V) (k : Nat) : cutV xs (some (k : Int)) none = xs.drop k := by
  unfold cutV
  rw [HT.sIx_none, HT.sIx_nat]
  rcases Nat.lt_or_ge k xs.length with z | z
  · rw [Nat.min_eq_left (by omega), List.take_of_length_le (by rw [List.length_drop]; omega)]
  · rw [Nat.min_eq_right z, List.drop_length, List.drop_eq_nil_of_le z, List.take_nil]
/-! ### row_sum -/
/-- the sums, and what one has more -/
def sumR (r s : List Int) : List Int := zipR (fun x y => x + y) r s ++ r.drop s.length
theorem sumR_len {r s : List Int} (h : s.length ≤ r.length) : (sumR r s).length = r.length := by
  unfold sumR zipR
  rw [List.length_append, List.length_zipWith, List.length_drop]; omega
theorem cf_zip (f : Int → Int → Int) (r s : List Int) (j : Nat) : cf (zipR f r s) j = if j < min r.length s.length then f (cf r j) (cf s j) else 0 := by
  have hlen : (zipR f r s).length = min r.length s.length := by unfold zipR; rw [List.length_zipWith]
  by_cases h : j < min r.length s.length
  · rw [if_pos h, cf_lt (by rw [hlen]; exact h), cf_lt (show j < r.length by omega), cf_lt (show j < s.length by omega)]
    unfold zipR
    rw [List.getElem_zipWith]
  · rw [if_neg h, cf_ge (by rw [hlen]; omega)]
theorem cf_drop (r : List Int) (k j : Nat) : cf (r.drop k) j = cf r (k + j) := by
  unfold cf
  rw [List.getD_eq_getElem?_getD, List.getD_eq_getElem?_getD, List.getElem?_drop]
theorem cf_sumR {r s : List Int} (h : s.length ≤ r.length) (j : Nat) : cf (sumR r s) j = cf r j + cf s j := by
  have hlen : (zipR (fun x y => x + y) r s).length = s.length := by unfold zipR; rw [List.length_zipWith]; omega
  unfold sumR
  rw [cf_append, hlen]
  by_cases hj : j < s.length
  · rw [if_pos hj, cf_zip, if_pos (by omega)]
  · rw [if_neg hj, cf_drop, show s.length + (j - s.length) = j by omega, cf_ge (r := s) (by omega), Int.add_zero]
def spSum1 (K : PySem.W.Frag) : Sp := fun vs H Q _ => ∃ (a b : Addr) (r s : List Int), vs = [.ref a, .ref b] ∧ Two K H a b (r.map V.int) (s.map V.int) ∧ r.length ≤ 1000 ∧ s.length ≤ r.length ∧ ∀ l H', H l = none → Same H H' → H' l = some (.lst ((sumR r s).map V.int)) → Q (.ref l) H'
theorem scSum : FnScope ["one", "other", "a", "b"] ["one", "other"] (defScope sSum) := ⟨rfl, rfl, rfl, by decide +kernel, rfl, by decide +kernel, by decide +kernel⟩
theorem df_sum1 (A : At K mg "row_sum" sSum) (T : TxtJ mg) : Df P w K mg base 1 "row_sum" ["one", "other"] (spSum1 K) := by
  obtain ⟨f, fd, hm, F⟩ := A.ex
  refine ⟨f, fd, hm, F.kp, F.binds (fun _ _ _ _ _ _ us hl => match us, hl with | [_, _], _ => rfl), F.ok scSum (fun vs H Q E h => ?_) (fun cdv A outer s H vs Q E hr h => ?_)⟩
  · obtain ⟨a, b, r, s, rfl, _⟩ := h
    rfl
  · obtain ⟨a, b, r, s', rfl, hS, hl, hl2, q⟩ := h
    refine ⟨_, (pss_cons (ps_if (pt_cmpR op_lt (pe_callB call_len_seq (by rfl) T.len PySem.boot_len (pa_cons (pv 0) pa_nil)) (pe_callB call_len_seq (by rfl) T.len PySem.boot_len (pa_cons (pv 1) pa_nil)) (nomark _)) (pss_one ps_never) pss_nil)
      (pss_one (ps_ret (pe_op op_cat (pe_lc (own := [("a", 2), ("b", 3)]) (g := gTup K 2 (gCons (gName 2) (gCons (gName 3) gNil))) (by rfl) scSum.nd (RZ.pi_zipA (by rfl) T.zip (pa_cons (pv 0) (pa_cons (pv 1) pa_nil))) (blkOk_by (own := [("a", 2), ("b", 3)]) (N := ["one", "other", "a", "b"]) (sc := defScope sSum) (by decide +kernel)) (fun _ _ _ _ _ => pg_tup (by rfl) (pgs_cons (pg_name (i := 2) scSum.nd rfl (Or.inl rfl)) (pgs_cons (pg_name (i := 3) scSum.nd rfl (Or.inl rfl)) pgs_nil))) (fun _ _ _ _ _ => pts_nil) (fun _ _ _ _ _ => (pe_op op_add (pv 2) (pv 3)))) (pe_callTy call_list_of (by rfl) T.list (by decide +kernel) (pa_cons (pe_slice (sl_list.or sl_tupA) (pv 0) (po_some (pe_callB call_len_seq (by rfl) T.len PySem.boot_len (pa_cons (pv 1) pa_nil))) po_none) pa_nil)))))), ?_⟩
    refine ⟨_, rfl, a, _, rfl, hS.fst, _, rfl, b, _, rfl, hS.snd, _, _, rfl, rfl, _, rfl, ?_⟩
    rw [List.length_map, List.length_map, decide_eq_false (show ¬ (r.length : Int) < (s'.length : Int) by omega)]
    refine iteF ⟨_, rfl, _, rfl, lc_two (f := fun x y => x + y) hS hl (fun x y T H R hx hy sx e h => ⟨T, _, rfl, .inl (.inl e), rfl, _, _, rfl, _, _, rfl, rfl, rfl, _, rfl, _, rfl, _, _, rfl, rfl, h⟩) (fun D H1 hD s1 h1 => ?_)⟩
    refine ⟨_, rfl, _, rfl, b, _, rfl, hS.snd.same s1, ?_⟩
    rw [List.length_map]
    refine ⟨_, rfl, ?_⟩
    refine sl_seqs (hS.fst.same s1) fun p H2 s2 h2 => ?_
    rw [cut_lo, ← List.map_drop] at h2
    refine ⟨p, _, rfl, h2, fun l hl' => ?_⟩
    have s3 := s2.trans (same_new (o := .lst ((r.drop s'.length).map V.int)) hl')
    have h3 : (upd H2 l (.lst ((r.drop s'.length).map V.int))) l = some (.lst ((r.drop s'.length).map V.int)) := upd_same
    generalize upd H2 l (.lst ((r.drop s'.length).map V.int)) = H3 at s3 h3 ⊢
    refine ⟨D, l, _, _, rfl, rfl, s3 _ _ h1, h3, ?_, fun l4 hl4 => ?_⟩
    · rw [List.length_map, List.length_map, ← List.length_append]
      show (sumR r s').length ≤ _
      rw [sumR_len hl2]
      exact Nat.le_trans hl (by decide)
    · rw [← List.map_append]
      exact q l4 _ ((s1.trans s3).free hl4) ((s1.trans s3).trans (same_new hl4)) upd_same
def spSum (K : PySem.W.Frag) : Sp := fun vs H Q _ => ∃ (a b : Addr) (r s : List Int), vs = [.ref a, .ref b] ∧ Two K H a b (r.map V.int) (s.map V.int) ∧ r.length ≤ 1000 ∧ s.length ≤ 1000 ∧
  ∀ l t H', H l = none → Same H H' → H' l = some (.lst (t.map V.int)) → t.length = max r.length s.length → (∀ j, cf t j = cf r j + cf s j) → Q (.ref l) H'
theorem df_sum (A : At K mg "row_sum" sSum) (T : TxtJ mg) (Drowsum : Df P w K mg base 1 "row_sum" ["one", "other"] (spSum1 K)) : Df P w K mg base 2 "row_sum" ["one", "other"] (spSum K) := by
  obtain ⟨f, fd, hm, F⟩ := A.ex
  refine ⟨f, fd, hm, F.kp, F.binds (fun _ _ _ _ _ _ us hl => match us, hl with | [_, _], _ => rfl), F.ok scSum (fun vs H Q E h => ?_) (fun cdv A outer s H vs Q E hr h => ?_)⟩
  · obtain ⟨a, b, r, s, rfl, _⟩ := h
    rfl
  · obtain ⟨a, b, r, s', rfl, hS, hl, hls, q⟩ := h
    refine ⟨_, (pss_cons (ps_if (pt_cmpR op_lt (pe_callB call_len_seq (by rfl) T.len PySem.boot_len (pa_cons (pv 0) pa_nil)) (pe_callB call_len_seq (by rfl) T.len PySem.boot_len (pa_cons (pv 1) pa_nil)) (nomark _)) (pss_one (ps_ret (Drowsum.call (hr.mono (by decide)) (pa_cons (pv 1) (pa_cons (pv 0) pa_nil))))) pss_nil)
      (pss_one (ps_ret (pe_op op_cat (pe_lc (own := [("a", 2), ("b", 3)]) (g := gTup K 2 (gCons (gName 2) (gCons (gName 3) gNil))) (by rfl) scSum.nd (RZ.pi_zipA (by rfl) T.zip (pa_cons (pv 0) (pa_cons (pv 1) pa_nil))) (blkOk_by (own := [("a", 2), ("b", 3)]) (N := ["one", "other", "a", "b"]) (sc := defScope sSum) (by decide +kernel)) (fun _ _ _ _ _ => pg_tup (by rfl) (pgs_cons (pg_name (i := 2) scSum.nd rfl (Or.inl rfl)) (pgs_cons (pg_name (i := 3) scSum.nd rfl (Or.inl rfl)) pgs_nil))) (fun _ _ _ _ _ => pts_nil) (fun _ _ _ _ _ => (pe_op op_add (pv 2) (pv 3)))) (pe_callTy call_list_of (by rfl) T.list (by decide +kernel) (pa_cons (pe_slice (sl_list.or sl_tupA) (pv 0) (po_some (pe_callB call_len_seq (by rfl) T.len PySem.boot_len (pa_cons (pv 1) pa_nil))) po_none) pa_nil)))))), ?_⟩
    refine ⟨_, rfl, a, _, rfl, hS.fst, _, rfl, b, _, rfl, hS.snd, _, _, rfl, rfl, _, rfl, ?_⟩
    rw [List.length_map, List.length_map]
    by_cases hlt : r.length < s'.length
    · rw [decide_eq_true (show (r.length : Int) < (s'.length : Int) by omega)]
      refine iteT ⟨_, rfl, _, rfl, b, a, s', r, rfl, hS.swap, hls, by omega, fun l H' hn s1 h1 => q l _ H' hn s1 h1 (by rw [sumR_len (by omega)]; omega) fun j => by rw [cf_sumR (by omega), Int.add_comm]⟩
    have hl2 : s'.length ≤ r.length := by omega
    rw [decide_eq_false (show ¬ (r.length : Int) < (s'.length : Int) by omega)]
    refine iteF ⟨_, rfl, _, rfl, lc_two (f := fun x y => x + y) hS hl (fun x y T H R hx hy sx e h => ⟨T, _, rfl, .inl (.inl e), rfl, _, _, rfl, _, _, rfl, rfl, rfl, _, rfl, _, rfl, _, _, rfl, rfl, h⟩) (fun D H1 hD s1 h1 => ?_)⟩
    refine ⟨_, rfl, _, rfl, b, _, rfl, hS.snd.same s1, ?_⟩
    rw [List.length_map]
    refine ⟨_, rfl, ?_⟩
    refine sl_seqs (hS.fst.same s1) fun p H2 s2 h2 => ?_
    rw [cut_lo, ← List.map_drop] at h2
    refine ⟨p, _, rfl, h2, fun l hl' => ?_⟩
    have s3 := s2.trans (same_new (o := .lst ((r.drop s'.length).map V.int)) hl')
    have h3 : (upd H2 l (.lst ((r.drop s'.length).map V.int))) l = some (.lst ((r.drop s'.length).map V.int)) := upd_same
    generalize upd H2 l (.lst ((r.drop s'.length).map V.int)) = H3 at s3 h3 ⊢
    refine ⟨D, l, _, _, rfl, rfl, s3 _ _ h1, h3, ?_, fun l4 hl4 => ?_⟩
    · rw [List.length_map, List.length_map, ← List.length_append]
      show (sumR r s').length ≤ _
      rw [sumR_len hl2]
      exact Nat.le_trans hl (by decide)
    · rw [← List.map_append]
      exact q l4 (sumR r s') _ ((s1.trans s3).free hl4) ((s1.trans s3).trans (same_new hl4)) upd_same (by rw [sumR_len hl2]; omega) fun j => cf_sumR hl2 j
/-! ### row_gap -/
def spGap (K : PySem.W.Frag) : Sp := fun vs H Q _ => ∃ (a b : Addr) (r s : List Int), vs = [.ref a, .ref b] ∧ Two K H a b (r.map V.int) (s.map V.int) ∧ r.length ≤ 1000 ∧ s.length ≤ 1000 ∧
  ∀ l t H', H l = none → Same H H' → H' l = some (.lst (t.map V.int)) → t.length = max r.length s.length → (∀ j, cf t j = cf r j - cf s j) → Q (.ref l) H'
def gapR (r s : List Int) : List Int := zipR (fun x y => x - y) r s ++ r.drop (min r.length s.length) ++ (s.drop (min r.length s.length)).map fun b => -b
theorem gapR_len (r s : List Int) : (gapR r s).length = max r.length s.length := by
  unfold gapR zipR
  rw [List.length_append, List.length_append, List.length_zipWith, List.length_drop, List.length_map, List.length_drop]; omega
theorem cf_gapR (r s : List Int) (j : Nat) : cf (gapR r s) j = cf r j - cf s j := by
  have hlen : (zipR (fun x y => x - y) r s).length = min r.length s.length := by unfold zipR; rw [List.length_zipWith]
  unfold gapR
  rw [cf_append, List.length_append, hlen, List.length_drop]
  by_cases h1 : j < min r.length s.length + (r.length - min r.length s.length)
  · rw [if_pos h1, cf_append, hlen]
    by_cases h2 : j < min r.length s.length
    · rw [if_pos h2, cf_zip, if_pos h2]
    · rw [if_neg h2, cf_drop, show min r.length s.length + (j - min r.length s.length) = j by omega, cf_ge (r := s) (by omega), Int.sub_zero]
  · rw [if_neg h1, cf_map (f := fun b => -b) rfl, cf_drop]
    by_cases h3 : r.length ≤ s.length
    · rw [show min r.length s.length + (j - (min r.length s.length + (r.length - min r.length s.length))) = j by omega, cf_ge (r := r) (by omega), Int.zero_sub]
    · rw [cf_ge (r := s) (by omega), cf_ge (r := r) (by omega), cf_ge (r := s) (by omega)]; rfl
theorem scGap : FnScope ["one", "other", "size", "a", "b"] ["one", "other"] (defScope sGap) := ⟨rfl, rfl, rfl, by decide +kernel, rfl, by decide +kernel, by decide +kernel⟩
theorem df_gap (A : At K mg "row_gap" sGap) (T : TxtJ mg) : Df P w K mg base 1 "row_gap" ["one", "other"] (spGap K) := by
  obtain ⟨f, fd, hm, F⟩ := A.ex
  refine ⟨f, fd, hm, F.kp, F.binds (fun _ _ _ _ _ _ us hl => match us, hl with | [_, _], _ => rfl), F.ok scGap (fun vs H Q E h => ?_) (fun cdv A outer s H vs Q E hr h => ?_)⟩
  · obtain ⟨a, b, r, s, rfl, _⟩ := h
    rfl
  · obtain ⟨a, b, r, s', rfl, hS, hl, hls, q⟩ := h
    refine ⟨_, (pss_cons (ps_set (i := 2) scGap.nd rfl (.inl rfl) (pe_callB (call_min2 rfl) (by rfl) T.min (by decide +kernel) (pa_cons (pe_callB call_len_seq (by rfl) T.len PySem.boot_len (pa_cons (pv 0) pa_nil)) (pa_cons (pe_callB call_len_seq (by rfl) T.len PySem.boot_len (pa_cons (pv 1) pa_nil)) pa_nil))))
      (pss_one (ps_ret (pe_op op_cat (pe_op op_cat (pe_lc (own := [("a", 3), ("b", 4)]) (g := gTup K 2 (gCons (gName 3) (gCons (gName 4) gNil))) (by rfl) scGap.nd (RZ.pi_zipA (by rfl) T.zip (pa_cons (pv 0) (pa_cons (pv 1) pa_nil))) (blkOk_by (own := [("a", 3), ("b", 4)]) (N := ["one", "other", "size", "a", "b"]) (sc := defScope sGap) (by decide +kernel)) (fun _ _ _ _ _ => pg_tup (by rfl) (pgs_cons (pg_name (i := 3) scGap.nd rfl (Or.inl rfl)) (pgs_cons (pg_name (i := 4) scGap.nd rfl (Or.inl rfl)) pgs_nil))) (fun _ _ _ _ _ => pts_nil) (fun _ _ _ _ _ => (pe_op op_sub (pv 3) (pv 4)))) (pe_callTy call_list_of (by rfl) T.list (by decide +kernel) (pa_cons (pe_slice (sl_list.or sl_tupA) (pv 0) (po_some (pv 2)) po_none) pa_nil))) (pe_lc (own := [("b", 4)]) (g := gName 4) (by rfl) scGap.nd (pi_seq (pe_slice (sl_list.or sl_tupA) (pv 1) (po_some (pv 2)) po_none)) (blkOk_by (own := [("b", 4)]) (N := ["one", "other", "size", "a", "b"]) (sc := defScope sGap) (by decide +kernel)) (fun _ _ _ _ _ => pg_name (i := 4) scGap.nd rfl (Or.inl rfl)) (fun _ _ _ _ _ => pts_nil) (fun _ _ _ _ _ => (pe_un un_neg (pv 4)))))))), ?_⟩
    refine ⟨_, rfl, a, _, rfl, hS.fst, _, rfl, b, _, rfl, hS.snd, _, _, rfl, ?_⟩
    rw [List.length_map, List.length_map]
    obtain ⟨m, em, hm⟩ : ∃ m : Nat, (if ((s'.length : Nat) : Int) < ((r.length : Nat) : Int) then ((s'.length : Nat) : Int) else ((r.length : Nat) : Int)) = (m : Int) ∧ m = min r.length s'.length := by
      split
      · exact ⟨s'.length, rfl, by omega⟩
      · exact ⟨r.length, rfl, by omega⟩
    rw [em]
    refine ⟨_, rfl, _, rfl, lc_two (f := fun x y => x - y) hS hl (fun x y T H R hx hy sx e h => ⟨T, _, rfl, .inl (.inl e), rfl, _, _, rfl, _, _, rfl, rfl, rfl, _, rfl, _, rfl, _, _, rfl, rfl, h⟩) (fun D H1 hD s1 h1 => ?_)⟩
    refine ⟨_, rfl, _, rfl, _, rfl, ?_⟩
    refine sl_seqs (hS.fst.same s1) fun p H2 s2 h2 => ?_
    rw [cut_lo, ← List.map_drop] at h2
    refine ⟨p, _, rfl, h2, fun l hl' => ?_⟩
    have s3 := s2.trans (same_new (o := .lst ((r.drop m).map V.int)) hl')
    have h3 : (upd H2 l (.lst ((r.drop m).map V.int))) l = some (.lst ((r.drop m).map V.int)) := upd_same
    generalize upd H2 l (.lst ((r.drop m).map V.int)) = H3 at s3 h3 ⊢
    have hz : (zipR (fun x y => x - y) r s').length = m := by unfold zipR; rw [List.length_zipWith, hm]
    refine ⟨D, l, _, _, rfl, rfl, s3 _ _ h1, h3, ?_, fun l4 hl4 => ?_⟩
    · rw [List.length_map, List.length_map, hz, List.length_drop]
      exact Nat.le_trans (show _ ≤ 1000 by omega) (by decide)
    rw [← List.map_append]
    have s4 := (s1.trans s3).trans (same_new (o := .lst ((zipR (fun x y => x - y) r s' ++ r.drop m).map V.int)) hl4)
    have h4 : (upd H3 l4 (.lst ((zipR (fun x y => x - y) r s' ++ r.drop m).map V.int))) l4 = some (.lst ((zipR (fun x y => x - y) r s' ++ r.drop m).map V.int)) := upd_same
    generalize upd H3 l4 (.lst ((zipR (fun x y => x - y) r s' ++ r.drop m).map V.int)) = H4 at s4 h4 ⊢
    refine ⟨_, rfl, _, rfl, _, rfl, ?_⟩
    refine sl_seqs (hS.snd.same s4) fun p5 H5 s5 h5 => ?_
    rw [cut_lo, ← List.map_drop] at h5
    refine ⟨p5, rfl, lc_seqs (f := fun b => -b) h5 (by rw [List.length_drop]; omega) (fun c H R hc _ h => ⟨rfl, _, rfl, _, rfl, h⟩) fun D6 H6 hD6 s6 h6 => ?_⟩
    have s46 := s5.trans s6
    refine ⟨l4, D6, _, _, rfl, rfl, s46 _ _ h4, h6, ?_, fun l7 hl7 => ?_⟩
    · rw [List.length_map, List.length_map, List.length_append, hz, List.length_drop, List.length_map, List.length_drop]
      exact Nat.le_trans (show _ ≤ 2000 by omega) (by decide)
    · rw [← List.map_append]
      have e : zipR (fun x y => x - y) r s' ++ r.drop m ++ (s'.drop m).map (fun b => -b) = gapR r s' := by unfold gapR; rw [hm]
      rw [e]
      exact q l7 _ _ ((s4.trans s46).free hl7) ((s4.trans s46).trans (same_new hl7)) upd_same (gapR_len _ _) (cf_gapR _ _)
/-! ### row_product -/
def spProd (K : PySem.W.Frag) : Sp := fun vs H Q _ => ∃ (a b : Addr) (r s : List Int), vs = [.ref a, .ref b] ∧ SqT K H a (r.map V.int) ∧ Seqs K H b (s.map V.int) ∧ r.length ≤ 100 ∧ s.length ≤ 100 ∧ (∀ c ∈ r, Bd 9000 c) ∧ (∀ c ∈ s, Bd 9000 c) ∧
  ∀ l t H', H l = none → Same H H' → H' l = some (.lst (t.map V.int)) → t.length ≤ r.length + s.length → (∀ j, cf t j = cv (cf r) (cf s) j) → Q (.ref l) H'
theorem scProd : FnScope ["one", "other", "product", "number"] ["one", "other"] (defScope sProd) := ⟨rfl, rfl, rfl, by decide +kernel, rfl, by decide +kernel, by decide +kernel⟩
theorem df_prod (A : At K mg "row_product" sProd) (T : TxtJ mg) (Drowsum : Df P w K mg base 2 "row_sum" ["one", "other"] (spSum K)) (Drowtimes : Df P w K mg base 1 "row_times" ["row", "factor"] (spTm K)) : Df P w K mg base 3 "row_product" ["one", "other"] (spProd K) := by
  obtain ⟨f, fd, hm, F⟩ := A.ex
  refine ⟨f, fd, hm, F.kp, F.binds (fun _ _ _ _ _ _ us hl => match us, hl with | [_, _], _ => rfl), F.ok scProd (fun vs H Q E h => ?_) (fun cdv A outer s H vs Q E hr h => ?_)⟩
  · obtain ⟨a, b, r, s, rfl, _⟩ := h
    rfl
  · obtain ⟨a, b, r, s', rfl, hA, hB, l1, l2, hb1, hb2, q⟩ := h
    refine ⟨_, (pss_cons (ps_if (pw_or (pt_cmpR op_eq (pe_callB call_len_seq (by rfl) T.len PySem.boot_len (pa_cons (pv 0) pa_nil)) pe_int (nomark _)) (pw_or1 (pt_cmpR op_eq (pe_callB call_len_seq (by rfl) T.len PySem.boot_len (pa_cons (pv 1) pa_nil)) pe_int (nomark _)))).pt (pss_one (ps_ret (pe_lst pa_nil))) pss_nil)
      (pss_cons (ps_set (i := 2) scProd.nd rfl (.inl rfl) (pe_lst pa_nil))
      (pss_cons (ps_for PassesOwn.never rfl (pi_tup (pe_revT (pv 0))) (pg_name (i := 3) scProd.nd rfl (.inl rfl))
      (pss_one (ps_set (i := 2) scProd.nd rfl (.inl rfl) (Drowsum.call (hr.mono (by decide)) (pa_cons (pe_lst (pa_cons pe_int (StX.pa_star (pv 2) pa_nil))) (pa_cons (Drowtimes.call (hr.mono (by decide)) (pa_cons (pv 1) (pa_cons (pv 3) pa_nil))) pa_nil))))))
      (pss_one (ps_ret (pv 2)))))), ?_⟩
    have empty : ∀ H1, Same H H1 → (r.length = 0 ∨ s'.length = 0) → ∀ l, H1 l = none → Q (.ref l) (upd H1 l (.lst [])) := fun H1 s1 h0 l hl => by
      refine q l [] _ (s1.free hl) (s1.trans (same_new hl)) upd_same (Nat.zero_le _) fun j => ?_
      rw [cf_nil]
      refine (sm_zero fun i _ => ?_).symm
      rcases h0 with h0 | h0
      · rw [cf_ge (r := r) (by omega), Int.zero_mul]
      · rw [cf_ge (r := s') (by omega), Int.mul_zero]
    refine ⟨_, rfl, a, _, rfl, .inr hA, rfl, _, rfl, ?_⟩
    rw [List.length_map, dint]
    by_cases h1 : r.length = 0
    · rw [decide_eq_true (show (r.length : Int) = 0 by omega)]
      exact iteT ⟨Nat.zero_le _, fun l hl => empty H (Same.refl H) (.inl h1) l hl⟩
    rw [decide_eq_false (show ¬ (r.length : Int) = 0 by omega)]
    refine iteF ⟨_, rfl, b, _, rfl, hB, rfl, _, rfl, ?_⟩
    rw [List.length_map, dint]
    by_cases h2 : s'.length = 0
    · rw [decide_eq_true (show (s'.length : Int) = 0 by omega)]
      exact iteT ⟨Nat.zero_le _, fun l hl => empty H (Same.refl H) (.inr h2) l hl⟩
    rw [decide_eq_false (show ¬ (s'.length : Int) = 0 by omega)]
    refine iteF ⟨Nat.zero_le _, fun l0 hl0 => ?_⟩
    have s0 := same_new (o := .lst []) hl0
    have e0 : (upd H l0 (.lst [])) l0 = some (.lst (([] : List Int).map V.int)) := upd_same
    have n0 : H l0 = none := hl0
    generalize upd H l0 (.lst []) = H0 at s0 e0 ⊢
    refine ⟨_, rfl, a, _, rfl, Same.tup s0 hA, fun p hp => ?_⟩
    rw [← List.map_reverse]
    have s1 := s0.trans (same_new (o := .tup (r.reverse.map V.int)) hp)
    have e1 := same_new (o := .tup (r.reverse.map V.int)) hp _ _ e0
    have hT : SqT K (upd H0 p (.tup (r.reverse.map V.int))) p (r.reverse.map V.int) := .inl (.inl upd_same)
    generalize upd H0 p (.tup (r.reverse.map V.int)) = H1 at s1 e1 hT ⊢
    refine ⟨p, rfl, ⟨_, hT⟩, for_tup (K := K) (a := p) (xs := r.reverse.map V.int) (fun i σ H' => Same H1 H' ∧ ∃ (l : Addr) (t : List Int) (y : Option V), H l = none ∧ H' l = some (.lst (t.map V.int)) ∧ t.length ≤ i + s'.length ∧ (∀ j, cf t j = cv (cf (r.drop (r.length - i))) (cf s') j) ∧ σ = [some (.ref a), some (.ref b), some (.ref l), y])
      ⟨Same.refl _, l0, [], none, n0, e1, Nat.zero_le _, fun j => by rw [Nat.sub_zero, List.drop_length, cf_nil, cv_nil], rfl⟩ (fun i σ H' _ h => Same.tup h.1 hT) ?_ ?_⟩
    · rintro i x σ H2 hi ⟨s2, l, t, y, nl, e2, hl2, ht, rfl⟩
      have hi2 : i < (r.reverse.map V.int).length := by
        rcases Nat.lt_or_ge i (r.reverse.map V.int).length with z | z
        · exact z
        · rw [List.getElem?_eq_none z] at hi; cases hi
      have hil : i < r.length := by rw [List.length_map, List.length_reverse] at hi2; exact hi2
      rw [List.getElem?_map] at hi
      obtain ⟨c, hc, rfl⟩ := Option.map_eq_some_iff.mp hi
      have hcm : c ∈ r := List.mem_reverse.mp (List.mem_of_getElem? hc)
      have hdr : r.drop (r.length - (i + 1)) = c :: r.drop (r.length - i) := by
        rw [List.getElem?_reverse hil] at hc
        have hk : r.length - (i + 1) < r.length := by omega
        rw [List.drop_eq_getElem_cons hk, show r.length - (i + 1) + 1 = r.length - i by omega]
        congr 1
        rw [show r.length - 1 - i = r.length - (i + 1) by omega, List.getElem?_eq_getElem hk] at hc
        exact Option.some.inj hc
      refine ⟨_, rfl, l, _, rfl, .inr (.inl (.inl e2)), ?_, fun l3 hl3 => ?_⟩
      · show ((t.map V.int) ++ []).length + 1 ≤ _
        rw [List.append_nil, List.length_map]
        exact Nat.le_trans (show _ ≤ 1000 by omega) (by decide)
      rw [List.append_nil]
      have s3 := s2.trans (same_new (o := .lst (.int 0 :: t.map V.int)) hl3)
      have e3 : (upd H2 l3 (.lst (.int 0 :: t.map V.int))) l3 = some (.lst ((0 :: t).map V.int)) := upd_same
      generalize upd H2 l3 (.lst (.int 0 :: t.map V.int)) = H3 at s3 e3 ⊢
      refine ⟨_, rfl, _, rfl, b, s', c, rfl, (hB.same s1).same s3, by omega, hb2, hb1 c hcm, fun l4 H4 n4 s4 e4 => ?_⟩
      refine ⟨l3, l4, 0 :: t, _, rfl, .inl ⟨.inl (.inl (s4 _ _ e3)), .inl (.inl e4)⟩, by rw [List.length_cons]; omega, by rw [List.length_map]; omega, fun l5 t5 H5 n5 s5 e5 hl5 ht5 => ?_⟩
      refine ⟨(s3.trans s4).trans s5, l5, t5, _, (s1.trans (s3.trans s4)).free n5, e5, ?_, fun j => ?_, rfl⟩
      · rw [hl5, List.length_cons, List.length_map]; omega
      · rw [ht5, hdr, cv_cons, cf_map (f := fun x => x * c) (Int.zero_mul c), cf_cons, ← ht (j - 1), Int.add_comm, Int.mul_comm]
    · rintro σ H2 ⟨s2, l, t, y, nl, e2, hl2, ht, rfl⟩
      rw [List.length_map, List.length_reverse] at hl2
      rw [List.length_map, List.length_reverse, Nat.sub_self, List.drop_zero] at ht
      exact ⟨_, rfl, q l t H2 nl (s1.trans s2) e2 hl2 ht⟩
end
end Ef
set_option Elab.async false
set_option linter.all false
set_option maxRecDepth 100000
set_option maxHeartbeats 4000000
namespace Ef
open PySem PySem.Spec PyProof.Rows L2
abbrev sGapRow : Stmt := top 25
abbrev sCounts : Stmt := top 27
abbrev sAs : Stmt := top 28
abbrev sAdd : Stmt := inClass (top 24) 7
abbrev sRadd : Stmt := inClass (top 24) 8
abbrev sSub : Stmt := inClass (top 24) 9
abbrev sRsub : Stmt := inClass (top 24) 10
abbrev sMul : Stmt := inClass (top 24) 11
abbrev sRmul : Stmt := inClass (top 24) 12
abbrev sNeg : Stmt := inClass (top 24) 13
theorem passF {X : Cx} : Passes (CX X.prog X.w) X (fun _ _ _ => False) := fun pins σ H s e s' I h => by
  obtain ⟨a, B, H', cls, d, _, _, _, _, _, _, _, hE⟩ := h
  exact hE.elim
theorem same_inst {H : Hp} {x dx C : Addr} {fs : List (Str × V)} (nx : H x = none) (nd : H dx = none) : Same H (upd (upd H dx (.own x)) x (.ins C dx fs)) := fun b o e => by
  rw [upd_ne (ne_of_none e nx), upd_ne (ne_of_none e nd)]
  exact e
/-- a piece is made -/
theorem mk_pc {K : PySem.W.Frag} {C CR CU a : Addr} {H : Hp} {r : List Int} {un : Nat} {Q : VK} {E : XK} (hS : Seqs K H a (r.map V.int)) (hl : r.length ≤ 100) (hu : 0 < un) (hb : Bd 8000 (un : Int))
    (q : ∀ p s z H', Low r un s z → Same H H' → PAt K C H' p s z → Q (.ref p) H') : ∀ x dx, H x = none → H dx = none → dx ≠ x → spInit K C CR CU (V.ref x :: [V.ref a, V.int (un : Int)]) (upd (upd H dx (.own x)) x (.ins C dx [])) (fun v H' => v = .non ∧ Q (.ref x) H') E := by
  intro x dx nx ndx nex
  exact ⟨H, x, dx, a, _, _, rfl, same_inst nx ndx, nx, upd_same, hS, by rw [List.length_map]; exact hl, .inr ⟨r, rfl, .inl ⟨un, rfl, hu, hb, fun pr u H' hL s hP => ⟨rfl, q x pr u H' hL s hP⟩⟩⟩⟩
theorem mk_pcI {K : PySem.W.Frag} {C CR CU a : Addr} {H : Hp} {r : List Int} {un : Nat} {xi : Int} {Q : VK} {E : XK} (hx : xi = (un : Int)) (hS : Seqs K H a (r.map V.int)) (hl : r.length ≤ 100) (hu : 0 < un) (hb : Bd 8000 (un : Int))
    (q : ∀ p s z H', Low r un s z → Same H H' → PAt K C H' p s z → Q (.ref p) H') : ∀ x dx, H x = none → H dx = none → dx ≠ x → spInit K C CR CU (V.ref x :: [V.ref a, V.int xi]) (upd (upd H dx (.own x)) x (.ins C dx [])) (fun v H' => v = .non ∧ Q (.ref x) H') E := by
  subst hx
  exact mk_pc hS hl hu hb q
structure ClsR (K : PySem.W.Frag) (mg : Str → Option Value) (C : Addr) : Prop extends ClsQ K mg C where
  ki : PySem.W.kitOne K (.type "int") (.ref C) = some false
/-- an operand: a piece, or an int -/
def Opd (K : PySem.W.Frag) (C : Addr) (H : Hp) (v : V) (r : List Int) (u : Nat) : Prop := (∃ a, v = .ref a ∧ PAt K C H a r u) ∨ (∃ i, v = .int i ∧ Low [i] 1 r u)
theorem Opd.same {K : PySem.W.Frag} {C : Addr} {H H' : Hp} {v : V} {r : List Int} {u : Nat} (h : Opd K C H v r u) (e : Same H H') : Opd K C H' v r u := h.elim (fun ⟨a, e1, h⟩ => .inl ⟨a, e1, h.same e⟩) .inr
section
variable {P : Program} {w : World} {K : PySem.W.Frag} {mg : Str → Option Value} {base : Heap}
/-! ### _counts_as_piece, _as_piece -/
def spCounts (K : PySem.W.Frag) (C : Addr) : Sp := fun vs H Q _ => ∃ (v : V) (r : List Int) (u : Nat), vs = [v] ∧ Opd K C H v r u ∧ Q (.bl true) H
theorem scCounts : FnScope ["value"] ["value"] (defScope sCounts) := ⟨rfl, rfl, rfl, by decide +kernel, rfl, by decide +kernel, by decide +kernel⟩
theorem df_counts {C : Addr} (A : At K mg "_counts_as_piece" sCounts) (T : TxtJ mg) (CW : ClsR K mg C) (Disint : Df P w K mg base 1 "is_int" ["value"] (spIsInt K)) : Df P w K mg base 2 "_counts_as_piece" ["value"] (spCounts K C) := by
  obtain ⟨f, fd, hm, F⟩ := A.ex
  refine ⟨f, fd, hm, F.kp, F.binds (fun _ _ _ _ _ _ us hl => match us, hl with | [_], _ => rfl), F.ok scCounts (fun vs H Q E h => ?_) (fun cdv A outer s H vs Q E hr h => ?_)⟩
  · obtain ⟨v, r, u, rfl, _⟩ := h
    rfl
  · obtain ⟨v, r, u, rfl, hO, q⟩ := h
    refine ⟨_, (pss_one (ps_ret (pe_or (pe_callB call_isi (by rfl) T.isinstance (by decide +kernel) (pa_cons (pv 0) (pa_cons (pe_glob (v := .ref C) (by rfl) CW.mgC rfl) pa_nil))) (pe_one (Disint.call (hr.mono (by decide)) (pa_cons (pv 0) pa_nil)))))), ?_⟩
    rcases hO with ⟨a, rfl, dx, ra, h1, h2⟩ | ⟨i, rfl, hL⟩
    · refine ⟨_, rfl, _, _, _, _, true, rfl, .own C, .base (.ins h1 CW.cl CW.cc CW.cg CW.ct CW.co), if_pos (by simp), ?_⟩
      exact ⟨_, rfl, iteT q⟩
    · refine ⟨_, rfl, _, _, _, _, false, rfl, .own C, .base (.int i), CW.ki, ?_⟩
      exact ⟨_, rfl, iteF ⟨_, rfl, _, "int", true, false, rfl, .base (.int i), by decide +kernel, by decide +kernel, q⟩⟩
def spAs (K : PySem.W.Frag) (C : Addr) : Sp := fun vs H Q _ => ∃ (v : V) (r : List Int) (u : Nat), vs = [v] ∧ Opd K C H v r u ∧ ∀ a H', Same H H' → PAt K C H' a r u → Q (.ref a) H'
theorem scAs : FnScope ["value"] ["value"] (defScope sAs) := ⟨rfl, rfl, rfl, by decide +kernel, rfl, by decide +kernel, by decide +kernel⟩
theorem df_as {C CR CU fI : Addr} {fdI : FuncData} {ds : List Value} (A : At K mg "_as_piece" sAs) (T : TxtJ mg) (CW : ClsR K mg C) (M : Mk K C fI) (FI : FnOk P w K mg base (CX P w) 4 fI fdI ["self", "row", "under"] (spInit K C CR CU)) (bI1 : Binds K fdI ["self", "row", "under"] ds) (hd1 : Vals [.int 1] ds) : Df P w K mg base 6 "_as_piece" ["value"] (spAs K C) := by
  obtain ⟨f, fd, hm, F⟩ := A.ex
  refine ⟨f, fd, hm, F.kp, F.binds (fun _ _ _ _ _ _ us hl => match us, hl with | [_], _ => rfl), F.ok scAs (fun vs H Q E h => ?_) (fun cdv A outer s H vs Q E hr h => ?_)⟩
  · obtain ⟨v, r, u, rfl, _⟩ := h
    rfl
  · obtain ⟨v, r, u, rfl, hO, q⟩ := h
    refine ⟨_, (pss_one (ps_ret (pe_ifExp (pt_val (pe_callB call_isi (by rfl) T.isinstance (by decide +kernel) (pa_cons (pv 0) (pa_cons (pe_glob (v := .ref C) (by rfl) CW.mgC rfl) pa_nil)))) (pv 0) (pe_make M FI (hr.mono (by decide)) (by rfl) CW.mgC bI1 hd1 passF (pa_cons (pe_tup (pa_cons (pv 0) pa_nil)) pa_nil))))), ?_⟩
    rcases hO with ⟨a, rfl, dx, ra, h1, h2⟩ | ⟨i, rfl, hL⟩
    · refine ⟨_, rfl, _, _, _, _, true, rfl, .own C, .base (.ins h1 CW.cl CW.cc CW.cg CW.ct CW.co), if_pos (by simp), ?_⟩
      exact ⟨_, rfl, iteT ⟨_, rfl, q a H (Same.refl H) ⟨dx, ra, h1, h2⟩⟩⟩
    · refine ⟨_, rfl, _, _, _, _, false, rfl, .own C, .base (.int i), CW.ki, ?_⟩
      refine ⟨_, rfl, iteF ⟨_, rfl, by show 1 ≤ sizeLine; decide, fun t ht => ?_⟩⟩
      have s1 := same_new (o := .tup [.int i]) ht
      have e1 : (upd H t (.tup [.int i])) t = some (.tup ([i].map V.int)) := upd_same
      generalize upd H t (.tup [.int i]) = H1 at s1 e1 ⊢
      refine mk_pc (un := 1) (.inr (.inl (.inl e1))) (by show 1 ≤ 100; decide) (by decide) (Bd.up (a := 1) (by unfold Bd; decide) (by decide)) fun p s z H2 hL2 s2 hP => ?_
      obtain ⟨e2, e3⟩ := hL.unique hL2 fun j => rfl
      subst e2 e3
      exact q p H2 (s1.trans s2) hP
/-! ### gap_row -/
theorem cf_trim {r t : List Int} (h : TrimOk r t) (j : Nat) : cf t j = cf r j := by
  obtain ⟨k, hk, rfl, hz, _⟩ := h
  rcases Nat.lt_or_ge j k with z | z
  · rw [cf_lt (by rw [List.length_take]; omega), cf_lt (show j < r.length by omega), List.getElem_take]
  · rw [cf_ge (by rw [List.length_take]; omega)]
    rcases Nat.lt_or_ge j r.length with y | y
    · exact (cf_of (hz j z y)).symm
    · exact (cf_ge y).symm
theorem trim_len {r t : List Int} (h : TrimOk r t) : t.length ≤ r.length := by
  obtain ⟨k, hk, rfl, _⟩ := h
  rw [List.length_take]; omega
/-- what both sides are told over -/
def joint (u v : Nat) : Nat := if u = v then u else u * v
/-- R over w is the sum of p over u and e times q over v -/
def SumRow (e : Int) (p : List Int) (u : Nat) (q : List Int) (v : Nat) (R : List Int) (w : Nat) : Prop := ∀ j, cf R j * ((u : Int) * (v : Int)) = (cf p j * (v : Int) + e * (cf q j * (u : Int))) * (w : Int)
theorem sum_one {e : Int} {p q R : List Int} {u v : Nat} (h : u = v) (hR : ∀ j, cf R j = cf p j + e * cf q j) : SumRow e p u q v R u := fun j => by
  subst h
  rw [hR, Int.add_mul, Int.add_mul]
  congr 1 <;> ac_rfl
theorem sum_two {e : Int} {p q R : List Int} {u v : Nat} (hR : ∀ j, cf R j = cf p j * (v : Int) + e * (cf q j * (u : Int))) : SumRow e p u q v R (u * v) := fun j => by
  rw [hR, Int.natCast_mul]
/-- small enough a piece -/
structure Sm (r : List Int) (u : Nat) : Prop where
  l : r.length ≤ 50
  b : ∀ c ∈ r, Bd 3500 c
  u : Bd 3500 (u : Int)
def spGapRow (K : PySem.W.Frag) (C : Addr) : Sp := fun vs H Q _ => ∃ (a b : Addr) (r s : List Int) (u v : Nat), vs = [.ref a, .ref b] ∧ PAt K C H a r u ∧ PAt K C H b s v ∧ Sm r u ∧ Sm s v ∧
  ∀ l R H', Same H H' → H' l = some (.lst (R.map V.int)) → R.length ≤ 50 → SumRow (-1) r u s v R (joint u v) → Q (.ref l) H'
theorem scGapRow : FnScope ["p", "q"] ["p", "q"] (defScope sGapRow) := ⟨rfl, rfl, rfl, by decide +kernel, rfl, by decide +kernel, by decide +kernel⟩
theorem df_gaprow {C : Addr} (A : At K mg "gap_row" sGapRow) (T : TxtJ mg) (CW : ClsR K mg C) (Dtrimmed : Df P w K mg base 1 "trimmed" ["row"] (spTrim K)) (Drowtimes : Df P w K mg base 1 "row_times" ["row", "factor"] (spTm K)) (Drowgap : Df P w K mg base 1 "row_gap" ["one", "other"] (spGap K)) : Df P w K mg base 2 "gap_row" ["p", "q"] (spGapRow K C) := by
  obtain ⟨f, fd, hm, F⟩ := A.ex
  refine ⟨f, fd, hm, F.kp, F.binds (fun _ _ _ _ _ _ us hl => match us, hl with | [_, _], _ => rfl), F.ok scGapRow (fun vs H Q E h => ?_) (fun cdv A outer s H vs Q E hr h => ?_)⟩
  · obtain ⟨a, b, r, s, u, v, rfl, _⟩ := h
    rfl
  · obtain ⟨a, b, r, s', u, v, rfl, ⟨dx, ra, g1, g2⟩, ⟨dx', ra', k1, k2⟩, hr1, hs1, q⟩ := h
    refine ⟨_, (pss_cons (ps_if (pt_cmpR op_eq (pe_fld (pv 0) rfl) (pe_fld (pv 1) rfl) (nomark _)) (pss_one (ps_ret (Dtrimmed.call (hr.mono (by decide)) (pa_cons (Drowgap.call (hr.mono (by decide)) (pa_cons (pe_fld (pv 0) rfl) (pa_cons (pe_fld (pv 1) rfl) pa_nil))) pa_nil)))) pss_nil)
      (pss_one (ps_ret (Dtrimmed.call (hr.mono (by decide)) (pa_cons (Drowgap.call (hr.mono (by decide)) (pa_cons (Drowtimes.call (hr.mono (by decide)) (pa_cons (pe_fld (pv 0) rfl) (pa_cons (pe_fld (pv 1) rfl) pa_nil))) (pa_cons (Drowtimes.call (hr.mono (by decide)) (pa_cons (pe_fld (pv 1) rfl) (pa_cons (pe_fld (pv 0) rfl) pa_nil))) pa_nil))) pa_nil))))), ?_⟩
    refine ⟨_, rfl, a, C, dx, _, _, rfl, g1, CW.cl, CW.nU, pf_under, _, rfl, b, C, dx', _, _, rfl, k1, CW.cl, CW.nU, pf_under, rfl, _, rfl, ?_⟩
    rw [dint]
    have hl := hr1.l
    have hl' := hs1.l
    by_cases huv : u = v
    · rw [decide_eq_true (show (u : Int) = (v : Int) by rw [huv])]
      refine iteT ⟨_, rfl, a, C, dx, _, _, rfl, g1, CW.cl, CW.nR, pf_row, _, rfl, b, C, dx', _, _, rfl, k1, CW.cl, CW.nR, pf_row, ra, ra', r, s', rfl, .inr ⟨g2, k2⟩, by omega, by omega, fun l t H1 n1 s1 e1 hl1 ht1 => ?_⟩
      refine ⟨l, t, rfl, .inl (.inl (.inl e1)), by omega, fun H2 l2 t2 s2 e2 hT => ?_⟩
      refine q l2 t2 H2 (s1.trans s2) e2 (by have := trim_len hT; omega) ?_
      unfold joint
      rw [if_pos huv]
      exact sum_one huv fun j => by rw [cf_trim hT, ht1]; omega
    · rw [decide_eq_false (show ¬ (u : Int) = (v : Int) by omega)]
      refine iteF ?_
      refine ⟨_, rfl, a, C, dx, _, _, rfl, g1, CW.cl, CW.nR, pf_row, _, rfl, b, C, dx', _, _, rfl, k1, CW.cl, CW.nU, pf_under, ra, r, _, rfl, .inr g2, by omega, fun c hc => (hr1.b c hc).up (by decide), hs1.u.up (by decide), fun l1 H1 n1 s1 e1 => ?_⟩
      refine ⟨_, rfl, b, C, dx', _, _, rfl, s1 _ _ k1, CW.cl, CW.nR, pf_row, _, rfl, a, C, dx, _, _, rfl, s1 _ _ g1, CW.cl, CW.nU, pf_under, ra', s', _, rfl, .inr (Same.tup s1 k2), by omega, fun c hc => (hs1.b c hc).up (by decide), hr1.u.up (by decide), fun l2 H2 n2 s2 e2 => ?_⟩
      refine ⟨l1, l2, _, _, rfl, .inl ⟨.inl (.inl (s2 _ _ e1)), .inl (.inl e2)⟩, by rw [List.length_map]; omega, by rw [List.length_map]; omega, fun l t H3 n3 s3 e3 hl3 ht3 => ?_⟩
      rw [List.length_map, List.length_map] at hl3
      refine ⟨l, t, rfl, .inl (.inl (.inl e3)), by omega, fun H4 l4 t4 s4 e4 hT => ?_⟩
      refine q l4 t4 H4 (s1.trans (s2.trans (s3.trans s4))) e4 (by have := trim_len hT; omega) ?_
      unfold joint
      rw [if_neg huv]
      refine sum_two fun j => ?_
      rw [cf_trim hT, ht3, cf_map (f := fun c => c * (v : Int)) (Int.zero_mul _), cf_map (f := fun c => c * (u : Int)) (Int.zero_mul _)]
      omega
/-! ### + - * and the opposite -/
/-- the answer is the sum of p over u and e times q over v -/
def SumTo (e : Int) (p : List Int) (u : Nat) (q : List Int) (v : Nat) (x : List Int) (z : Nat) : Prop := ∃ R w, 0 < w ∧ SumRow e p u q v R w ∧ Low R w x z
def MulTo (p : List Int) (u : Nat) (q : List Int) (v : Nat) (x : List Int) (z : Nat) : Prop := ∃ R, (∀ j, cf R j = cv (cf p) (cf q) j) ∧ Low R (u * v) x z
def spBin (K : PySem.W.Frag) (C : Addr) (to : List Int → Nat → List Int → Nat → List Int → Nat → Prop) : Sp := fun vs H Q _ => ∃ (a : Addr) (y : V) (r s : List Int) (u v : Nat), vs = [.ref a, y] ∧ PAt K C H a r u ∧ Opd K C H y s v ∧ Sm r u ∧ Sm s v ∧ 0 < u ∧ 0 < v ∧
  ∀ x t z H', Same H H' → PAt K C H' x t z → to r u s v t z → Q (.ref x) H'
theorem Bd.mulN {u v : Nat} (hu : Bd 3500 (u : Int)) (hv : Bd 3500 (v : Int)) : Bd 8000 ((u * v : Nat) : Int) := by
  rw [Int.natCast_mul]
  exact Bd.mul hu hv (by decide)
theorem scAdd : FnScope ["self", "other", "added", "row"] ["self", "other"] (defScope sAdd) := ⟨rfl, rfl, rfl, by decide +kernel, rfl, by decide +kernel, by decide +kernel⟩
theorem ok_add {C CR CU fI f : Addr} {fd fdI : FuncData} (F : Fun K "__add__" "Piece.__add__" sAdd f fd) (T : TxtJ mg) (CW : ClsR K mg C) (M : Mk K C fI) (FI : FnOk P w K mg base (CX P w) 4 fI fdI ["self", "row", "under"] (spInit K C CR CU)) (bI : Binds K fdI ["self", "row", "under"] [])
    (Dcountsaspiece : Df P w K mg base 2 "_counts_as_piece" ["value"] (spCounts K C)) (Daspiece : Df P w K mg base 6 "_as_piece" ["value"] (spAs K C)) (Drowsum : Df P w K mg base 2 "row_sum" ["one", "other"] (spSum K)) (Drowtimes : Df P w K mg base 1 "row_times" ["row", "factor"] (spTm K)) : FnOk P w K mg base CX0 7 f fd ["self", "other"] (spBin K C (SumTo 1)) := by
  refine F.ok scAdd (fun vs H Q E h => ?_) (fun cdv A outer s H vs Q E hr h => ?_)
  · obtain ⟨a, y, r, s, u, v, rfl, _⟩ := h
    rfl
  · obtain ⟨a, y, r, s', u, v, rfl, hP, hO, hr1, hs1, hu, hv, q⟩ := h
    refine ⟨_, (pss_cons (ps_if (pt_not (pt_val (Dcountsaspiece.call (hr.mono (by decide)) (pa_cons (pv 1) pa_nil)))) (pss_one ps_never) pss_nil)
      (pss_cons (ps_set (i := 2) scAdd.nd rfl (.inl rfl) (Daspiece.call (hr.mono (by decide)) (pa_cons (pv 1) pa_nil)))
      (pss_cons (ps_if (pt_cmpR op_eq (pe_fld (pv 0) rfl) (pe_fld (pv 2) rfl) (nomark _)) (pss_one (ps_ret (pe_make M FI (hr.mono (by decide)) (by rfl) CW.mgC bI .nil passF (pa_cons (Drowsum.call (hr.mono (by decide)) (pa_cons (pe_fld (pv 0) rfl) (pa_cons (pe_fld (pv 2) rfl) pa_nil))) (pa_cons (pe_fld (pv 0) rfl) pa_nil))))) pss_nil)
      (pss_cons (ps_set (i := 3) scAdd.nd rfl (.inl rfl) (Drowsum.call (hr.mono (by decide)) (pa_cons (Drowtimes.call (hr.mono (by decide)) (pa_cons (pe_fld (pv 0) rfl) (pa_cons (pe_fld (pv 2) rfl) pa_nil))) (pa_cons (Drowtimes.call (hr.mono (by decide)) (pa_cons (pe_fld (pv 2) rfl) (pa_cons (pe_fld (pv 0) rfl) pa_nil))) pa_nil))))
      (pss_one (ps_ret (pe_make M FI (hr.mono (by decide)) (by rfl) CW.mgC bI .nil passF (pa_cons (pv 3) (pa_cons (pe_op op_mulW (pe_fld (pv 0) rfl) (pe_fld (pv 2) rfl)) pa_nil))))))))), ?_⟩
    refine ⟨_, rfl, y, s', v, rfl, hO, _, rfl, iteF ?_⟩
    refine ⟨_, rfl, y, s', v, rfl, hO, fun b H1 s1 hB => ?_⟩
    obtain ⟨dx, ra, g1, g2⟩ := hP.same s1
    obtain ⟨dx', ra', k1, k2⟩ := hB
    have hl := hr1.l
    have hl' := hs1.l
    refine ⟨_, rfl, a, C, dx, _, _, rfl, g1, CW.cl, CW.nU, pf_under, _, rfl, b, C, dx', _, _, rfl, k1, CW.cl, CW.nU, pf_under, rfl, _, rfl, ?_⟩
    rw [dint]
    by_cases huv : u = v
    · rw [decide_eq_true (show (u : Int) = (v : Int) by rw [huv])]
      refine iteT ⟨_, rfl, a, C, dx, _, _, rfl, g1, CW.cl, CW.nR, pf_row, _, rfl, b, C, dx', _, _, rfl, k1, CW.cl, CW.nR, pf_row, ra, ra', r, s', rfl, .inr ⟨g2, k2⟩, by omega, by omega, fun l t H2 n2 s2 e2 hl2 ht2 => ?_⟩
      refine ⟨_, rfl, a, C, dx, _, _, rfl, s2 _ _ g1, CW.cl, CW.nU, pf_under, ?_⟩
      refine mk_pc (.inl (.inl (.inl e2))) (by omega) hu (hr1.u.up (by decide)) fun x t3 z H3 hL s3 hX => ?_
      exact q x t3 z H3 (s1.trans (s2.trans s3)) hX ⟨t, u, hu, sum_one huv fun j => by rw [ht2, Int.one_mul], hL⟩
    · rw [decide_eq_false (show ¬ (u : Int) = (v : Int) by omega)]
      refine iteF ?_
      refine ⟨_, rfl, a, C, dx, _, _, rfl, g1, CW.cl, CW.nR, pf_row, _, rfl, b, C, dx', _, _, rfl, k1, CW.cl, CW.nU, pf_under, ra, r, _, rfl, .inr g2, by omega, fun c hc => (hr1.b c hc).up (by decide), hs1.u.up (by decide), fun l1 H2 n1 s2 e1 => ?_⟩
      refine ⟨_, rfl, b, C, dx', _, _, rfl, s2 _ _ k1, CW.cl, CW.nR, pf_row, _, rfl, a, C, dx, _, _, rfl, s2 _ _ g1, CW.cl, CW.nU, pf_under, ra', s', _, rfl, .inr (Same.tup s2 k2), by omega, fun c hc => (hs1.b c hc).up (by decide), hr1.u.up (by decide), fun l2 H3 n2 s3 e2 => ?_⟩
      refine ⟨l1, l2, _, _, rfl, .inl ⟨.inl (.inl (s3 _ _ e1)), .inl (.inl e2)⟩, by rw [List.length_map]; omega, by rw [List.length_map]; omega, fun l t H4 n3 s4 e3 hl3 ht3 => ?_⟩
      rw [List.length_map, List.length_map] at hl3
      have s24 := s2.trans (s3.trans s4)
      refine ⟨_, rfl, _, rfl, a, C, dx, _, _, rfl, s24 _ _ g1, CW.cl, CW.nU, pf_under, _, rfl, b, C, dx', _, _, rfl, s24 _ _ k1, CW.cl, CW.nU, pf_under, _, _, rfl, rfl, wide_mul hr1.u hs1.u (by decide) (by decide) (by decide), ?_⟩
      refine mk_pcI (un := u * v) (Int.natCast_mul u v).symm (.inl (.inl (.inl e3))) (by omega) (Nat.mul_pos hu hv) (Bd.mulN hr1.u hs1.u) fun x t5 z H5 hL s5 hX => ?_
      refine q x t5 z H5 (s1.trans (s24.trans s5)) hX ⟨t, u * v, Nat.mul_pos hu hv, sum_two fun j => ?_, hL⟩
      rw [ht3, cf_map (f := fun c => c * (v : Int)) (Int.zero_mul _), cf_map (f := fun c => c * (u : Int)) (Int.zero_mul _), Int.one_mul]
theorem scSub : FnScope ["self", "other", "less", "under"] ["self", "other"] (defScope sSub) := ⟨rfl, rfl, rfl, by decide +kernel, rfl, by decide +kernel, by decide +kernel⟩
theorem ok_sub {C CR CU fI f : Addr} {fd fdI : FuncData} (F : Fun K "__sub__" "Piece.__sub__" sSub f fd) (T : TxtJ mg) (CW : ClsR K mg C) (M : Mk K C fI) (FI : FnOk P w K mg base (CX P w) 4 fI fdI ["self", "row", "under"] (spInit K C CR CU)) (bI : Binds K fdI ["self", "row", "under"] [])
    (Dcountsaspiece : Df P w K mg base 2 "_counts_as_piece" ["value"] (spCounts K C)) (Daspiece : Df P w K mg base 6 "_as_piece" ["value"] (spAs K C)) (Dgaprow : Df P w K mg base 2 "gap_row" ["p", "q"] (spGapRow K C)) : FnOk P w K mg base CX0 7 f fd ["self", "other"] (spBin K C (SumTo (-1))) := by
  refine F.ok scSub (fun vs H Q E h => ?_) (fun cdv A outer s H vs Q E hr h => ?_)
  · obtain ⟨a, y, r, s, u, v, rfl, _⟩ := h
    rfl
  · obtain ⟨a, y, r, s', u, v, rfl, hP, hO, hr1, hs1, hu, hv, q⟩ := h
    refine ⟨_, (pss_cons (ps_if (pt_not (pt_val (Dcountsaspiece.call (hr.mono (by decide)) (pa_cons (pv 1) pa_nil)))) (pss_one ps_never) pss_nil)
      (pss_cons (ps_set (i := 2) scSub.nd rfl (.inl rfl) (Daspiece.call (hr.mono (by decide)) (pa_cons (pv 1) pa_nil)))
      (pss_cons (ps_set (i := 3) scSub.nd rfl (.inl rfl) (pe_ifExp (pt_cmpR op_eq (pe_fld (pv 0) rfl) (pe_fld (pv 2) rfl) (nomark _)) (pe_fld (pv 0) rfl) (pe_op op_mulW (pe_fld (pv 0) rfl) (pe_fld (pv 2) rfl))))
      (pss_one (ps_ret (pe_make M FI (hr.mono (by decide)) (by rfl) CW.mgC bI .nil passF (pa_cons (Dgaprow.call (hr.mono (by decide)) (pa_cons (pv 0) (pa_cons (pv 2) pa_nil))) (pa_cons (pv 3) pa_nil)))))))), ?_⟩
    refine ⟨_, rfl, y, s', v, rfl, hO, _, rfl, iteF ?_⟩
    refine ⟨_, rfl, y, s', v, rfl, hO, fun b H1 s1 hB => ?_⟩
    have hA := hP.same s1
    obtain ⟨dx, ra, g1, g2⟩ := hA
    obtain ⟨dx', ra', k1, k2⟩ := id hB
    have hl := hr1.l
    have hl' := hs1.l
    refine ⟨_, rfl, a, C, dx, _, _, rfl, g1, CW.cl, CW.nU, pf_under, _, rfl, b, C, dx', _, _, rfl, k1, CW.cl, CW.nU, pf_under, rfl, _, rfl, ?_⟩
    rw [dint]
    have hj : 0 < joint u v ∧ Bd 8000 (joint u v : Int) := by
      unfold joint
      split
      · exact ⟨hu, hr1.u.up (by decide)⟩
      · exact ⟨Nat.mul_pos hu hv, Bd.mulN hr1.u hs1.u⟩
    by_cases huv : u = v
    case' pos =>
      rw [decide_eq_true (show (u : Int) = (v : Int) by rw [huv])]
      refine iteT ⟨_, rfl, a, C, dx, _, _, rfl, g1, CW.cl, CW.nU, pf_under, ?_⟩
    case' neg =>
      rw [decide_eq_false (show ¬ (u : Int) = (v : Int) by omega)]
      refine iteF ⟨_, rfl, a, C, dx, _, _, rfl, g1, CW.cl, CW.nU, pf_under, _, rfl, b, C, dx', _, _, rfl, k1, CW.cl, CW.nU, pf_under, _, _, rfl, rfl, wide_mul hr1.u hs1.u (by decide) (by decide) (by decide), ?_⟩
    all_goals
      refine ⟨_, rfl, _, rfl, a, b, r, s', u, v, rfl, ⟨dx, ra, g1, g2⟩, hB, hr1, hs1, fun l R H2 s2 e2 hl2 hR => ?_⟩
      refine ⟨_, rfl, ?_⟩
      refine mk_pcI (un := joint u v) (by unfold joint; first | rw [if_pos huv] | (rw [if_neg huv]; exact (Int.natCast_mul u v).symm)) (.inl (.inl (.inl e2))) (by omega) hj.1 hj.2 fun x t3 z H3 hL s3 hX => ?_
      exact q x t3 z H3 (s1.trans (s2.trans s3)) hX ⟨R, _, hj.1, hR, hL⟩
theorem scMul : FnScope ["self", "other", "factor"] ["self", "other"] (defScope sMul) := ⟨rfl, rfl, rfl, by decide +kernel, rfl, by decide +kernel, by decide +kernel⟩
theorem ok_mul {C CR CU fI f : Addr} {fd fdI : FuncData} (F : Fun K "__mul__" "Piece.__mul__" sMul f fd) (T : TxtJ mg) (CW : ClsR K mg C) (M : Mk K C fI) (FI : FnOk P w K mg base (CX P w) 4 fI fdI ["self", "row", "under"] (spInit K C CR CU)) (bI : Binds K fdI ["self", "row", "under"] [])
    (Dcountsaspiece : Df P w K mg base 2 "_counts_as_piece" ["value"] (spCounts K C)) (Daspiece : Df P w K mg base 6 "_as_piece" ["value"] (spAs K C)) (Drowproduct : Df P w K mg base 3 "row_product" ["one", "other"] (spProd K)) : FnOk P w K mg base CX0 7 f fd ["self", "other"] (spBin K C MulTo) := by
  refine F.ok scMul (fun vs H Q E h => ?_) (fun cdv A outer s H vs Q E hr h => ?_)
  · obtain ⟨a, y, r, s, u, v, rfl, _⟩ := h
    rfl
  · obtain ⟨a, y, r, s', u, v, rfl, hP, hO, hr1, hs1, hu, hv, q⟩ := h
    refine ⟨_, (pss_cons (ps_if (pt_not (pt_val (Dcountsaspiece.call (hr.mono (by decide)) (pa_cons (pv 1) pa_nil)))) (pss_one ps_never) pss_nil)
      (pss_cons (ps_set (i := 2) scMul.nd rfl (.inl rfl) (Daspiece.call (hr.mono (by decide)) (pa_cons (pv 1) pa_nil)))
      (pss_one (ps_ret (pe_make M FI (hr.mono (by decide)) (by rfl) CW.mgC bI .nil passF (pa_cons (Drowproduct.call (hr.mono (by decide)) (pa_cons (pe_fld (pv 0) rfl) (pa_cons (pe_fld (pv 2) rfl) pa_nil))) (pa_cons (pe_op op_mulW (pe_fld (pv 0) rfl) (pe_fld (pv 2) rfl)) pa_nil))))))), ?_⟩
    refine ⟨_, rfl, y, s', v, rfl, hO, _, rfl, iteF ?_⟩
    refine ⟨_, rfl, y, s', v, rfl, hO, fun b H1 s1 hB => ?_⟩
    obtain ⟨dx, ra, g1, g2⟩ := hP.same s1
    obtain ⟨dx', ra', k1, k2⟩ := hB
    have hl := hr1.l
    have hl' := hs1.l
    refine ⟨_, rfl, a, C, dx, _, _, rfl, g1, CW.cl, CW.nR, pf_row, _, rfl, b, C, dx', _, _, rfl, k1, CW.cl, CW.nR, pf_row, ra, ra', r, s', rfl, g2, .inr k2, by omega, by omega, fun c hc => (hr1.b c hc).up (by decide), fun c hc => (hs1.b c hc).up (by decide), fun l t H2 n2 s2 e2 hl2 ht2 => ?_⟩
    refine ⟨_, rfl, a, C, dx, _, _, rfl, s2 _ _ g1, CW.cl, CW.nU, pf_under, _, rfl, b, C, dx', _, _, rfl, s2 _ _ k1, CW.cl, CW.nU, pf_under, _, _, rfl, rfl, wide_mul hr1.u hs1.u (by decide) (by decide) (by decide), ?_⟩
    refine mk_pcI (un := u * v) (Int.natCast_mul u v).symm (.inl (.inl (.inl e2))) (by omega) (Nat.mul_pos hu hv) (Bd.mulN hr1.u hs1.u) fun x t3 z H3 hL s3 hX => ?_
    exact q x t3 z H3 (s1.trans (s2.trans s3)) hX ⟨t, ht2, hL⟩
def spNeg (K : PySem.W.Frag) (C : Addr) : Sp := fun vs H Q _ => ∃ (a : Addr) (r : List Int) (u : Nat), vs = [.ref a] ∧ PAt K C H a r u ∧ Sm r u ∧ 0 < u ∧ ∀ x t z H', Same H H' → PAt K C H' x t z → Low (r.map fun c => c * -1) u t z → Q (.ref x) H'
theorem scNeg : FnScope ["self"] ["self"] (defScope sNeg) := ⟨rfl, rfl, rfl, by decide +kernel, rfl, by decide +kernel, by decide +kernel⟩
theorem ok_neg {C CR CU fI f : Addr} {fd fdI : FuncData} (F : Fun K "__neg__" "Piece.__neg__" sNeg f fd) (T : TxtJ mg) (CW : ClsR K mg C) (M : Mk K C fI) (FI : FnOk P w K mg base (CX P w) 4 fI fdI ["self", "row", "under"] (spInit K C CR CU)) (bI : Binds K fdI ["self", "row", "under"] [])
    (Drowtimes : Df P w K mg base 1 "row_times" ["row", "factor"] (spTm K)) : FnOk P w K mg base CX0 6 f fd ["self"] (spNeg K C) := by
  refine F.ok scNeg (fun vs H Q E h => ?_) (fun cdv A outer s H vs Q E hr h => ?_)
  · obtain ⟨a, r, u, rfl, _⟩ := h
    rfl
  · obtain ⟨a, r, u, rfl, ⟨dx, ra, g1, g2⟩, hr1, hu, q⟩ := h
    have hl := hr1.l
    refine ⟨_, (pss_one (ps_ret (pe_make M FI (hr.mono (by decide)) (by rfl) CW.mgC bI .nil passF (pa_cons (Drowtimes.call (hr.mono (by decide)) (pa_cons (pe_fld (pv 0) rfl) (pa_cons (pe_un un_neg pe_int) pa_nil))) (pa_cons (pe_fld (pv 0) rfl) pa_nil))))), ?_⟩
    refine ⟨_, rfl, a, C, dx, _, _, rfl, g1, CW.cl, CW.nR, pf_row, _, rfl, ra, r, _, rfl, .inr g2, by omega, fun c hc => (hr1.b c hc).up (by decide), Bd.up (a := 1) (by unfold Bd; decide) (by decide), fun l H1 n1 s1 e1 => ?_⟩
    refine ⟨_, rfl, a, C, dx, _, _, rfl, s1 _ _ g1, CW.cl, CW.nU, pf_under, ?_⟩
    refine mk_pc (.inl (.inl (.inl e1))) (by rw [List.length_map]; omega) hu (hr1.u.up (by decide)) fun x t z H2 hL s2 hX => ?_
    exact q x t z H2 (s1.trans s2) hX hL
end
end Ef
set_option Elab.async false
set_option linter.all false
/-! rows divided with a rest -/
namespace Ef
theorem cv_zero_left {f g : Nat → Int} (h : ∀ i, f i = 0) (j : Nat) : cv f g j = 0 := sm_zero fun i _ => by rw [h, Int.zero_mul]
theorem sm_add {n : Nat} {f g : Nat → Int} : sm n (fun i => f i + g i) = sm n f + sm n g := by
  induction n with
  | zero => rfl
  | succ n ih =>
    show sm n (fun i => f i + g i) + (f n + g n) = (sm n f + f n) + (sm n g + g n)
    rw [ih]; omega
theorem cv_add_left (f g h : Nat → Int) (j : Nat) : cv (fun i => f i + g i) h j = cv f h j + cv g h j := by
  unfold cv
  rw [← sm_add]
  exact sm_congr fun i _ => Int.add_mul _ _ _
theorem cv_mul_left (f h : Nat → Int) (c : Int) (j : Nat) : cv (fun i => f i * c) h j = cv f h j * c := by
  have := cv_scale f h c 1 j
  rw [Int.mul_one, show (fun i => h i * 1) = h from funext fun i => Int.mul_one _] at this
  exact this
/-- moved up by s places -/
def shf (s : Nat) (f : Nat → Int) (j : Nat) : Int := if j < s then 0 else f (j - s)
theorem shf_zero (f : Nat → Int) (j : Nat) : shf 0 f j = f j := by unfold shf; rw [if_neg (Nat.not_lt_zero j), Nat.sub_zero]
theorem shf_succ_cons (s : Nat) (x : Int) (q : List Int) (c : Int) (j : Nat) : shf s (cf (x :: q.map fun y => y * c)) j = (if j = s then x else 0) + shf (s + 1) (cf q) j * c := by
  unfold shf
  rcases Nat.lt_trichotomy j s with h | h | h
  · rw [if_pos h, if_neg (by omega), if_pos (by omega), Int.zero_mul]; rfl
  · subst h
    rw [if_neg (Nat.lt_irrefl j), if_pos rfl, if_pos (Nat.lt_succ_self j), Nat.sub_self, Int.zero_mul, Int.add_zero]; rfl
  · rw [if_neg (by omega), if_neg (by omega), if_neg (by omega), Int.zero_add, cf_cons, if_neg (by omega), cf_map (f := fun y => y * c) (Int.zero_mul c), show j - s - 1 = j - (s + 1) by omega]
theorem shf_nil (s : Nat) (i : Nat) : shf s (cf []) i = 0 := by
  unfold shf
  split
  · rfl
  · exact cf_nil _
/-- one place, times a row -/
theorem cv_dot (s : Nat) (x : Int) (g : Nat → Int) (j : Nat) : cv (fun i => if i = s then x else 0) g j = if j < s then 0 else x * g (j - s) := by
  unfold cv
  by_cases h : j < s
  · rw [if_pos h]
    exact sm_zero fun i hi => by dsimp only; rw [if_neg (by omega), Int.zero_mul]
  · rw [if_neg h]
    have e : j + 1 = s + 1 + (j - s) := by omega
    rw [e, sm_ext fun i h1 _ => by dsimp only; rw [if_neg (by omega), Int.zero_mul]]
    show sm s _ + _ = _
    rw [sm_zero fun i hi => by dsimp only; rw [if_neg (by omega), Int.zero_mul]]
    dsimp only
    rw [if_pos rfl, Int.zero_add]
/-- what the loop keeps -/
structure DivI (r d Q R : List Int) (f : Nat) : Prop where
  eq : ∀ j, (f : Int) * cf r j = cv (shf (R.length + 1 - d.length) (cf Q)) (cf d) j + cf R j
  len : Q.length + R.length = r.length
  sh : Q = [] ∨ d.length ≤ R.length + 1
  f0 : 0 < f
theorem DivI.start (r d : List Int) : DivI r d [] r 1 := by
  refine ⟨fun j => ?_, by rw [List.length_nil, Nat.zero_add], .inl rfl, by decide⟩
  rw [cv_zero_left (shf_nil _), Int.zero_add]
  show (1 : Int) * _ = _
  rw [Int.one_mul]
/-- the widening and the lead -/
theorem lead_ex {top rl : Int} (ht : top ≠ 0) : ∃ (w : Nat) (ld : Int), ((top.natAbs : Int) / (Nat.gcd top.natAbs rl.natAbs : Nat) = (w : Int)) ∧ 0 < w ∧ w ≤ top.natAbs ∧ rl * (w : Int) = ld * top ∧ ld.natAbs ≤ rl.natAbs := by
  have hg : 0 < Nat.gcd top.natAbs rl.natAbs := Nat.gcd_pos_of_pos_left _ (by omega)
  obtain ⟨a, ha⟩ := Nat.gcd_dvd_left top.natAbs rl.natAbs
  obtain ⟨b, hb⟩ := Nat.gcd_dvd_right top.natAbs rl.natAbs
  generalize Nat.gcd top.natAbs rl.natAbs = g at hg ha hb ⊢
  have hw : top.natAbs / g = a := by rw [ha]; exact Nat.mul_div_cancel_left a hg
  have ha0 : 0 < a := by
    rcases Nat.eq_zero_or_pos a with z | z
    · rw [z, Nat.mul_zero] at ha; omega
    · exact z
  have hle : b ≤ rl.natAbs := by rw [hb]; exact Nat.le_mul_of_pos_left b hg
  have hal : a ≤ top.natAbs := by rw [ha]; exact Nat.le_mul_of_pos_left a hg
  have key : ∃ ld : Int, rl * (a : Int) = ld * top ∧ ld.natAbs = b := by
    have e : rl.natAbs * a = b * top.natAbs := by rw [ha, hb]; ac_rfl
    have ez : (rl.natAbs : Int) * (a : Int) = (b : Int) * (top.natAbs : Int) := by rw [← Int.natCast_mul, ← Int.natCast_mul, e]
    rcases Int.natAbs_eq rl with h1 | h1 <;> rcases Int.natAbs_eq top with h2 | h2
    · exact ⟨b, by rw [h1, h2]; exact ez, Int.natAbs_natCast b⟩
    · exact ⟨-(b : Int), by rw [h1, h2, Int.neg_mul_neg]; exact ez, by rw [Int.natAbs_neg, Int.natAbs_natCast]⟩
    · exact ⟨-(b : Int), by rw [h1, h2, Int.neg_mul, Int.neg_mul, ez], by rw [Int.natAbs_neg, Int.natAbs_natCast]⟩
    · exact ⟨b, by rw [h1, h2, Int.neg_mul, Int.mul_neg, ez], Int.natAbs_natCast b⟩
  obtain ⟨ld, h1, h2⟩ := key
  exact ⟨a, ld, by rw [← Int.natCast_ediv, hw], ha0, hal, h1, by omega⟩
/-- one turn -/
theorem DivI.step {r d Q R R' : List Int} {f w : Nat} {ld rl top : Int} (h : DivI r d Q R f) (hd : 0 < d.length) (hn : d.length ≤ R.length) (hw : 0 < w) (htop : cf d (d.length - 1) = top) (hrl : cf R (R.length - 1) = rl) (hl : rl * (w : Int) = ld * top)
    (hlen : R'.length + 1 = R.length) (hR : ∀ j, j + 1 < R.length → cf R' j = cf R j * (w : Int) - (if j < R.length - d.length then 0 else cf d (j - (R.length - d.length)) * ld)) : DivI r d (ld :: Q.map fun y => y * (w : Int)) R' (f * w) := by
  have hs : R'.length + 1 - d.length = R.length - d.length := by omega
  have hs2 : R.length + 1 - d.length = R.length - d.length + 1 := by omega
  refine ⟨fun j => ?_, ?_, .inr (by omega), Nat.mul_pos h.f0 hw⟩
  · rw [hs, show shf (R.length - d.length) (cf (ld :: Q.map fun y => y * (w : Int))) = fun i => (if i = R.length - d.length then ld else 0) + shf (R.length - d.length + 1) (cf Q) i * (w : Int) from funext fun i => shf_succ_cons _ _ _ _ i, cv_add_left, cv_mul_left, cv_dot, Int.natCast_mul, Int.mul_right_comm, h.eq, hs2, Int.add_mul]
    generalize cv (shf (R.length - d.length + 1) (cf Q)) (cf d) j * (w : Int) = X
    have e : cf R j * (w : Int) = (if j < R.length - d.length then 0 else ld * cf d (j - (R.length - d.length))) + cf R' j := by
      rcases Nat.lt_or_ge (j + 1) R.length with z | z
      · rw [hR j z]
        split
        · omega
        · rw [Int.mul_comm ld]; omega
      · rw [cf_ge (r := R') (by omega), Int.add_zero]
        rcases Nat.lt_or_ge j R.length with y | y
        · have ej : j = R.length - 1 := by omega
          subst ej
          rw [hrl, hl, if_neg (by omega), show R.length - 1 - (R.length - d.length) = d.length - 1 by omega, htop]
        · rw [cf_ge y, Int.zero_mul, if_neg (by omega), cf_ge (r := d) (by omega), Int.mul_zero]
    rw [e]; omega
  · rw [List.length_cons, List.length_map]
    have := h.len
    omega
/-- at the end -/
theorem DivI.done {r d Q R : List Int} {f : Nat} (h : DivI r d Q R f) (hd : 0 < d.length) (hn : R.length < d.length) (j : Nat) : (f : Int) * cf r j = cv (cf Q) (cf d) j + cf R j := by
  rw [h.eq]
  congr 1
  rcases h.sh with rfl | z
  · rw [cv_zero_left (shf_nil _), cv_zero_left fun i => cf_nil i]
  · rw [show R.length + 1 - d.length = 0 by omega]
    exact cv_congr (fun i => shf_zero _ i) (fun _ => rfl) j
/-- the answer of a division: Q * v over f * u, R over f * u -/
def DivTo (r : List Int) (u : Nat) (s : List Int) (v : Nat) (q1 : List Int) (w1 : Nat) (q2 : List Int) (w2 : Nat) : Prop :=
  ∃ (Q R : List Int) (f : Nat), 0 < f ∧ (∀ j, (f : Int) * cf r j = cv (cf Q) (cf s) j + cf R j) ∧ R.length < s.length ∧ Low (Q.map fun y => y * (v : Int)) (f * u) q1 w1 ∧ Low R (f * u) q2 w2
/-- a product with a row whose top is not 0 vanishes far up only if the other one is 0 -/
theorem cv_top {F : Nat → Int} {s : List Int} {d : Nat} (hd : s.length = d + 1) (ht : cf s d ≠ 0) : ∀ N : Nat, (∀ i, N ≤ i → F i = 0) → (∀ j, d ≤ j → cv F (cf s) j = 0) → ∀ i, F i = 0
  | 0, h, _, i => h i (Nat.zero_le i)
  | N + 1, h, h2, i => by
    refine cv_top hd ht N (fun i hi => ?_) h2 i
    rcases Nat.lt_or_ge N i with z | z
    · exact h i z
    · have ei : i = N := by omega
      subst ei
      have k := h2 (i + d) (by omega)
      have e : cv F (cf s) (i + d) = F i * cf s d := by
        unfold cv
        have e2 : i + d + 1 = i + 1 + d := by omega
        rw [e2, sm_ext fun m h1 _ => by rw [h m (by omega), Int.zero_mul]]
        show sm i _ + _ = _
        rw [sm_zero fun m hm => by rw [cf_ge (r := s) (by omega), Int.mul_zero], Int.zero_add]
        dsimp only
        rw [show i + d - i = d by omega]
      rw [e] at k
      rcases Int.mul_eq_zero.mp k with z | z
      · exact z
      · exact absurd z ht
theorem cv_sub_left (f g h : Nat → Int) (j : Nat) : cv (fun i => f i - g i) h j = cv f h j - cv g h j := by
  have e : (fun i => f i - g i) = fun i => f i + g i * (-1) := funext fun i => by omega
  rw [e, cv_add_left, cv_mul_left]
  omega
/-- one quotient, one rest -/
theorem div_unique {r s q1 q2 ar br : List Int} {u v w1 w2 au bu : Nat} (h : DivTo r u s v q1 w1 q2 w2) (hu : 0 < u) (hv : 0 < v) (hs : 0 < s.length) (ht : cf s (s.length - 1) ≠ 0) (La : Low ar au ar au) (Lb : Low br bu br bu) (lb : br.length < s.length)
    (e : ∀ j, cf r j * ((au : Int) * (v : Int) * (bu : Int)) = (cv (cf ar) (cf s) j * (bu : Int) + cf br j * ((au : Int) * (v : Int))) * (u : Int)) : (q1 = ar ∧ w1 = au) ∧ q2 = br ∧ w2 = bu := by
  obtain ⟨Q, R, f, hf, hE, hR, L1, L2⟩ := h
  have hau := La.u1
  have hbu := Lb.u1
  -- the difference of the quotients times the divisor is the one of the rests
  have key : ∀ j, cv (fun i => cf Q i * ((au : Int) * (v : Int) * (bu : Int)) - cf ar i * ((bu : Int) * (u : Int) * (f : Int))) (cf s) j = cf br j * ((au : Int) * (v : Int) * (u : Int) * (f : Int)) - cf R j * ((au : Int) * (v : Int) * (bu : Int)) := fun j => by
    rw [cv_sub_left, cv_mul_left, cv_mul_left]
    have a := hE j
    have b := e j
    have c : (f : Int) * (cf r j * ((au : Int) * (v : Int) * (bu : Int))) = (f : Int) * ((cv (cf ar) (cf s) j * (bu : Int) + cf br j * ((au : Int) * (v : Int))) * (u : Int)) := by rw [b]
    rw [← Int.mul_assoc, a, Int.add_mul, Int.add_mul, Int.mul_add] at c
    have d1 : cv (cf ar) (cf s) j * ((bu : Int) * (u : Int) * (f : Int)) = (f : Int) * (cv (cf ar) (cf s) j * (bu : Int) * (u : Int)) := by ac_rfl
    have d2 : cf br j * ((au : Int) * (v : Int) * (u : Int) * (f : Int)) = (f : Int) * (cf br j * ((au : Int) * (v : Int)) * (u : Int)) := by ac_rfl
    rw [d1, d2]
    omega
  have hF := cv_top (F := fun i => cf Q i * ((au : Int) * (v : Int) * (bu : Int)) - cf ar i * ((bu : Int) * (u : Int) * (f : Int))) (s := s) (d := s.length - 1) (by omega) ht (Q.length + ar.length)
    (fun i hi => by rw [cf_ge (r := Q) (by omega), cf_ge (r := ar) (by omega), Int.zero_mul, Int.zero_mul]; rfl)
    (fun j hj => by rw [key, cf_ge (r := br) (by omega), cf_ge (r := R) (by omega), Int.zero_mul, Int.zero_mul]; rfl)
  have hbu0 : (bu : Int) ≠ 0 := by omega
  refine ⟨L1.unique La fun i => ?_, L2.unique Lb fun i => ?_⟩
  · show cf (Q.map fun y => y * (v : Int)) i * (au : Int) = cf ar i * ((f * u : Nat) : Int)
    rw [cf_map (f := fun y => y * (v : Int)) (Int.zero_mul _), Int.natCast_mul]
    refine Int.eq_of_mul_eq_mul_right hbu0 ?_
    have z := hF i
    have d1 : cf Q i * (v : Int) * (au : Int) * (bu : Int) = cf Q i * ((au : Int) * (v : Int) * (bu : Int)) := by ac_rfl
    have d2 : cf ar i * ((f : Int) * (u : Int)) * (bu : Int) = cf ar i * ((bu : Int) * (u : Int) * (f : Int)) := by ac_rfl
    rw [d1, d2]
    have z' : cf Q i * ((au : Int) * (v : Int) * (bu : Int)) - cf ar i * ((bu : Int) * (u : Int) * (f : Int)) = 0 := z
    omega
  · show cf R i * (bu : Int) = cf br i * ((f * u : Nat) : Int)
    rw [Int.natCast_mul]
    have k := key i
    rw [cv_zero_left hF] at k
    have nz : ((au : Int) * (v : Int)) ≠ 0 := by
      have := Int.mul_pos (show (0 : Int) < (au : Int) by omega) (show (0 : Int) < (v : Int) by omega)
      omega
    refine Int.eq_of_mul_eq_mul_right nz ?_
    have d1 : cf R i * (bu : Int) * ((au : Int) * (v : Int)) = cf R i * ((au : Int) * (v : Int) * (bu : Int)) := by ac_rfl
    have d2 : cf br i * ((f : Int) * (u : Int)) * ((au : Int) * (v : Int)) = cf br i * ((au : Int) * (v : Int) * (u : Int) * (f : Int)) := by ac_rfl
    rw [d1, d2]
    omega
end Ef
namespace Ef
/-- what is put together again -/
theorem fits_low {row o F pr s q1 q2 : List Int} {un vn u v w1 w2 : Nat} (Lr : Low row un pr u) (Lo : Low o vn s v) (h : DivTo pr u s v q1 w1 q2 w2) (hw1 : 0 < w1) (hw2 : 0 < w2)
    (hF : ∀ j, cf F j = cv (cf q1) (cf o) j * (w2 : Int) + cf q2 j * ((w1 : Int) * (vn : Int))) : Low F (w1 * vn * w2) pr u := by
  obtain ⟨Q, R, f, hf, hE, hR, L1, L2⟩ := h
  have hu := Lr.u1
  have hv := Lo.u1
  refine Lr.move (Nat.mul_pos (Nat.mul_pos hw1 Lo.un0) hw2) fun j => ?_
  have c1 : ∀ i, cf q1 i * ((f : Int) * (u : Int)) = cf Q i * ((v : Int) * (w1 : Int)) := fun i => by
    have z : cf q1 i * ((f * u : Nat) : Int) = cf (Q.map fun y => y * (v : Int)) i * (w1 : Int) := L1.cross i
    rw [cf_map (f := fun y => y * (v : Int)) (Int.zero_mul _), Int.natCast_mul, Int.mul_assoc (cf Q i)] at z
    exact z
  have c2 : cf q2 j * ((f : Int) * (u : Int)) = cf R j * (w2 : Int) := by
    have z : cf q2 j * ((f * u : Nat) : Int) = cf R j * (w2 : Int) := L2.cross j
    rw [Int.natCast_mul] at z
    exact z
  have c3 : ∀ i, cf o i * (v : Int) = cf s i * (vn : Int) := fun i => (Lo.cross i).symm
  have vz : (v : Int) ≠ 0 := by omega
  have k1 : cv (cf q1) (cf o) j * ((f : Int) * (u : Int)) = cv (cf Q) (cf s) j * ((w1 : Int) * (vn : Int)) := by
    refine Int.eq_of_mul_eq_mul_right vz ?_
    have e1 : cv (cf q1) (cf o) j * ((f : Int) * (u : Int)) * (v : Int) = cv (cf q1) (cf o) j * (((f : Int) * (u : Int)) * (v : Int)) := by ac_rfl
    rw [e1, ← cv_scale, cv_congr c1 c3, cv_scale]
    ac_rfl
  have fuz : ((f : Int) * (u : Int)) ≠ 0 := by
    have := Int.mul_pos (show (0 : Int) < (f : Int) by omega) (show (0 : Int) < (u : Int) by omega)
    omega
  refine Int.eq_of_mul_eq_mul_right fuz ?_
  have r1 : cf pr j * (un : Int) = cf row j * (u : Int) := Lr.cross j
  have a1 : cf row j * ((w1 * vn * w2 : Nat) : Int) * ((f : Int) * (u : Int)) = (cf row j * (u : Int)) * ((w1 : Int) * (vn : Int) * (w2 : Int) * (f : Int)) := by
    rw [Int.natCast_mul, Int.natCast_mul]; ac_rfl
  have a2 : cf F j * (un : Int) * ((f : Int) * (u : Int)) = (cv (cf q1) (cf o) j * ((f : Int) * (u : Int))) * ((w2 : Int) * (un : Int)) + (cf q2 j * ((f : Int) * (u : Int))) * ((w1 : Int) * (vn : Int) * (un : Int)) := by
    rw [hF, Int.add_mul, Int.add_mul]
    congr 1 <;> ac_rfl
  rw [a1, a2, k1, c2, ← r1]
  have a3 : cf pr j * (un : Int) * ((w1 : Int) * (vn : Int) * (w2 : Int) * (f : Int)) = ((f : Int) * cf pr j) * ((un : Int) * ((w1 : Int) * (vn : Int) * (w2 : Int))) := by ac_rfl
  rw [a3, hE, Int.add_mul]
  congr 1 <;> ac_rfl
end Ef
set_option Elab.async false
set_option linter.all false
set_option maxRecDepth 100000
set_option maxHeartbeats 2000000
/-! an own error without any arguments; // by any divisor -/
namespace Ef
open PySem PySem.Spec PyProof.Rows L2
section
variable {X : Cx} {C : Addr} {bmB : List Value} {B newId initId : String}
/-- raise X(), X without an __init__ of its own -/
theorem pmk_none {x : Str} {p pos : Pos} (F : ExcBaseFacts B newId initId bmB) (q : PySem.W.excIn X.K C bmB newId = true) (gC : X.mg x = some (.ref C)) (kC : PySem.W.keepIn X.K (.ref C) = true) (r : Raises X (.ref C)) (hg : Gl X x) (hdb : (x == ("__debug__" : Str)) = false := by decide) :
    PMk X (.Call (.Name x p) [] [] pos) (fun _ H Q => Q (.ref C) none H) := fun pins s σ H Q I h => by
  refine wpAny_Call_Name_kw (ld_glob I hg gC (PySem.W.callWith_K0 I.kIn kC ?_) hdb)
  show wpAny _ _ (call (.ref C) []) _ _ _
  obtain ⟨bm, N, nm, qn, bs, hdct, sn, sub, ab, col, dd, k0, k1, k2, k3, k5, mN, hC, hN, hni, T⟩ := exc_obj I.kIn q
  exact wpAny_call_exc_subT F T hC hN hni (fun h' e hm => mk_of I hm r h (I.hok.gone hm.new)) (Nat.zero_le _)
/-- // by a divisor of any sign -/
def CDivZ (_ j : Int) : Prop := j ≠ 0 ∧ j.natAbs.log2 < 9000
theorem op_fdivZ : OpR X (binaryOp .FloorDiv) (rI CDivZ fun i j => .int (i.fdiv j)) := opI fun i j _ _ _ _ _ hc q => floordiv_int hc.1 q (.inl (PyProof.noPylong_of_log2 hc.2))
theorem wide_divZ {i j : Int} {b : Nat} (h : j ≠ 0) (hb : j.natAbs < 2 ^ b) (h0 : 0 < b) (h9 : b ≤ 9000) : CDivZ i j := ⟨h, Nat.lt_of_lt_of_le (PySem.Flt.log2_lt_of h0 hb) h9⟩
end
end Ef
set_option Elab.async false
set_option linter.all false
set_option maxRecDepth 100000
set_option maxHeartbeats 4000000
/-! != of two tuples whose items are equal one by one, also by a class's own == -/
namespace Ef
open PySem PySem.Spec PyProof.Rows L2
open AutoSeq1 (wpAny_loadPart')
section
variable {prog : Program} {w : World} {A : Around} {E : Value → Shared → Prop}
theorem ne_walk {a b : Addr} {xs ys : Array Value} {n m : Nat} {da db : Option Addr} {sa sb : Array (Option Value)} {Fin : Result → Shared → Prop} (len : xs.size = ys.size) (J : Nat → Shared → Prop)
    (one : ∀ i (h1 : i < xs.size) (h2 : i < ys.size) t, J i t → wpAny (model prog w) A.in1 (eqBool xs[i] ys[i]) (fun r t' => r = true ∧ J (i + 1) t') (fun e t' => Fin (.error e) t') t)
    (last : ∀ t, J xs.size t → Fin (.ok (.ret (.bool false))) t) {s : Shared} (ea : s.heap.get? a = some ⟨.type "tuple", da, .seq xs n, sa⟩) (eb : s.heap.get? b = some ⟨.type "tuple", db, .seq ys m, sb⟩) (j0 : J 0 s) :
    wpAny (model prog w) A.in1 (Builtin.«tuple.__ne__» ⟨[.ref a, .ref b], []⟩) (GQ.FinOf prog w A Fin) (fun e t' => Fin (.error e) t') s := by
  have isT := AutoSeq1.sub_tuple_tuple
  have lz : (xs.toList.zip ys.toList).length = xs.size := by rw [List.length_zip, Array.length_toList, Array.length_toList, len, Nat.min_self]
  obtain ⟨hp, g, d, tk, os⟩ := s
  wp_walk using wpAny_loadPart' ea, wpAny_loadPart' eb, wpAny_forIn_list _ (fun left c t => c.1 = none ∧ ∃ i, left = (xs.toList.zip ys.toList).drop i ∧ i ≤ xs.size ∧ J i t) _
  case turn =>
    rintro ⟨y, x⟩ left c t ⟨c1, i, hz, _, hJ⟩
    have il : i < (xs.toList.zip ys.toList).length := Nat.lt_of_not_le fun k => by rw [List.drop_of_length_le k] at hz; cases hz
    have i1 : i < xs.size := by rw [← lz]; exact il
    have i2 : i < ys.size := by rw [← len]; exact i1
    rw [List.drop_eq_getElem_cons il] at hz
    injection hz with hd tl
    obtain rfl : y = xs[i] := by have k := congrArg Prod.fst hd; simpa using k
    obtain rfl : x = ys[i] := by have k := congrArg Prod.snd hd; simpa using k
    refine wpAny_bind (wpAny_mono (one i i1 i2 t hJ) (fun r t2 ⟨e, q⟩ => ?_) fun _ _ z => z)
    subst e
    wp_walk
    exact ⟨rfl, i + 1, tl, i1, q⟩
  case fin =>
    rintro ⟨c1, c2⟩ t ⟨hc, i, hz, il, hJ⟩
    have hc : c1 = none := hc
    subst hc
    have ge : xs.size ≤ i := Nat.le_of_not_lt fun k => by rw [List.drop_eq_getElem_cons (by rw [lz]; exact k)] at hz; cases hz
    have ei : i = xs.size := Nat.le_antisymm il ge
    have done := last t (ei ▸ hJ)
    wp_walk
    simpa [Builtin.Tuple.tupleCompareSizes, len] using done
  case h => exact ⟨rfl, 0, rfl, Nat.zero_le _, j0⟩
end
section
variable {X : Cx} {n : Nat} {D : Eqv}
/-- x != y of two tuples: False -/
def rNeG (D : Eqv) : R2 := fun x y H Q => D x y H ∧ ∀ H', Ext H H' → Q (.bl false) H'
theorem op_neG (hD : Mon D) (h : EqG X n D) (hr : Room (n + 1) X.A) : OpR X (compareOp .NotEq) (rNeG (DTup X.K D)) := by
  intro pins s σ H x y v u Q I rx ry hq
  obtain ⟨⟨a, b, xs, ys, rfl, rfl, ha, hb, p⟩, q⟩ := hq
  cases rx
  cases ry
  obtain ⟨its, r, e1, _⟩ := I.tuple ha
  obtain ⟨its2, r2, e2, _⟩ := I.tuple hb
  have sz : its.toArray.size = its2.toArray.size := by rw [List.size_toArray, List.size_toArray, ← r.length, ← r2.length]; exact p.1
  obtain ⟨⟨cls, da, data, sa⟩, ho, hc, m1, hd⟩ := id e1
  obtain ⟨⟨cls2, db, data2, sb⟩, ho2, hc2, m2, hd2⟩ := id e2
  simp only at hc hd hc2 hd2
  subst hc hd hc2 hd2
  show wpAny (model X.prog X.w) X.A (richCompare .NotEq (.ref a) (.ref b)) (EP X pins σ Q) X.xe s
  have sbx : Sub X (n + 1) X.A := ⟨hr, rfl⟩
  refine wpAny_richCompare_same_room (op := .NotEq) ⟨_, ho, rfl⟩ ⟨_, ho2, rfl⟩ PySem.F.slot_tuple_ne (GQ.call_here PySem.F.slot_tuple_ne ⟨_, ho, rfl⟩ PySem.F.entry_tuple_ne (PySem.F.args_tuple_ne_2 _ _) ?_) hr.units0
  exact ne_walk sz (fun _ t => LoopI X pins σ H t) (fun i h1 h2 t z => turnG hD h sbx p r r2 i h1 h2 t z) (fun t ⟨H', I', x⟩ => ⟨(fun z => nomatch z), .bl false, H', I', rfl, q H' x⟩) ho ho2 ⟨H, I, Ext.rfl'⟩
end
end Ef
set_option Elab.async false
set_option linter.all false
set_option maxRecDepth 100000
set_option maxHeartbeats 4000000
namespace Ef
open PySem PySem.Spec PyProof.Rows L2
abbrev sRd : Stmt := top 21
theorem Low.sm {R t : List Int} {w z : Nat} (h : Low R w t z) (l : R.length ≤ 50) (b : ∀ c ∈ R, Bd 3500 c) (u : Bd 3500 (w : Int)) : Sm t z := ⟨Nat.le_trans h.len l, h.bd b, h.ub u⟩
/-- a piece is made, and goes anywhere -/
theorem mk_pcR {K : PySem.W.Frag} {C CR CU a : Addr} {H : Hp} {r : List Int} {un : Nat} {R : Addr → Hp → Prop} {E : XK} (hS : Seqs K H a (r.map V.int)) (hl : r.length ≤ 100) (hu : 0 < un) (hb : Bd 8000 (un : Int))
    (q : ∀ p s z H', Low r un s z → Same H H' → PAt K C H' p s z → R p H') : ∀ x dx, H x = none → H dx = none → dx ≠ x → spInit K C CR CU (V.ref x :: [V.ref a, V.int (un : Int)]) (upd (upd H dx (.own x)) x (.ins C dx [])) (fun v H' => v = .non ∧ R x H') E := by
  intro x dx nx ndx nex
  exact ⟨H, x, dx, a, _, _, rfl, same_inst nx ndx, nx, upd_same, hS, by rw [List.length_map]; exact hl, .inr ⟨r, rfl, .inl ⟨un, rfl, hu, hb, fun pr u H' hL s hP => ⟨rfl, q x pr u H' hL s hP⟩⟩⟩⟩
theorem mk_pcRI {K : PySem.W.Frag} {C CR CU a : Addr} {H : Hp} {r : List Int} {un : Nat} {xi : Int} {R : Addr → Hp → Prop} {E : XK} (hx : xi = (un : Int)) (hS : Seqs K H a (r.map V.int)) (hl : r.length ≤ 100) (hu : 0 < un) (hb : Bd 8000 (un : Int))
    (q : ∀ p s z H', Low r un s z → Same H H' → PAt K C H' p s z → R p H') : ∀ x dx, H x = none → H dx = none → dx ≠ x → spInit K C CR CU (V.ref x :: [V.ref a, V.int xi]) (upd (upd H dx (.own x)) x (.ins C dx [])) (fun v H' => v = .non ∧ R x H') E := by
  subst hx
  exact mk_pcR hS hl hu hb q
structure OpsC (K : PySem.W.Frag) (C : Addr) : Prop where
  hd : hdIn K C = true
theorem cut_last (xs : List V) : cutV xs none (some (-1)) = xs.dropLast := by
  unfold cutV
  rw [HT.sIx_none, List.dropLast_eq_take]
  have e : HT.sIx xs.length xs.length (some (-1)) = xs.length - 1 := by
    unfold HT.sIx
    dsimp only
    rw [if_pos (by decide)]
    omega
  rw [e, List.drop_zero, Nat.sub_zero]
theorem mem_dl {R : List Int} {x : Int} (h : x ∈ R.dropLast) : x ∈ R := by
  rw [List.dropLast_eq_take] at h
  exact List.mem_of_mem_take h
theorem Bd.neg {a : Nat} {x : Int} (h : Bd a x) : Bd a (-x) := by unfold Bd at *; rw [Int.natAbs_neg]; exact h
theorem Bd.sub {a w : Nat} {x y : Int} (hx : Bd a x) (hy : Bd a y) (h : a + 1 ≤ w) : Bd w (x - y) := by
  rw [Int.sub_eq_add_neg]
  exact Bd.add hx hy.neg h h
section
variable {P : Program} {w : World} {K : PySem.W.Frag} {mg : Str → Option Value} {base : Heap}
/-! ### row_divided -/
def spRd (K : PySem.W.Frag) : Sp := fun vs H Qk _ => ∃ (a b : Addr) (r d : List Int), vs = [.ref a, .ref b] ∧ SqT K H a (r.map V.int) ∧ SqT K H b (d.map V.int) ∧ r.length ≤ 12 ∧ 0 < d.length ∧ d.length ≤ 12 ∧ cf d (d.length - 1) ≠ 0 ∧ (∀ c ∈ r, Bd 1000 c) ∧ (∀ c ∈ d, Bd 250 c) ∧
  ∀ (t ql rl : Addr) (Q R : List Int) (f : Nat) (H' : Hp), Same H H' → H' t = some (.tup [.ref ql, .ref rl, .int (f : Int)]) → H' ql = some (.lst (Q.map V.int)) → H' rl = some (.lst (R.map V.int)) → DivI r d Q R f → R.length < d.length → (∀ c ∈ Q, Bd 4100 c) → (∀ c ∈ R, Bd 4100 c) → Bd 4100 (f : Int) → Qk (.ref t) H'
theorem scRd : FnScope ["row", "divisor", "top", "quotient", "rest", "factor", "widening", "lead", "taken", "number", "less"] ["row", "divisor"] (defScope sRd) := ⟨rfl, rfl, rfl, by decide +kernel, rfl, by decide +kernel, by decide +kernel⟩
theorem df_rd (A : At K mg "row_divided" sRd) (T : TxtJ mg) (Drowtimes : Df P w K mg base 1 "row_times" ["row", "factor"] (spTm K)) : Df P w K mg base 2 "row_divided" ["row", "divisor"] (spRd K) := by
  obtain ⟨f, fd, hm, F⟩ := A.ex
  refine ⟨f, fd, hm, F.kp, F.binds (fun _ _ _ _ _ _ us hl => match us, hl with | [_, _], _ => rfl), F.ok scRd (fun vs H Q E h => ?_) (fun cdv A outer s H vs Q E hr h => ?_)⟩
  · obtain ⟨a, b, r, d, rfl, _⟩ := h
    rfl
  · obtain ⟨a, b, r, d, rfl, hA, hB, l1, hd, l2, htop, hb1, hb2, q⟩ := h
    refine ⟨_, (pss_cons (ps_set (i := 2) scRd.nd rfl (.inl rfl) (pe_ix ix_tup (pv 1) (pe_un un_neg pe_int) (fun _ _ => rfl)))
      (pss_cons (ps_set (i := 3) scRd.nd rfl (.inl rfl) (pe_lst pa_nil))
      (pss_cons (ps_set (i := 4) scRd.nd rfl (.inl rfl) (pe_callTy call_list_of (by rfl) T.list (by decide +kernel) (pa_cons (pv 0) pa_nil)))
      (pss_cons (ps_set (i := 5) scRd.nd rfl (.inl rfl) pe_int)
      (pss_cons (ps_while PassesOwn.never (pt_cmpR op_ge (pe_callB call_len_seq (by rfl) T.len PySem.boot_len (pa_cons (pv 4) pa_nil)) (pe_callB call_len_seq (by rfl) T.len PySem.boot_len (pa_cons (pv 1) pa_nil)) (nomark _))
      (pss_cons (ps_set (i := 6) scRd.nd rfl (.inr rfl) (pe_op op_fdivW (pe_callB call_abs (by rfl) T.abs (by decide +kernel) (pa_cons (pv 2) pa_nil)) (pe_callBfun cr_gcd (by rfl) T.gcd (pa_cons (pv 2) (pa_cons (pe_ix ix_list (pv 4) (pe_un un_neg pe_int) (fun _ _ => rfl)) pa_nil)))))
      (pss_cons (ps_set (i := 7) scRd.nd rfl (.inl rfl) (pe_op op_fdivZ (pe_op op_mulW (pe_ix ix_list (pv 4) (pe_un un_neg pe_int) (fun _ _ => rfl)) (pv 6)) (pv 2)))
      (pss_cons (ps_set (i := 8) scRd.nd rfl (.inl rfl) (pe_op op_cat (pe_op op_rep (pe_lst (pa_cons pe_int pa_nil)) (pe_op op_sub (pe_callB call_len_seq (by rfl) T.len PySem.boot_len (pa_cons (pv 4) pa_nil)) (pe_callB call_len_seq (by rfl) T.len PySem.boot_len (pa_cons (pv 1) pa_nil)))) (Drowtimes.call (hr.mono (by decide)) (pa_cons (pv 1) (pa_cons (pv 7) pa_nil)))))
      (pss_cons (ps_setLc (i := 4) (own := [("number", 9), ("less", 10)]) (g := gTup K 2 (gCons (gName 9) (gCons (gName 10) gNil))) (by rfl) scRd.nd rfl rfl (sw_true rfl rfl rfl (by decide +kernel)) (RZ.pi_zipA (by rfl) T.zip (pa_cons (pe_slice sl_list (pv 4) po_none (po_some (pe_un un_neg pe_int))) (pa_cons (pv 8) pa_nil))) (blkOk_by (own := [("number", 9), ("less", 10)]) (N := ["row", "divisor", "top", "quotient", "rest", "factor", "widening", "lead", "taken", "number", "less"]) (sc := defScope sRd) (by decide +kernel)) (fun _ _ _ _ _ => pg_tup (by rfl) (pgs_cons (pg_name (i := 9) scRd.nd rfl (Or.inl rfl)) (pgs_cons (pg_name (i := 10) scRd.nd rfl (Or.inl rfl)) pgs_nil))) (fun _ _ _ _ _ => pts_nil) (fun _ _ _ _ _ => (pe_op op_sub (pe_op op_mulW (pv 9) (pv 6)) (pv 10))))
      (pss_cons (ps_set (i := 3) scRd.nd rfl (.inl rfl) (pe_op op_cat (pe_lst (pa_cons (pv 7) pa_nil)) (Drowtimes.call (hr.mono (by decide)) (pa_cons (pv 3) (pa_cons (pv 6) pa_nil)))))
      (pss_one (ps_set (i := 5) scRd.nd rfl (.inl rfl) (pe_op op_mulW (pv 5) (pv 6))))))))))
      (pss_one (ps_ret (pe_tup (pa_cons (pv 3) (pa_cons (pv 4) (pa_cons (pv 5) pa_nil))))))))))), ?_⟩
    have htl : d.getLastD 0 = cf d (d.length - 1) := by
      unfold cf
      rw [List.getLastD_eq_getLast?, List.getLast?_eq_getElem?, List.getD_eq_getElem?_getD]
    refine ⟨_, rfl, _, rfl, b, _, _, _, rfl, rfl, hB, at_last hd, ?_⟩
    rw [htl]
    generalize htp : cf d (d.length - 1) = top at htop ⊢
    refine ⟨Nat.zero_le _, fun ql0 hq0 => ?_⟩
    have s0 := same_new (o := .lst []) hq0
    have e0 : (upd H ql0 (.lst [])) ql0 = some (.lst (([] : List Int).map V.int)) := upd_same
    generalize upd H ql0 (.lst []) = H0 at s0 e0 ⊢
    refine ⟨_, rfl, a, _, rfl, .inr (Same.tup s0 hA), fun rl0 hr0 => ?_⟩
    have s1 := s0.trans (same_new (o := .lst (r.map V.int)) hr0)
    have e1 : (upd H0 rl0 (.lst (r.map V.int))) rl0 = some (.lst (r.map V.int)) := upd_same
    have e01 := same_new (o := .lst (r.map V.int)) hr0 _ _ e0
    generalize upd H0 rl0 (.lst (r.map V.int)) = H1 at s1 e1 e01 ⊢
    refine ⟨fun m σ H' => Same H H' ∧ ∃ (ql rl : Addr) (Qq R : List Int) (ff : Nat) (y6 y7 y8 y9 y10 : Option V), H' ql = some (.lst (Qq.map V.int)) ∧ H' rl = some (.lst (R.map V.int)) ∧ DivI r d Qq R ff ∧ m = R.length ∧ (∀ c ∈ Qq, Bd (1000 + Qq.length * 251) c) ∧ (∀ c ∈ R, Bd (1000 + Qq.length * 251) c) ∧ Bd (1000 + Qq.length * 251) (ff : Int) ∧ σ = [some (.ref a), some (.ref b), some (.int (top)), some (.ref ql), some (.ref rl), some (.int (ff : Int)), y6, y7, y8, y9, y10], ⟨r.length, s1, ql0, rl0, [], r, 1, none, none, none, none, none, e01, e1, DivI.start r d, rfl, fun c hc => (by cases hc), fun c hc => (hb1 c hc).up (by omega), Bd.up (a := 1) (by unfold Bd; decide) (by omega), rfl⟩, fun m σ H2 hW => ?_⟩
    obtain ⟨s2, ql, rl, Qq, R, ff, y6, y7, y8, y9, y10, eq2, er2, hI, rfl, bQ, bR, bf, rfl⟩ := hW
    have hlen := hI.len
    have hkb : 1000 + Qq.length * 251 ≤ 4100 := by
      have : Qq.length * 251 ≤ 12 * 251 := Nat.mul_le_mul_right _ (by omega)
      omega
    refine ⟨_, rfl, rl, _, rfl, .inl (.inl (.inl er2)), _, rfl, b, _, rfl, .inr (Same.tup s2 hB), _, _, rfl, rfl, _, rfl, ?_⟩
    rw [List.length_map, List.length_map]
    by_cases hn : d.length ≤ R.length
    case' neg =>
      rw [decide_eq_false (show ¬ (d.length : Int) ≤ (R.length : Int) by omega)]
      refine iteF ?_
      refine ⟨_, rfl, _, rfl, _, rfl, by show 3 ≤ sizeLine; decide, fun t ht => ?_⟩
      have s3 := same_new (o := .tup [.ref ql, .ref rl, .int (ff : Int)]) ht
      exact q t ql rl Qq R ff _ (s2.trans s3) upd_same (s3 _ _ eq2) (s3 _ _ er2) hI (by omega) (fun c hc => (bQ c hc).up hkb) (fun c hc => (bR c hc).up hkb) (bf.up hkb)
    rw [decide_eq_true (show (d.length : Int) ≤ (R.length : Int) by omega)]
    refine iteT ⟨fun σ H' => ∃ m, m < R.length ∧ (Same H H' ∧ ∃ (ql rl : Addr) (Qq R : List Int) (ff : Nat) (y6 y7 y8 y9 y10 : Option V), H' ql = some (.lst (Qq.map V.int)) ∧ H' rl = some (.lst (R.map V.int)) ∧ DivI r d Qq R ff ∧ m = R.length ∧ (∀ c ∈ Qq, Bd (1000 + Qq.length * 251) c) ∧ (∀ c ∈ R, Bd (1000 + Qq.length * 251) c) ∧ Bd (1000 + Qq.length * 251) (ff : Int) ∧ σ = [some (.ref a), some (.ref b), some (.int (top)), some (.ref ql), some (.ref rl), some (.int (ff : Int)), y6, y7, y8, y9, y10]), fun _ _ h => h, ?_⟩
    have hR0 : 0 < R.length := by omega
    have hgl : R.getLastD 0 = cf R (R.length - 1) := by
      unfold cf
      rw [List.getLastD_eq_getLast?, List.getLast?_eq_getElem?, List.getD_eq_getElem?_getD]
    obtain ⟨w0, ld, hw1, hw2, hw3, hld, hld2⟩ := lead_ex (rl := cf R (R.length - 1)) htop
    have btop : Bd 250 top := by
      rw [← htp]
      exact cf_bd hb2 _
    have brl : Bd (1000 + Qq.length * 251) (cf R (R.length - 1)) := cf_bd bR _
    have bld : Bd (1000 + Qq.length * 251) ld := Nat.lt_of_le_of_lt hld2 brl
    have bw : Bd 250 (w0 : Int) := by
      unfold Bd at *
      rw [Int.natAbs_natCast]
      omega
    have hg : 0 < Nat.gcd top.natAbs (cf R (R.length - 1)).natAbs := Nat.gcd_pos_of_pos_left _ (by omega)
    have hgb : Bd 250 ((Nat.gcd top.natAbs (cf R (R.length - 1)).natAbs : Nat) : Int) := by
      have := Nat.le_of_dvd (show 0 < top.natAbs by omega) (Nat.gcd_dvd_left top.natAbs (cf R (R.length - 1)).natAbs)
      unfold Bd at *
      rw [Int.natAbs_natCast]
      omega
    -- widening
    refine ⟨_, rfl, _, rfl, _, rfl, _, rfl, _, rfl, rl, _, _, _, rfl, rfl, .inl (.inl er2), at_last hR0, ?_⟩
    rw [hgl]
    refine ⟨_, _, rfl, _, _, rfl, rfl, wide_div (by omega) hgb (by decide) (by decide), ?_⟩
    dsimp only
    rw [abs_nat, hw1]
    -- lead
    refine ⟨_, rfl, _, rfl, rl, _, _, _, rfl, rfl, .inl (.inl er2), at_last hR0, ?_⟩
    rw [hgl]
    refine ⟨_, rfl, _, _, rfl, rfl, wide_mul brl bw (by omega) (by decide) (by omega), _, rfl, _, _, rfl, rfl, wide_divZ htop btop (by decide) (by decide), ?_⟩
    dsimp only
    rw [hld, Int.mul_fdiv_cancel _ htop]
    -- taken
    refine ⟨by show 1 ≤ sizeLine; decide, fun t0 ht0 => ?_⟩
    have s3 := s2.trans (same_new (o := .lst [.int 0]) ht0)
    have e3 : (upd H2 t0 (.lst [.int 0])) t0 = some (.lst [.int 0]) := upd_same
    have eq3 := same_new (o := .lst [.int 0]) ht0 _ _ eq2
    have er3 := same_new (o := .lst [.int 0]) ht0 _ _ er2
    generalize upd H2 t0 (.lst [.int 0]) = H3 at s3 e3 eq3 er3 ⊢
    refine ⟨_, rfl, rl, _, rfl, .inl (.inl (.inl er3)), _, rfl, b, _, rfl, .inr (Same.tup s3 hB), _, _, rfl, rfl, t0, _, _, rfl, rfl, e3, ?_⟩
    rw [List.length_map, List.length_map]
    have ek : ((R.length : Int) - (d.length : Int)).toNat = R.length - d.length := by omega
    rw [ek]
    refine ⟨by omega, by omega, by show 1 * _ ≤ _; exact Nat.le_trans (show _ ≤ 100000 by omega) (by decide), fun t4 ht4 => ?_⟩
    have s4 := s3.trans (same_new (o := .lst (List.replicate (R.length - d.length) [V.int 0]).flatten) ht4)
    have e4 : (upd H3 t4 (.lst (List.replicate (R.length - d.length) [V.int 0]).flatten)) t4 = some (.lst ((List.replicate (R.length - d.length) (0 : Int)).map V.int)) := by rw [upd_same, ← flat_rep]
    have eq4 := same_new (o := .lst (List.replicate (R.length - d.length) [V.int 0]).flatten) ht4 _ _ eq3
    have er4 := same_new (o := .lst (List.replicate (R.length - d.length) [V.int 0]).flatten) ht4 _ _ er3
    generalize upd H3 t4 (.lst (List.replicate (R.length - d.length) [V.int 0]).flatten) = H4 at s4 e4 eq4 er4 ⊢
    refine ⟨_, rfl, _, rfl, b, d, ld, rfl, .inr (Same.tup s4 hB), by omega, fun c hc => (hb2 c hc).up (by decide), bld.up (by omega), fun l5 H5 n5 s5 e5 => ?_⟩
    refine ⟨t4, l5, _, _, rfl, rfl, s5 _ _ e4, e5, by rw [List.length_map, List.length_map, List.length_replicate, List.length_map]; exact Nat.le_trans (show _ ≤ 1000 by omega) (by decide), fun t6 ht6 => ?_⟩
    rw [← List.map_append]
    have s6 := s5.trans (same_new (o := .lst ((List.replicate (R.length - d.length) 0 ++ d.map fun c => c * ld).map V.int)) ht6)
    have e6 : (upd H5 t6 (.lst ((List.replicate (R.length - d.length) 0 ++ d.map fun c => c * ld).map V.int))) t6 = some (.lst ((List.replicate (R.length - d.length) 0 ++ d.map fun c => c * ld).map V.int)) := upd_same
    generalize upd H5 t6 (.lst ((List.replicate (R.length - d.length) 0 ++ d.map fun c => c * ld).map V.int)) = H6 at s6 e6 ⊢
    have tkl : (List.replicate (R.length - d.length) 0 ++ d.map fun c => c * ld).length = R.length := by rw [List.length_append, List.length_replicate, List.length_map]; omega
    have tkb : ∀ c ∈ (List.replicate (R.length - d.length) 0 ++ d.map fun c => c * ld), Bd (1000 + Qq.length * 251 + 250) c := fun c hc => by
      rcases List.mem_append.mp hc with z | z
      · rw [(List.mem_replicate.mp z).2]; exact Bd.zero _
      · obtain ⟨y, hy, rfl⟩ := List.mem_map.mp z
        exact Bd.mul (hb2 y hy) bld (by omega)
    have tkc : ∀ j, cf (List.replicate (R.length - d.length) 0 ++ d.map fun c => c * ld) j = if j < R.length - d.length then 0 else cf d (j - (R.length - d.length)) * ld := fun j => by
      rw [cf_append, List.length_replicate]
      split
      · exact cf_rep _ _
      · exact cf_map (f := fun c => c * ld) (Int.zero_mul ld) _
    generalize (List.replicate (R.length - d.length) 0 ++ d.map fun c => c * ld) = tk at e6 tkl tkb tkc
    have s46 := s4.trans s6
    have eq6 := s6 _ _ eq4
    have er6 := s6 _ _ er4
    -- rest
    refine ⟨_, rfl, _, rfl, _, rfl, rl, _, rfl, .inl (.inl er6), fun t7 ht7 => ?_⟩
    rw [cut_last, ← List.map_dropLast]
    have s7 := same_new (o := .lst (R.dropLast.map V.int)) ht7
    have e7 : (upd H6 t7 (.lst (R.dropLast.map V.int))) t7 = some (.lst (R.dropLast.map V.int)) := upd_same
    have e67 := s7 _ _ e6
    have eq7 := s7 _ _ eq6
    generalize upd H6 t7 (.lst (R.dropLast.map V.int)) = H7 at s7 e7 e67 eq7 ⊢
    have dl : R.dropLast.length + 1 = R.length := by rw [List.length_dropLast]; omega
    refine ⟨_, rfl, lc_two (f := fun x y => x * (w0 : Int) - y) (.inl ⟨.inl (.inl e7), .inl (.inl e67)⟩) (by omega) (fun x y T H R' hx hy sx e h => ⟨T, _, rfl, .inl (.inl e), rfl, _, _, rfl, _, _, rfl, rfl, rfl, _, rfl, _, rfl, _, _, rfl, rfl, wide_mul (bR x (mem_dl hx)) bw (by omega) (by decide) (by omega), _, rfl, _, _, rfl, rfl, h⟩) (fun D8 H8 hD8 s8 h8 => ?_)⟩
    have zl : (zipR (fun x y => x * (w0 : Int) - y) R.dropLast tk).length + 1 = R.length := by
      unfold zipR
      rw [List.length_zipWith, tkl]
      omega
    have zb : ∀ c ∈ zipR (fun x y => x * (w0 : Int) - y) R.dropLast tk, Bd (1000 + Qq.length * 251 + 251) c := fun c hc => by
      obtain ⟨j, hj, rfl⟩ := List.getElem_of_mem hc
      rw [← cf_lt hj, cf_zip]
      split
      · exact Bd.sub (Bd.mul (cf_bd (fun c hc => bR c (mem_dl hc)) j) bw (Nat.le_refl _)) (cf_bd tkb j) (by omega)
      · exact Bd.zero _
    have zc : ∀ j, j + 1 < R.length → cf (zipR (fun x y => x * (w0 : Int) - y) R.dropLast tk) j = cf R j * (w0 : Int) - (if j < R.length - d.length then 0 else cf d (j - (R.length - d.length)) * ld) := fun j hj => by
      rw [cf_zip, if_pos (by rw [tkl]; omega), tkc]
      congr 2
      rw [cf_lt (show j < R.dropLast.length by omega), cf_lt (show j < R.length by omega), List.getElem_dropLast]
    generalize zipR (fun x y => x * (w0 : Int) - y) R.dropLast tk = R' at h8 zl zb zc
    have hstep := hI.step hd hn hw2 htp rfl hld zl zc
    have eq8 := s8 _ _ eq7
    -- quotient
    refine ⟨_, rfl, by show 1 ≤ sizeLine; decide, fun t9 ht9 => ?_⟩
    have s9 := same_new (o := .lst [.int ld]) ht9
    have e9 : (upd H8 t9 (.lst [.int ld])) t9 = some (.lst ([ld].map V.int)) := upd_same
    have h9 := s9 _ _ h8
    have eq9 := s9 _ _ eq8
    generalize upd H8 t9 (.lst [.int ld]) = H9 at s9 e9 h9 eq9 ⊢
    refine ⟨_, rfl, _, rfl, ql, Qq, (w0 : Int), rfl, .inl (.inl (.inl eq9)), by omega, fun c hc => (bQ c hc).up (by omega), bw.up (by decide), fun l10 H10 n10 s10 e10 => ?_⟩
    refine ⟨t9, l10, _, _, rfl, rfl, s10 _ _ e9, e10, by rw [List.length_map, List.length_map, List.length_map]; exact Nat.le_trans (show _ ≤ 1000 by show 1 + Qq.length ≤ 1000; omega) (by decide), fun t11 ht11 => ?_⟩
    rw [← List.map_append]
    have s11 := s10.trans (same_new (o := .lst (([ld] ++ Qq.map fun c => c * (w0 : Int)).map V.int)) ht11)
    have e11 : (upd H10 t11 (.lst (([ld] ++ Qq.map fun c => c * (w0 : Int)).map V.int))) t11 = some (.lst ((ld :: Qq.map fun c => c * (w0 : Int)).map V.int)) := upd_same
    have h11 := s11 _ _ h9
    generalize upd H10 t11 (.lst (([ld] ++ Qq.map fun c => c * (w0 : Int)).map V.int)) = H11 at s11 e11 h11 ⊢
    -- factor
    refine ⟨_, rfl, _, rfl, _, _, rfl, rfl, wide_mul bf bw (by omega) (by decide) (by omega), R'.length, by omega, s46.trans (s7.trans (s8.trans (s9.trans s11))), t11, D8, _, R', ff * w0, some (V.int (w0 : Int)), some (V.int ld), some (V.ref t6), y9, y10, e11, h11, hstep, rfl, ?_, ?_, ?_, ?_⟩
    · intro c hc
      rw [List.length_cons, List.length_map]
      rcases List.mem_cons.mp hc with rfl | hc
      · exact bld.up (by omega)
      · obtain ⟨y, hy, rfl⟩ := List.mem_map.mp hc
        exact Bd.mul (bQ y hy) bw (by omega)
    · intro c hc
      rw [List.length_cons, List.length_map]
      exact (zb c hc).up (by omega)
    · rw [List.length_cons, List.length_map, Int.natCast_mul]
      exact Bd.mul bf bw (by omega)
    · rw [Int.natCast_mul]
      rfl
end
end Ef
set_option Elab.async false
set_option linter.all false
set_option maxRecDepth 100000
set_option maxHeartbeats 4000000
namespace Ef
open PySem PySem.Spec PyProof.Rows L2
abbrev sDivided : Stmt := inClass (top 24) 15
abbrev sTimes : Stmt := top 37
abbrev sPlus : Stmt := top 38
theorem cf_pad (r : List Int) (k j : Nat) : cf (r ++ List.replicate k 0) j = cf r j := by
  rw [cf_append]
  split
  · rfl
  · rw [cf_rep, cf_ge (by omega)]
theorem cf_set {r : List Int} {k : Nat} (h : k < r.length) (x : Int) (j : Nat) : cf (r.set k x) j = if j = k then x else cf r j := by
  unfold cf
  rw [List.getD_eq_getElem?_getD, List.getD_eq_getElem?_getD, List.getElem?_set]
  by_cases e : k = j
  · subst e
    rw [if_pos rfl, if_pos rfl, if_pos h]; rfl
  · rw [if_neg e, if_neg (Ne.symm e)]
/-- the sums as a list -/
def plusL (a b : List Int) : List Int := (List.range (max a.length b.length)).map fun j => cf a j + cf b j
theorem plusL_len (a b : List Int) : (plusL a b).length = max a.length b.length := by unfold plusL; rw [List.length_map, List.length_range]
theorem cf_plusL (a b : List Int) (j : Nat) : cf (plusL a b) j = cf a j + cf b j := by
  rcases Nat.lt_or_ge j (max a.length b.length) with z | z
  · exact cf_of (by unfold plusL; rw [List.getElem?_map, List.getElem?_range z]; rfl)
  · rw [cf_ge (by rw [plusL_len]; exact z), cf_ge (r := a) (by omega), cf_ge (r := b) (by omega)]; rfl
theorem plusL_bd {r s : List Int} {a w : Nat} (hr : ∀ c ∈ r, Bd a c) (hs : ∀ c ∈ s, Bd a c) (hw : a + 1 ≤ w) : ∀ c ∈ plusL r s, Bd w c := fun c hc => by
  unfold plusL at hc
  obtain ⟨j, hj, rfl⟩ := List.mem_map.mp hc
  exact Bd.add (cf_bd hr j) (cf_bd hs j) hw hw
theorem list_of_cf {r s : List Int} (hl : r.length = s.length) (h : ∀ j, cf r j = cf s j) : r = s :=
  List.ext_getElem hl fun j h1 h2 => by rw [← cf_lt h1, ← cf_lt h2, h]
/-- an error without fields -/
structure ErrZ (K : PySem.W.Frag) (mg : Str → Option Value) (x : Str) (C : Addr) : Prop where
  ex : PySem.W.excIn K C [.type "ValueError", .type "Exception", .type "BaseException", .type "object"] "ValueError.__new__" = true
  g : mg x = some (.ref C)
  k : PySem.W.keepIn K (.ref C) = true
  b : PySem.W.subIn K (.ref C) (.type "BaseException") = some true
  t : PySem.W.typeIn K (.ref C) = some (.type "type")
section
variable {P : Program} {w : World} {K : PySem.W.Frag} {mg : Str → Option Value} {base : Heap}
/-! ### _law_times -/
def spTimes (K : PySem.W.Frag) : Sp := fun vs H Q _ => ∃ (a b : Addr) (r1 r2 : List Int), vs = [.ref a, .ref b] ∧ SqL K H a (r1.map V.int) ∧ SqL K H b (r2.map V.int) ∧ r1.length ≤ 60 ∧ r2.length ≤ 60 ∧ (∀ c ∈ r1, Bd 9000 c) ∧ (∀ c ∈ r2, Bd 9000 c) ∧
  ∀ (l : Addr) H', H l = none → H' l = some (.lst ((mulL r1 r2).map V.int)) → Same H H' → Q (.ref l) H'
theorem scTimes : FnScope ["one", "other", "found", "k", "j"] ["one", "other"] (defScope sTimes) := ⟨rfl, rfl, rfl, by decide +kernel, rfl, by decide +kernel, by decide +kernel⟩
theorem df_times (A : At K mg "_law_times" sTimes) (T : TxtJ mg) : Df P w K mg base 1 "_law_times" ["one", "other"] (spTimes K) := by
  obtain ⟨f, fd, hm, F⟩ := A.ex
  refine ⟨f, fd, hm, F.kp, F.binds (fun _ _ _ _ _ _ us hl => match us, hl with | [_, _], _ => rfl), F.ok scTimes (fun vs H Q E h => ?_) (fun cdv A outer s H vs Q E hr h => ?_)⟩
  · obtain ⟨a, b, r1, r2, rfl, _⟩ := h
    rfl
  · obtain ⟨a, b, r1, r2, rfl, hA, hB, l1, l2, hb1, hb2, q⟩ := h
    refine ⟨_, (pss_cons (ps_set (i := 2) scTimes.nd rfl (.inl rfl) (pe_op op_rep (pe_lst (pa_cons pe_int pa_nil)) (pe_op op_add (pe_callB call_len_seq (by rfl) T.len PySem.boot_len (pa_cons (pv 0) pa_nil)) (pe_callB call_len_seq (by rfl) T.len PySem.boot_len (pa_cons (pv 1) pa_nil)))))
      (pss_cons (ps_for PassesOwn.never rfl (pi_range1 (by rfl) T.range (pa_cons (pe_callB call_len_seq (by rfl) T.len PySem.boot_len (pa_cons (pv 0) pa_nil)) pa_nil)) (pg_name (i := 3) scTimes.nd rfl (.inl rfl))
      (pss_one (ps_for PassesOwn.never rfl (pi_range1 (by rfl) T.range (pa_cons (pe_callB call_len_seq (by rfl) T.len PySem.boot_len (pa_cons (pv 1) pa_nil)) pa_nil)) (pg_name (i := 4) scTimes.nd rfl (.inl rfl))
      (pss_one (ps_asg (pe_op op_add (pe_ix ix_seq (pv 2) (pe_op op_add (pv 3) (pv 4)) (fun _ _ => rfl)) (pe_op op_mulW (pe_ix ix_seq (pv 0) (pv 3) (fun _ _ => rfl)) (pe_ix ix_seq (pv 1) (pv 4) (fun _ _ => rfl)))) (pg_sub (pv 2) (pe_op op_add (pv 3) (pv 4)) set_list))))))
      (pss_one (ps_ret (pv 2))))), ?_⟩
    refine ⟨by show 1 ≤ sizeLine; decide, fun l0 hl0 => ?_⟩
    have s0 : Same H (upd H l0 (.lst [.int 0])) := same_new hl0
    refine ⟨_, rfl, a, _, rfl, .inl (s0.seq hA), _, rfl, b, _, rfl, .inl (s0.seq hB), _, _, rfl, rfl, ?_⟩
    rw [List.length_map, List.length_map]
    refine ⟨l0, _, _, rfl, rfl, upd_same, by omega, by omega, by show 1 * _ ≤ _; exact Nat.le_trans (show _ ≤ 100000 by omega) (by decide), fun l hl => ?_⟩
    have nl : H l = none := s0.free hl
    have s1 := s0.trans (same_new (o := .lst (List.replicate (((r1.length : Nat) : Int) + ((r2.length : Nat) : Int)).toNat [V.int 0]).flatten) hl)
    have e1 : (upd (upd H l0 (.lst [.int 0])) l (.lst (List.replicate (((r1.length : Nat) : Int) + ((r2.length : Nat) : Int)).toNat [V.int 0]).flatten)) l = some (.lst ((List.replicate (r1.length + r2.length) (0 : Int)).map V.int)) := by
      rw [upd_same, ← flat_rep]; rfl
    generalize upd (upd H l0 (.lst [.int 0])) l (.lst (List.replicate (((r1.length : Nat) : Int) + ((r2.length : Nat) : Int)).toNat [V.int 0]).flatten) = H1 at s1 e1 ⊢
    refine ⟨_, rfl, a, _, rfl, .inl (s1.seq hA), _, rfl, by rw [List.length_map]; omega, by rw [List.length_map]; omega, ?_⟩
    rw [List.length_map]
    refine for_range (lo := 0) (n := r1.length) (fun i σ H' => Same H H' ∧ ∃ (r : List Int) (y3 y4 : Option V), H' l = some (.lst (r.map V.int)) ∧ r.length = r1.length + r2.length ∧ (∀ t, cf r t = cvk i (cf r1) (cf r2) t) ∧ σ = [some (.ref a), some (.ref b), some (.ref l), y3, y4])
      ⟨s1, _, none, none, e1, List.length_replicate, fun t => by rw [cf_rep]; rfl, rfl⟩ ?_ ?_
    · rintro i σ H2 hi ⟨s2, r, y3, y4, e2, hl2, hle, rfl⟩
      refine ⟨_, rfl, b, _, rfl, .inl (s2.seq hB), _, rfl, by rw [List.length_map]; omega, by rw [List.length_map]; omega, ?_⟩
      rw [List.length_map]
      refine for_range (lo := 0) (n := r2.length) (fun j σ H' => Same H H' ∧ ∃ (r : List Int) (y4 : Option V), H' l = some (.lst (r.map V.int)) ∧ r.length = r1.length + r2.length ∧ (∀ t, cf r t = cvk i (cf r1) (cf r2) t + (if i ≤ t ∧ t < i + j then cf r1 i * cf r2 (t - i) else 0)) ∧ σ = [some (.ref a), some (.ref b), some (.ref l), some (.int (0 + (i : Nat))), y4])
        ⟨s2, r, y4, e2, hl2, fun t => by rw [hle, if_neg (by omega), Int.add_zero], rfl⟩ ?_ ?_
      · rintro j σ H3 hj ⟨s3, r3, y4, e3, hl3, hle3, rfl⟩
        obtain ⟨c, hc, gc⟩ := get_int (r := r3) (k := i + j) (by omega)
        obtain ⟨x, hx, gx⟩ := get_int (r := r1) (k := i) hi
        obtain ⟨y, hy, gy⟩ := get_int (r := r2) (k := j) hj
        have bx := hb1 x (List.mem_of_getElem? hx)
        have bY := hb2 y (List.mem_of_getElem? hy)
        have ei : (0 + (i : Nat) : Int) = ((i : Nat) : Int) := Int.zero_add _
        have ej : (0 + (j : Nat) : Int) = ((j : Nat) : Int) := Int.zero_add _
        have eij : ((0 + (i : Nat) : Int) + (0 + (j : Nat) : Int)) = ((i + j : Nat) : Int) := by omega
        refine ⟨_, rfl, _, rfl, _, rfl, _, _, rfl, rfl, .inl ⟨l, _, _, _, rfl, rfl, .inl (.inl e3), atI_of eij gc, ?_⟩⟩
        refine ⟨_, rfl, _, rfl, .inl ⟨a, _, _, _, rfl, rfl, s3.seq hA, atI_of ei gx, ?_⟩⟩
        refine ⟨_, rfl, _, rfl, .inl ⟨b, _, _, _, rfl, rfl, s3.seq hB, atI_of ej gy, ?_⟩⟩
        refine ⟨_, _, rfl, rfl, wide_mul bx bY (by decide) (by decide) (by decide), _, _, rfl, rfl, ?_⟩
        refine ⟨_, rfl, _, rfl, _, rfl, _, _, rfl, rfl, l, _, _, i + j, rfl, rfl, e3, ?_, same_mut s3 nl, r3.set (i + j) (c + x * y), _, by rw [upd_same, List.map_set], by rw [List.length_set]; exact hl3, fun t => ?_, rfl⟩
        · unfold ixN
          rw [if_pos (by omega), if_pos (by rw [List.length_map]; omega)]
          congr 1
          omega
        · rw [cf_set (by omega)]
          by_cases et : t = i + j
          · subst et
            have ec := hle3 (i + j)
            rw [cf_of hc, if_neg (by omega), Int.add_zero] at ec
            rw [if_pos rfl, if_pos (by omega), ← ec, cf_of hx, show i + j - i = j by omega, cf_of hy]
          · rw [if_neg et, hle3]
            by_cases h2 : i ≤ t ∧ t < i + j
            · rw [if_pos h2, if_pos (by omega)]
            · rw [if_neg h2, if_neg (by omega)]
      · rintro σ H3 ⟨s3, r3, y4, e3, hl3, hle3, rfl⟩
        refine ⟨s3, r3, _, y4, e3, hl3, fun t => ?_, rfl⟩
        rw [hle3, cvk_succ]
        by_cases h1 : i ≤ t
        · rw [if_pos h1]
          by_cases h2 : t < i + r2.length
          · rw [if_pos ⟨h1, h2⟩]
          · rw [if_neg (fun z => h2 z.2), cf_ge (r := r2) (by omega), Int.mul_zero]
        · rw [if_neg h1, if_neg (fun z => h1 z.1)]
    · rintro σ H2 ⟨s2, r, y3, y4, e2, hl2, hle, rfl⟩
      have er : r = mulL r1 r2 := list_of_cf (by rw [hl2, mulL_len]) fun j => by rw [hle, cf_mulL, cvk_all fun i hi => cf_ge hi]
      subst er
      exact ⟨_, rfl, q l H2 nl e2 s2⟩
/-! ### _law_plus -/
def spPlus : Sp := fun vs H Q _ => ∃ (a b : Addr) (r1 r2 : List Int), vs = [.ref a, .ref b] ∧ H a = some (.lst (r1.map V.int)) ∧ H b = some (.lst (r2.map V.int)) ∧ r1.length ≤ 100 ∧ r2.length ≤ 100 ∧
  ∀ (l : Addr) H', H l = none → H' l = some (.lst ((plusL r1 r2).map V.int)) → Same H H' → Q (.ref l) H'
theorem scPlus : FnScope ["one", "other", "many", "first", "second", "k"] ["one", "other"] (defScope sPlus) := ⟨rfl, rfl, rfl, by decide +kernel, rfl, by decide +kernel, by decide +kernel⟩
theorem df_plus (A : At K mg "_law_plus" sPlus) (T : TxtJ mg) : Df P w K mg base 1 "_law_plus" ["one", "other"] spPlus := by
  obtain ⟨f, fd, hm, F⟩ := A.ex
  refine ⟨f, fd, hm, F.kp, F.binds (fun _ _ _ _ _ _ us hl => match us, hl with | [_, _], _ => rfl), F.ok scPlus (fun vs H Q E h => ?_) (fun cdv A outer s H vs Q E hr h => ?_)⟩
  · obtain ⟨a, b, r1, r2, rfl, _⟩ := h
    rfl
  · obtain ⟨a, b, r1, r2, rfl, hA, hB, l1, l2, q⟩ := h
    refine ⟨_, (pss_cons (ps_set (i := 2) scPlus.nd rfl (.inl rfl) (pe_callB (call_max2 rfl) (by rfl) T.max (by decide +kernel) (pa_cons (pe_callB call_len_seq (by rfl) T.len PySem.boot_len (pa_cons (pv 0) pa_nil)) (pa_cons (pe_callB call_len_seq (by rfl) T.len PySem.boot_len (pa_cons (pv 1) pa_nil)) pa_nil))))
      (pss_cons (ps_set (i := 3) scPlus.nd rfl (.inr rfl) (pe_op op_cat (pv 0) (pe_op op_rep (pe_lst (pa_cons pe_int pa_nil)) (pe_op op_sub (pv 2) (pe_callB call_len_seq (by rfl) T.len PySem.boot_len (pa_cons (pv 0) pa_nil))))))
      (pss_cons (ps_set (i := 4) scPlus.nd rfl (.inr rfl) (pe_op op_cat (pv 1) (pe_op op_rep (pe_lst (pa_cons pe_int pa_nil)) (pe_op op_sub (pv 2) (pe_callB call_len_seq (by rfl) T.len PySem.boot_len (pa_cons (pv 1) pa_nil))))))
      (pss_one (ps_ret (pe_lc (own := [("k", 5)]) (g := gName 5) (by rfl) scPlus.nd (pi_range1 (by rfl) T.range (pa_cons (pv 2) pa_nil)) (blkOk_by (own := [("k", 5)]) (N := ["one", "other", "many", "first", "second", "k"]) (sc := defScope sPlus) (by decide +kernel)) (fun _ _ _ _ _ => pg_name (i := 5) scPlus.nd rfl (Or.inl rfl)) (fun _ _ _ _ _ => pts_nil) (fun _ _ _ _ _ => (pe_op op_add (pe_ix (show IxR _ (rIx K) from ix_seq) (pv 3) (pv 5) (fun _ _ => rfl)) (pe_ix (show IxR _ (rIx K) from ix_seq) (pv 4) (pv 5) (fun _ _ => rfl)))))))))), ?_⟩
    refine ⟨_, rfl, a, _, rfl, .inl (.inl (.inl hA)), _, rfl, b, _, rfl, .inl (.inl (.inl hB)), _, _, rfl, ?_⟩
    rw [List.length_map, List.length_map]
    obtain ⟨m, em, m1, m2, m6, m7⟩ : ∃ m : Nat, (if ((r2.length : Nat) : Int) > ((r1.length : Nat) : Int) then ((r2.length : Nat) : Int) else ((r1.length : Nat) : Int)) = (m : Int) ∧ r1.length ≤ m ∧ r2.length ≤ m ∧ m ≤ 100 ∧ m = max r1.length r2.length := by
      split
      · exact ⟨r2.length, rfl, by omega, Nat.le_refl _, l2, by omega⟩
      · exact ⟨r1.length, rfl, Nat.le_refl _, by omega, l1, by omega⟩
    rw [em]
    -- first
    refine ⟨_, rfl, by show 1 ≤ sizeLine; decide, fun t0 ht0 => ?_⟩
    have s0 : Same H (upd H t0 (.lst [.int 0])) := same_new ht0
    have e0 : (upd H t0 (.lst [.int 0])) t0 = some (.lst [.int 0]) := upd_same
    generalize upd H t0 (.lst [.int 0]) = H0 at s0 e0 ⊢
    refine ⟨_, rfl, _, rfl, a, _, rfl, .inl (.inl (.inl (s0 _ _ hA))), _, _, rfl, rfl, t0, _, _, rfl, rfl, e0, ?_⟩
    rw [List.length_map]
    have ek : ((m : Int) - (r1.length : Int)).toNat = m - r1.length := by omega
    rw [ek]
    refine ⟨by omega, by omega, by show 1 * _ ≤ _; exact Nat.le_trans (show _ ≤ 100000 by omega) (by decide), fun t1 ht1 => ?_⟩
    have s1 := s0.trans (same_new (o := .lst (List.replicate (m - r1.length) [V.int 0]).flatten) ht1)
    have e1 : (upd H0 t1 (.lst (List.replicate (m - r1.length) [V.int 0]).flatten)) t1 = some (.lst ((List.replicate (m - r1.length) (0 : Int)).map V.int)) := by rw [upd_same, ← flat_rep]
    generalize upd H0 t1 (.lst (List.replicate (m - r1.length) [V.int 0]).flatten) = H1 at s1 e1 ⊢
    refine ⟨a, t1, _, _, rfl, rfl, s1 _ _ hA, e1, by rw [List.length_map, List.length_map, List.length_replicate]; exact Nat.le_trans (show _ ≤ 100000 by omega) (by decide), fun t2 ht2 => ?_⟩
    rw [← List.map_append]
    have s2 := s1.trans (same_new (o := .lst ((r1 ++ List.replicate (m - r1.length) 0).map V.int)) ht2)
    have e2 : (upd H1 t2 (.lst ((r1 ++ List.replicate (m - r1.length) 0).map V.int))) t2 = some (.lst ((r1 ++ List.replicate (m - r1.length) 0).map V.int)) := upd_same
    have nl2 : H t2 = none := s1.free ht2
    generalize upd H1 t2 (.lst ((r1 ++ List.replicate (m - r1.length) 0).map V.int)) = H2 at s2 e2 ⊢
    -- second
    refine ⟨_, rfl, by show 1 ≤ sizeLine; decide, fun t3 ht3 => ?_⟩
    have s3 := same_new (o := .lst [.int 0]) ht3
    have e3 : (upd H2 t3 (.lst [.int 0])) t3 = some (.lst [.int 0]) := upd_same
    generalize upd H2 t3 (.lst [.int 0]) = H3 at s3 e3 ⊢
    refine ⟨_, rfl, _, rfl, b, _, rfl, .inl (.inl (.inl (s3 _ _ (s2 _ _ hB)))), _, _, rfl, rfl, t3, _, _, rfl, rfl, e3, ?_⟩
    rw [List.length_map]
    have ek2 : ((m : Int) - (r2.length : Int)).toNat = m - r2.length := by omega
    rw [ek2]
    refine ⟨by omega, by omega, by show 1 * _ ≤ _; exact Nat.le_trans (show _ ≤ 100000 by omega) (by decide), fun t4 ht4 => ?_⟩
    have s4 := s3.trans (same_new (o := .lst (List.replicate (m - r2.length) [V.int 0]).flatten) ht4)
    have e4 : (upd H3 t4 (.lst (List.replicate (m - r2.length) [V.int 0]).flatten)) t4 = some (.lst ((List.replicate (m - r2.length) (0 : Int)).map V.int)) := by rw [upd_same, ← flat_rep]
    generalize upd H3 t4 (.lst (List.replicate (m - r2.length) [V.int 0]).flatten) = H4 at s4 e4 ⊢
    refine ⟨b, t4, _, _, rfl, rfl, s4 _ _ (s2 _ _ hB), e4, by rw [List.length_map, List.length_map, List.length_replicate]; exact Nat.le_trans (show _ ≤ 100000 by omega) (by decide), fun t5 ht5 => ?_⟩
    rw [← List.map_append]
    have s5 := s4.trans (same_new (o := .lst ((r2 ++ List.replicate (m - r2.length) 0).map V.int)) ht5)
    have e5 : (upd H4 t5 (.lst ((r2 ++ List.replicate (m - r2.length) 0).map V.int))) t5 = some (.lst ((r2 ++ List.replicate (m - r2.length) 0).map V.int)) := upd_same
    generalize upd H4 t5 (.lst ((r2 ++ List.replicate (m - r2.length) 0).map V.int)) = H5 at s5 e5 ⊢
    have f2 := s5 _ _ e2
    have sH := s2.trans s5
    have hf1 : ∀ j, cf (r1 ++ List.replicate (m - r1.length) 0) j = cf r1 j := cf_pad r1 _
    have hf2 : ∀ j, cf (r2 ++ List.replicate (m - r2.length) 0) j = cf r2 j := cf_pad r2 _
    have lf1 : (r1 ++ List.replicate (m - r1.length) 0).length = m := by rw [List.length_append, List.length_replicate]; omega
    have lf2 : (r2 ++ List.replicate (m - r2.length) 0).length = m := by rw [List.length_append, List.length_replicate]; omega
    generalize r1 ++ List.replicate (m - r1.length) 0 = x1 at hf1 lf1 f2 ⊢
    generalize r2 ++ List.replicate (m - r2.length) 0 = x2 at hf2 lf2 e5 ⊢
    refine ⟨_, rfl, _, rfl, by omega, by omega, fun D hD => ?_⟩
    refine lc_range (lo := 0) (n := m) (fun i H' => Same H5 H' ∧ H' D = some (.lst (((List.range i).map fun j => cf r1 j + cf r2 j).map V.int))) ⟨same_new hD, upd_same⟩ ?_ ?_
    · rintro i Hx hi ⟨sx, ha⟩
      obtain ⟨x, hx, gx⟩ := get_int (r := x1) (k := i) (by omega)
      obtain ⟨y, hy, gy⟩ := get_int (r := x2) (k := i) (by omega)
      have ei : (0 + (i : Nat) : Int) = ((i : Nat) : Int) := Int.zero_add _
      refine ⟨rfl, _, rfl, _, rfl, .inl ⟨t2, _, _, _, rfl, rfl, .inl (.inl (sx _ _ f2)), atI_of ei gx, ?_⟩⟩
      refine ⟨_, rfl, _, rfl, .inl ⟨t5, _, _, _, rfl, rfl, .inl (.inl (sx _ _ e5)), atI_of ei gy, ?_⟩⟩
      refine ⟨_, _, rfl, rfl, _, ha, by rw [List.length_map, List.length_map, List.length_range]; exact small1000' (by omega), same_mut sx hD, ?_⟩
      rw [upd_same, List.range_succ, List.map_append, List.map_append, ← cf_of hx, ← cf_of hy, hf1, hf2]
      rfl
    · rintro H6 ⟨s6, ha⟩
      refine q D H6 (sH.free hD) ?_ (sH.trans s6)
      unfold plusL
      rw [← m7]
      exact ha
/-! ### divided -/
def spDivided (K : PySem.W.Frag) (C CD : Addr) : Sp := fun vs H Q E => ∃ (a : Addr) (y : V) (r s : List Int) (u v : Nat), vs = [.ref a, y] ∧ PAt K C H a r u ∧ Opd K C H y s v ∧ r.length ≤ 12 ∧ s.length ≤ 12 ∧ (∀ c ∈ r, Bd 1000 c) ∧ (∀ c ∈ s, Bd 250 c) ∧ 0 < u ∧ Bd 1000 (u : Int) ∧ 0 < v ∧ Bd 250 (v : Int) ∧
  ((s = [] ∧ ∀ H', Same H H' → E (.ref CD) none H') ∨
   (0 < s.length ∧ cf s (s.length - 1) ≠ 0 ∧ ∀ (t x1 x2 : Addr) (q1 q2 : List Int) (w1 w2 : Nat) (H' : Hp), Same H H' → H' t = some (.tup [.ref x1, .ref x2]) → PAt K C H' x1 q1 w1 → PAt K C H' x2 q2 w2 → DivTo r u s v q1 w1 q2 w2 →
     q1.length ≤ 12 → q2.length < s.length → (∀ c ∈ q1, Bd 4400 c) → (∀ c ∈ q2, Bd 4400 c) → Bd 5100 (w1 : Int) → Bd 5100 (w2 : Int) → 0 < w1 → 0 < w2 → Q (.ref t) H'))
theorem scDivided : FnScope ["self", "q", "divisor", "quotient", "rest", "factor", "under"] ["self", "q"] (defScope sDivided) := ⟨rfl, rfl, rfl, by decide +kernel, rfl, by decide +kernel, by decide +kernel⟩
theorem ok_divided {C CR CU CD fI f : Addr} {fd fdI : FuncData} (F : Fun K "divided" "Piece.divided" sDivided f fd) (T : TxtJ mg) (CW : ClsR K mg C) (M : Mk K C fI) (FI : FnOk P w K mg base (CX P w) 4 fI fdI ["self", "row", "under"] (spInit K C CR CU)) (bI : Binds K fdI ["self", "row", "under"] [])
    (ED : ErrZ K mg "NoDivisor" CD) (Daspiece : Df P w K mg base 6 "_as_piece" ["value"] (spAs K C)) (Drowdivided : Df P w K mg base 2 "row_divided" ["row", "divisor"] (spRd K)) (Drowtimes : Df P w K mg base 1 "row_times" ["row", "factor"] (spTm K)) : FnOk P w K mg base (CX P w) 7 f fd ["self", "q"] (spDivided K C CD) := by
  refine F.okX scDivided (fun vs H Q E h => ?_) (fun cdv A outer s H vs Q E hr h => ?_)
  · obtain ⟨a, y, r, s, u, v, rfl, _⟩ := h
    rfl
  · obtain ⟨a, y, r, s', u, v, rfl, hP, hO, l1, l2, hb1, hb2, hu, hub, hv, hvb, q⟩ := h
    refine ⟨_, (pss_cons (ps_set (i := 2) scDivided.nd rfl (.inl rfl) (Daspiece.call (hr.mono (by decide)) (pa_cons (pv 1) pa_nil)))
      (pss_cons (ps_if (pt_cmpR op_eq (pe_callB call_len_seq (by rfl) T.len PySem.boot_len (pa_cons (pe_fld (pv 2) rfl) pa_nil)) pe_int (nomark _)) (pss_one (ps_raise rfl (takes_of rfl rfl rfl rfl) (pmk_none PySem.F.excBase_ValueError ED.ex ED.g ED.k (raises_own ED.b ED.t) (by rfl)))) pss_nil)
      (pss_cons (ps_asg (Drowdivided.call (hr.mono (by decide)) (pa_cons (pe_fld (pv 0) rfl) (pa_cons (pe_fld (pv 2) rfl) pa_nil))) (pg_tup (by rfl) (pgs_cons (pg_name (i := 3) scDivided.nd rfl (.inl rfl)) (pgs_cons (pg_name (i := 4) scDivided.nd rfl (.inl rfl)) (pgs_cons (pg_name (i := 5) scDivided.nd rfl (.inl rfl)) pgs_nil)))))
      (pss_cons (ps_set (i := 6) scDivided.nd rfl (.inl rfl) (pe_op op_mulW (pv 5) (pe_fld (pv 0) rfl)))
      (pss_one (ps_ret (pe_tup (pa_cons (pe_make M FI (hr.mono (by decide)) (by rfl) CW.mgC bI .nil passF (pa_cons (Drowtimes.call (hr.mono (by decide)) (pa_cons (pv 3) (pa_cons (pe_fld (pv 2) rfl) pa_nil))) (pa_cons (pv 6) pa_nil))) (pa_cons (pe_make M FI (hr.mono (by decide)) (by rfl) CW.mgC bI .nil passF (pa_cons (pv 4) (pa_cons (pv 6) pa_nil))) pa_nil))))))))), ?_⟩
    refine ⟨_, rfl, y, s', v, rfl, hO, fun b H1 s1 hB => ?_⟩
    obtain ⟨dx, ra, g1, g2⟩ := hP.same s1
    obtain ⟨dx', ra', k1, k2⟩ := hB
    refine ⟨_, rfl, b, C, dx', _, _, rfl, k1, CW.cl, CW.nR, pf_row, ra', _, rfl, .inr k2, rfl, _, rfl, ?_⟩
    rw [List.length_map, dint]
    rcases q with ⟨rfl, q⟩ | ⟨hs, htop, q⟩
    · exact iteT (q H1 s1)
    rw [decide_eq_false (show ¬ (s'.length : Int) = 0 by omega)]
    refine iteF ?_
    refine ⟨_, rfl, a, C, dx, _, _, rfl, g1, CW.cl, CW.nR, pf_row, _, rfl, b, C, dx', _, _, rfl, k1, CW.cl, CW.nR, pf_row, ra, ra', r, s', rfl, g2, k2, l1, hs, l2, htop, hb1, hb2, fun t ql rl Qq R ff H2 s2 e2 eq er hI hRl bQ bR bf => ?_⟩
    refine ⟨t, _, rfl, .inl (.inl e2), rfl, _, _, rfl, _, _, rfl, _, _, rfl, rfl, ?_⟩
    refine ⟨_, rfl, _, rfl, a, C, dx, _, _, rfl, s2 _ _ g1, CW.cl, CW.nU, pf_under, _, _, rfl, rfl, wide_mul bf hub (by decide) (by decide) (by decide), ?_⟩
    have hlen := hI.len
    have bfu : Bd 5100 ((ff * u : Nat) : Int) := by rw [Int.natCast_mul]; exact Bd.mul bf hub (by decide)
    have hfu : 0 < ff * u := Nat.mul_pos hI.f0 hu
    have bQv : ∀ c ∈ Qq.map (fun y => y * (v : Int)), Bd 4400 c := fun c hc => by
      obtain ⟨y, hy, rfl⟩ := List.mem_map.mp hc
      exact Bd.mul (bQ y hy) hvb (by decide)
    refine ⟨_, rfl, _, rfl, b, C, dx', _, _, rfl, s2 _ _ k1, CW.cl, CW.nU, pf_under, ql, Qq, (v : Int), rfl, .inl (.inl (.inl eq)), by omega, fun c hc => (bQ c hc).up (by decide), hvb.up (by decide), fun l3 H3 n3 s3 e3 => ?_⟩
    refine ⟨_, rfl, ?_⟩
    refine mk_pcRI (un := ff * u) (Int.natCast_mul ff u).symm (.inl (.inl (.inl e3))) (by rw [List.length_map]; omega) hfu (bfu.up (by decide)) fun x1 q1 w1 H4 L1 s4 hX1 => ?_
    refine ⟨_, rfl, _, rfl, ?_⟩
    refine mk_pcRI (un := ff * u) (Int.natCast_mul ff u).symm (.inl (.inl (.inl (s4 _ _ (s3 _ _ er))))) (by omega) hfu (bfu.up (by decide)) fun x2 q2 w2 H5 L2' s5 hX2 => ?_
    refine ⟨by show 2 ≤ sizeLine; decide, fun t6 ht6 => ?_⟩
    have s6 := same_new (o := .tup [.ref x1, .ref x2]) ht6
    refine q t6 x1 x2 q1 q2 w1 w2 _ (s1.trans (s2.trans (s3.trans (s4.trans (s5.trans s6))))) upd_same (hX1.same (s5.trans s6)) (hX2.same s6) ⟨Qq, R, ff, hI.f0, hI.done hs hRl, hRl, L1, L2'⟩ ?_ ?_ (L1.bd bQv) (fun c hc => (L2'.bd bR c hc).up (by decide)) (L1.ub bfu) (L2'.ub bfu) L1.u1 L2'.u1
    · have := L1.len
      rw [List.length_map] at this
      omega
    · have := L2'.len
      omega
end
end Ef
set_option Elab.async false
set_option linter.all false
set_option maxRecDepth 100000
set_option maxHeartbeats 4000000
namespace Ef
open PySem PySem.Spec PyProof.Rows L2
abbrev sRefd : Stmt := top 39
abbrev sLtrim : Stmt := top 40
abbrev sFits : Stmt := top 41
section
variable {P : Program} {w : World} {K : PySem.W.Frag} {mg : Str → Option Value} {base : Heap}
/-! ### _law_trimmed -/
def spLtrim (K : PySem.W.Frag) : Sp := fun vs H Q _ => ∃ (a : Addr) (r : List Int), vs = [.ref a] ∧ SqL K H a (r.map V.int) ∧ r.length ≤ 100 ∧ ∀ H' l t, H l = none → Same H H' → H' l = some (.lst (t.map V.int)) → TrimOk r t → Q (.ref l) H'
theorem scLtrim : FnScope ["row", "many"] ["row"] (defScope sLtrim) := ⟨rfl, rfl, rfl, by decide +kernel, rfl, by decide +kernel, by decide +kernel⟩
theorem df_ltrim (A : At K mg "_law_trimmed" sLtrim) (T : TxtW mg) : Df P w K mg base 1 "_law_trimmed" ["row"] (spLtrim K) := by
  obtain ⟨f, fd, hm, F⟩ := A.ex
  refine ⟨f, fd, hm, F.kp, F.binds (fun _ _ _ _ _ _ us hl => match us, hl with | [_], _ => rfl), F.ok scLtrim (fun vs H Q E h => ?_) (fun cdv A outer s H vs Q E hr h => ?_)⟩
  · obtain ⟨a, r, rfl, _⟩ := h
    rfl
  · obtain ⟨a, r, rfl, hS, hl, q⟩ := h
    refine ⟨_, (pss_cons (ps_set (i := 1) scLtrim.nd rfl (.inl rfl) (pe_callB call_len_seq (by rfl) T.len PySem.boot_len (pa_cons (pv 0) pa_nil)))
      (pss_cons (ps_while PassesOwn.never (pw_and (pt_cmpR op_gt (pv 1) pe_int (nomark _)) (pw_and1 (pt_cmpR op_eq (pe_ix ix_list (pv 0) (pe_op op_sub (pv 1) pe_int) (fun _ _ => rfl)) pe_int (nomark _)))).pt
      (pss_one (ps_set (i := 1) scLtrim.nd rfl (.inl rfl) (pe_op op_sub (pv 1) pe_int))))
      (pss_one (ps_ret (pe_slice sl_list (pv 0) po_none (po_some (pv 1))))))), ?_⟩
    refine ⟨_, rfl, a, _, rfl, .inl hS, ?_⟩
    refine ⟨fun m σ H' => H' = H ∧ m ≤ r.length ∧ σ = [some (.ref a), some (.int (m : Int))] ∧ ∀ j, m ≤ j → j < r.length → r[j]? = some 0, ⟨r.length, rfl, Nat.le_refl _, by rw [List.length_map]; rfl, fun j h1 h2 => absurd h2 (by omega)⟩, fun m σ H' hW => ?_⟩
    obtain ⟨rfl, hm2, rfl, hz⟩ := hW
    have ecut : cutV (r.map V.int) none (some (m : Int)) = (r.take m).map V.int := by rw [cut_hi _ m (by rw [List.length_map]; exact hm2), List.map_take]
    have fin : ∀ (hk : m = 0 ∨ ∃ c, r[m - 1]? = some c ∧ c ≠ 0), ∀ l, H' l = none → Q (.ref l) (upd H' l (.lst (cutV (r.map V.int) none (some (m : Int))))) := fun hk l hl' =>
      q _ l (r.take m) hl' (same_new hl') (by rw [upd_same, ecut]) ⟨m, hm2, rfl, hz, hk⟩
    refine ⟨_, rfl, _, _, rfl, rfl, _, rfl, ?_⟩
    cases m with
    | zero =>
      refine iteF ?_
      exact ⟨_, rfl, _, rfl, _, rfl, a, _, rfl, hS, fin (.inl rfl)⟩
    | succ k =>
      rw [decide_eq_true (show (0 : Int) < ((k + 1 : Nat) : Int) by omega)]
      obtain ⟨c, hc, hc2⟩ := get_int (r := r) (k := k) (by omega)
      refine iteT ⟨_, rfl, _, rfl, _, _, rfl, rfl, a, _, _, _, rfl, rfl, hS, atI_of (j := k) (by omega) hc2, rfl, _, rfl, ?_⟩
      rw [dint]
      refine ite2 (fun hb => ?_) (fun hb => ?_)
      · have hc0 := of_decide_eq_true hb
        subst hc0
        refine ⟨fun σ H2 => H2 = H' ∧ σ = [some (.ref a), some (.int (k : Int))], fun σ' H2 ⟨e1, e2⟩ => ⟨k, Nat.lt_succ_self k, e1, by omega, e2, fun j h1 h2 => ?_⟩, _, rfl, _, _, rfl, rfl, rfl, by show [some (V.ref a), some (V.int (((k + 1 : Nat) : Int) - 1))] = _; rw [show ((k + 1 : Nat) : Int) - 1 = (k : Int) by omega]⟩
        rcases Nat.lt_or_ge j (k + 1) with z | z
        · have e : j = k := by omega
          rw [e]; exact hc
        · exact hz j z h2
      · exact ⟨_, rfl, _, rfl, _, rfl, a, _, rfl, hS, fin (.inr ⟨c, hc, fun z => hb (decide_eq_true z)⟩)⟩
/-! ### _law_is_refused -/
def spRefd (K : PySem.W.Frag) (C : Addr) : Sp := fun vs H Q _ => ∃ (a : Addr) (y : V) (r : List Int) (u v : Nat), vs = [.ref a, y] ∧ PAt K C H a r u ∧ Opd K C H y [] v ∧ r.length ≤ 12 ∧ (∀ c ∈ r, Bd 1000 c) ∧ 0 < u ∧ Bd 1000 (u : Int) ∧ 0 < v ∧ Bd 250 (v : Int) ∧ ∀ H', Same H H' → Q (.bl true) H'
theorem scRefd : FnScope ["piece", "by"] ["piece", "by"] (defScope sRefd) := ⟨rfl, rfl, rfl, by decide +kernel, rfl, by decide +kernel, by decide +kernel⟩
theorem df_refd {C CD fD : Addr} {fdD : FuncData} (A : At K mg "_law_is_refused" sRefd) (CW : ClsR K mg C) (MD : Meth K C "divided" fD) (GD : FnOk P w K mg base (CX P w) 7 fD fdD ["self", "q"] (spDivided K C CD)) (bD : Binds K fdD ["self", "q"] []) (ED : ErrZ K mg "NoDivisor" CD) (dd : PySem.W.exmOne K (.ref CD) (.ref CD) = some true) : Df P w K mg base 8 "_law_is_refused" ["piece", "by"] (spRefd K C) := by
  obtain ⟨f, fd, hm, F⟩ := A.ex
  refine ⟨f, fd, hm, F.kp, F.binds (fun _ _ _ _ _ _ us hl => match us, hl with | [_, _], _ => rfl), F.ok scRefd (fun vs H Q E h => ?_) (fun cdv A outer s H vs Q E hr h => ?_)⟩
  · obtain ⟨a, y, r, u, v, rfl, _⟩ := h
    rfl
  · obtain ⟨a, y, r, u, v, rfl, hP, hO, hl, hb, hu, hub, hv, hvb, q⟩ := h
    refine ⟨_, (pss_cons (ps_try_only rfl rfl ⟨rfl, by decide, .inl ED.g⟩ takes0 (fun W pn xe tk _ => pss_one (ps_expr (pe_meth (E := fun cls d H => ∀ σ, W cls d σ H) (pv 0) CW.cl MD GD (hr.mono (by decide)) bD .nil (passes_call tk (fun cls d σ H h => h σ)) (pa_cons (pv 1) pa_nil)))) (fun a oe cls d pn _ _ => pss_one (ps_ret pe_bl)))
      (pss_one (ps_ret pe_bl))), ?_⟩
    obtain ⟨dx, ra, g1, g2⟩ := id hP
    exact ⟨_, rfl, a, dx, _, rfl, g1, (lk_ne (by decide +kernel)).trans ((lk_ne (by decide +kernel)).trans rfl), _, rfl, a, y, r, [], u, v, rfl, hP, hO, hl, Nat.zero_le _, hb, (fun c hc => by cases hc), hu, hub, hv, hvb, .inl ⟨rfl, fun H' s σ => ⟨true, dd, fun _ a ha => q H' s, fun z => Bool.noConfusion z⟩⟩⟩
/-! ### _law_fits -/
theorem trimmed_len {o t s : List Int} {vn v : Nat} (ht : TrimOk o t) (Lo : Low o vn s v) : s.length = t.length := by
  have h0 := Lo.un0
  obtain ⟨e, _⟩ := Lo.unique (Low.of_trim ht h0) fun j => rfl
  rw [e, List.length_map]
def spFits (K : PySem.W.Frag) (C : Addr) : Sp := fun vs H Q _ => ∃ (t rl ol x1 x2 : Addr) (row o q1 q2 pr s : List Int) (un vn w1 w2 u v : Nat), vs = [.ref t, .ref rl, .int (un : Int), .ref ol, .int (vn : Int)] ∧ H t = some (.tup [.ref x1, .ref x2]) ∧ PAt K C H x1 q1 w1 ∧ PAt K C H x2 q2 w2 ∧ H rl = some (.lst (row.map V.int)) ∧ H ol = some (.lst (o.map V.int)) ∧
  Low row un pr u ∧ Low o vn s v ∧ DivTo pr u s v q1 w1 q2 w2 ∧ q2.length < s.length ∧ 0 < w1 ∧ 0 < w2 ∧ row.length ≤ 12 ∧ o.length ≤ 12 ∧ q1.length ≤ 12 ∧ (∀ c ∈ row, Bd 1000 c) ∧ (∀ c ∈ o, Bd 250 c) ∧ (∀ c ∈ q1, Bd 4400 c) ∧ (∀ c ∈ q2, Bd 4400 c) ∧ Bd 5100 (w1 : Int) ∧ Bd 5100 (w2 : Int) ∧ Bd 250 (un : Int) ∧ Bd 250 (vn : Int) ∧ ∀ H', Same H H' → Q (.bl true) H'
theorem scFits : FnScope ["told", "row", "under", "other", "below", "part", "quotient", "rest", "product", "both", "full", "entry"] ["told", "row", "under", "other", "below"] (defScope sFits) := ⟨rfl, rfl, rfl, by decide +kernel, rfl, by decide +kernel, by decide +kernel⟩
theorem df_fits {C CR CU fI : Addr} {fdI : FuncData} (A : At K mg "_law_fits" sFits) (T : TxtJ mg) (CW : ClsR K mg C) (M : Mk K C fI) (FI : FnOk P w K mg base (CX P w) 4 fI fdI ["self", "row", "under"] (spInit K C CR CU)) (bI : Binds K fdI ["self", "row", "under"] []) (Dtrimmed : Df P w K mg base 1 "_law_trimmed" ["row"] (spLtrim K))
    (Dtimes : Df P w K mg base 1 "_law_times" ["one", "other"] (spTimes K)) (Dplus : Df P w K mg base 1 "_law_plus" ["one", "other"] spPlus) (Dispiece : Df P w K mg base 2 "_law_is_piece" ["piece", "row", "under"] (spIsp K C)) : Df P w K mg base 6 "_law_fits" ["told", "row", "under", "other", "below"] (spFits K C) := by
  obtain ⟨f, fd, hm, F⟩ := A.ex
  refine ⟨f, fd, hm, F.kp, F.binds (fun _ _ _ _ _ _ us hl => match us, hl with | [_, _, _, _, _], _ => rfl), F.ok scFits (fun vs H Q E h => ?_) (fun cdv A outer s H vs Q E hr h => ?_)⟩
  · obtain ⟨t, rl, ol, x1, x2, row, o, q1, q2, pr, s, un, vn, w1, w2, u, v, rfl, _⟩ := h
    rfl
  · obtain ⟨t, rl, ol, x1, x2, row, o, q1, q2, pr, s', un, vn, w1, w2, u, v, rfl, et, hX1, hX2, er, eo, Lr, Lo, hDv, hq2, hw1, hw2, lr, lo, lq1, br, bo, bq1, bq2, bw1, bw2, bun, bvn, q⟩ := h
    refine ⟨_, (pss_cons (ps_if (pw_or (pt_not (pt_val (pe_callB call_isi (by rfl) T.isinstance (by decide +kernel) (pa_cons (pv 0) (pa_cons (pe_bltn (v := .ty "tuple") (by rfl) T.tuple (by decide +kernel) rfl) pa_nil))))) (pw_or (pt_cmpR op_ne (pe_callB call_len_seq (by rfl) T.len PySem.boot_len (pa_cons (pv 0) pa_nil)) pe_int (nomark _)) (pw_or1 (pt_not (pt_val (pe_callB (cr_all rfl) (by rfl) T.all (by decide +kernel) (pa_cons (pe_lc (own := [("part", 5)]) (g := gName 5) (by rfl) scFits.nd (pi_tup (pv 0)) (blkOk_by (own := [("part", 5)]) (N := ["told", "row", "under", "other", "below", "part", "quotient", "rest", "product", "both", "full", "entry"]) (sc := defScope sFits) (by decide +kernel)) (fun _ _ _ _ _ => pg_name (i := 5) scFits.nd rfl (Or.inl rfl)) (fun _ _ _ _ _ => pts_nil) (fun _ _ _ _ _ => (pe_callB (show CallR _ (.builtin "isinstance") (rIsi K) from call_isi) (by rfl) T.isinstance (by decide +kernel) (pa_cons (pv 5) (pa_cons (pe_glob (v := .ref C) (by rfl) CW.mgC rfl) pa_nil))))) pa_nil))))))).pt (pss_one (ps_ret pe_bl)) pss_nil)
      (pss_cons (ps_asg (pv 0) (pg_tup (by rfl) (pgs_cons (pg_name (i := 6) scFits.nd rfl (.inl rfl)) (pgs_cons (pg_name (i := 7) scFits.nd rfl (.inr rfl)) pgs_nil))))
      (pss_cons (ps_if (pt_cmpR op_ge (pe_callB call_len_seq (by rfl) T.len PySem.boot_len (pa_cons (pe_fld (pv 7) rfl) pa_nil)) (pe_callB call_len_seq (by rfl) T.len PySem.boot_len (pa_cons (Dtrimmed.call (hr.mono (by decide)) (pa_cons (pv 3) pa_nil)) pa_nil)) (nomark _)) (pss_one (ps_ret pe_bl)) pss_nil)
      (pss_cons (ps_asg (pe_tup (pa_cons (Dtimes.call (hr.mono (by decide)) (pa_cons (pe_callTy call_list_of (by rfl) T.list (by decide +kernel) (pa_cons (pe_fld (pv 6) rfl) pa_nil)) (pa_cons (pv 3) pa_nil))) (pa_cons (pe_op op_mulW (pe_fld (pv 6) rfl) (pv 4)) pa_nil))) (pg_tup (by rfl) (pgs_cons (pg_name (i := 8) scFits.nd rfl (.inl rfl)) (pgs_cons (pg_name (i := 9) scFits.nd rfl (.inr rfl)) pgs_nil))))
      (pss_cons (ps_set (i := 10) scFits.nd rfl (.inl rfl) (Dplus.call (hr.mono (by decide)) (pa_cons (pe_lc (own := [("entry", 11)]) (g := gName 11) (by rfl) scFits.nd (pi_seq (pv 8)) (blkOk_by (own := [("entry", 11)]) (N := ["told", "row", "under", "other", "below", "part", "quotient", "rest", "product", "both", "full", "entry"]) (sc := defScope sFits) (by decide +kernel)) (fun _ _ _ _ _ => pg_name (i := 11) scFits.nd rfl (Or.inl rfl)) (fun _ _ _ _ _ => pts_nil) (fun _ _ _ _ _ => (pe_op op_mulW (pv 11) (show PE _ _ (tFld K (tVar 7) "under") from pe_fld (pv 7) (by rfl))))) (pa_cons (pe_lc (own := [("entry", 11)]) (g := gName 11) (by rfl) scFits.nd (pi_seq (pe_fld (pv 7) rfl)) (blkOk_by (own := [("entry", 11)]) (N := ["told", "row", "under", "other", "below", "part", "quotient", "rest", "product", "both", "full", "entry"]) (sc := defScope sFits) (by decide +kernel)) (fun _ _ _ _ _ => pg_name (i := 11) scFits.nd rfl (Or.inl rfl)) (fun _ _ _ _ _ => pts_nil) (fun _ _ _ _ _ => (pe_op op_mulW (pv 11) (pv 9)))) pa_nil))))
      (pss_one (ps_ret (Dispiece.call (hr.mono (by decide)) (pa_cons (pe_make M FI (hr.mono (by decide)) (by rfl) CW.mgC bI .nil passF (pa_cons (pv 1) (pa_cons (pv 2) pa_nil))) (pa_cons (pv 10) (pa_cons (pe_op op_mulW (pv 9) (show PE _ _ (tFld K (tVar 7) "under") from pe_fld (pv 7) (by rfl))) pa_nil))))))))))), ?_⟩
    refine ⟨_, rfl, _, _, _, _, true, rfl, .ty "tuple", sqt_ty (.inl (.inl et)), kit_ty (by decide +kernel), ?_⟩
    refine ⟨_, rfl, iteF ?_⟩
    refine ⟨_, rfl, t, _, rfl, .inr (.inl (.inl et)), rfl, _, rfl, iteF ?_⟩
    -- all
    refine ⟨_, rfl, t, rfl, ⟨_, .inl (.inl et)⟩, fun D hD => ?_⟩
    refine lc_tup (K := K) (a := t) (xs := [V.ref x1, V.ref x2]) (fun i H' => Same H H' ∧ H' D = some (.lst ((List.replicate i true).map V.bl))) ⟨same_new hD, upd_same⟩ (fun i H' _ h => .inl (.inl (h.1 _ _ et))) ?_ ?_
    · rintro i x Hx hi ⟨sx, hx⟩
      have hxi : i < 2 ∧ ∃ y q' w', x = .ref y ∧ PAt K C Hx y q' w' := by
        match i, hi with
        | 0, e => injection e with e; subst e; exact ⟨by decide, x1, q1, w1, rfl, hX1.same sx⟩
        | 1, e => injection e with e; subst e; exact ⟨by decide, x2, q2, w2, rfl, hX2.same sx⟩
        | n + 2, e => cases e
      obtain ⟨hi2, y, q', w', rfl, dx, ra, g1, g2⟩ := hxi
      refine ⟨rfl, _, rfl, _, _, _, _, true, rfl, .own C, .base (.ins g1 CW.cl CW.cc CW.cg CW.ct CW.co), if_pos (by simp), _, hx, by rw [List.length_map, List.length_replicate]; exact small1000' (by omega), same_mut sx hD, ?_⟩
      rw [upd_same, List.replicate_succ', List.map_append]
      rfl
    rintro H1 ⟨s1, h1⟩
    refine ⟨D, _, rfl, .inl (.inl h1), _, rfl, iteF ?_⟩
    have et := s1 _ _ et
    have er := s1 _ _ er
    have eo := s1 _ _ eo
    have hX1 := hX1.same s1
    have hX2 := hX2.same s1
    refine ⟨_, rfl, t, _, rfl, .inl (.inl et), rfl, _, _, rfl, _, _, rfl, rfl, ?_⟩
    obtain ⟨dx2, ra2, k1, k2⟩ := id hX2
    obtain ⟨dx1, ra1, g1, g2⟩ := id hX1
    refine ⟨_, rfl, x2, C, dx2, _, _, rfl, k1, CW.cl, CW.nR, pf_row, ra2, _, rfl, .inr k2, _, rfl, ol, o, rfl, .inl (.inl eo), by omega, fun H2 l2 t2 n2 s2 e2 hT => ?_⟩
    refine ⟨l2, _, rfl, .inl (.inl (.inl e2)), _, _, rfl, rfl, _, rfl, ?_⟩
    have htl := trimmed_len hT Lo
    rw [List.length_map, List.length_map, decide_eq_false (show ¬ (t2.length : Int) ≤ (q2.length : Int) by omega)]
    refine iteF ?_
    refine ⟨_, rfl, x1, C, dx1, _, _, rfl, s2 _ _ g1, CW.cl, CW.nR, pf_row, ra1, _, rfl, .inr (Same.tup s2 g2), fun l3 hl3 => ?_⟩
    have s3 := s2.trans (same_new (o := .lst (q1.map V.int)) hl3)
    have e3 : (upd H2 l3 (.lst (q1.map V.int))) l3 = some (.lst (q1.map V.int)) := upd_same
    generalize upd H2 l3 (.lst (q1.map V.int)) = H3 at s3 e3 ⊢
    refine ⟨_, rfl, l3, ol, q1, o, rfl, .inl (.inl e3), .inl (.inl (s3 _ _ eo)), by omega, by omega, fun c hc => (bq1 c hc).up (by decide), fun c hc => (bo c hc).up (by decide), fun l4 H4 n4 e4 s4 => ?_⟩
    have s34 := s3.trans s4
    refine ⟨_, rfl, x1, C, dx1, _, _, rfl, s34 _ _ g1, CW.cl, CW.nU, pf_under, _, rfl, _, _, rfl, rfl, wide_mul bw1 bvn (by decide) (by decide) (by decide), by show 2 ≤ sizeLine; decide, fun t5 ht5 => ?_⟩
    have s5 := s34.trans (same_new (o := .tup [.ref l4, .int ((w1 : Int) * (vn : Int))]) ht5)
    have e5 : (upd H4 t5 (.tup [.ref l4, .int ((w1 : Int) * (vn : Int))])) t5 = some (.tup [.ref l4, .int ((w1 : Int) * (vn : Int))]) := upd_same
    have e45 := same_new (o := .tup [.ref l4, .int ((w1 : Int) * (vn : Int))]) ht5 _ _ e4
    generalize upd H4 t5 (.tup [.ref l4, .int ((w1 : Int) * (vn : Int))]) = H5 at s5 e5 e45 ⊢
    have hsl : s'.length ≤ 12 := Nat.le_trans Lo.len lo
    have bb : Bd 5350 ((w1 : Int) * (vn : Int)) := Bd.mul bw1 bvn (by decide)
    have pl : (mulL q1 o).length ≤ 24 := by rw [mulL_len]; omega
    have pb : ∀ c ∈ mulL q1 o, Bd 4657 c := mulL_bd bq1 bo (by omega) (by decide)
    refine ⟨t5, _, rfl, .inl (.inl e5), rfl, _, _, rfl, _, _, rfl, rfl, ?_⟩
    refine ⟨_, rfl, l4, rfl, lc_seqs (f := fun c => c * (w2 : Int)) (.inl (.inl (.inl e45))) (by omega) (fun c H R hc sm h => ⟨rfl, _, rfl, _, rfl, x2, C, dx2, _, _, rfl, sm _ _ (s5 _ _ k1), CW.cl, CW.nU, pf_under, _, _, rfl, rfl, wide_mul (pb c hc) bw2 (by decide) (by decide) (by decide), h⟩) fun D6 H6 hD6 s6 h6 => ?_⟩
    have s56 := s5.trans s6
    refine ⟨_, rfl, x2, C, dx2, _, _, rfl, s56 _ _ k1, CW.cl, CW.nR, pf_row, ra2, rfl, lc_seqs (f := fun c => c * ((w1 : Int) * (vn : Int))) (.inr (Same.tup s56 k2)) (by omega) (fun c H R hc sm h => ⟨rfl, _, rfl, _, rfl, _, _, rfl, rfl, wide_mul (bq2 c hc) bb (by decide) (by decide) (by decide), h⟩) fun D7 H7 hD7 s7 h7 => ?_⟩
    refine ⟨D6, D7, _, _, rfl, s7 _ _ h6, h7, by rw [List.length_map]; omega, by rw [List.length_map]; omega, fun l8 H8 n8 e8 s8 => ?_⟩
    have s58 := s56.trans (s7.trans s8)
    refine ⟨_, rfl, _, rfl, mk_pcR (un := un) (.inl (.inl (.inl (s58 _ _ er)))) (by omega) Lr.un0 (bun.up (by decide)) fun p9 pr9 u9 H9 L9 s9 hp9 => ?_⟩
    obtain ⟨e91, e92⟩ := Lr.unique L9 fun j => rfl
    subst e91 e92
    have s59 := s58.trans s9
    have hF : ∀ j, cf (plusL ((mulL q1 o).map fun c => c * (w2 : Int)) (q2.map fun c => c * ((w1 : Int) * (vn : Int)))) j = cv (cf q1) (cf o) j * (w2 : Int) + cf q2 j * ((w1 : Int) * (vn : Int)) := fun j => by
      rw [cf_plusL, cf_map (f := fun c => c * (w2 : Int)) (Int.zero_mul _), cf_map (f := fun c => c * ((w1 : Int) * (vn : Int))) (Int.zero_mul _), cf_mulL]
    have Lf := fits_low Lr Lo hDv hw1 hw2 hF
    refine ⟨_, rfl, _, rfl, _, rfl, x2, C, dx2, _, _, rfl, s59 _ _ k1, CW.cl, CW.nU, pf_under, _, _, rfl, rfl, wide_mul bb bw2 (by decide) (by decide) (by decide), ?_⟩
    refine ⟨p9, l8, _, pr, w1 * vn * w2, u, by rw [Int.natCast_mul, Int.natCast_mul]; rfl, hp9, .inl (.inl (s9 _ _ e8)), Lf, ?_, ?_, ?_, fun H' s => q H' (s1.trans (s59.trans s))⟩
    · rw [plusL_len, List.length_map, List.length_map]; omega
    · refine plusL_bd (a := 9760) (fun c hc => ?_) (fun c hc => ?_) (by decide)
      · obtain ⟨y, hy, rfl⟩ := List.mem_map.mp hc
        exact Bd.mul (pb y hy) bw2 (by decide)
      · obtain ⟨y, hy, rfl⟩ := List.mem_map.mp hc
        exact Bd.mul (bq2 y hy) bb (by decide)
    · rw [Int.natCast_mul, Int.natCast_mul]
      exact Bd.mul bb bw2 (by decide)
end
end Ef
set_option Elab.async false
set_option linter.all false
set_option maxRecDepth 100000
set_option maxHeartbeats 4000000
namespace Ef
open PySem PySem.Spec PyProof.Rows L2
/-! ### what the law compares -/
abbrev ng (r : List Int) : List Int := r.map fun c => -c
theorem cf_ng (r : List Int) (j : Nat) : cf (ng r) j = -cf r j := cf_map (f := fun c => -c) (by decide) j
theorem cf_by (r : List Int) (x : Int) (j : Nat) : cf (r.map fun c => c * x) j = cf r j * x := cf_map (f := fun c => c * x) (Int.zero_mul x) j
theorem low_nil : Low [] 1 [] 1 := Low.of_trim (r := []) (t := []) (un := 1) ⟨0, Nat.le_refl _, rfl, fun j h1 h2 => absurd h2 (Nat.not_lt_zero j), .inl rfl⟩ (by decide)
theorem low_zero {r s : List Int} {un v : Nat} (h : Low r un s v) (hz : ∀ j, cf r j = 0) : s = [] ∧ v = 1 := by
  obtain ⟨e1, e2⟩ := h.unique low_nil fun j => by
    have z : cf r j = 0 := hz j
    unfold cf at z
    rw [z, show ([] : List Int).getD j 0 = 0 from cf_nil j, Int.zero_mul, Int.zero_mul]
  exact ⟨e1, e2⟩
theorem Low.self {r p : List Int} {un u : Nat} (h : Low r un p u) : Low p u p u := h.move h.u1 fun j => (h.cross j).symm
theorem low_sum {e : Int} {r s p q t : List Int} {un vn u v z : Nat} (h1 : Low r un p u) (h2 : Low s vn q v) (h : SumTo e p u q v t z) {S : List Int} {tn : Nat} (ht : 0 < tn) (hS : ∀ j, cf S j * ((un : Int) * (vn : Int)) = (cf r j * (vn : Int) + e * (cf s j * (un : Int))) * (tn : Int)) : Low S tn t z := by
  obtain ⟨R, w, hw, hR, hL⟩ := h
  exact h1.add h2 hw hR hL ht hS
theorem low_mul {r s p q t : List Int} {un vn u v z : Nat} (h1 : Low r un p u) (h2 : Low s vn q v) (h : MulTo p u q v t z) {S : List Int} (hS : ∀ j, cf S j = cv (cf r) (cf s) j) : Low S (un * vn) t z := by
  obtain ⟨R, hR, hL⟩ := h
  exact h1.mul h2 hR hL hS
theorem pos_ne {a b : Nat} (ha : 0 < a) (hb : 0 < b) : ((a : Int) * (b : Int)) ≠ 0 := by
  have := Int.mul_pos (show (0 : Int) < (a : Int) by omega) (show (0 : Int) < (b : Int) by omega)
  omega
/-- a * q + b -/
theorem eq_sum {ar qr br x t : List Int} {au v bu z w : Nat} (hm : MulTo ar au qr v x z) (hs : SumTo 1 x z br bu t w) (hz : 0 < z) (j : Nat) :
    cf t j * ((au : Int) * (v : Int) * (bu : Int)) = (cv (cf ar) (cf qr) j * (bu : Int) + cf br j * ((au : Int) * (v : Int))) * (w : Int) := by
  obtain ⟨R, hR, L1⟩ := hm
  obtain ⟨S, y, hy, hS, L2⟩ := hs
  have c1 : cf x j * ((au * v : Nat) : Int) = cf R j * (z : Int) := L1.cross j
  have c2 : cf t j * (y : Int) = cf S j * (w : Int) := L2.cross j
  have c3 := hS j
  rw [Int.one_mul] at c3
  rw [Int.natCast_mul, hR] at c1
  refine Int.eq_of_mul_eq_mul_right (pos_ne hy hz) ?_
  have a1 : cf t j * ((au : Int) * (v : Int) * (bu : Int)) * ((y : Int) * (z : Int)) = (cf t j * (y : Int)) * ((au : Int) * (v : Int) * (bu : Int) * (z : Int)) := by ac_rfl
  have a2 : cf S j * (w : Int) * ((au : Int) * (v : Int) * (bu : Int) * (z : Int)) = (cf S j * ((z : Int) * (bu : Int))) * ((w : Int) * (au : Int) * (v : Int)) := by ac_rfl
  rw [a1, c2, a2, c3, Int.add_mul, Int.add_mul, Int.add_mul, Int.add_mul]
  have a3 : cf x j * (bu : Int) * (y : Int) * ((w : Int) * (au : Int) * (v : Int)) = (cf x j * ((au : Int) * (v : Int))) * ((bu : Int) * (y : Int) * (w : Int)) := by ac_rfl
  rw [a3, c1]
  congr 1 <;> ac_rfl
/-- a * q -/
theorem eq_prod {ar qr x : List Int} {au v z : Nat} (hm : MulTo ar au qr v x z) (j : Nat) :
    cf x j * ((au : Int) * (v : Int) * ((1 : Nat) : Int)) = (cv (cf ar) (cf qr) j * ((1 : Nat) : Int) + cf [] j * ((au : Int) * (v : Int))) * (z : Int) := by
  obtain ⟨R, hR, L1⟩ := hm
  have c1 : cf x j * ((au * v : Nat) : Int) = cf R j * (z : Int) := L1.cross j
  rw [Int.natCast_mul, hR] at c1
  rw [cf_nil, Int.zero_mul, Int.add_zero]
  show cf x j * ((au : Int) * (v : Int) * 1) = cv (cf ar) (cf qr) j * 1 * (z : Int)
  rw [Int.mul_one, Int.mul_one, c1]
/-- by a number -/
theorem num_low {x : Int} {s : List Int} {v : Nat} (h : Low [x] 1 s v) (hx : x ≠ 0) : s.length = 1 ∧ cf s 0 ≠ 0 ∧ (∀ j, cf s j = cf [cf s 0] j) ∧ cf s 0 = x * (v : Int) := by
  have c : cf s 0 * ((1 : Nat) : Int) = cf [x] 0 * (v : Int) := h.cross 0
  have c : cf s 0 = x * (v : Int) := by
    have e : cf s 0 * 1 = x * (v : Int) := c
    rw [Int.mul_one] at e
    exact e
  have hv := h.u1
  have nz : cf s 0 ≠ 0 := by
    rw [c]
    intro z
    rcases Int.mul_eq_zero.mp z with z | z
    · exact hx z
    · omega
  have l1 : s.length ≤ 1 := h.len
  have l2 : 0 < s.length := by
    rcases Nat.eq_zero_or_pos s.length with z | z
    · exact absurd (cf_ge (by omega)) nz
    · exact z
  refine ⟨by omega, nz, fun j => ?_, c⟩
  cases j with
  | zero => rfl
  | succ j => rw [cf_ge (r := s) (by omega), cf_ge (r := [cf s 0]) (by show 1 ≤ j + 1; omega)]
theorem cv_one (f : Nat → Int) (x : Int) (j : Nat) : cv f (cf [x]) j = f j * x := by
  rw [cv_comm]
  unfold cv
  rw [sm_head]
  show x * f j + sm j _ = f j * x
  rw [sm_zero fun i hi => by rw [cf_ge (r := [x]) (by show 1 ≤ i + 1; omega), Int.zero_mul], Int.add_zero, Int.mul_comm]
theorem eq_num {row rowE pr s ar : List Int} {un u v nn au : Nat} {x : Int} (Lp : Low row un pr u) (La : Low rowE (un * nn) ar au) (hn : 0 < nn) (hx : ∀ j, cf rowE j * x = cf row j * (nn : Int)) (hs : ∀ j, cf s j = cf [cf s 0] j) (h0 : cf s 0 = x * (v : Int)) (j : Nat) :
    cf pr j * ((au : Int) * (v : Int) * ((1 : Nat) : Int)) = (cv (cf ar) (cf s) j * ((1 : Nat) : Int) + cf [] j * ((au : Int) * (v : Int))) * (u : Int) := by
  have c1 : cf pr j * (un : Int) = cf row j * (u : Int) := Lp.cross j
  have c2 : cf ar j * ((un * nn : Nat) : Int) = cf rowE j * (au : Int) := La.cross j
  rw [Int.natCast_mul] at c2
  rw [cf_nil, Int.zero_mul, Int.add_zero, cv_congr (fun _ => rfl) hs, cv_one, h0]
  show cf pr j * ((au : Int) * (v : Int) * 1) = cf ar j * (x * (v : Int)) * 1 * (u : Int)
  rw [Int.mul_one, Int.mul_one]
  refine Int.eq_of_mul_eq_mul_right (pos_ne Lp.un0 hn) ?_
  have a1 : cf pr j * ((au : Int) * (v : Int)) * ((un : Int) * (nn : Int)) = (cf pr j * (un : Int)) * ((au : Int) * (v : Int) * (nn : Int)) := by ac_rfl
  have a2 : cf ar j * (x * (v : Int)) * (u : Int) * ((un : Int) * (nn : Int)) = (cf ar j * ((un : Int) * (nn : Int))) * (x * (v : Int) * (u : Int)) := by ac_rfl
  have a3 : cf rowE j * (au : Int) * (x * (v : Int) * (u : Int)) = (cf rowE j * x) * ((au : Int) * (v : Int) * (u : Int)) := by ac_rfl
  rw [a1, c1, a2, c2, a3, hx]
  ac_rfl
/-! ### what the readings ask -/
/-- two pieces that are equal -/
def Rp (K : PySem.W.Frag) (C : Addr) (a b : Addr) (H : Hp) : Prop := ∃ r u, PAt K C H a r u ∧ PAt K C H b r u ∧ r.length ≤ 1000
theorem mon_rp (K : PySem.W.Frag) (C : Addr) : ∀ a b H H', Ext H H' → Rp K C a b H → Rp K C a b H' := fun a b H H' e ⟨r, u, h1, h2, h3⟩ => ⟨r, u, h1.same e, h2.same e, h3⟩
theorem sp_rp {K : PySem.W.Frag} {C : Addr} {vs : List V} {H : Hp} {Q : VK} {E : XK} (h : L2.spEq (Rp K C) vs H Q E) : spEq K C vs H Q E := by
  obtain ⟨a, b, rfl, ⟨r, u, h1, h2, hl⟩, q⟩ := h
  refine ⟨a, .ref b, r, u, rfl, h1, hl, .inl ⟨b, r, u, rfl, h2, hl, ?_⟩⟩
  rw [decide_eq_true (show r = r ∧ u = u from ⟨rfl, rfl⟩)]
  exact q H (Ext.rfl')
section
variable {K : PySem.W.Frag} {C a b t1 t2 x1 x2 y1 y2 : Addr} {H : Hp} {r s : List Int} {u v : Nat} {Q : VK} {E : XK} {to : List Int → Nat → List Int → Nat → List Int → Nat → Prop}
theorem rd_bin (hp : PAt K C H a r u) (hq : PAt K C H b s v) (h1 : Sm r u) (h2 : Sm s v) (hu : 0 < u) (hv : 0 < v) (q : ∀ x t z H', Same H H' → PAt K C H' x t z → to r u s v t z → Q (.ref x) H') : rOwnBin C (spBin K C to) E (.ref a) (.ref b) H Q := by
  obtain ⟨dx, ra, g1, g2⟩ := id hp
  obtain ⟨dy, rb, k1, k2⟩ := id hq
  exact ⟨a, dx, b, dy, _, _, rfl, rfl, g1, k1, a, .ref b, r, s, u, v, rfl, hp, .inl ⟨b, rfl, hq⟩, h1, h2, hu, hv, fun x t z H' s hX ht => ⟨⟨x, rfl⟩, q x t z H' s hX ht⟩⟩
theorem prs_two (h1 : PAt K C H x1 r u) (k1 : PAt K C H y1 r u) (h2 : PAt K C H x2 s v) (k2 : PAt K C H y2 s v) (l1 : r.length ≤ 1000) (l2 : s.length ≤ 1000) : Prs (DIns C (Rp K C)) [.ref x1, .ref x2] [.ref y1, .ref y2] H := by
  obtain ⟨dx, ra, g1, g2⟩ := id h1
  obtain ⟨dy, rb, g3, g4⟩ := id k1
  obtain ⟨dz, rc, g5, g6⟩ := id h2
  obtain ⟨dw, rd, g7, g8⟩ := id k2
  exact Prs.cons ⟨x1, y1, dx, dy, _, _, rfl, rfl, g1, g3, r, u, h1, k1, l1⟩ (Prs.cons ⟨x2, y2, dz, dw, _, _, rfl, rfl, g5, g7, s, v, h2, k2, l2⟩ Prs.nil)
theorem rd_neT (e1 : H t1 = some (.tup [.ref x1, .ref x2])) (e2 : H t2 = some (.tup [.ref y1, .ref y2])) (p : Prs (DIns C (Rp K C)) [.ref x1, .ref x2] [.ref y1, .ref y2] H) (q : ∀ H', Same H H' → Q (.bl false) H') : rNeG (DTup K (DIns C (Rp K C))) (.ref t1) (.ref t2) H Q :=
  ⟨⟨t1, t2, _, _, rfl, rfl, .inl (.inl e1), .inl (.inl e2), p⟩, fun H' x => q H' x⟩
end
end Ef
set_option Elab.async false
set_option linter.all false
set_option maxRecDepth 100000
set_option maxHeartbeats 4000000
namespace Ef
open PySem PySem.Spec PyProof.Rows L2
theorem sqt_kp {K : PySem.W.Frag} {H H' : Hp} {a p : Addr} {xs : List V} {d : List (Key × V)} (h : SqT K H a xs) (k : Kp p H H') (hp : H p = some (.dK d)) : SqT K H' a xs := by
  rcases h with (h | ⟨z, h⟩) | h
  · exact .inl (.inl (k _ _ (ne_of h hp (by intro q; cases q)) h))
  · exact .inl (.inr ⟨z, k _ _ (ne_of h hp (by intro q; cases q)) h⟩)
  · exact .inr h
theorem PAt.kp {K : PySem.W.Frag} {C : Addr} {H H' : Hp} {p q : Addr} {r : List Int} {u : Nat} {d : List (Key × V)} (h : PAt K C H q r u) (k : Kp p H H') (hp : H p = some (.dK d)) : PAt K C H' q r u := by
  obtain ⟨dx, ra, h1, h2⟩ := h
  exact ⟨dx, ra, k _ _ (ne_of h1 hp (by intro q; cases q)) h1, sqt_kp h2 k hp⟩
theorem Pen.same {H H' : Hp} {p l : Addr} {ns : List Int} {a b : Int} (h : Pen H p l ns a b) (e : Same H H') : Pen H' p l ns a b := ⟨e _ _ h.hd, e _ _ h.hl, h.len, h.a0, h.b0⟩
/-- a drawn row over its divisor -/
structure Drw (r : List Int) (un m : Nat) : Prop where
  l : r.length ≤ m
  b : ∀ c ∈ r, Bd 201 c
  u : 0 < un
  ub : Bd 67 (un : Int)
/-- a divisor: not empty, no 0 at its end -/
structure Dvs (o s : List Int) (vn v : Nat) : Prop where
  d : Drw o vn 4
  t : TrimOk o o
  n : 0 < o.length
  L : Low o vn s v
theorem Dvs.len {o s : List Int} {vn v : Nat} (h : Dvs o s vn v) : s.length = o.length := trimmed_len h.t h.L
theorem Dvs.pos {o s : List Int} {vn v : Nat} (h : Dvs o s vn v) : 0 < s.length := by rw [h.len]; exact h.n
theorem Dvs.top {o s : List Int} {vn v : Nat} (h : Dvs o s vn v) : cf s (s.length - 1) ≠ 0 := h.L.end_ (s.length - 1) (by have := h.pos; omega)
theorem lk_div {ra : Addr} {u : Int} : (pf ra u).lookup ("divided" : Str) = none := (lk_ne (by decide +kernel)).trans ((lk_ne (by decide +kernel)).trans rfl)
section
variable {K : PySem.W.Frag} {C CD CR CU a p rl ol pa pq pb : Addr} {H : Hp} {row o s ar br : List Int} {un vn v au bu nn : Nat} {y2 y7 y8 y9 y10 y11 y12 y13 y14 : Option V} {D : Ends}
theorem chk_fits (hr : Drw row un 6) (ho : Dvs o s vn v) (er : H rl = some (.lst (row.map V.int))) (eo : H ol = some (.lst (o.map V.int))) (hN : ∀ H', Same H H' → D.nx [some (.ref a), some (.ref p), y2, some (.ref rl), some (.int (un : Int)), some (.ref ol), some (.int (vn : Int)), y7, y8, y9, y10, y11, y12, y13, y14, none] H') :
    tIfS (tNot (tB (tCall (spFits K C) [] E0 (tCons (tMeth C ("divided") (spDivided K C CD) [] (fun x x_1 x_2 => False) (tMake C (spInit K C CR CU) [] (fun x x_1 x_2 => False) (tCons (tVar 3) (tCons (tVar 4) tNil))) (tCons (tMake C (spInit K C CR CU) [] (fun x x_1 x_2 => False) (tCons (tVar 5) (tCons (tVar 6) tNil))) tNil)) (tCons (tVar 3) (tCons (tVar 4) (tCons (tVar 5) (tCons (tVar 6) tNil)))))))) (tRet (tC (V.bl false))) tNext D [some (.ref a), some (.ref p), y2, some (.ref rl), some (.int (un : Int)), some (.ref ol), some (.int (vn : Int)), y7, y8, y9, y10, y11, y12, y13, y14, none] H := by
  have lr := hr.l
  have lo := ho.d.l
  refine ⟨_, rfl, _, rfl, mk_pcR (un := un) (.inl (.inl (.inl er))) (by omega) hr.u (hr.ub.up (by decide)) fun p1 pr u H1 Lp s1 hp => ?_⟩
  obtain ⟨dx, ra, g1, g2⟩ := id hp
  refine ⟨p1, dx, _, rfl, g1, lk_div, ?_⟩
  refine ⟨_, rfl, _, rfl, mk_pcR (un := vn) (.inl (.inl (.inl (s1 _ _ eo)))) (by omega) ho.d.u (ho.d.ub.up (by decide)) fun p2 s2 v2 H2 Lq sq hq => ?_⟩
  obtain ⟨e1, e2⟩ := ho.L.unique Lq fun j => rfl
  subst e1 e2
  have lpr := Lp.len
  have lsq := ho.len
  refine ⟨p1, .ref p2, pr, s, u, v, rfl, hp.same sq, .inl ⟨p2, rfl, hq⟩, by omega, by omega, fun c hc => (Lp.bd hr.b c hc).up (by decide), fun c hc => (Lq.bd ho.d.b c hc).up (by decide), Lp.u1, (Lp.ub hr.ub).up (by decide), Lq.u1, (Lq.ub ho.d.ub).up (by decide), .inr ⟨ho.pos, ho.top, fun t x1 x2 q1 q2 w1 w2 H3 s3 et hX1 hX2 hD lq1 lq2 b1 b2 bw1 bw2 w1p w2p => ?_⟩⟩
  have s03 := s1.trans (sq.trans s3)
  refine ⟨_, rfl, _, rfl, _, rfl, _, rfl, t, rl, ol, x1, x2, row, o, q1, q2, pr, s, un, vn, w1, w2, u, v, rfl, et, hX1, hX2, s03 _ _ er, s03 _ _ eo, Lp, Lq, hD, lq2, w1p, w2p, by omega, by omega, lq1, fun c hc => (hr.b c hc).up (by decide), fun c hc => (ho.d.b c hc).up (by decide), b1, b2, bw1, bw2, hr.ub.up (by decide), ho.d.ub.up (by decide), fun H4 s4 => ⟨_, rfl, iteF (hN _ (s03.trans s4))⟩⟩
theorem chk_back {rest quo : List Int} {last lower : Nat} (ho : Dvs o s vn v) (hb : Drw rest last 3) (hq : Drw quo lower 4) (La : Low quo lower ar au) (Lb : Low rest last br bu) (lb : br.length < s.length) (ha : PAt K C H pa ar au) (hs : PAt K C H pq s v) (hB : PAt K C H pb br bu) (hN : ∀ H', Same H H' → D.nx [some (.ref a), some (.ref p), y2, some (.ref rl), some (.int (un : Int)), some (.ref ol), some (.int (vn : Int)), y7, y8, y9, y10, some (.ref pa), some (.ref pq), some (.ref pb), y14, none] H') :
    tIfS (tOr (tTest (tOp (rNeG (DTup K (DIns C (Rp K C)))) (tMeth C ("divided") (spDivided K C CD) [] (fun x x_1 x_2 => False) (tOp (rOwnBin C (spBin K C (SumTo 1)) E0) (tOp (rOwnBin C (spBin K C MulTo) E0) (tVar 11) (tVar 12)) (tVar 13)) (tCons (tVar 12) tNil)) (tTup (tCons (tVar 11) (tCons (tVar 13) tNil))))) (tTest (tOp (rNeG (DTup K (DIns C (Rp K C)))) (tMeth C ("divided") (spDivided K C CD) [] (fun x x_1 x_2 => False) (tOp (rOwnBin C (spBin K C MulTo) E0) (tVar 11) (tVar 12)) (tCons (tVar 12) tNil)) (tTup (tCons (tVar 11) (tCons (tMake C (spInit K C CR CU) [V.int 1] (fun x x_1 x_2 => False) (tCons (tLst tNil) tNil)) tNil)))))) (tRet (tC (V.bl false))) tNext D [some (.ref a), some (.ref p), y2, some (.ref rl), some (.int (un : Int)), some (.ref ol), some (.int (vn : Int)), y7, y8, y9, y10, some (.ref pa), some (.ref pq), some (.ref pb), y14, none] H := by
  have lo := ho.d.l
  have lso := ho.len
  have lar := La.len
  have lbr := Lb.len
  have l1 := hb.l
  have l2 := hq.l
  have smA : Sm ar au := La.sm (by omega) (fun c hc => (hq.b c hc).up (by decide)) (hq.ub.up (by decide))
  have smS : Sm s v := ho.L.sm (by omega) (fun c hc => (ho.d.b c hc).up (by decide)) (ho.d.ub.up (by decide))
  have smB : Sm br bu := Lb.sm (by omega) (fun c hc => (hb.b c hc).up (by decide)) (hb.ub.up (by decide))
  have bm : Bd 134 ((lower * vn : Nat) : Int) := by rw [Int.natCast_mul]; exact Bd.mul hq.ub ho.d.ub (by decide)
  have mb : ∀ c ∈ mulL quo o, Bd 409 c := mulL_bd hq.b ho.d.b (by omega) (by decide)
  have ml : (mulL quo o).length ≤ 8 := by rw [mulL_len]; omega
  have bs : ∀ c ∈ s, Bd 250 c := fun c hc => (ho.L.bd ho.d.b c hc).up (by decide)
  have bv : Bd 250 (v : Int) := (ho.L.ub ho.d.ub).up (by decide)
  -- (a * q + b).divided(q) != (a, b)
  refine ⟨_, rfl, _, rfl, rd_bin ha hs smA smS La.u1 ho.L.u1 fun x t z H1 s1 hx hm => ?_⟩
  have Lm := low_mul La ho.L hm (fun j => cf_mulL quo o j)
  have smX : Sm t z := Lm.sm (by omega) (fun c hc => (mb c hc).up (by decide)) (bm.up (by decide))
  refine ⟨_, rfl, rd_bin hx (hB.same s1) smX smB Lm.u1 Lb.u1 fun x2 t2 z2 H2 s2 hx2 hsum => ?_⟩
  have pl : (plusL ((mulL quo o).map fun c => c * (last : Int)) (rest.map fun c => c * ((lower * vn : Nat) : Int))).length ≤ 8 := by
    rw [plusL_len, List.length_map, List.length_map]
    omega
  have pb' : ∀ c ∈ plusL ((mulL quo o).map fun c => c * (last : Int)) (rest.map fun c => c * ((lower * vn : Nat) : Int)), Bd 500 c := plusL_bd (a := 499) (fun c hc => by
    obtain ⟨y, hy, rfl⟩ := List.mem_map.mp hc
    exact Bd.mul (mb y hy) hb.ub (by decide)) (fun c hc => by
    obtain ⟨y, hy, rfl⟩ := List.mem_map.mp hc
    exact Bd.mul (hb.b y hy) bm (by decide)) (by decide)
  have Ls : Low (plusL ((mulL quo o).map fun c => c * (last : Int)) (rest.map fun c => c * ((lower * vn : Nat) : Int))) (lower * vn * last) t2 z2 := low_sum Lm Lb hsum (Nat.mul_pos Lm.un0 Lb.un0) fun j => by
    rw [cf_plusL, cf_by, cf_by, Int.one_mul, Int.natCast_mul (lower * vn)]
  have bz2 : Bd 300 ((lower * vn * last : Nat) : Int) := by rw [Int.natCast_mul]; exact Bd.mul bm hb.ub (by decide)
  obtain ⟨dx, ra, g1, g2⟩ := id hx2
  have s02 := s1.trans s2
  refine ⟨x2, dx, _, rfl, g1, lk_div, ?_⟩
  refine ⟨_, rfl, x2, .ref pq, t2, s, z2, v, rfl, hx2, .inl ⟨pq, rfl, hs.same s02⟩, Nat.le_trans Ls.len (by omega), by omega, fun c hc => (Ls.bd pb' c hc).up (by decide), bs, Ls.u1, (Ls.ub bz2).up (by decide), ho.L.u1, bv, .inr ⟨ho.pos, ho.top, fun t3 x3 x4 q1 q2 w1 w2 H3 s3 et hX1 hX2 hD lq1 lq2 b1 b2 bw1 bw2 w1p w2p => ?_⟩⟩
  obtain ⟨⟨e1, e2⟩, e3, e4⟩ := div_unique hD Ls.u1 ho.L.u1 ho.pos ho.top La.self Lb.self lb (eq_sum hm hsum Lm.u1)
  subst e1 e2 e3 e4
  refine ⟨_, rfl, _, rfl, by show 2 ≤ sizeLine; decide, fun t5 ht5 => ?_⟩
  have s5 := same_new (o := .tup [V.ref pa, V.ref pb]) ht5
  have s35 := s3.trans s5
  refine rd_neT (s5 _ _ et) upd_same (prs_two (hX1.same s5) (ha.same (s02.trans s35)) (hX2.same s5) (hB.same (s02.trans s35)) (by omega) (by omega)) fun H6 s6 => ⟨_, rfl, iteF ?_⟩
  have s06 := s02.trans (s35.trans s6)
  have ha := ha.same s06
  have hs := hs.same s06
  clear et hX1 hX2 s5 s35 s6
  -- (a * q).divided(q) != (a, Piece([]))
  refine ⟨_, rfl, _, rfl, rd_bin ha hs smA smS La.u1 ho.L.u1 fun y t7 z7 H7 s7 hy hm7 => ?_⟩
  have Lm7 := low_mul La ho.L hm7 (fun j => cf_mulL quo o j)
  obtain ⟨dy, rb, k1, k2⟩ := id hy
  refine ⟨y, dy, _, rfl, k1, lk_div, ?_⟩
  refine ⟨_, rfl, y, .ref pq, t7, s, z7, v, rfl, hy, .inl ⟨pq, rfl, hs.same s7⟩, Nat.le_trans Lm7.len (by omega), by omega, fun c hc => (Lm7.bd mb c hc).up (by decide), bs, Lm7.u1, (Lm7.ub bm).up (by decide), ho.L.u1, bv, .inr ⟨ho.pos, ho.top, fun t8 x8 x9 q1 q2 w1 w2 H8 s8 et hX1 hX2 hD lq1 lq2 b1 b2 bw1 bw2 w1p w2p => ?_⟩⟩
  obtain ⟨⟨e1, e2⟩, e3, e4⟩ := div_unique hD Lm7.u1 ho.L.u1 ho.pos ho.top La.self low_nil ho.pos (eq_prod hm7)
  subst e1 e2 e3 e4
  refine ⟨_, rfl, Nat.zero_le _, fun l9 hl9 => ?_⟩
  have s9 := same_new (o := .lst []) hl9
  have e9 : (upd H8 l9 (.lst [])) l9 = some (.lst (([] : List Int).map V.int)) := upd_same
  generalize upd H8 l9 (.lst []) = H9 at s9 e9 ⊢
  refine mk_pcR (un := 1) (.inl (.inl (.inl e9))) (Nat.zero_le _) (by decide) (Bd.up (a := 1) (by unfold Bd; decide) (by decide)) fun p10 z10 w10 H10 L10 s10 hp10 => ?_
  obtain ⟨e1, e2⟩ := low_zero L10 fun j => cf_nil j
  subst e1 e2
  refine ⟨by show 2 ≤ sizeLine; decide, fun t11 ht11 => ?_⟩
  have s11 := same_new (o := .tup [V.ref pa, V.ref p10]) ht11
  have s811 := s9.trans (s10.trans s11)
  refine rd_neT (s811 _ _ et) upd_same (prs_two (hX1.same s811) (ha.same (s7.trans (s8.trans s811))) (hX2.same s811) (hp10.same s11) (by omega) (Nat.zero_le _)) fun H12 s12 => ⟨_, rfl, iteF (hN _ (s06.trans (s7.trans (s8.trans (s811.trans s12)))))⟩
theorem chk_num (hr : Drw row un 6) (er : H rl = some (.lst (row.map V.int))) (hn1 : 0 < nn) (hn2 : nn ≤ 9) (hN : ∀ H', Same H H' → D.nx [some (.ref a), some (.ref p), y2, some (.ref rl), some (.int (un : Int)), some (.ref ol), some (.int (vn : Int)), y7, y8, y9, y10, y11, y12, y13, some (.int (nn : Int)), none] H') :
    tIfS (tTest (tOp (rNeG (DTup K (DIns C (Rp K C)))) (tMeth C ("divided") (spDivided K C CD) [] (fun x x_1 x_2 => False) (tMake C (spInit K C CR CU) [] (fun x x_1 x_2 => False) (tCons (tVar 3) (tCons (tVar 4) tNil))) (tCons (tVar 14) tNil)) (tTup (tCons (tMake C (spInit K C CR CU) [] (fun x x_1 x_2 => False) (tCons (tVar 3) (tCons (tOp (rI CMulW fun i j => V.int (i * j)) (tVar 4) (tVar 14)) tNil))) (tCons (tMake C (spInit K C CR CU) [V.int 1] (fun x x_1 x_2 => False) (tCons (tLst tNil) tNil)) tNil))))) (tRet (tC (V.bl false))) tNext D [some (.ref a), some (.ref p), y2, some (.ref rl), some (.int (un : Int)), some (.ref ol), some (.int (vn : Int)), y7, y8, y9, y10, y11, y12, y13, some (.int (nn : Int)), none] H := by
  have lr := hr.l
  refine ⟨_, rfl, _, rfl, mk_pcR (un := un) (.inl (.inl (.inl er))) (by omega) hr.u (hr.ub.up (by decide)) fun p1 pr u H1 Lp s1 hp => ?_⟩
  obtain ⟨dx, ra, g1, g2⟩ := id hp
  have lpr := Lp.len
  have nz : (nn : Int) ≠ 0 := by omega
  obtain ⟨s, v, Ln⟩ := low_ex [(nn : Int)] (show 0 < 1 by decide)
  obtain ⟨n1, n2, n3, n4⟩ := num_low Ln nz
  have bn : ∀ c ∈ [(nn : Int)], Bd 10 c := fun c hc => by rw [List.mem_singleton.mp hc]; unfold Bd; omega
  have bnn : Bd 10 (nn : Int) := by unfold Bd; omega
  have ntop : cf s (s.length - 1) ≠ 0 := by rw [n1]; exact n2
  refine ⟨p1, dx, _, rfl, g1, lk_div, ?_⟩
  refine ⟨_, rfl, p1, .int (nn : Int), pr, s, u, v, rfl, hp, .inr ⟨(nn : Int), rfl, Ln⟩, by omega, by omega, fun c hc => (Lp.bd hr.b c hc).up (by decide), fun c hc => (Ln.bd bn c hc).up (by decide), Lp.u1, (Lp.ub hr.ub).up (by decide), Ln.u1, (Ln.ub (Bd.up (a := 1) (by unfold Bd; decide) (by decide) : Bd 250 ((1 : Nat) : Int))), .inr ⟨by omega, ntop, fun t x1 x2 q1 q2 w1 w2 H2 s2 et hX1 hX2 hD lq1 lq2 b1 b2 bw1 bw2 w1p w2p => ?_⟩⟩
  have bun : Bd 77 ((un * nn : Nat) : Int) := by rw [Int.natCast_mul]; exact Bd.mul hr.ub bnn (by decide)
  refine ⟨_, rfl, _, rfl, _, rfl, _, _, rfl, rfl, wide_mul hr.ub bnn (by decide) (by decide) (by decide), ?_⟩
  have er3 := s2 _ _ (s1 _ _ er)
  have s23 : Same H2 H2 := Same.refl _
  refine mk_pcRI (un := un * nn) (Int.natCast_mul un nn).symm (.inl (.inl (.inl er3))) (by omega) (Nat.mul_pos hr.u hn1) (bun.up (by decide)) fun p4 ar au H4 La s4 hp4 => ?_
  obtain ⟨⟨e1, e2⟩, e3, e4⟩ := div_unique hD Lp.u1 Ln.u1 (by omega) ntop La.self low_nil (by rw [n1]; decide) (eq_num (rowE := row) Lp La hn1 (fun j => rfl) n3 n4)
  subst e1 e2 e3 e4
  refine ⟨Nat.zero_le _, fun l9 hl9 => ?_⟩
  have s9 := same_new (o := .lst []) hl9
  have e9 : (upd H4 l9 (.lst [])) l9 = some (.lst (([] : List Int).map V.int)) := upd_same
  generalize upd H4 l9 (.lst []) = H9 at s9 e9 ⊢
  refine mk_pcR (un := 1) (.inl (.inl (.inl e9))) (Nat.zero_le _) (by decide) (Bd.up (a := 1) (by unfold Bd; decide) (by decide)) fun p10 z10 w10 H10 L10 s10 hp10 => ?_
  obtain ⟨e1, e2⟩ := low_zero L10 fun j => cf_nil j
  subst e1 e2
  refine ⟨by show 2 ≤ sizeLine; decide, fun t11 ht11 => ?_⟩
  have s11 := same_new (o := .tup [V.ref p4, V.ref p10]) ht11
  have s911 := s9.trans (s10.trans s11)
  have s211 := s23.trans (s4.trans s911)
  refine rd_neT (s211 _ _ et) upd_same (prs_two (hX1.same s211) (hp4.same s911) (hX2.same s211) (hp10.same s11) (by omega) (Nat.zero_le _)) fun H12 s12 => ⟨_, rfl, iteF (hN _ (s1.trans (s2.trans (s211.trans s12))))⟩
theorem chk_neg (hr : Drw row un 6) (er : H rl = some (.lst (row.map V.int))) (hn1 : 0 < nn) (hn2 : nn ≤ 9) (hN : ∀ H', Same H H' → D.nx [some (.ref a), some (.ref p), y2, some (.ref rl), some (.int (un : Int)), some (.ref ol), some (.int (vn : Int)), y7, y8, y9, y10, y11, y12, y13, some (.int (nn : Int)), none] H') :
    tIfS (tTest (tOp (rNeG (DTup K (DIns C (Rp K C)))) (tMeth C ("divided") (spDivided K C CD) [] (fun x x_1 x_2 => False) (tMake C (spInit K C CR CU) [] (fun x x_1 x_2 => False) (tCons (tVar 3) (tCons (tVar 4) tNil))) (tCons (tUn (rU fun i => V.int (-i)) (tVar 14)) tNil)) (tTup (tCons (tMake C (spInit K C CR CU) [] (fun x x_1 x_2 => False) (tCons (tLc (iSeq K (tVar 3)) (gName 15) tYes (tUn (rU fun i => V.int (-i)) (tVar 15)) (List.map (fun x => x.snd) [("entry", 15)])) (tCons (tOp (rI CMulW fun i j => V.int (i * j)) (tVar 4) (tVar 14)) tNil))) (tCons (tMake C (spInit K C CR CU) [V.int 1] (fun x x_1 x_2 => False) (tCons (tLst tNil) tNil)) tNil))))) (tRet (tC (V.bl false))) tNext D [some (.ref a), some (.ref p), y2, some (.ref rl), some (.int (un : Int)), some (.ref ol), some (.int (vn : Int)), y7, y8, y9, y10, y11, y12, y13, some (.int (nn : Int)), none] H := by
  have lr := hr.l
  refine ⟨_, rfl, _, rfl, mk_pcR (un := un) (.inl (.inl (.inl er))) (by omega) hr.u (hr.ub.up (by decide)) fun p1 pr u H1 Lp s1 hp => ?_⟩
  obtain ⟨dx, ra, g1, g2⟩ := id hp
  have lpr := Lp.len
  have nz : (-(nn : Int)) ≠ 0 := by omega
  obtain ⟨s, v, Ln⟩ := low_ex [(-(nn : Int))] (show 0 < 1 by decide)
  obtain ⟨n1, n2, n3, n4⟩ := num_low Ln nz
  have bn : ∀ c ∈ [(-(nn : Int))], Bd 10 c := fun c hc => by rw [List.mem_singleton.mp hc]; unfold Bd; omega
  have bnn : Bd 10 (nn : Int) := by unfold Bd; omega
  have ntop : cf s (s.length - 1) ≠ 0 := by rw [n1]; exact n2
  refine ⟨p1, dx, _, rfl, g1, lk_div, ?_⟩
  refine ⟨_, rfl, _, rfl, p1, .int (-(nn : Int)), pr, s, u, v, rfl, hp, .inr ⟨(-(nn : Int)), rfl, Ln⟩, by omega, by omega, fun c hc => (Lp.bd hr.b c hc).up (by decide), fun c hc => (Ln.bd bn c hc).up (by decide), Lp.u1, (Lp.ub hr.ub).up (by decide), Ln.u1, (Ln.ub (Bd.up (a := 1) (by unfold Bd; decide) (by decide) : Bd 250 ((1 : Nat) : Int))), .inr ⟨by omega, ntop, fun t x1 x2 q1 q2 w1 w2 H2 s2 et hX1 hX2 hD lq1 lq2 b1 b2 bw1 bw2 w1p w2p => ?_⟩⟩
  have bun : Bd 77 ((un * nn : Nat) : Int) := by rw [Int.natCast_mul]; exact Bd.mul hr.ub bnn (by decide)
  refine ⟨_, rfl, rl, rfl, lc_seqs (f := fun c => -c) (.inl (.inl (.inl (s2 _ _ (s1 _ _ er))))) (by omega) (fun c H R hc _ h => ⟨rfl, _, rfl, _, rfl, h⟩) fun D3 H3 hD3 s23 er3 => ?_⟩
  refine ⟨_, rfl, _, rfl, _, _, rfl, rfl, wide_mul hr.ub bnn (by decide) (by decide) (by decide), ?_⟩
  refine mk_pcRI (un := un * nn) (Int.natCast_mul un nn).symm (.inl (.inl (.inl er3))) (by rw [List.length_map]; omega) (Nat.mul_pos hr.u hn1) (bun.up (by decide)) fun p4 ar au H4 La s4 hp4 => ?_
  obtain ⟨⟨e1, e2⟩, e3, e4⟩ := div_unique hD Lp.u1 Ln.u1 (by omega) ntop La.self low_nil (by rw [n1]; decide) (eq_num (rowE := (ng row)) Lp La hn1 (fun j => by rw [cf_ng, Int.neg_mul_neg]) n3 n4)
  subst e1 e2 e3 e4
  refine ⟨Nat.zero_le _, fun l9 hl9 => ?_⟩
  have s9 := same_new (o := .lst []) hl9
  have e9 : (upd H4 l9 (.lst [])) l9 = some (.lst (([] : List Int).map V.int)) := upd_same
  generalize upd H4 l9 (.lst []) = H9 at s9 e9 ⊢
  refine mk_pcR (un := 1) (.inl (.inl (.inl e9))) (Nat.zero_le _) (by decide) (Bd.up (a := 1) (by unfold Bd; decide) (by decide)) fun p10 z10 w10 H10 L10 s10 hp10 => ?_
  obtain ⟨e1, e2⟩ := low_zero L10 fun j => cf_nil j
  subst e1 e2
  refine ⟨by show 2 ≤ sizeLine; decide, fun t11 ht11 => ?_⟩
  have s11 := same_new (o := .tup [V.ref p4, V.ref p10]) ht11
  have s911 := s9.trans (s10.trans s11)
  have s211 := s23.trans (s4.trans s911)
  refine rd_neT (s211 _ _ et) upd_same (prs_two (hX1.same s211) (hp4.same s911) (hX2.same s211) (hp10.same s11) (by omega) (Nat.zero_le _)) fun H12 s12 => ⟨_, rfl, iteF (hN _ (s1.trans (s2.trans (s211.trans s12))))⟩
theorem chk_ref {l : Addr} {ns : List Int} {a1 b1 : Int} (hr : Drw row un 6) (er : H rl = some (.lst (row.map V.int))) (hP : Pen H p l ns a1 b1) (ha1 : a1 ≤ 1073741824) (hN : ∀ H' a' b', Pen H' p l ns a' b' → a' ≤ a1 + 1 → D.nx [some (.ref a), some (.ref p), y2, some (.ref rl), some (.int (un : Int)), some (.ref ol), some (.int (vn : Int)), y7, y8, y9, y10, y11, y12, y13, y14, none] H') :
    tIfS (tNot (tB (tCall (spRefd K C) [] E0 (tCons (tMake C (spInit K C CR CU) [] (fun x x_1 x_2 => False) (tCons (tVar 3) (tCons (tVar 4) tNil))) (tCons (tCall (spPick K) [] E0 (tCons (tVar 1) (tCons (tLst (tCons (tC (V.int 0)) (tCons (tMake C (spInit K C CR CU) [V.int 1] (fun x x_1 x_2 => False) (tCons (tLst tNil) tNil)) (tCons (tMake C (spInit K C CR CU) [] (fun x x_1 x_2 => False) (tCons (tLst (tCons (tC (V.int 0)) (tCons (tC (V.int 0)) tNil))) (tCons (tC (V.int 5)) tNil))) tNil)))) tNil))) tNil))))) (tRet (tC (V.bl false))) tNext D [some (.ref a), some (.ref p), y2, some (.ref rl), some (.int (un : Int)), some (.ref ol), some (.int (vn : Int)), y7, y8, y9, y10, y11, y12, y13, y14, none] H := by
  have lr := hr.l
  refine ⟨_, rfl, _, rfl, mk_pcR (un := un) (.inl (.inl (.inl er))) (by omega) hr.u (hr.ub.up (by decide)) fun p1 pr u H1 Lp s1 hp => ?_⟩
  have lpr := Lp.len
  refine ⟨_, rfl, Nat.zero_le _, fun l9 hl9 => ?_⟩
  have s9 := same_new (o := .lst []) hl9
  have e9 : (upd H1 l9 (.lst [])) l9 = some (.lst (([] : List Int).map V.int)) := upd_same
  generalize upd H1 l9 (.lst []) = H9 at s9 e9 ⊢
  refine mk_pcR (un := 1) (.inl (.inl (.inl e9))) (Nat.zero_le _) (by decide) (Bd.up (a := 1) (by unfold Bd; decide) (by decide)) fun p10 z10 w10 H10 L10 s10 hp10 => ?_
  obtain ⟨e1, e2⟩ := low_zero L10 fun j => cf_nil j
  subst e1 e2
  refine ⟨by show 2 ≤ sizeLine; decide, fun l11 hl11 => ?_⟩
  have s11 := same_new (o := .lst [.int 0, .int 0]) hl11
  have e11 : (upd H10 l11 (.lst [.int 0, .int 0])) l11 = some (.lst (([0, 0] : List Int).map V.int)) := upd_same
  generalize upd H10 l11 (.lst [.int 0, .int 0]) = H11 at s11 e11 ⊢
  refine mk_pcR (un := 5) (.inl (.inl (.inl e11))) (by show 2 ≤ 100; decide) (by decide) (Bd.up (a := 5) (by unfold Bd; decide) (by decide)) fun p12 z12 w12 H12 L12 s12 hp12 => ?_
  obtain ⟨e1, e2⟩ := low_zero L12 fun j => by
    match j with
    | 0 => rfl
    | 1 => rfl
    | n + 2 => exact cf_ge (by show 2 ≤ n + 2; omega)
  subst e1 e2
  refine ⟨by show 3 ≤ sizeLine; decide, fun l13 hl13 => ?_⟩
  have s13 := same_new (o := .lst [V.int 0, V.ref p10, V.ref p12]) hl13
  have e13 : (upd H12 l13 (.lst [V.int 0, V.ref p10, V.ref p12])) l13 = some (.lst [V.int 0, V.ref p10, V.ref p12]) := upd_same
  generalize upd H12 l13 (.lst [V.int 0, V.ref p10, V.ref p12]) = H13 at s13 e13 ⊢
  have s112 := s9.trans (s10.trans (s11.trans (s12.trans s13)))
  have hP13 := hP.same (s1.trans s112)
  refine ⟨p, l, l13, ns, a1, b1, _, rfl, hP13, ha1, .inl (.inl e13), ne_of e13 hP13.hd (by intro q; cases q), by show 1 ≤ 3; decide, by show 3 ≤ 100000; decide, fun j y a5 b5 H14 hj ha5 hP14 hK14 => ?_⟩
  have hy : ∃ v, Opd K C H14 y [] v ∧ 0 < v ∧ Bd 250 (v : Int) := by
    have b1 : Bd 250 ((1 : Nat) : Int) := Bd.up (a := 1) (by unfold Bd; decide) (by decide)
    match j, hj with
    | 0, e =>
      injection e with e
      subst e
      refine ⟨1, .inr ⟨0, rfl, low_nil.move (by decide) fun j => ?_⟩, by decide, b1⟩
      rw [cf_nil, Int.zero_mul]
      match j with
      | 0 => rfl
      | n + 1 => rw [cf_ge (r := [0]) (by show 1 ≤ n + 1; omega), Int.zero_mul]
    | 1, e =>
      injection e with e
      subst e
      exact ⟨1, .inl ⟨p10, rfl, (hp10.same (s11.trans (s12.trans s13))).kp hK14 hP13.hd⟩, by decide, b1⟩
    | 2, e =>
      injection e with e
      subst e
      exact ⟨1, .inl ⟨p12, rfl, (hp12.same s13).kp hK14 hP13.hd⟩, by decide, b1⟩
    | n + 3, e => cases e
  obtain ⟨v, hO, hv, hvb⟩ := hy
  exact ⟨p1, y, pr, u, v, rfl, (hp.same s112).kp hK14 hP13.hd, hO, by omega, fun c hc => (Lp.bd hr.b c hc).up (by decide), Lp.u1, (Lp.ub hr.ub).up (by decide), hv, hvb, fun H15 s15 => ⟨_, rfl, iteF (hN _ _ _ (hP14.same s15) (by omega))⟩⟩
end
end Ef
set_option Elab.async false
set_option linter.all false
set_option maxRecDepth 100000
set_option maxHeartbeats 8000000
namespace Ef
open PySem PySem.Spec PyProof.Rows L2
abbrev sLaw : Stmt := top 42
theorem cut_take (xs : List V) (k : Nat) : cutV xs none (some (k : Int)) = xs.take k := by
  unfold cutV
  rw [HT.sIx_none, HT.sIx_nat, List.drop_zero, Nat.sub_zero]
  rcases Nat.lt_or_ge k xs.length with z | z
  · rw [Nat.min_eq_left (by omega)]
  · rw [Nat.min_eq_right z, List.take_length, List.take_of_length_le z]
section
variable {P : Program} {w : World} {K : PySem.W.Frag} {mg : Str → Option Value} {base : Heap}
def spLaw (K : PySem.W.Frag) : Sp := fun vs H Q _ => ∃ (a : Addr) (ns : List Int), vs = [.ref a] ∧ SqL K H a (ns.map V.int) ∧ ns.length ≤ 63 ∧ ∀ H', Q (.bl true) H'
theorem scLaw : FnScope ["script", "pen", "turn", "row", "under", "other", "below", "rest", "last", "quotient", "lower", "a", "q", "b", "number", "entry"] ["script"] (defScope sLaw) := ⟨rfl, rfl, rfl, by decide +kernel, rfl, by decide +kernel, by decide +kernel⟩
theorem ok_law {f C CR CU CD fI fD fE : Addr} {fd fdI fdD fdE : FuncData} {ds : List Value} (F : Fun K "law" "law" sLaw f fd)
    (T : TxtJ mg) (CW : ClsR K mg C) (M : Mk K C fI) (FI : FnOk P w K mg base (CX P w) 4 fI fdI ["self", "row", "under"] (spInit K C CR CU)) (bI : Binds K fdI ["self", "row", "under"] []) (bI1 : Binds K fdI ["self", "row", "under"] ds) (hd1 : Vals [.int 1] ds) (OC : OpsC K C)
    (OA : OwnG P w K mg base CX0 7 C "__add__" ["self", "other"] (spBin K C (SumTo 1))) (OM : OwnG P w K mg base CX0 7 C "__mul__" ["self", "other"] (spBin K C MulTo))
    (MD : Meth K C "divided" fD) (GD : FnOk P w K mg base (CX P w) 7 fD fdD ["self", "q"] (spDivided K C CD)) (bD : Binds K fdD ["self", "q"] [])
    (GE : FnOk P w K mg base CX0 1 fE fdE ["self", "other"] (L2.spEq (Rp K C))) (hsE : PySem.W.findIn K (.ref C) "__eq__" = some (some (.ref fE))) (hfE : PySem.W.isFn K (.ref fE) = true) (bE : Binds K fdE ["self", "other"] [])
    (Dpen : Df P w K mg base 1 "_law_pen" ["script"] (spPen K)) (Ddraw : Df P w K mg base 1 "_law_draw" ["pen", "many"] spDraw) (Dpick : Df P w K mg base 2 "_law_pick" ["pen", "some"] (spPick K))
    (Dfraction : Df P w K mg base 4 "_law_fraction" ["pen", "most"] spFrac) (Dtrimmed : Df P w K mg base 1 "_law_trimmed" ["row"] (spLtrim K)) (Dfits : Df P w K mg base 6 "_law_fits" ["told", "row", "under", "other", "below"] (spFits K C)) (Disrefused : Df P w K mg base 8 "_law_is_refused" ["piece", "by"] (spRefd K C)) :
    FnOk P w K mg base CX0 9 f fd ["script"] (spLaw K) := by
  refine F.ok scLaw (fun vs H Q E h => ?_) (fun cdv A outer s H vs Q E hr h => ?_)
  · obtain ⟨a, ns, rfl, _⟩ := h
    rfl
  · obtain ⟨a, ns, rfl, hS, hlen, q⟩ := h
    refine ⟨_, (pss_cons (ps_set (i := 1) scLaw.nd rfl (.inl rfl) (Dpen.call (hr.mono (by decide)) (pa_cons (pv 0) pa_nil)))
      (pss_cons (ps_for PassesOwn.never rfl (pi_range1 (by rfl) T.range (pa_cons (pe_op op_add pe_int (pe_callB (call_min2 rfl) (by rfl) T.min (by decide +kernel) (pa_cons pe_int (pa_cons (pe_callB call_len_seq (by rfl) T.len PySem.boot_len (pa_cons (pv 0) pa_nil)) pa_nil)))) pa_nil)) (pg_name (i := 2) scLaw.nd rfl (.inl rfl))
      (pss_cons (ps_asg (pe_tup (pa_cons (Dfraction.call (hr.mono (by decide)) (pa_cons (pv 1) (pa_cons pe_int pa_nil))) (pa_cons (Dfraction.call (hr.mono (by decide)) (pa_cons (pv 1) (pa_cons pe_int pa_nil))) pa_nil))) (pg_tup (by rfl) (pgs_cons (pg_tup (by rfl) (pgs_cons (pg_name (i := 3) scLaw.nd rfl (.inl rfl)) (pgs_cons (pg_name (i := 4) scLaw.nd rfl (.inl rfl)) pgs_nil))) (pgs_cons (pg_tup (by rfl) (pgs_cons (pg_name (i := 5) scLaw.nd rfl (.inl rfl)) (pgs_cons (pg_name (i := 6) scLaw.nd rfl (.inl rfl)) pgs_nil))) pgs_nil))))
      (pss_cons (ps_set (i := 5) scLaw.nd rfl (.inl rfl) (Dtrimmed.call (hr.mono (by decide)) (pa_cons (pv 5) pa_nil)))
      (pss_cons (ps_if (pt_cmpR (op_eqD hr.units) (pv 5) (pe_lst pa_nil) (nomark _)) (pss_one (ps_set (i := 5) scLaw.nd rfl (.inl rfl) (pe_lst (pa_cons (pe_op op_add pe_int (Ddraw.call (hr.mono (by decide)) (pa_cons (pv 1) (pa_cons pe_int pa_nil)))) pa_nil)))) pss_nil)
      (pss_cons (ps_if (pt_not (pt_val (Dfits.call (hr.mono (by decide)) (pa_cons (pe_meth (pe_make M FI (hr.mono (by decide)) (by rfl) CW.mgC bI .nil passF (pa_cons (pv 3) (pa_cons (pv 4) pa_nil))) CW.cl MD GD (hr.mono (by decide)) bD .nil passF (pa_cons (pe_make M FI (hr.mono (by decide)) (by rfl) CW.mgC bI .nil passF (pa_cons (pv 5) (pa_cons (pv 6) pa_nil))) pa_nil)) (pa_cons (pv 3) (pa_cons (pv 4) (pa_cons (pv 5) (pa_cons (pv 6) pa_nil)))))))) (pss_one (ps_ret pe_bl)) pss_nil)
      (pss_cons (ps_asg (pe_tup (pa_cons (Dfraction.call (hr.mono (by decide)) (pa_cons (pv 1) (pa_cons pe_int pa_nil))) (pa_cons (Dfraction.call (hr.mono (by decide)) (pa_cons (pv 1) (pa_cons pe_int pa_nil))) pa_nil))) (pg_tup (by rfl) (pgs_cons (pg_tup (by rfl) (pgs_cons (pg_name (i := 7) scLaw.nd rfl (.inl rfl)) (pgs_cons (pg_name (i := 8) scLaw.nd rfl (.inl rfl)) pgs_nil))) (pgs_cons (pg_tup (by rfl) (pgs_cons (pg_name (i := 9) scLaw.nd rfl (.inl rfl)) (pgs_cons (pg_name (i := 10) scLaw.nd rfl (.inl rfl)) pgs_nil))) pgs_nil))))
      (pss_cons (ps_par3 (i := 11) (j := 12) (l := 13) (by rfl) scLaw.nd rfl rfl rfl (by decide) (by decide) (by decide) rfl rfl rfl (pa_cons (pe_make M FI (hr.mono (by decide)) (by rfl) CW.mgC bI .nil passF (pa_cons (pv 9) (pa_cons (pv 10) pa_nil))) (pa_cons (pe_make M FI (hr.mono (by decide)) (by rfl) CW.mgC bI .nil passF (pa_cons (pv 5) (pa_cons (pv 6) pa_nil))) (pa_cons (pe_make M FI (hr.mono (by decide)) (by rfl) CW.mgC bI .nil passF (pa_cons (pe_slice sl_list (pv 7) po_none (po_some (pe_op op_sub (pe_callB call_len_seq (by rfl) T.len PySem.boot_len (pa_cons (pv 5) pa_nil)) pe_int))) (pa_cons (pv 8) pa_nil))) pa_nil))) (by rfl))
      (pss_cons (ps_if (pw_or (pt_cmpR (op_neG (mon_ins (mon_rp K C)) (eqG_ins GE hsE hfE bE pass0) (hr.mono (by decide))) (pe_meth (pe_op (op_bin_own (op := .Add) rfl rfl OA OC.hd (hr.mono (by decide)) pass0) (pe_op (op_bin_own (op := .Mult) rfl rfl OM OC.hd (hr.mono (by decide)) pass0) (pv 11) (pv 12)) (pv 13)) CW.cl MD GD (hr.mono (by decide)) bD .nil passF (pa_cons (pv 12) pa_nil)) (pe_tup (pa_cons (pv 11) (pa_cons (pv 13) pa_nil))) (nomark _)) (pw_or1 (pt_cmpR (op_neG (mon_ins (mon_rp K C)) (eqG_ins GE hsE hfE bE pass0) (hr.mono (by decide))) (pe_meth (pe_op (op_bin_own (op := .Mult) rfl rfl OM OC.hd (hr.mono (by decide)) pass0) (pv 11) (pv 12)) CW.cl MD GD (hr.mono (by decide)) bD .nil passF (pa_cons (pv 12) pa_nil)) (pe_tup (pa_cons (pv 11) (pa_cons (pe_make M FI (hr.mono (by decide)) (by rfl) CW.mgC bI1 hd1 passF (pa_cons (pe_lst pa_nil) pa_nil)) pa_nil))) (nomark _)))).pt (pss_one (ps_ret pe_bl)) pss_nil)
      (pss_cons (ps_set (i := 14) scLaw.nd rfl (.inl rfl) (pe_op op_add pe_int (Ddraw.call (hr.mono (by decide)) (pa_cons (pv 1) (pa_cons pe_int pa_nil)))))
      (pss_cons (ps_if (pt_cmpR (op_neG (mon_ins (mon_rp K C)) (eqG_ins GE hsE hfE bE pass0) (hr.mono (by decide))) (pe_meth (pe_make M FI (hr.mono (by decide)) (by rfl) CW.mgC bI .nil passF (pa_cons (pv 3) (pa_cons (pv 4) pa_nil))) CW.cl MD GD (hr.mono (by decide)) bD .nil passF (pa_cons (pv 14) pa_nil)) (pe_tup (pa_cons (pe_make M FI (hr.mono (by decide)) (by rfl) CW.mgC bI .nil passF (pa_cons (pv 3) (pa_cons (pe_op op_mulW (pv 4) (pv 14)) pa_nil))) (pa_cons (pe_make M FI (hr.mono (by decide)) (by rfl) CW.mgC bI1 hd1 passF (pa_cons (pe_lst pa_nil) pa_nil)) pa_nil))) (nomark _)) (pss_one (ps_ret pe_bl)) pss_nil)
      (pss_cons (ps_if (pt_cmpR (op_neG (mon_ins (mon_rp K C)) (eqG_ins GE hsE hfE bE pass0) (hr.mono (by decide))) (pe_meth (pe_make M FI (hr.mono (by decide)) (by rfl) CW.mgC bI .nil passF (pa_cons (pv 3) (pa_cons (pv 4) pa_nil))) CW.cl MD GD (hr.mono (by decide)) bD .nil passF (pa_cons (pe_un un_neg (pv 14)) pa_nil)) (pe_tup (pa_cons (pe_make M FI (hr.mono (by decide)) (by rfl) CW.mgC bI .nil passF (pa_cons (pe_lc (own := [("entry", 15)]) (g := gName 15) (by rfl) scLaw.nd (pi_seq (pv 3)) (blkOk_by (own := [("entry", 15)]) (N := ["script", "pen", "turn", "row", "under", "other", "below", "rest", "last", "quotient", "lower", "a", "q", "b", "number", "entry"]) (sc := defScope sLaw) (by decide +kernel)) (fun _ _ _ _ _ => pg_name (i := 15) scLaw.nd rfl (Or.inl rfl)) (fun _ _ _ _ _ => pts_nil) (fun _ _ _ _ _ => (pe_un un_neg (pv 15)))) (pa_cons (pe_op op_mulW (pv 4) (pv 14)) pa_nil))) (pa_cons (pe_make M FI (hr.mono (by decide)) (by rfl) CW.mgC bI1 hd1 passF (pa_cons (pe_lst pa_nil) pa_nil)) pa_nil))) (nomark _)) (pss_one (ps_ret pe_bl)) pss_nil)
      (pss_one (ps_if (pt_not (pt_val (Disrefused.call (hr.mono (by decide)) (pa_cons (pe_make M FI (hr.mono (by decide)) (by rfl) CW.mgC bI .nil passF (pa_cons (pv 3) (pa_cons (pv 4) pa_nil))) (pa_cons (Dpick.call (hr.mono (by decide)) (pa_cons (pv 1) (pa_cons (pe_lst (pa_cons pe_int (pa_cons (pe_make M FI (hr.mono (by decide)) (by rfl) CW.mgC bI1 hd1 passF (pa_cons (pe_lst pa_nil) pa_nil)) (pa_cons (pe_make M FI (hr.mono (by decide)) (by rfl) CW.mgC bI .nil passF (pa_cons (pe_lst (pa_cons pe_int (pa_cons pe_int pa_nil))) (pa_cons pe_int pa_nil))) pa_nil)))) pa_nil))) pa_nil))))) (pss_one (ps_ret pe_bl)) pss_nil)))))))))))))
      (pss_one (ps_ret (pe_cmpR (op_eqG (rcG_tup (mon_ins (mon_rp K C)) (eqG_ins GE hsE hfE bE pass0)) (hr.mono (by decide))) (pe_meth (pe_make M FI (hr.mono (by decide)) (by rfl) CW.mgC bI1 hd1 passF (pa_cons (pe_lst pa_nil) pa_nil)) CW.cl MD GD (hr.mono (by decide)) bD .nil passF (pa_cons (pe_make M FI (hr.mono (by decide)) (by rfl) CW.mgC bI1 hd1 passF (pa_cons (pe_lst (pa_cons pe_int (pa_cons pe_int pa_nil))) pa_nil)) pa_nil)) (pe_tup (pa_cons (pe_make M FI (hr.mono (by decide)) (by rfl) CW.mgC bI1 hd1 passF (pa_cons (pe_lst pa_nil) pa_nil)) (pa_cons (pe_make M FI (hr.mono (by decide)) (by rfl) CW.mgC bI1 hd1 passF (pa_cons (pe_lst pa_nil) pa_nil)) pa_nil))) (nomark _)))))), ?_⟩
    refine ⟨_, rfl, a, ns, rfl, hS, hlen, fun p l H0 hp0 s0 hP0 => ?_⟩
    refine ⟨_, rfl, a, _, rfl, .inl (s0.seq hS), _, _, rfl, _, _, rfl, rfl, ?_⟩
    have hz : ∃ z : Int, (if (((ns.map V.int).length : Nat) : Int) < 4 then (((ns.map V.int).length : Nat) : Int) else 4) = z ∧ 0 ≤ z ∧ z ≤ 4 := by
      refine ⟨_, rfl, ?_, ?_⟩ <;> split <;> omega
    obtain ⟨z, ez, z0, z4⟩ := hz
    rw [ez]
    refine ⟨_, rfl, by omega, by omega, ?_⟩
    refine for_range (lo := 0) (n := (4 + z).toNat) (fun i σ H' => ∃ (a' b' : Int) (y2 y3 y4 y5 y6 y7 y8 y9 y10 y11 y12 y13 y14 : Option V), Pen H' p l ns a' b' ∧ a' ≤ 10000 * i ∧ σ = [some (.ref a), some (.ref p), y2, y3, y4, y5, y6, y7, y8, y9, y10, y11, y12, y13, y14, none])
      ⟨0, 0, none, none, none, none, none, none, none, none, none, none, none, none, none, hP0, by omega, rfl⟩ ?_ ?_
    · rintro i σ H1 hi ⟨a1, b1, y2, y3, y4, y5, y6, y7, y8, y9, y10, y11, y12, y13, y14, hP1, ha1, rfl⟩
      have hi9 : i < 8 := by omega
      refine ⟨_, rfl, p, l, ns, a1, b1, 5, rfl, by decide, hP1, by omega, fun tF rl r un a3 b3 H3 hF ha3 hP3 hK3 => ?_⟩
      refine ⟨_, rfl, p, l, ns, a3, b3, 3, rfl, by decide, hP3, by omega, fun tG ol0 o0 vn a4 b4 H4 hG ha4 hP4 hK4 => ?_⟩
      have hF4 : H4 tF = some (.tup [.ref rl, .int (un : Int)]) := hK4 _ _ (ne_of hF.ht hP3.hd (by intro q; cases q)) hF.ht
      have er4 := hK4 _ _ (ne_of hF.hl hP3.hd (by intro q; cases q)) hF.hl
      refine ⟨by show 2 ≤ sizeLine; decide, fun t5 ht5 => ?_⟩
      have s5 := same_new (o := .tup [.ref tF, .ref tG]) ht5
      have e5 : (upd H4 t5 (.tup [.ref tF, .ref tG])) t5 = some (.tup [.ref tF, .ref tG]) := upd_same
      generalize upd H4 t5 (.tup [.ref tF, .ref tG]) = H5 at s5 e5 ⊢
      refine ⟨t5, _, rfl, .inl (.inl e5), rfl, _, _, rfl, tF, _, rfl, .inl (.inl (s5 _ _ hF4)), rfl, _, _, rfl, _, _, rfl, rfl, _, _, rfl, tG, _, rfl, .inl (.inl (s5 _ _ hG.ht)), rfl, _, _, rfl, _, _, rfl, rfl, rfl, ?_⟩
      have hrow : Drw r un 6 := ⟨hF.len, hF.bd, hF.u1, hF.ub⟩
      have lo0 := hG.len
      -- trimmed
      refine ⟨_, rfl, ol0, o0, rfl, .inl (.inl (s5 _ _ hG.hl)), by omega, fun H6 ol o n6 s6 eo6 hT => ?_⟩
      have s56 := s5.trans s6
      have hP6 := hP4.same s56
      have er6 := s56 _ _ er4
      have lo := trim_len hT
      have bo : ∀ c ∈ o, Bd 201 c := fun c hc => by
        obtain ⟨k, hk, rfl, _⟩ := hT
        exact hG.bd c (List.mem_of_mem_take hc)
      -- other == []
      refine ⟨_, rfl, Nat.zero_le _, fun l7 hl7 => ?_⟩
      have s7 := same_new (o := .lst []) hl7
      have e7 : (upd H6 l7 (.lst [])) l7 = some (.lst []) := upd_same
      generalize upd H6 l7 (.lst []) = H7 at s7 e7 ⊢
      have eo7 := s7 _ _ eo6
      have er7 := s7 _ _ er6
      have hP7 := hP6.same s7
      refine ⟨_, _, .lst (.inl (.inl eo7)) (dp_ints o), .lst (.inl (.inl e7)) .nil, (sh_list (can_ints o).1 (can_ints o).2).1, (sh_list rfl rfl).1, _, rfl, ?_⟩
      rw [eqv_nil]
      refine ite2 (fun ho => ?g1) (fun ho => ?g2)
      case' g1 =>
        refine ⟨_, rfl, p, l, ns, a4, b4, _, rfl, hP7, by omega, by decide, by decide, fun d a8 b8 H8 d0 d1 ha8 hP8 hK8 => ?_⟩
        have er8 := hK8 _ _ (ne_of er7 hP7.hd (by intro q; cases q)) er7
        refine ⟨_, _, rfl, rfl, by show 1 ≤ sizeLine; decide, fun ol ht9 => ?_⟩
        have s9 := same_new (o := .lst [.int (1 + d)]) ht9
        have eo : (upd H8 ol (.lst [.int (1 + d)])) ol = some (.lst ([1 + d].map V.int)) := upd_same
        have er := s9 _ _ er8
        have hPn := hP8.same s9
        clear s9 hP8 er8
        generalize upd H8 ol (.lst [.int (1 + d)]) = H9 at eo er hPn ⊢
        have ht1 : TrimOk [1 + d] [1 + d] := ⟨1, Nat.le_refl _, rfl, fun j h1 h2 => by have h2 : j < 1 := h2; omega, .inr ⟨1 + d, rfl, by omega⟩⟩
        have ho1 : Drw [1 + d] vn 4 := ⟨by show 1 ≤ 4; decide, fun c hc => by rw [List.mem_singleton.mp hc]; exact bd_small (by omega) (by omega) (by decide), hG.u1, hG.ub⟩
        have hn1 : 0 < [1 + d].length := by show 0 < 1; decide
        generalize [1 + d] = o at eo ht1 ho1 hn1
        have ha8 : a8 ≤ a4 + 1 := by omega
      case' g2 =>
        have ht1 : TrimOk o o := by
          obtain ⟨k, hk, rfl, hz, hl⟩ := hT
          refine ⟨_, Nat.le_refl _, List.take_length.symm, fun j h1 h2 => absurd h2 (by omega), ?_⟩
          rcases hl with rfl | ⟨c, hc, h0⟩
          · exact .inl (by rw [List.length_take]; omega)
          · refine .inr ⟨c, ?_, h0⟩
            have hk0 : 0 < k := by
              rcases Nat.eq_zero_or_pos k with z | z
              · subst z
                exact absurd rfl ho
              · exact z
            rw [List.length_take, Nat.min_eq_left hk, List.getElem?_take_of_lt (by omega)]
            exact hc
        have ho1 : Drw o vn 4 := ⟨by omega, bo, hG.u1, hG.ub⟩
        have hn1 : 0 < o.length := by
          cases o with
          | nil => exact absurd rfl ho
          | cons c o => exact Nat.succ_pos _
        have eo := eo7
        have er := er7
        have hPn := hP7
        obtain ⟨a8, b8, ha8, hPn⟩ : ∃ a8 b8, a8 ≤ a4 + 1 ∧ Pen H7 p l ns a8 b8 := ⟨a4, b4, by omega, hPn⟩
      all_goals
        obtain ⟨s, v, Lo⟩ := low_ex o ho1.u
        have hod : Dvs o s vn v := ⟨ho1, ht1, hn1, Lo⟩
        refine chk_fits hrow hod er eo fun Hx sx => ?_
        have er := sx _ _ er
        have eo := sx _ _ eo
        have hPn := hPn.same sx
        clear sx
        -- the second drawing
        refine ⟨_, rfl, p, l, ns, a8, b8, 2, rfl, by decide, hPn, by omega, fun tR bl rs la a9 b9 H9 hR ha9 hP9 hK9 => ?_⟩
        have er9 := hK9 _ _ (ne_of er hPn.hd (by intro q; cases q)) er
        have eo9 := hK9 _ _ (ne_of eo hPn.hd (by intro q; cases q)) eo
        refine ⟨_, rfl, p, l, ns, a9, b9, 3, rfl, by decide, hP9, by omega, fun tQ ql qs lw a10 b10 H10 hQ ha10 hP10 hK10 => ?_⟩
        have er := hK10 _ _ (ne_of er9 hP9.hd (by intro q; cases q)) er9
        have eo := hK10 _ _ (ne_of eo9 hP9.hd (by intro q; cases q)) eo9
        have hR10 : H10 tR = some (.tup [.ref bl, .int (la : Int)]) := hK10 _ _ (ne_of hR.ht hP9.hd (by intro q; cases q)) hR.ht
        have eb10 := hK10 _ _ (ne_of hR.hl hP9.hd (by intro q; cases q)) hR.hl
        refine ⟨by show 2 ≤ sizeLine; decide, fun t11 ht11 => ?_⟩
        have s11 := same_new (o := .tup [.ref tR, .ref tQ]) ht11
        have e11 : (upd H10 t11 (.tup [.ref tR, .ref tQ])) t11 = some (.tup [.ref tR, .ref tQ]) := upd_same
        generalize upd H10 t11 (.tup [.ref tR, .ref tQ]) = H11 at s11 e11 ⊢
        refine ⟨t11, _, rfl, .inl (.inl e11), rfl, _, _, rfl, tR, _, rfl, .inl (.inl (s11 _ _ hR10)), rfl, _, _, rfl, _, _, rfl, rfl, _, _, rfl, tQ, _, rfl, .inl (.inl (s11 _ _ hQ.ht)), rfl, _, _, rfl, _, _, rfl, rfl, rfl, ?_⟩
        have er := s11 _ _ er
        have eo := s11 _ _ eo
        have eb := s11 _ _ eb10
        have eq := s11 _ _ hQ.hl
        have hPn := hP10.same s11
        clear e11 s11
        -- a, q, b
        refine ⟨_, rfl, _, rfl, mk_pcR (un := lw) (.inl (.inl (.inl eq))) (Nat.le_trans hQ.len (by decide)) hQ.u1 (hQ.ub.up (by decide)) fun pa ar au H12 La s12 hpa => ?_⟩
        refine ⟨_, rfl, _, rfl, mk_pcR (un := vn) (.inl (.inl (.inl (s12 _ _ eo)))) (Nat.le_trans ho1.l (by decide)) ho1.u (ho1.ub.up (by decide)) fun pq s' v' H13 Ls s13 hpq => ?_⟩
        obtain ⟨es1, es2⟩ := Lo.unique Ls fun j => rfl
        subst es1 es2
        refine ⟨_, rfl, _, rfl, ol, _, rfl, .inl (.inl (.inl (s13 _ _ (s12 _ _ eo)))), _, _, rfl, rfl, _, rfl, bl, _, rfl, .inl (.inl (s13 _ _ (s12 _ _ eb))), fun t14 ht14 => ?_⟩
        rw [List.length_map, show (o.length : Int) - 1 = ((o.length - 1 : Nat) : Int) by omega, cut_take, ← List.map_take]
        have s14 := same_new (o := .lst ((rs.take (o.length - 1)).map V.int)) ht14
        have e14 : (upd H13 t14 (.lst ((rs.take (o.length - 1)).map V.int))) t14 = some (.lst ((rs.take (o.length - 1)).map V.int)) := upd_same
        generalize upd H13 t14 (.lst ((rs.take (o.length - 1)).map V.int)) = H14 at s14 e14 ⊢
        have lrs := hR.len
        have ltk : (rs.take (o.length - 1)).length ≤ o.length - 1 := by rw [List.length_take]; exact Nat.min_le_left _ _
        have hbd : Drw (rs.take (o.length - 1)) la 3 := ⟨by rw [List.length_take]; omega, fun c hc => hR.bd c (List.mem_of_mem_take hc), hR.u1, hR.ub⟩
        refine ⟨_, rfl, mk_pcR (un := la) (.inl (.inl (.inl e14))) (Nat.le_trans hbd.l (by decide)) hR.u1 (hR.ub.up (by decide)) fun pb br bu H15 Lb s15 hpb => ?_⟩
        refine ⟨_, _, _, rfl, ?_⟩
        have s125 := s13.trans (s14.trans s15)
        have er := s125 _ _ (s12 _ _ er)
        have hPn := hPn.same (s12.trans s125)
        have lbr : br.length < s.length := by
          have h1 := Lb.len
          have h2 := hod.len
          omega
        refine chk_back hod hbd ⟨hQ.len, hQ.bd, hQ.u1, hQ.ub⟩ La Lb lbr (hpa.same s125) (hpq.same (s14.trans s15)) hpb fun Hx sx => ?_
        have er := sx _ _ er
        have hPn := hPn.same sx
        clear sx
        -- number
        refine ⟨_, rfl, p, l, ns, a10, b10, _, rfl, hPn, by omega, by decide, by decide, fun d16 a16 b16 H16 d160 d161 ha16 hP16 hK16 => ?_⟩
        have er := hK16 _ _ (ne_of er hPn.hd (by intro q; cases q)) er
        have hPn := hP16
        obtain ⟨nn, hnn⟩ : ∃ nn : Nat, (1 : Int) + d16 = (nn : Int) := ⟨(1 + d16).toNat, by omega⟩
        have hn1 : 0 < nn := by omega
        have hn2 : nn ≤ 9 := by omega
        refine ⟨_, _, rfl, rfl, ?_⟩
        dsimp only
        rw [hnn]
        refine chk_num hrow er hn1 hn2 fun Hx sx => ?_
        have er := sx _ _ er
        have hPn := hPn.same sx
        clear sx
        refine chk_neg hrow er hn1 hn2 fun Hx sx => ?_
        have er := sx _ _ er
        have hPn := hPn.same sx
        clear sx
        refine chk_ref hrow er hPn (by omega) fun H17 a17 b17 hP17 ha17 => ?_
        refine ⟨a17, b17, _, _, _, _, _, _, _, _, _, _, _, _, _, hP17, ?_, rfl⟩
        have : (10000 : Int) * ((i + 1 : Nat) : Int) = 10000 * (i : Int) + 10000 := by omega
        omega
    · rintro σ H1 ⟨a1, b1, y2, y3, y4, y5, y6, y7, y8, y9, y10, y11, y12, y13, y14, hP1, ha1, rfl⟩
      refine ⟨Nat.zero_le _, fun la hlla => ?_⟩
      have sla := same_new (o := .lst []) hlla
      have ela : (upd H1 la (.lst [])) la = some (.lst (([] : List Int).map V.int)) := upd_same
      generalize upd H1 la (.lst []) = Gla at sla ela ⊢
      refine mk_pcR (un := 1) (.inl (.inl (.inl ela))) (Nat.zero_le _) (by decide) (Bd.up (a := 1) (by unfold Bd; decide) (by decide)) fun pp zp wp H2 Lp sp hpp => ?_
      obtain ⟨zpe, wpe⟩ := low_zero Lp fun j => cf_nil j
      subst zpe wpe
      obtain ⟨dx, ra, g1, g2⟩ := id hpp
      refine ⟨pp, dx, _, rfl, g1, lk_div, ?_⟩
      refine ⟨by show 2 ≤ sizeLine; decide, fun lb hlb => ?_⟩
      have slb := same_new (o := .lst [.int 0, .int 1]) hlb
      have elb : (upd H2 lb (.lst [.int 0, .int 1])) lb = some (.lst (([0, 1] : List Int).map V.int)) := upd_same
      generalize upd H2 lb (.lst [.int 0, .int 1]) = H3 at slb elb ⊢
      refine mk_pcR (un := 1) (.inl (.inl (.inl elb))) (by show 2 ≤ 100; decide) (by decide) (Bd.up (a := 1) (by unfold Bd; decide) (by decide)) fun pd s v H4 Ld sd hpd => ?_
      have bd1 : ∀ c ∈ ([0, 1] : List Int), Bd 201 c := fun c hc => by
        rcases List.mem_cons.mp hc with rfl | hc
        · exact Bd.zero _
        · rw [List.mem_singleton.mp hc]; exact Bd.up (a := 1) (by unfold Bd; decide) (by decide)
      have hod : Dvs [0, 1] s 1 v := ⟨⟨by decide, bd1, by decide, Bd.up (a := 1) (by unfold Bd; decide) (by decide)⟩, ⟨2, Nat.le_refl _, rfl, fun j h1 h2 => by have h2 : j < 2 := h2; omega, .inr ⟨1, rfl, by decide⟩⟩, by decide, Ld⟩
      have lds : s.length = 2 := hod.len
      refine ⟨pp, .ref pd, [], s, 1, v, rfl, hpp.same (slb.trans sd), .inl ⟨pd, rfl, hpd⟩, by decide, by omega, (fun c hc => by cases hc), fun c hc => (Ld.bd bd1 c hc).up (by decide), by decide, Bd.up (a := 1) (by unfold Bd; decide) (by decide), Ld.u1, (Ld.ub (Bd.up (a := 1) (by unfold Bd; decide) (by decide) : Bd 250 ((1 : Nat) : Int))), .inr ⟨hod.pos, hod.top, fun t x1 x2 q1 q2 w1 w2 H5 s5 et hX1 hX2 hD lq1 lq2 b1 b2 bw1 bw2 w1p w2p => ?_⟩⟩
      obtain ⟨⟨e1, e2⟩, e3, e4⟩ := div_unique hD (by decide) Ld.u1 hod.pos hod.top low_nil low_nil hod.pos (fun j => by rw [cv_nil, cf_nil, Int.zero_mul, Int.zero_mul, Int.zero_mul]; rfl)
      subst e1 e2 e3 e4
      refine ⟨Nat.zero_le _, fun le hlle => ?_⟩
      have sle := same_new (o := .lst []) hlle
      have ele : (upd H5 le (.lst [])) le = some (.lst (([] : List Int).map V.int)) := upd_same
      generalize upd H5 le (.lst []) = Gle at sle ele ⊢
      refine mk_pcR (un := 1) (.inl (.inl (.inl ele))) (Nat.zero_le _) (by decide) (Bd.up (a := 1) (by unfold Bd; decide) (by decide)) fun pe ze we H6 Le_ se hpe => ?_
      obtain ⟨zee, wee⟩ := low_zero Le_ fun j => cf_nil j
      subst zee wee
      refine ⟨Nat.zero_le _, fun lf hllf => ?_⟩
      have slf := same_new (o := .lst []) hllf
      have elf : (upd H6 lf (.lst [])) lf = some (.lst (([] : List Int).map V.int)) := upd_same
      generalize upd H6 lf (.lst []) = Glf at slf elf ⊢
      refine mk_pcR (un := 1) (.inl (.inl (.inl elf))) (Nat.zero_le _) (by decide) (Bd.up (a := 1) (by unfold Bd; decide) (by decide)) fun pf_ zf wf H7 Lf sf hpf => ?_
      obtain ⟨zfe, wfe⟩ := low_zero Lf fun j => cf_nil j
      subst zfe wfe
      refine ⟨by show 2 ≤ sizeLine; decide, fun tt htt => ?_⟩
      have st := same_new (o := .tup [V.ref pe, V.ref pf_]) htt
      have s57 := sle.trans (se.trans (slf.trans (sf.trans st)))
      exact ⟨⟨t, tt, _, _, rfl, rfl, .inl (.inl (s57 _ _ et)), .inl (.inl upd_same), prs_two (hX1.same s57) (hpe.same (slf.trans (sf.trans st))) (hX2.same s57) (hpf.same st) (Nat.zero_le _) (Nat.zero_le _)⟩, fun H' _ => q H'⟩
end
end Ef
set_option Elab.async false
set_option linter.all false
set_option maxRecDepth 100000
set_option maxHeartbeats 8000000
namespace Ef
open PySem PySem.Spec PyProof.Rows L2
theorem at_mk {K : PySem.W.Frag} {h : Heap} {mg : Str → Option Value} {x : Str} {st : Stmt} {f : Addr} {oc kV doc pm cdv ct : Value} {od an : Option Addr} {osl : Array (Option Value)} (X : K.In h) (G : h.Ns mainGlobals mg) (a : PySem.W.nsIn K mainGlobals x = some (some (.ref f)))
    (l : K.lookup f = some ⟨oc, od, .func (PySem.W.fnOf x x (defArgs st) (defBody st) (defScope st) .none kV doc pm an cdv ct), osl⟩) (c : PySem.W.codeIn K cdv x = true) (k : PySem.W.keepIn K (.ref f) = true) : At K mg x st := ⟨f, _, PySem.W.mg_of X G a, fun_mk l c k⟩
theorem exm_by {K : PySem.W.Frag} {S : Addr} {c : Value} {b : Bool} (h1 : PySem.W.subIn K (.ref S) (.type "BaseException") = some true) (h2 : PySem.W.isClsIn K S = true) (h3 : PySem.W.typeIn K (.ref S) = some (.type "type")) (h4 : PySem.W.subIn K c (.ref S) = some b) :
    PySem.W.exmOne K c (.ref S) = some b := by
  unfold PySem.W.exmOne PySem.W.kitCls
  have h2' : (PySem.W.clsIn K S).isSome = true := h2
  rw [h1, if_pos (by rfl)]
  show (if ((PySem.W.clsIn K S).isSome && PySem.W.typeIn K (.ref S) == some (.type "type")) = true then PySem.W.subIn K c (.ref S) else none) = some b
  rw [h2', h3, if_pos (by rfl)]
  exact h4
theorem kit_by {K : PySem.W.Frag} {S : Addr} {c : Value} {b : Bool} (h2 : PySem.W.isClsIn K S = true) (h3 : PySem.W.typeIn K (.ref S) = some (.type "type")) (h4 : PySem.W.subIn K c (.ref S) = some b) (hc : (c == .ref S) = false := by rfl) :
    PySem.W.kitOne K c (.ref S) = some b := by
  unfold PySem.W.kitOne PySem.W.kitCls
  have h2' : (PySem.W.clsIn K S).isSome = true := h2
  rw [if_neg (by rw [hc]; exact Bool.false_ne_true)]
  show (if ((PySem.W.clsIn K S).isSome && PySem.W.typeIn K (.ref S) == some (.type "type")) = true then PySem.W.subIn K c (.ref S) else none) = some b
  rw [h2', h3, if_pos (by rfl)]
  exact h4
theorem all_mk {P : Program} {w : World} {K : PySem.W.Frag} {h : Heap} {mg : Str → Option Value} {fa C CR CU CD tD f0 f1 f2 f3 f4 f5 f6 f7 f8 f9 f10 f11 f12 f13 f14 f15 f16 f17 f18 f19 f20 f21 f22 f23 f24 f25 f26 f27 f28 f29 f30  : Addr} (X : K.In h) (G : h.Ns mainGlobals mg) (hfa : mg "law" = some (.ref fa))
    {od0 an0 od1 an1 od2 an2 od3 an3 od4 an4 od5 an5 od6 an6 od7 an7 od8 an8 od9 an9 od10 an10 od11 an11 od12 an12 od13 an13 od14 an14 od15 an15 od16 an16 od17 an17 od18 an18 od19 an19 od20 an20 od21 an21 od22 an22 od23 an23 od24 an24 od25 an25 od26 an26 od27 an27 od28 an28 od29 an29 od30 an30 odD : Option Addr} {sl0 sl1 sl2 sl3 sl4 sl5 sl6 sl7 sl8 sl9 sl10 sl11 sl12 sl13 sl14 sl15 sl16 sl17 sl18 sl19 sl20 sl21 sl22 sl23 sl24 sl25 sl26 sl27 sl28 sl29 sl30 slD : Array (Option Value)} {oc0 kV0 dc0 pm0 cd0 ct0 oc1 kV1 dc1 pm1 cd1 ct1 oc2 kV2 dc2 pm2 cd2 ct2 oc3 kV3 dc3 pm3 cd3 ct3 oc4 kV4 dc4 pm4 cd4 ct4 oc5 kV5 dc5 pm5 cd5 ct5 oc6 kV6 dc6 pm6 cd6 ct6 oc7 kV7 dc7 pm7 cd7 ct7 oc8 kV8 dc8 pm8 cd8 ct8 oc9 kV9 dc9 pm9 cd9 ct9 oc10 kV10 dc10 pm10 cd10 ct10 oc11 kV11 dc11 pm11 cd11 ct11 oc12 kV12 dc12 pm12 cd12 ct12 oc13 kV13 dc13 pm13 cd13 ct13 oc14 kV14 dc14 pm14 cd14 ct14 oc15 kV15 dc15 pm15 cd15 ct15 oc16 kV16 dc16 pm16 cd16 ct16 oc17 kV17 dc17 pm17 cd17 ct17 oc18 kV18 dc18 pm18 cd18 ct18 oc19 kV19 dc19 pm19 cd19 ct19 oc20 kV20 dc20 pm20 cd20 ct20 oc21 kV21 dc21 pm21 cd21 ct21 oc22 kV22 dc22 pm22 cd22 ct22 oc23 kV23 dc23 pm23 cd23 ct23 oc24 kV24 dc24 pm24 cd24 ct24 oc25 kV25 dc25 pm25 cd25 ct25 oc26 kV26 dc26 pm26 cd26 ct26 oc27 kV27 dc27 pm27 cd27 ct27 oc28 kV28 dc28 pm28 cd28 ct28 oc29 kV29 dc29 pm29 cd29 ct29 oc30 kV30 dc30 pm30 cd30 ct30 ocD : Value} {tkD : Tok} {nD : Nat} {nmCR qCR : Str} {NCR : Addr} {bsCR bmCR : List Value} {snCR : List Str} {subCR : List Value} {abCR : Bool} {colCR : Option Bool} {ddCR : Option Addr} {e0CR e1CR e2CR e3CR e5CR : Option Value} {nmCU qCU : Str} {NCU : Addr} {bsCU bmCU : List Value} {snCU : List Str} {subCU : List Value} {abCU : Bool} {colCU : Option Bool} {ddCU : Option Addr} {e0CU e1CU e2CU e3CU e5CU : Option Value}
    (aC : PySem.W.nsIn K mainGlobals "Piece" = some (some (.ref C)))
    (a0 : PySem.W.nsIn K mainGlobals "is_int" = some (some (.ref f0)))
    (l0 : K.lookup f0 = some ⟨oc0, od0, .func (PySem.W.fnOf "is_int" "is_int" (defArgs sIsInt) (defBody sIsInt) (defScope sIsInt) .none kV0 dc0 pm0 an0 cd0 ct0), sl0⟩)
    (c0 : PySem.W.codeIn K cd0 "is_int" = true)
    (k0 : PySem.W.keepIn K (.ref f0) = true)
    (a1 : PySem.W.nsIn K mainGlobals "is_int_from" = some (some (.ref f1)))
    (l1 : K.lookup f1 = some ⟨oc1, od1, .func (PySem.W.fnOf "is_int_from" "is_int_from" (defArgs sFrom) (defBody sFrom) (defScope sFrom) .none kV1 dc1 pm1 an1 cd1 ct1), sl1⟩)
    (c1 : PySem.W.codeIn K cd1 "is_int_from" = true)
    (k1 : PySem.W.keepIn K (.ref f1) = true)
    (a2 : PySem.W.nsIn K mainGlobals "trimmed" = some (some (.ref f2)))
    (l2 : K.lookup f2 = some ⟨oc2, od2, .func (PySem.W.fnOf "trimmed" "trimmed" (defArgs sTrim) (defBody sTrim) (defScope sTrim) .none kV2 dc2 pm2 an2 cd2 ct2), sl2⟩)
    (c2 : PySem.W.codeIn K cd2 "trimmed" = true)
    (k2 : PySem.W.keepIn K (.ref f2) = true)
    (a3 : PySem.W.nsIn K mainGlobals "common_divisor" = some (some (.ref f3)))
    (l3 : K.lookup f3 = some ⟨oc3, od3, .func (PySem.W.fnOf "common_divisor" "common_divisor" (defArgs sCom) (defBody sCom) (defScope sCom) .none kV3 dc3 pm3 an3 cd3 ct3), sl3⟩)
    (c3 : PySem.W.codeIn K cd3 "common_divisor" = true)
    (k3 : PySem.W.keepIn K (.ref f3) = true)
    (a4 : PySem.W.nsIn K mainGlobals "row_times" = some (some (.ref f4)))
    (l4 : K.lookup f4 = some ⟨oc4, od4, .func (PySem.W.fnOf "row_times" "row_times" (defArgs sTm) (defBody sTm) (defScope sTm) .none kV4 dc4 pm4 an4 cd4 ct4), sl4⟩)
    (c4 : PySem.W.codeIn K cd4 "row_times" = true)
    (k4 : PySem.W.keepIn K (.ref f4) = true)
    (a5 : PySem.W.nsIn K mainGlobals "row_sum" = some (some (.ref f5)))
    (l5 : K.lookup f5 = some ⟨oc5, od5, .func (PySem.W.fnOf "row_sum" "row_sum" (defArgs sSum) (defBody sSum) (defScope sSum) .none kV5 dc5 pm5 an5 cd5 ct5), sl5⟩)
    (c5 : PySem.W.codeIn K cd5 "row_sum" = true)
    (k5 : PySem.W.keepIn K (.ref f5) = true)
    (a6 : PySem.W.nsIn K mainGlobals "row_product" = some (some (.ref f6)))
    (l6 : K.lookup f6 = some ⟨oc6, od6, .func (PySem.W.fnOf "row_product" "row_product" (defArgs sProd) (defBody sProd) (defScope sProd) .none kV6 dc6 pm6 an6 cd6 ct6), sl6⟩)
    (c6 : PySem.W.codeIn K cd6 "row_product" = true)
    (k6 : PySem.W.keepIn K (.ref f6) = true)
    (a7 : PySem.W.nsIn K mainGlobals "row_divided" = some (some (.ref f7)))
    (l7 : K.lookup f7 = some ⟨oc7, od7, .func (PySem.W.fnOf "row_divided" "row_divided" (defArgs sRd) (defBody sRd) (defScope sRd) .none kV7 dc7 pm7 an7 cd7 ct7), sl7⟩)
    (c7 : PySem.W.codeIn K cd7 "row_divided" = true)
    (k7 : PySem.W.keepIn K (.ref f7) = true)
    (a8 : PySem.W.nsIn K mainGlobals "_check_row" = some (some (.ref f8)))
    (l8 : K.lookup f8 = some ⟨oc8, od8, .func (PySem.W.fnOf "_check_row" "_check_row" (defArgs sCheck) (defBody sCheck) (defScope sCheck) .none kV8 dc8 pm8 an8 cd8 ct8), sl8⟩)
    (c8 : PySem.W.codeIn K cd8 "_check_row" = true)
    (k8 : PySem.W.keepIn K (.ref f8) = true)
    (a9 : PySem.W.nsIn K mainGlobals "_counts_as_piece" = some (some (.ref f9)))
    (l9 : K.lookup f9 = some ⟨oc9, od9, .func (PySem.W.fnOf "_counts_as_piece" "_counts_as_piece" (defArgs sCounts) (defBody sCounts) (defScope sCounts) .none kV9 dc9 pm9 an9 cd9 ct9), sl9⟩)
    (c9 : PySem.W.codeIn K cd9 "_counts_as_piece" = true)
    (k9 : PySem.W.keepIn K (.ref f9) = true)
    (a10 : PySem.W.nsIn K mainGlobals "_as_piece" = some (some (.ref f10)))
    (l10 : K.lookup f10 = some ⟨oc10, od10, .func (PySem.W.fnOf "_as_piece" "_as_piece" (defArgs sAs) (defBody sAs) (defScope sAs) .none kV10 dc10 pm10 an10 cd10 ct10), sl10⟩)
    (c10 : PySem.W.codeIn K cd10 "_as_piece" = true)
    (k10 : PySem.W.keepIn K (.ref f10) = true)
    (a11 : PySem.W.nsIn K mainGlobals "_law_pen" = some (some (.ref f11)))
    (l11 : K.lookup f11 = some ⟨oc11, od11, .func (PySem.W.fnOf "_law_pen" "_law_pen" (defArgs sPen) (defBody sPen) (defScope sPen) .none kV11 dc11 pm11 an11 cd11 ct11), sl11⟩)
    (c11 : PySem.W.codeIn K cd11 "_law_pen" = true)
    (k11 : PySem.W.keepIn K (.ref f11) = true)
    (a12 : PySem.W.nsIn K mainGlobals "_law_draw" = some (some (.ref f12)))
    (l12 : K.lookup f12 = some ⟨oc12, od12, .func (PySem.W.fnOf "_law_draw" "_law_draw" (defArgs sDraw) (defBody sDraw) (defScope sDraw) .none kV12 dc12 pm12 an12 cd12 ct12), sl12⟩)
    (c12 : PySem.W.codeIn K cd12 "_law_draw" = true)
    (k12 : PySem.W.keepIn K (.ref f12) = true)
    (a13 : PySem.W.nsIn K mainGlobals "_law_pick" = some (some (.ref f13)))
    (l13 : K.lookup f13 = some ⟨oc13, od13, .func (PySem.W.fnOf "_law_pick" "_law_pick" (defArgs sPick) (defBody sPick) (defScope sPick) .none kV13 dc13 pm13 an13 cd13 ct13), sl13⟩)
    (c13 : PySem.W.codeIn K cd13 "_law_pick" = true)
    (k13 : PySem.W.keepIn K (.ref f13) = true)
    (a14 : PySem.W.nsIn K mainGlobals "_law_gcd" = some (some (.ref f14)))
    (l14 : K.lookup f14 = some ⟨oc14, od14, .func (PySem.W.fnOf "_law_gcd" "_law_gcd" (defArgs sGcd) (defBody sGcd) (defScope sGcd) .none kV14 dc14 pm14 an14 cd14 ct14), sl14⟩)
    (c14 : PySem.W.codeIn K cd14 "_law_gcd" = true)
    (k14 : PySem.W.keepIn K (.ref f14) = true)
    (a15 : PySem.W.nsIn K mainGlobals "_law_entry" = some (some (.ref f15)))
    (l15 : K.lookup f15 = some ⟨oc15, od15, .func (PySem.W.fnOf "_law_entry" "_law_entry" (defArgs sEntry) (defBody sEntry) (defScope sEntry) .none kV15 dc15 pm15 an15 cd15 ct15), sl15⟩)
    (c15 : PySem.W.codeIn K cd15 "_law_entry" = true)
    (k15 : PySem.W.keepIn K (.ref f15) = true)
    (a16 : PySem.W.nsIn K mainGlobals "_law_fraction" = some (some (.ref f16)))
    (l16 : K.lookup f16 = some ⟨oc16, od16, .func (PySem.W.fnOf "_law_fraction" "_law_fraction" (defArgs sFrac) (defBody sFrac) (defScope sFrac) .none kV16 dc16 pm16 an16 cd16 ct16), sl16⟩)
    (c16 : PySem.W.codeIn K cd16 "_law_fraction" = true)
    (k16 : PySem.W.keepIn K (.ref f16) = true)
    (a17 : PySem.W.nsIn K mainGlobals "_law_is_piece" = some (some (.ref f17)))
    (l17 : K.lookup f17 = some ⟨oc17, od17, .func (PySem.W.fnOf "_law_is_piece" "_law_is_piece" (defArgs sIsp) (defBody sIsp) (defScope sIsp) .none kV17 dc17 pm17 an17 cd17 ct17), sl17⟩)
    (c17 : PySem.W.codeIn K cd17 "_law_is_piece" = true)
    (k17 : PySem.W.keepIn K (.ref f17) = true)
    (a18 : PySem.W.nsIn K mainGlobals "_law_times" = some (some (.ref f18)))
    (l18 : K.lookup f18 = some ⟨oc18, od18, .func (PySem.W.fnOf "_law_times" "_law_times" (defArgs sTimes) (defBody sTimes) (defScope sTimes) .none kV18 dc18 pm18 an18 cd18 ct18), sl18⟩)
    (c18 : PySem.W.codeIn K cd18 "_law_times" = true)
    (k18 : PySem.W.keepIn K (.ref f18) = true)
    (a19 : PySem.W.nsIn K mainGlobals "_law_plus" = some (some (.ref f19)))
    (l19 : K.lookup f19 = some ⟨oc19, od19, .func (PySem.W.fnOf "_law_plus" "_law_plus" (defArgs sPlus) (defBody sPlus) (defScope sPlus) .none kV19 dc19 pm19 an19 cd19 ct19), sl19⟩)
    (c19 : PySem.W.codeIn K cd19 "_law_plus" = true)
    (k19 : PySem.W.keepIn K (.ref f19) = true)
    (a20 : PySem.W.nsIn K mainGlobals "_law_is_refused" = some (some (.ref f20)))
    (l20 : K.lookup f20 = some ⟨oc20, od20, .func (PySem.W.fnOf "_law_is_refused" "_law_is_refused" (defArgs sRefd) (defBody sRefd) (defScope sRefd) .none kV20 dc20 pm20 an20 cd20 ct20), sl20⟩)
    (c20 : PySem.W.codeIn K cd20 "_law_is_refused" = true)
    (k20 : PySem.W.keepIn K (.ref f20) = true)
    (a21 : PySem.W.nsIn K mainGlobals "_law_trimmed" = some (some (.ref f21)))
    (l21 : K.lookup f21 = some ⟨oc21, od21, .func (PySem.W.fnOf "_law_trimmed" "_law_trimmed" (defArgs sLtrim) (defBody sLtrim) (defScope sLtrim) .none kV21 dc21 pm21 an21 cd21 ct21), sl21⟩)
    (c21 : PySem.W.codeIn K cd21 "_law_trimmed" = true)
    (k21 : PySem.W.keepIn K (.ref f21) = true)
    (a22 : PySem.W.nsIn K mainGlobals "_law_fits" = some (some (.ref f22)))
    (l22 : K.lookup f22 = some ⟨oc22, od22, .func (PySem.W.fnOf "_law_fits" "_law_fits" (defArgs sFits) (defBody sFits) (defScope sFits) .none kV22 dc22 pm22 an22 cd22 ct22), sl22⟩)
    (c22 : PySem.W.codeIn K cd22 "_law_fits" = true)
    (k22 : PySem.W.keepIn K (.ref f22) = true)
    (a23 : PySem.W.nsIn K mainGlobals "law" = some (some (.ref f23)))
    (l23 : K.lookup f23 = some ⟨oc23, od23, .func (PySem.W.fnOf "law" "law" (defArgs sLaw) (defBody sLaw) (defScope sLaw) .none kV23 dc23 pm23 an23 cd23 ct23), sl23⟩)
    (c23 : PySem.W.codeIn K cd23 "law" = true)
    (k23 : PySem.W.keepIn K (.ref f23) = true)
    (a24 : PySem.W.findIn K (.ref C) "__init__" = some (some (.ref f24)))
    (i24 : PySem.W.isFn K (.ref f24) = true)
    (l24 : K.lookup f24 = some ⟨oc24, od24, .func (PySem.W.fnOf "__init__" "Piece.__init__" (defArgs sInit) (defBody sInit) (defScope sInit) (.ref tD) kV24 dc24 pm24 an24 cd24 ct24), sl24⟩)
    (c24 : PySem.W.codeIn K cd24 "Piece.__init__" = true)
    (k24 : PySem.W.keepIn K (.ref f24) = true)
    (lD : K.lookup tD = some ⟨ocD, odD, .seq #[.int 1 tkD] nD, slD⟩)
    (a25 : PySem.W.findIn K (.ref C) "__eq__" = some (some (.ref f25)))
    (i25 : PySem.W.isFn K (.ref f25) = true)
    (t25 : PySem.W.typeIn K (.ref f25) = some (.type "function"))
    (l25 : K.lookup f25 = some ⟨oc25, od25, .func (PySem.W.fnOf "__eq__" "Piece.__eq__" (defArgs sEq) (defBody sEq) (defScope sEq) .none kV25 dc25 pm25 an25 cd25 ct25), sl25⟩)
    (c25 : PySem.W.codeIn K cd25 "Piece.__eq__" = true)
    (k25 : PySem.W.keepIn K (.ref f25) = true)
    (a26 : PySem.W.findIn K (.ref C) "__add__" = some (some (.ref f26)))
    (t26 : PySem.W.typeIn K (.ref f26) = some (.type "function"))
    (l26 : K.lookup f26 = some ⟨oc26, od26, .func (PySem.W.fnOf "__add__" "Piece.__add__" (defArgs sAdd) (defBody sAdd) (defScope sAdd) .none kV26 dc26 pm26 an26 cd26 ct26), sl26⟩)
    (c26 : PySem.W.codeIn K cd26 "Piece.__add__" = true)
    (k26 : PySem.W.keepIn K (.ref f26) = true)
    (a27 : PySem.W.findIn K (.ref C) "__mul__" = some (some (.ref f27)))
    (t27 : PySem.W.typeIn K (.ref f27) = some (.type "function"))
    (l27 : K.lookup f27 = some ⟨oc27, od27, .func (PySem.W.fnOf "__mul__" "Piece.__mul__" (defArgs sMul) (defBody sMul) (defScope sMul) .none kV27 dc27 pm27 an27 cd27 ct27), sl27⟩)
    (c27 : PySem.W.codeIn K cd27 "Piece.__mul__" = true)
    (k27 : PySem.W.keepIn K (.ref f27) = true)
    (a28 : PySem.W.findIn K (.ref C) "divided" = some (some (.ref f28)))
    (t28 : PySem.W.typeIn K (.ref f28) = some (.type "function"))
    (l28 : K.lookup f28 = some ⟨oc28, od28, .func (PySem.W.fnOf "divided" "Piece.divided" (defArgs sDivided) (defBody sDivided) (defScope sDivided) .none kV28 dc28 pm28 an28 cd28 ct28), sl28⟩)
    (c28 : PySem.W.codeIn K cd28 "Piece.divided" = true)
    (k28 : PySem.W.keepIn K (.ref f28) = true)
    (hdC : Ef.hdIn K C = true)
    (sii : PySem.W.subIn K (.type "int") (.ref C) = some false)
    (fnD : PySem.W.isFn K (.ref f28) = true)
    (mD : PySem.W.nsIn K mainGlobals "NoDivisor" = some (some (.ref CD)))
    (xD : PySem.W.excIn K CD [.type "ValueError", .type "Exception", .type "BaseException", .type "object"] "ValueError.__new__" = true)
    (kD : PySem.W.keepIn K (.ref CD) = true)
    (sD : PySem.W.subIn K (.ref CD) (.type "BaseException") = some true)
    (tyD : PySem.W.typeIn K (.ref CD) = some (.type "type"))
    (jD : PySem.W.isClsIn K CD = true)
    (xDD : PySem.W.subIn K (.ref CD) (.ref CD) = some true)
    (ne : PySem.W.findIn K (.ref C) "__ne__" = some (some (.builtin "object.__ne__")))
    (sli : PySem.W.subIn K (.type "list") (.ref C) = some false)
    (jC : PySem.W.isClsIn K C = true)
    (tC : PySem.W.typeIn K (.ref C) = some (.type "type"))
    (mCR : PySem.W.nsIn K mainGlobals "BadRow" = some (some (.ref CR)))
    (oCR : K.lookup CR = some (excClassObj nmCR qCR CR NCR bsCR bmCR true snCR subCR abCR colCR ddCR e0CR e1CR e2CR e3CR e5CR "ValueError.__new__"))
    (vCR : PySem.HandSPX.refsVE bmCR = true)
    (sCR : PySem.W.findIn K (.ref CR) "__setattr__" = some (some (.builtin "object.__setattr__")))
    (xCR : PySem.W.subIn K (.ref CR) (.type "BaseException") = some true)
    (tCR : PySem.W.typeIn K (.ref CR) = some (.type "type"))
    (kCR : PySem.W.keepIn K (.ref CR) = true)
    (iCR : PySem.W.findIn K (.ref CR) "__init__" = some (some (.ref f29)))
    (uCR : PySem.W.typeIn K (.ref f29) = some (.type "function"))
    (nCR : PySem.W.findIn K (.ref CR) "index" = some none)
    (gaCR : PySem.W.findIn K (.ref CR) "__getattribute__" = some (some (.builtin "BaseException.__getattribute__")))
    (ggCR : PySem.W.findIn K (.ref CR) "__getattr__" = some none)
    (hdCR : PySem.W.hasDictIn K CR = true)
    (l29 : K.lookup f29 = some ⟨oc29, od29, .func (PySem.W.fnOf "__init__" "BadRow.__init__" (defArgs sErrR) (defBody sErrR) (defScope sErrR) .none kV29 dc29 pm29 an29 cd29 ct29), sl29⟩)
    (c29 : PySem.W.codeIn K cd29 "BadRow.__init__" = true)
    (k29 : PySem.W.keepIn K (.ref f29) = true)
    (mCU : PySem.W.nsIn K mainGlobals "BadUnder" = some (some (.ref CU)))
    (oCU : K.lookup CU = some (excClassObj nmCU qCU CU NCU bsCU bmCU true snCU subCU abCU colCU ddCU e0CU e1CU e2CU e3CU e5CU "ValueError.__new__"))
    (vCU : PySem.HandSPX.refsVE bmCU = true)
    (sCU : PySem.W.findIn K (.ref CU) "__setattr__" = some (some (.builtin "object.__setattr__")))
    (xCU : PySem.W.subIn K (.ref CU) (.type "BaseException") = some true)
    (tCU : PySem.W.typeIn K (.ref CU) = some (.type "type"))
    (kCU : PySem.W.keepIn K (.ref CU) = true)
    (iCU : PySem.W.findIn K (.ref CU) "__init__" = some (some (.ref f30)))
    (uCU : PySem.W.typeIn K (.ref f30) = some (.type "function"))
    (nCU : PySem.W.findIn K (.ref CU) "under" = some none)
    (gaCU : PySem.W.findIn K (.ref CU) "__getattribute__" = some (some (.builtin "BaseException.__getattribute__")))
    (ggCU : PySem.W.findIn K (.ref CU) "__getattr__" = some none)
    (hdCU : PySem.W.hasDictIn K CU = true)
    (l30 : K.lookup f30 = some ⟨oc30, od30, .func (PySem.W.fnOf "__init__" "BadUnder.__init__" (defArgs sErrU) (defBody sErrU) (defScope sErrU) .none kV30 dc30 pm30 an30 cd30 ct30), sl30⟩)
    (c30 : PySem.W.codeIn K cd30 "BadUnder.__init__" = true)
    (k30 : PySem.W.keepIn K (.ref f30) = true)
    (pg : PySem.W.plainGet K C Str.empty = true)
    (hd : PySem.W.hasDictIn K C = true)
    (po : PySem.W.plainOver K C = true)
    (sa : PySem.W.findIn K (.ref C) "__setattr__" = some (some (.builtin "object.__setattr__")))
    (mk : PySem.W.makesIn K C = true)
    (kc : PySem.W.keepIn K (.ref C) = true)
    (cc : PySem.W.findIn K (.ref C) "__class__" = some (some (.builtin "object.__class__")))
    (cg : PySem.W.specialIn K (.builtin "object.__class__") "__get__" = some (some (.builtin "getset_descriptor.__get__")))
    (ctk : PySem.W.takesIn K (.builtin "object.__class__") = some true)
    (co : PySem.W.mroIn K C (.type "object") = some true)
    (nr : PySem.W.findIn K (.ref C) "row" = some none)
    (nu : PySem.W.findIn K (.ref C) "under" = some none)
    (zg : PySem.W.nsIn K mainGlobals "gcd" = some (some (.builtin "math.gcd")))
    (z0 : PySem.W.nsIn K mainGlobals "int" = some none)
    (z1 : PySem.W.nsIn K mainGlobals "len" = some none)
    (z2 : PySem.W.nsIn K mainGlobals "list" = some none)
    (z3 : PySem.W.nsIn K mainGlobals "isinstance" = some none)
    (z4 : PySem.W.nsIn K mainGlobals "bool" = some none)
    (z5 : PySem.W.nsIn K mainGlobals "enumerate" = some none)
    (z6 : PySem.W.nsIn K mainGlobals "reversed" = some none)
    (z7 : PySem.W.nsIn K mainGlobals "range" = some none)
    (z8 : PySem.W.nsIn K mainGlobals "tuple" = some none)
    (z9 : PySem.W.nsIn K mainGlobals "abs" = some none)
    (z10 : PySem.W.nsIn K mainGlobals "max" = some none)
    (z11 : PySem.W.nsIn K mainGlobals "min" = some none)
    (z12 : PySem.W.nsIn K mainGlobals "all" = some none)
    (z13 : PySem.W.nsIn K mainGlobals "zip" = some none)
    : ∃ fd : FuncData, (∀ (s : Shared) (v : Value), BindsTo s fd ⟨[v], []⟩ [("script", v)]) ∧ ∀ base : Heap, K.In base → base.Ns mainGlobals mg → FnOk P w K mg base CX0 9 fa fd ["script"] (spLaw K) := by
  have e := hfa.symm.trans (PySem.W.mg_of X G a23)
  cases e
  have T : TxtJ mg := { int := PySem.W.mg_none_of X G z0, len := PySem.W.mg_none_of X G z1, list := PySem.W.mg_none_of X G z2, isinstance := PySem.W.mg_none_of X G z3, bool := PySem.W.mg_none_of X G z4, enumerate := PySem.W.mg_none_of X G z5, reversed := PySem.W.mg_none_of X G z6, range := PySem.W.mg_none_of X G z7, tuple := PySem.W.mg_none_of X G z8, abs := PySem.W.mg_none_of X G z9, max := PySem.W.mg_none_of X G z10, all := PySem.W.mg_none_of X G z12, min := PySem.W.mg_none_of X G z11, zip := PySem.W.mg_none_of X G z13, gcd := PySem.W.mg_of X G zg }
  have CP : ClsP K mg C := ⟨⟨pg, hd, po, sa⟩, PySem.W.mg_of X G aC, nr, nu⟩
  have CW : ClsR K mg C := { toClsP := CP, cc := cc, cg := cg, ct := ctk, co := co, sl := sli, ki := kit_by jC tC sii }
  have OC : OpsC K C := ⟨hdC⟩
  have FD : FunD K "__init__" "Piece.__init__" (defArgs sInit) (defBody sInit) (defScope sInit) [V.int 1] [] f24 _ := ⟨⟨_, _, _, _, _, _, _, _, _, _, rfl, l24, c24, .inr ⟨fun z => (by cases z), tD, _, _, _, rfl, lD, rfl, .cons ⟨_, rfl⟩ .nil⟩, .inl rfl⟩, k24⟩
  have bI := binds_init FD
  obtain ⟨ds1, hd1, bI1⟩ := binds_init1 FD
  have M : Mk K C f24 := ⟨mk, a24, i24, kc⟩
  have FCR := fun_mk (st := sErrR) l29 c29 k29
  have bCR := FCR.binds (ps := ["self", "index"]) fun _ _ _ _ _ _ us hl => match us, hl with | [_, _], _ => rfl
  have ECR : ErrF K mg "BadRow" "index" CR f29 := ⟨⟨⟨_, _, _, _, _, _, _, _, _, _, _, _, _, _, _, oCR, vCR⟩, sCR, xCR, tCR, kCR⟩, PySem.W.mg_of X G mCR, iCR, uCR, nCR, ⟨gaCR, ggCR, xCR, hdCR⟩⟩
  have FCU := fun_mk (st := sErrU) l30 c30 k30
  have bCU := FCU.binds (ps := ["self", "under"]) fun _ _ _ _ _ _ us hl => match us, hl with | [_, _], _ => rfl
  have ECU : ErrF K mg "BadUnder" "under" CU f30 := ⟨⟨⟨_, _, _, _, _, _, _, _, _, _, _, _, _, _, _, oCU, vCU⟩, sCU, xCU, tCU, kCU⟩, PySem.W.mg_of X G mCU, iCU, uCU, nCU, ⟨gaCU, ggCU, xCU, hdCU⟩⟩
  have FEq := fun_mk (st := sEq) l25 c25 k25
  have bE := FEq.binds (ps := ["self", "other"]) fun _ _ _ _ _ _ us hl => match us, hl with | [_, _], _ => rfl
  have hli : PySem.W.kitOne K (.type "list") (.ref C) = some false := kit_by jC tC sli
  have EDv : ErrZ K mg "NoDivisor" CD := ⟨xD, PySem.W.mg_of X G mD, kD, sD, tyD⟩
  refine ⟨PySem.W.fnOf "law" "law" (defArgs sLaw) (defBody sLaw) (defScope sLaw) .none kV23 dc23 pm23 an23 cd23 ct23, fun s v => .of_eq rfl, fun base _ _ => ?_⟩
  have dIsInt := df_isint (P := P) (w := w) (base := base) (at_mk X G a0 l0 c0 k0) T.toTxtW
  have dFrom := df_from (P := P) (w := w) (base := base) (at_mk X G a1 l1 c1 k1) dIsInt
  have dTrim := df_trim (P := P) (w := w) (base := base) (at_mk X G a2 l2 c2 k2) T.toTxtW
  have dCom := df_com (P := P) (w := w) (base := base) (at_mk X G a3 l3 c3 k3) T.toTxtQ
  have dTm := df_tm (P := P) (w := w) (base := base) (at_mk X G a4 l4 c4 k4) 
  have dSum1 := df_sum1 (P := P) (w := w) (base := base) (at_mk X G a5 l5 c5 k5) T
  have dSum := df_sum (P := P) (w := w) (base := base) (at_mk X G a5 l5 c5 k5) T dSum1
  have dProd := df_prod (P := P) (w := w) (base := base) (at_mk X G a6 l6 c6 k6) T dSum dTm
  have dRd := df_rd (P := P) (w := w) (base := base) (at_mk X G a7 l7 c7 k7) T dTm
  have dPen := df_pen (P := P) (w := w) (base := base) (at_mk X G a11 l11 c11 k11) T.toTxtP
  have dDraw := df_draw (P := P) (w := w) (base := base) (at_mk X G a12 l12 c12 k12) T.toTxtP
  have dPick := df_pick (P := P) (w := w) (base := base) (at_mk X G a13 l13 c13 k13) T.toTxtP dDraw
  have dGcd := df_gcd (P := P) (w := w) (base := base) (at_mk X G a14 l14 c14 k14) T
  have dEntry := df_entry (P := P) (w := w) (base := base) (at_mk X G a15 l15 c15 k15) dDraw dPick
  have dFrac := df_frac (P := P) (w := w) (base := base) (at_mk X G a16 l16 c16 k16) T dDraw dPick dEntry
  have dTimes := df_times (P := P) (w := w) (base := base) (at_mk X G a18 l18 c18 k18) T
  have dPlus := df_plus (P := P) (w := w) (base := base) (at_mk X G a19 l19 c19 k19) T
  have dIsp := df_isp (P := P) (w := w) (base := base) (at_mk X G a17 l17 c17 k17) T CW.toClsQ dGcd
  have dLtrim := df_ltrim (P := P) (w := w) (base := base) (at_mk X G a21 l21 c21 k21) T.toTxtW
  have dCounts := df_counts (P := P) (w := w) (base := base) (at_mk X G a9 l9 c9 k9) T CW dIsInt
  have gR := ok_errR (P := P) (w := w) (base := base) FCR ECR
  have gU := ok_errU (P := P) (w := w) (base := base) FCU ECU
  have dCk := dx_check (P := P) (w := w) (base := base) (PySem.W.mg_of X G a8) (fun_mk (st := sCheck) l8 c8 k8) T.toTxtW ECR gR bCR dIsInt
  have FI := ok_init (P := P) (w := w) (base := base) FD T.toTxtQ CP ECU gU bCU dCk dFrom dTrim dCom
  have gE := ok_eq (P := P) (w := w) (base := base) FEq T.toTxtQ CW.toClsQ hli
  have dAs := df_as (P := P) (w := w) (base := base) (at_mk X G a10 l10 c10 k10) T CW M FI bI1 hd1
  have F26 := fun_mk (st := sAdd) l26 c26 k26
  have b26 := F26.binds (ps := ["self", "other"]) fun _ _ _ _ _ _ us hl => match us, hl with | [_, _], _ => rfl
  have F27 := fun_mk (st := sMul) l27 c27 k27
  have b27 := F27.binds (ps := ["self", "other"]) fun _ _ _ _ _ _ us hl => match us, hl with | [_, _], _ => rfl
  have F28 := fun_mk (st := sDivided) l28 c28 k28
  have b28 := F28.binds (ps := ["self", "q"]) fun _ _ _ _ _ _ us hl => match us, hl with | [_, _], _ => rfl
  have OA : OwnG P w K mg base CX0 7 C "__add__" ["self", "other"] (spBin K C (SumTo 1)) := ⟨f26, _, a26, t26, b26, ok_add F26 T CW M FI bI dCounts dAs dSum dTm⟩
  have OM : OwnG P w K mg base CX0 7 C "__mul__" ["self", "other"] (spBin K C MulTo) := ⟨f27, _, a27, t27, b27, ok_mul F27 T CW M FI bI dCounts dAs dProd⟩
  have GD := ok_divided (P := P) (w := w) (base := base) F28 T CW M FI bI EDv dAs dRd dTm
  have MD : Meth K C "divided" f28 := ⟨a28, fnD, k28⟩
  have dFits := df_fits (P := P) (w := w) (base := base) (at_mk X G a22 l22 c22 k22) T CW M FI bI dLtrim dTimes dPlus dIsp
  have dRefd := df_refd (P := P) (w := w) (base := base) (at_mk X G a20 l20 c20 k20) CW MD GD b28 EDv (exm_by sD jD tyD xDD)
  exact ok_law (fun_mk (st := sLaw) l23 c23 k23) T CW M FI bI bI1 hd1 OC OA OM MD GD b28 (gE.imp fun vs H Q E h => sp_rp h) a25 i25 bE dPen dDraw dPick dFrac dLtrim dFits dRefd
theorem walk {l : PySem.W.OpenLaw} {q : Program} {loose : List Str} {XP : (Str → Option Value) → Heap → Prop} {YP : World → Heap → Prop} {d : DefRec} {K : Params → PySem.W.Frag} (hn : l.most = some 63) (hdf : d.params.defaults = [])
    (hY : ∀ (w : World) (h : Heap), YP w h → (K w.params).In h)
    (F : ∀ (w : World) (mg : Str → Option Value) (fa : Addr) (h : Heap), (K w.params).In h → h.Ns mainGlobals mg → mg d.name = some (.ref fa) →
      ∃ fd : FuncData, (∀ (s : Shared) (u : Value), BindsTo s fd ⟨[u], []⟩ [("script", u)]) ∧ ∀ base : Heap, (K w.params).In base → base.Ns mainGlobals mg → FnOk l.prog w (K w.params) mg base CX0 9 fa fd ["script"] (spLaw (K w.params))) :
    PySem.W.WalkO q loose XP YP l.row.toRowW d [] (fun f vs => PySem.call f vs) :=
  L2.walk_of (n := 63) (k := 9) (x := "script") (CX := fun _ => CX0) (sp := fun w => spLaw (K w.params)) hn (by decide) hdf ⟨rfl, by decide, by decide⟩ hY F (fun _ _ a ns hl _ hS => ⟨a, ns, rfl, hS, hl, fun _ => rfl⟩) fun _ _ _ _ _ z => z
end Ef
set_option Elab.async false
set_option linter.all false
open PySem PySem.W PyProof.Rows in
set_option maxRecDepth 100000 in
set_option maxHeartbeats 0 in
theorem PySem.Challenge.cw_everyfloor_k04_whole_quotients_of_pieces_holds : PySem.Challenge.rw_everyfloor_k04_whole_quotients_of_pieces.Holds := by
  w_on; o_law; k_head; (case hw => w_witness2)
  k_fill
  refine Ef.walk (l := PySem.Challenge.rw_everyfloor_k04_whole_quotients_of_pieces) rfl rfl (fun w h Y => PySem.W.kIn_of Y) ?F
  case F =>
    intro w mg fa h KX G hmg
    refine' Ef.all_mk KX G hmg ?aC ?a0 ?l0 ?c0 ?k0 ?a1 ?l1 ?c1 ?k1 ?a2 ?l2 ?c2 ?k2 ?a3 ?l3 ?c3 ?k3 ?a4 ?l4 ?c4 ?k4 ?a5 ?l5 ?c5 ?k5 ?a6 ?l6 ?c6 ?k6 ?a7 ?l7 ?c7 ?k7 ?a8 ?l8 ?c8 ?k8 ?a9 ?l9 ?c9 ?k9 ?a10 ?l10 ?c10 ?k10 ?a11 ?l11 ?c11 ?k11 ?a12 ?l12 ?c12 ?k12 ?a13 ?l13 ?c13 ?k13 ?a14 ?l14 ?c14 ?k14 ?a15 ?l15 ?c15 ?k15 ?a16 ?l16 ?c16 ?k16 ?a17 ?l17 ?c17 ?k17 ?a18 ?l18 ?c18 ?k18 ?a19 ?l19 ?c19 ?k19 ?a20 ?l20 ?c20 ?k20 ?a21 ?l21 ?c21 ?k21 ?a22 ?l22 ?c22 ?k22 ?a23 ?l23 ?c23 ?k23 ?a24 ?i24 ?l24 ?c24 ?k24 ?lD ?a25 ?i25 ?t25 ?l25 ?c25 ?k25 ?a26 ?t26 ?l26 ?c26 ?k26 ?a27 ?t27 ?l27 ?c27 ?k27 ?a28 ?t28 ?l28 ?c28 ?k28 ?hdC ?sii ?fnD ?mD ?xD ?kD ?sD ?tyD ?jD ?xDD ?ne ?sli ?jC ?tC ?mCR ?oCR ?vCR ?sCR ?xCR ?tCR ?kCR ?iCR ?uCR ?nCR ?gaCR ?ggCR ?hdCR ?l29 ?c29 ?k29 ?mCU ?oCU ?vCU ?sCU ?xCU ?tCU ?kCU ?iCU ?uCU ?nCU ?gaCU ?ggCU ?hdCU ?l30 ?c30 ?k30 ?pg ?hd ?po ?sa ?mk ?kc ?cc ?cg ?ctk ?co ?nr ?nu ?zg ?z0 ?z1 ?z2 ?z3 ?z4 ?z5 ?z6 ?z7 ?z8 ?z9 ?z10 ?z11 ?z12 ?z13
    (case aC => k_is)
    (case a0 => k_is)
    (case l0 => k_is)
    (case c0 => k_is)
    (case k0 => k_is)
    (case a1 => k_is)
    (case l1 => k_is)
    (case c1 => k_is)
    (case k1 => k_is)
    (case a2 => k_is)
    (case l2 => k_is)
    (case c2 => k_is)
    (case k2 => k_is)
    (case a3 => k_is)
    (case l3 => k_is)
    (case c3 => k_is)
    (case k3 => k_is)
    (case a4 => k_is)
    (case l4 => k_is)
    (case c4 => k_is)
    (case k4 => k_is)
    (case a5 => k_is)
    (case l5 => k_is)
    (case c5 => k_is)
    (case k5 => k_is)
    (case a6 => k_is)
    (case l6 => k_is)
    (case c6 => k_is)
    (case k6 => k_is)
    (case a7 => k_is)
    (case l7 => k_is)
    (case c7 => k_is)
    (case k7 => k_is)
    (case a8 => k_is)
    (case l8 => k_is)
    (case c8 => k_is)
    (case k8 => k_is)
    (case a9 => k_is)
    (case l9 => k_is)
    (case c9 => k_is)
    (case k9 => k_is)
    (case a10 => k_is)
    (case l10 => k_is)
    (case c10 => k_is)
    (case k10 => k_is)
    (case a11 => k_is)
    (case l11 => k_is)
    (case c11 => k_is)
    (case k11 => k_is)
    (case a12 => k_is)
    (case l12 => k_is)
    (case c12 => k_is)
    (case k12 => k_is)
    (case a13 => k_is)
    (case l13 => k_is)
    (case c13 => k_is)
    (case k13 => k_is)
    (case a14 => k_is)
    (case l14 => k_is)
    (case c14 => k_is)
    (case k14 => k_is)
    (case a15 => k_is)
    (case l15 => k_is)
    (case c15 => k_is)
    (case k15 => k_is)
    (case a16 => k_is)
    (case l16 => k_is)
    (case c16 => k_is)
    (case k16 => k_is)
    (case a17 => k_is)
    (case l17 => k_is)
    (case c17 => k_is)
    (case k17 => k_is)
    (case a18 => k_is)
    (case l18 => k_is)
    (case c18 => k_is)
    (case k18 => k_is)
    (case a19 => k_is)
    (case l19 => k_is)
    (case c19 => k_is)
    (case k19 => k_is)
    (case a20 => k_is)
    (case l20 => k_is)
    (case c20 => k_is)
    (case k20 => k_is)
    (case a21 => k_is)
    (case l21 => k_is)
    (case c21 => k_is)
    (case k21 => k_is)
    (case a22 => k_is)
    (case l22 => k_is)
    (case c22 => k_is)
    (case k22 => k_is)
    (case a23 => k_is)
    (case l23 => k_is)
    (case c23 => k_is)
    (case k23 => k_is)
    (case a24 => k_is)
    (case i24 => k_is)
    (case l24 => k_is)
    (case c24 => k_is)
    (case k24 => k_is)
    (case lD => k_is)
    (case a25 => k_is)
    (case i25 => k_is)
    (case t25 => k_is)
    (case l25 => k_is)
    (case c25 => k_is)
    (case k25 => k_is)
    (case a26 => k_is)
    (case t26 => k_is)
    (case l26 => k_is)
    (case c26 => k_is)
    (case k26 => k_is)
    (case a27 => k_is)
    (case t27 => k_is)
    (case l27 => k_is)
    (case c27 => k_is)
    (case k27 => k_is)
    (case a28 => k_is)
    (case t28 => k_is)
    (case l28 => k_is)
    (case c28 => k_is)
    (case k28 => k_is)
    (case hdC => first | k_is | k_exc | decide +kernel | rfl)
    (case sii => k_is)
    (case fnD => k_is)
    (case mD => k_is)
    (case xD => first | k_is | k_exc | decide +kernel | rfl)
    (case kD => k_is)
    (case sD => k_is)
    (case tyD => k_is)
    (case jD => k_is)
    (case xDD => k_is)
    (case ne => k_is)
    (case sli => k_is)
    (case jC => k_is)
    (case tC => k_is)
    (case mCR => k_is)
    (case oCR => k_is)
    (case vCR => decide +kernel)
    (case sCR => k_is)
    (case xCR => k_is)
    (case tCR => k_is)
    (case kCR => k_is)
    (case iCR => k_is)
    (case uCR => k_is)
    (case nCR => k_is)
    (case gaCR => k_is)
    (case ggCR => k_is)
    (case hdCR => k_is)
    (case l29 => k_is)
    (case c29 => k_is)
    (case k29 => k_is)
    (case mCU => k_is)
    (case oCU => k_is)
    (case vCU => decide +kernel)
    (case sCU => k_is)
    (case xCU => k_is)
    (case tCU => k_is)
    (case kCU => k_is)
    (case iCU => k_is)
    (case uCU => k_is)
    (case nCU => k_is)
    (case gaCU => k_is)
    (case ggCU => k_is)
    (case hdCU => k_is)
    (case l30 => k_is)
    (case c30 => k_is)
    (case k30 => k_is)
    (case pg => k_is)
    (case hd => k_is)
    (case po => k_is)
    (case sa => k_is)
    (case mk => k_is)
    (case kc => k_is)
    (case cc => k_is)
    (case cg => k_is)
    (case ctk => k_is)
    (case co => k_is)
    (case nr => k_is)
    (case nu => k_is)
    (case zg => k_is)
    (case z0 => k_is)
    (case z1 => k_is)
    (case z2 => k_is)
    (case z3 => k_is)
    (case z4 => k_is)
    (case z5 => k_is)
    (case z6 => k_is)
    (case z7 => k_is)
    (case z8 => k_is)
    (case z9 => k_is)
    (case z10 => k_is)
    (case z11 => k_is)
    (case z12 => k_is)
    (case z13 => k_is)
#print axioms PySem.Challenge.cw_everyfloor_k04_whole_quotients_of_pieces_holds
