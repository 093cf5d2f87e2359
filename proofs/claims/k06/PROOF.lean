import PyProof.Rows.All
import Wide.All
import OpenK.AllK
import Wide.FinOn
import HandS.ForMost
import PySem.Challenge.RW_everyfloor_k06_whole_signs_by_known_root
import KE.GoesEnum
import HandS.Style
import HandS.TupAny
import KE.KCallOwn
import HandS.ExcOwn
import HandS.ForExc
import HandS.TryMany
import HandS.IsInst
import HandS.Gcd
import HandS.ExcInit
import HandS.ExcField
import HandS.Property
import HandS.Conv
import HandS.Wide
import HandS.Rev
import HandS.More
import HandS.ClsMeth
import HandS.OwnEq
import HandS.Defaults
import KE.KRevSl
import KE.KOpsOwn
import PyProof.FactsAll.int_1
import PyProof.TwoTypes
import HandS.Zip
import HandS.Walk
import HandS.Star
import KE.KMathGC
import HandS.Small
import HandS.WideBits
import HandS.Strs
import HandS.SetFor
import HandS.TryOnly
import KE.OsRunLaw
set_option Elab.async false
set_option linter.all false
set_option maxRecDepth 100000
set_option maxHeartbeats 4000000
namespace Ef
open PySem PySem.Spec PyProof.Rows L2
def top (i : Nat) : Stmt := PySem.Challenge.pw_everyfloor_k06_whole_signs_by_known_root.main.body.getD i (.Pass ⟨0, 0, 0, 0⟩)
abbrev sPen : Stmt := top 41
abbrev sDraw : Stmt := top 42
abbrev sPick : Stmt := top 43
/-! ### the pen -/
def penD (l : Addr) (a b : Int) : List (Key × V) := [(.inr "cells", .ref l), (.inr "at", .int a), (.inr "left", .int b)]
theorem pen_cells (l : Addr) (a b : Int) : valV (penD l a b) (Sum.inr "cells") = some (.ref l) := by with_unfolding_all rfl
theorem pen_at (l : Addr) (a b : Int) : valV (penD l a b) (Sum.inr "at") = some (.int a) := by with_unfolding_all rfl
theorem pen_left (l : Addr) (a b : Int) : valV (penD l a b) (Sum.inr "left") = some (.int b) := by with_unfolding_all rfl
theorem put_at (l : Addr) (a b c : Int) : putK (penD l a b) (Sum.inr "at") (.int c) = penD l c b := by with_unfolding_all rfl
theorem put_left (l : Addr) (a b c : Int) : putK (penD l a b) (Sum.inr "left") (.int c) = penD l a c := by with_unfolding_all rfl
/-- at p stands the pen: its list of ints at l, its place a, what is left b -/
structure Pen (H : Hp) (p l : Addr) (ns : List Int) (a b : Int) : Prop where
  hd : H p = some (.dK (penD l a b))
  hl : H l = some (.lst (ns.map V.int))
  len : ns.length ≤ 63
  a0 : 0 ≤ a
  b0 : 0 ≤ b
/-- all that is tracked but p is as it was -/
def Kp (p : Addr) (H H' : Hp) : Prop := ∀ x o, x ≠ p → H x = some o → H' x = some o
theorem Kp.refl (p : Addr) (H : Hp) : Kp p H H := fun _ _ _ h => h
theorem Kp.trans {p : Addr} {H H1 H2 : Hp} (a : Kp p H H1) (b : Kp p H1 H2) : Kp p H H2 := fun x o n h => b x o n (a x o n h)
theorem Kp.put {p : Addr} {H : Hp} (o : HO) : Kp p H (upd H p o) := fun x u n h => by rw [upd_ne n]; exact h
theorem Kp.new {p q : Addr} {H : Hp} (o : HO) (hq : H q = none) : Kp p H (upd H q o) := fun x u n h => by rw [upd_ne (ne_of_none h hq)]; exact h
/-! ### data -/
theorem dp_ints {K : PySem.W.Frag} {H : Hp} : ∀ ns : List Int, DpAll K H (ns.map V.int) (ns.map PyData.int)
  | [] => .nil
  | n :: ns => .cons (.int n) (dp_ints ns)
theorem dp_bls {K : PySem.W.Frag} {H : Hp} : ∀ bs : List Bool, DpAll K H (bs.map V.bl) (bs.map PyData.bool)
  | [] => .nil
  | n :: ns => .cons (.bl n) (dp_bls ns)
theorem can_ints : ∀ ns : List Int, PyData.canLayAll0 (ns.map PyData.int) = true ∧ PyData.depthAll (ns.map PyData.int) = 0
  | [] => ⟨rfl, rfl⟩
  | n :: ns => by
    obtain ⟨h1, h2⟩ := can_ints ns
    constructor
    · show (PyData.canLay0 (.int n) && PyData.canLayAll0 (ns.map PyData.int)) = true
      rw [h1]; rfl
    · show max (PyData.depth (.int n)) (PyData.depthAll (ns.map PyData.int)) = 0
      rw [h2]; rfl
theorem can_bls : ∀ ns : List Bool, PyData.canLayAll0 (ns.map PyData.bool) = true ∧ PyData.depthAll (ns.map PyData.bool) = 0
  | [] => ⟨rfl, rfl⟩
  | n :: ns => by
    obtain ⟨h1, h2⟩ := can_bls ns
    constructor
    · show (PyData.canLay0 (.bool n) && PyData.canLayAll0 (ns.map PyData.bool)) = true
      rw [h1]; rfl
    · show max (PyData.depth (.bool n)) (PyData.depthAll (ns.map PyData.bool)) = 0
      rw [h2]; rfl
theorem sh_list {ds : List PyData} (h1 : PyData.canLayAll0 ds = true) (h2 : PyData.depthAll ds = 0) : SeqAt.shaped (.list ds) = true ∧ SeqAt.shaped (.tuple ds) = true := by
  constructor
  · show (PyData.canLayAll0 ds && decide (PyData.depthAll ds + 1 ≤ 64)) = true
    rw [h1, h2]; rfl
  · show (PyData.canLayAll0 ds && decide (PyData.depthAll ds + 1 ≤ 64)) = true
    rw [h1, h2]; rfl
theorem eqv_nil (ns : List Int) : PyData.eqv (.list (ns.map PyData.int)) (.list []) = ns.isEmpty := by
  cases ns with
  | nil => rfl
  | cons n ns => rfl
theorem eqv_bls : ∀ as bs : List Bool, PyData.eqvAll (as.map PyData.bool) (bs.map PyData.bool) = decide (as = bs)
  | [], [] => rfl
  | [], _ :: _ => rfl
  | _ :: _, [] => rfl
  | a :: as, b :: bs => by
    show (PyData.eqv (.bool a) (.bool b) && PyData.eqvAll (as.map PyData.bool) (bs.map PyData.bool)) = _
    rw [eqv_bls as bs]
    show ((a == b) && decide (as = bs)) = decide (a :: as = b :: bs)
    by_cases h1 : a = b <;> by_cases h2 : as = bs <;> simp [h1, h2]
end Ef
set_option Elab.async false
set_option linter.all false
set_option maxRecDepth 100000
set_option maxHeartbeats 4000000
namespace Ef
open PySem PySem.Spec PyProof.Rows L2
structure TxtP (mg : Str → Option Value) : Prop where
  int : mg "int" = none
  len : mg "len" = none
  list : mg "list" = none
/-- what a draw promises -/
def spDraw : Sp := fun vs H Q _ => ∃ (p l : Addr) (ns : List Int) (a b m : Int), vs = [.ref p, .int m] ∧ Pen H p l ns a b ∧ a ≤ 1073741824 ∧ 1 ≤ m ∧ m < 1073741824 ∧
  ∀ (d a' b' : Int) (H' : Hp), 0 ≤ d → d < m → a' ≤ a + 1 → Pen H' p l ns a' b' → Kp p H H' → Q (.int d) H'
theorem scDraw : FnScope ["pen", "many", "digit", "at", "cell", "mixed"] ["pen", "many"] (defScope sDraw) := ⟨rfl, rfl, rfl, by decide +kernel, rfl, by decide +kernel, by decide +kernel⟩
section
variable {P : Program} {w : World} {K : PySem.W.Frag} {mg : Str → Option Value} {base : Heap}
theorem Pen.ne {H : Hp} {p l : Addr} {ns : List Int} {a b : Int} (h : Pen H p l ns a b) : l ≠ p := ne_of h.hl h.hd (by intro q; cases q)
theorem Pen.put {H : Hp} {p l : Addr} {ns : List Int} {a b : Int} (h : Pen H p l ns a b) {a' b' : Int} (ha : 0 ≤ a') (hb : 0 ≤ b') : Pen (upd H p (.dK (penD l a' b'))) p l ns a' b' :=
  ⟨upd_same, by rw [upd_ne h.ne]; exact h.hl, h.len, ha, hb⟩
theorem Pen.kp {H H' : Hp} {p l : Addr} {ns : List Int} {a b : Int} (h : Pen H p l ns a b) (k : Kp p H H') (hp : H' p = H p) : Pen H' p l ns a b := ⟨hp.trans h.hd, k _ _ h.ne h.hl, h.len, h.a0, h.b0⟩
theorem emB (x k : Int) (h : 0 < k) (h2 : k < 2 ^ 64) : -(2 ^ 64) < x % k ∧ x % k < 2 ^ 64 := by
  have h1 := Int.emod_nonneg x (show k ≠ 0 by omega)
  have h3 := Int.emod_lt_of_pos x h
  omega
theorem Pen.gl {H : Hp} {p l : Addr} {ns : List Int} {a b : Int} (h : Pen H p l ns a b) : DGet H p (.str "left") (some (.int b)) := by
  have z := DGet.k (k := Sum.inr "left") h.hd
  rw [pen_left] at z
  exact z
theorem Pen.ga {H : Hp} {p l : Addr} {ns : List Int} {a b : Int} (h : Pen H p l ns a b) : DGet H p (.str "at") (some (.int a)) := by
  have z := DGet.k (k := Sum.inr "at") h.hd
  rw [pen_at] at z
  exact z
theorem Pen.gc {H : Hp} {p l : Addr} {ns : List Int} {a b : Int} (h : Pen H p l ns a b) : DGet H p (.str "cells") (some (.ref l)) := by
  have z := DGet.k (k := Sum.inr "cells") h.hd
  rw [pen_cells] at z
  exact z
theorem Pen.pl {H : Hp} {p l : Addr} {ns : List Int} {a b c : Int} (h : Pen H p l ns a b) : DPut H p (.str "left") (.int c) (upd H p (.dK (penD l a c))) := by
  have z := DPut.k (k := Sum.inr "left") (v := .int c) h.hd (by show 3 < sizeLine; decide)
  rw [put_left] at z
  exact z
theorem Pen.pa {H : Hp} {p l : Addr} {ns : List Int} {a b c : Int} (h : Pen H p l ns a b) : DPut H p (.str "at") (.int c) (upd H p (.dK (penD l c b))) := by
  have z := DPut.k (k := Sum.inr "at") (v := .int c) h.hd (by show 3 < sizeLine; decide)
  rw [put_at] at z
  exact z
theorem ok_draw {f : Addr} {fd : FuncData} (F : Fun K "_law_draw" "_law_draw" sDraw f fd) (T : TxtP mg) : FnOk P w K mg base CX0 1 f fd ["pen", "many"] spDraw := by
  refine F.ok scDraw (fun vs H Q E h => ?_) (fun cdv A outer s H vs Q E hr h => ?_)
  · obtain ⟨p, l, ns, a, b, m, rfl, _⟩ := h
    rfl
  · obtain ⟨p, l, ns, a, b, m, rfl, hP, ha, hm1, hm2, q⟩ := h
    have hu := hu_of hr
    refine ⟨_, (pss_cons (ps_if (pt_cmpR op_ge (pe_dget hu (pv 0) pe_str (fun _ _ => rfl)) (pv 1) (nomark _)) (pss_cons (ps_set (i := 2) scDraw.nd rfl (.inl rfl) (pe_op op_mod (pe_callTy call_int1 (by rfl) T.int (by decide +kernel) (pa_cons (pe_dget hu (pv 0) pe_str (fun _ _ => rfl)) pa_nil)) (pv 1)))
      (pss_cons (ps_dput hu (pv 0) pe_str (pe_op op_fdiv (pe_dget hu (pv 0) pe_str (fun _ _ => rfl)) (pv 1)) rfl)
      (pss_one (ps_ret (pv 2))))) pss_nil)
      (pss_cons (ps_set (i := 3) scDraw.nd rfl (.inl rfl) (pe_dget hu (pv 0) pe_str (fun _ _ => rfl)))
      (pss_cons (ps_dput hu (pv 0) pe_str (pe_op op_add (pv 3) pe_int) rfl)
      (pss_cons (ps_set (i := 4) scDraw.nd rfl (.inl rfl) (pe_op op_add (pe_op op_mul pe_int (pv 3)) pe_int))
      (pss_cons (ps_if (pt_cmpR (op_neD hr.units) (pe_dget hu (pv 0) pe_str (fun _ _ => rfl)) (pe_lst pa_nil) (nomark _)) (pss_one (ps_set (i := 4) scDraw.nd rfl (.inl rfl) (pe_ix ix_list (pe_dget hu (pv 0) pe_str (fun _ _ => rfl)) (pe_op op_mod (pe_callTy call_int1 (by rfl) T.int (by decide +kernel) (pa_cons (pv 3) pa_nil)) (pe_callB call_len_seq (by rfl) T.len PySem.boot_len (pa_cons (pe_dget hu (pv 0) pe_str (fun _ _ => rfl)) pa_nil))) (fun _ _ => rfl)))) pss_nil)
      (pss_cons (ps_if (pw_and (pt_cmpR op_lt (pv 3) (pe_callB call_len_seq (by rfl) T.len PySem.boot_len (pa_cons (pe_dget hu (pv 0) pe_str (fun _ _ => rfl)) pa_nil)) (nomark _)) (pw_and1 (pt_cmpR op_ge (pv 4) (pe_op op_pow pe_int pe_int) (nomark _)))).pt (pss_cons (ps_dput hu (pv 0) pe_str (pe_op op_fdiv (pe_op op_sub (pv 4) (pe_op op_pow pe_int pe_int)) (pv 1)) rfl)
      (pss_one (ps_ret (pe_op op_mod (pe_callTy call_int1 (by rfl) T.int (by decide +kernel) (pa_cons (pe_op op_sub (pv 4) (pe_op op_pow pe_int pe_int)) pa_nil)) (pv 1))))) pss_nil)
      (pss_cons (ps_set (i := 5) scDraw.nd rfl (.inl rfl) (pe_op op_add (pe_op op_add (pe_op op_add (pe_op op_mul (pe_op op_mod (pe_callTy call_int1 (by rfl) T.int (by decide +kernel) (pa_cons (pv 4) pa_nil)) pe_int) pe_int) (pe_op op_mul (pe_op op_mul pe_int (pv 3)) (pv 3))) (pe_op op_mul pe_int (pv 3))) pe_int))
      (pss_cons (ps_set (i := 5) scDraw.nd rfl (.inl rfl) (pe_op op_mod (pe_callTy call_int1 (by rfl) T.int (by decide +kernel) (pa_cons (pv 5) pa_nil)) pe_int))
      (pss_cons (ps_set (i := 5) scDraw.nd rfl (.inl rfl) (pe_op op_mod (pe_callTy call_int1 (by rfl) T.int (by decide +kernel) (pa_cons (pe_op op_mul (pv 5) (pe_op op_add (pv 5) pe_int)) pa_nil)) pe_int))
      (pss_one (ps_ret (pe_op op_mod (pe_callTy call_int1 (by rfl) T.int (by decide +kernel) (pa_cons (pe_op op_fdiv (pe_op op_mod (pe_callTy call_int1 (by rfl) T.int (by decide +kernel) (pa_cons (pe_op op_mul (pv 5) (pv 5)) pa_nil)) pe_int) pe_int) pa_nil)) (pv 1))))))))))))), ?_⟩
    -- if pen['left'] >= many
    refine ⟨_, rfl, p, _, rfl, hP.gl, _, rfl, _, _, rfl, rfl, _, rfl, ?_⟩
    refine ite2 (fun hb => ?_) (fun hb => ?_)
    · -- digit; pen['left']; return
      refine ⟨_, rfl, p, _, rfl, hP.gl, .inl ⟨_, rfl, ?_⟩⟩
      refine ⟨_, rfl, _, _, rfl, rfl, by omega, ?_⟩
      refine ⟨_, rfl, p, _, rfl, hP.gl, _, rfl, _, _, rfl, rfl, ⟨by omega, hm2⟩, _, rfl, p, _, rfl, hP.pl, ?_⟩
      refine ⟨_, rfl, ?_⟩
      exact q _ _ _ _ (Int.emod_nonneg _ (by omega)) (Int.emod_lt_of_pos _ (by omega)) (by omega) (hP.put hP.a0 (Int.ediv_nonneg hP.b0 (by omega))) (Kp.put _)
    · -- at = pen['at']; pen['at'] = at + 1
      refine ⟨_, rfl, p, _, rfl, hP.ga, ?_⟩
      refine ⟨_, rfl, _, _, rfl, rfl, _, rfl, p, _, rfl, hP.pa, ?_⟩
      have hP6 := hP.put (a' := a + 1) (b' := b) (by have := hP.a0; omega) hP.b0
      have a0 := hP.a0
      have b0 := hP.b0
      have k1 : Kp p H (upd H p (.dK (penD l (a + 1) b))) := Kp.put _
      have aE : ∀ {x : Int}, x = a → -(2 ^ 64) < x ∧ x < 2 ^ 64 := fun e => by subst e; constructor <;> omega
      -- cell = 37 * at + 11
      refine ⟨_, rfl, _, _, rfl, rfl, .inl ⟨by decide, by decide⟩, _, _, rfl, rfl, ?_⟩
      -- if pen['cells'] != []
      refine ⟨_, rfl, p, _, rfl, hP6.gc, Nat.zero_le _, fun t ht => ?_⟩
      have hP2 : Pen (upd (upd H p (.dK (penD l (a + 1) b))) t (.lst [])) p l ns (a + 1) b := hP6.kp (Kp.new _ ht) (upd_ne (ne_of_none hP6.hd ht))
      have k2 := k1.trans (Kp.new (.lst []) ht)
      have hT : SqL K (upd (upd H p (.dK (penD l (a + 1) b))) t (.lst [])) t [] := .inl (.inl upd_same)
      refine ⟨_, _, .lst (.inl (.inl hP2.hl)) (dp_ints ns), .lst hT .nil, (sh_list (can_ints ns).1 (can_ints ns).2).1, (sh_list rfl rfl).1, _, rfl, ?_⟩
      generalize upd (upd H p (.dK (penD l (a + 1) b))) t (.lst []) = H2 at hP2 k2 hT ⊢
      rw [eqv_nil]
      have hm0 : (0 : Int) < m := by omega
      refine ite2 ?g1 ?g2
      case' g1 =>
        intro he
        have hn : 0 < ns.length := by
          cases ns with
          | nil => exact absurd he (by decide)
          | cons n ns => exact Nat.succ_pos _
        have hlt : (a % (ns.length : Int)).toNat < ns.length := by
          have h1 := Int.emod_nonneg a (show (ns.length : Int) ≠ 0 by omega)
          have h2 := Int.emod_lt_of_pos a (show (0 : Int) < (ns.length : Int) by omega)
          omega
        refine ⟨_, rfl, p, _, rfl, hP2.gc, _, rfl, .inl ⟨_, rfl, _, rfl, p, _, rfl, hP2.gc, _, _, rfl, .inl (.inl (.inl hP2.hl)), _, _, rfl, rfl, by rw [List.length_map]; omega, l, _, _, .int ns[(a % (ns.length : Int)).toNat], rfl, rfl, .inl (.inl hP2.hl), ?_, ?_⟩⟩
        · rw [List.length_map]
          exact at_of (Int.toNat_of_nonneg (Int.emod_nonneg a (show (ns.length : Int) ≠ 0 by omega))).symm (by rw [List.getElem?_map, List.getElem?_eq_getElem hlt]; rfl)
        generalize ns[(a % (ns.length : Int)).toNat] = c
      case' g2 =>
        intro he
        generalize 37 * a + 11 = c
      all_goals
        refine ⟨_, rfl, _, rfl, p, _, rfl, hP2.gc, _, _, rfl, .inl (.inl (.inl hP2.hl)), _, _, rfl, rfl, _, rfl, ?_⟩
        refine ite2 ?_ ?_
      all_goals intro h1
      all_goals try
        (refine ⟨_, rfl, _, _, rfl, rfl, ⟨by decide, by decide, by decide⟩, _, _, rfl, rfl, _, rfl, ?_⟩
         refine ite2 ?_ ?_ <;> intro h2)
      all_goals try
        (refine ⟨_, rfl, _, _, rfl, rfl, ⟨by decide, by decide, by decide⟩, _, _, rfl, rfl, _, rfl, _, _, rfl, rfl, ⟨hm0, hm2⟩, _, rfl, p, _, rfl, hP2.pl, ?_⟩
         refine ⟨_, rfl, _, _, rfl, rfl, ⟨by decide, by decide, by decide⟩, _, _, rfl, rfl, .inl ⟨_, rfl, _, rfl, _, _, rfl, rfl, hm0, ?_⟩⟩
         exact q _ _ _ _ (Int.emod_nonneg _ (Int.ne_of_gt hm0)) (Int.emod_lt_of_pos _ hm0) (Int.le_refl _) (hP2.put hP2.a0 (Int.ediv_nonneg (Int.sub_nonneg_of_le (of_decide_eq_true h2)) (Int.le_of_lt hm0))) (k2.trans (Kp.put _)))
      all_goals try refine iteF ?_
      all_goals
        refine ⟨_, rfl, .inl ⟨_, rfl, _, _, rfl, rfl, (by show (0 : Int) < _; decide), _, _, rfl, rfl, .inr ⟨by decide, by decide⟩, _, rfl, _, _, rfl, rfl, .inl ⟨by decide, by decide⟩, _, rfl, _, _, rfl, rfl, .inr (aE rfl), _, _, rfl, rfl, _, rfl, _, _, rfl, rfl, .inl ⟨by decide, by decide⟩, _, _, rfl, rfl, _, _, rfl, rfl, ?_⟩⟩
        refine ⟨_, rfl, .inl ⟨_, rfl, _, _, rfl, rfl, (by show (0 : Int) < _; decide), ?_⟩⟩
        refine ⟨_, rfl, _, rfl, _, _, rfl, rfl, _, _, rfl, rfl, .inl (emB _ _ (by decide) (by decide)), .inl ⟨_, rfl, _, _, rfl, rfl, (by show (0 : Int) < _; decide), ?_⟩⟩
        refine ⟨_, rfl, _, rfl, _, _, rfl, rfl, .inl (emB _ _ (by decide) (by decide)), .inl ⟨_, rfl, _, _, rfl, rfl, (by show (0 : Int) < _; decide), _, _, rfl, rfl, ⟨by decide, by decide⟩, .inl ⟨_, rfl, _, rfl, _, _, rfl, rfl, hm0, ?_⟩⟩⟩
        exact q _ _ _ _ (Int.emod_nonneg _ (Int.ne_of_gt hm0)) (Int.emod_lt_of_pos _ hm0) (Int.le_refl _) hP2 k2
end
end Ef
set_option Elab.async false
set_option linter.all false
set_option maxRecDepth 100000
set_option maxHeartbeats 4000000
namespace Ef
open PySem PySem.Spec PyProof.Rows L2
/-- a def of the text, by its name -/
structure Df (P : Program) (w : World) (K : PySem.W.Frag) (mg : Str → Option Value) (base : Heap) (k : Nat) (x : Str) (ps : List Str) (sp : Sp) : Prop where
  ex : ∃ f fd, mg x = some (.ref f) ∧ PySem.W.keepIn K (.ref f) = true ∧ Binds K fd ps [] ∧ FnOk P w K mg base CX0 k f fd ps sp
theorem Df.call {X : Cx} {k : Nat} {x : Str} {ps : List Str} {sp : Sp} {e : Expr} {es : List Expr} {t : TA} {p pos : Pos} (D : Df X.prog X.w X.K X.mg X.base k x ps sp) (hr : Room k X.A) (ha : PA X (e :: es) t) (hg : Gl X x := by rfl)
    (hdb : (x == ("__debug__" : Str)) = false := by decide) (he : starEach (e :: es) X.env = (false, eval e X.env) :: starEach es X.env := by rfl) (hpl : (backTo pos (starEach es X.env)).any (·.1) = false := by rfl) :
    PE X (.Call (.Name x p) (e :: es) [] pos) (tCall sp [] E0 t) := by
  obtain ⟨f, fd, hm, hk, hb, F⟩ := D.ex
  exact pe_call F hr hg hm hk hb .nil pass0 ha hdb he hpl
/-- where the text's def stands behind the top -/
structure At (K : PySem.W.Frag) (mg : Str → Option Value) (x : Str) (st : Stmt) : Prop where
  ex : ∃ f fd, mg x = some (.ref f) ∧ Fun K x x st f fd
section
variable {P : Program} {w : World} {K : PySem.W.Frag} {mg : Str → Option Value} {base : Heap}
theorem Kp.of_same {p : Addr} {H H' : Hp} (h : Same H H') : Kp p H H' := fun x o _ e => h x o e
theorem Kp.rd {p : Addr} {H H' : Hp} {q : Addr} {u : HO} (k : Kp p H H') (n : q ≠ p) (h : Rd H q u) : Rd H' q u := by
  rcases h with h | ⟨o, h⟩
  · exact .inl (k _ _ n h)
  · exact .inr ⟨o, k _ _ n h⟩
theorem Kp.sql {p : Addr} {H H' : Hp} {q : Addr} {xs : List V} (k : Kp p H H') (n : q ≠ p) (h : SqL K H q xs) : SqL K H' q xs := by
  rcases h with h | h
  · exact .inl (k.rd n h)
  · exact .inr h
theorem Kp.sqt {p : Addr} {H H' : Hp} {q : Addr} {xs : List V} (k : Kp p H H') (n : q ≠ p) (h : SqT K H q xs) : SqT K H' q xs := by
  rcases h with h | h
  · exact .inl (k.rd n h)
  · exact .inr h
theorem Kp.free {p : Addr} {H H' : Hp} (k : Kp p H H') {q : Addr} (n : q ≠ p) (h : H' q = none) : H q = none := by
  cases e : H q with
  | none => rfl
  | some o => rw [k q o n e] at h; cases h
theorem Kp.mut {p q : Addr} {H H' : Hp} {o : HO} (k : Kp p H H') (h : H q = none) : Kp p H (upd H' q o) := fun x u n e => by
  rw [upd_ne (ne_of_none e h)]
  exact k x u n e
theorem small1000' {n : Nat} (h : n ≤ 100000) : n < sizeLine := Nat.lt_of_le_of_lt h (by decide)
theorem df_draw (A : At K mg "_law_draw" sDraw) (T : TxtP mg) : Df P w K mg base 1 "_law_draw" ["pen", "many"] spDraw := by
  obtain ⟨f, fd, hm, F⟩ := A.ex
  exact ⟨f, fd, hm, F.kp, F.binds (fun _ _ _ _ _ _ us hl => match us, hl with | [_, _], _ => rfl), ok_draw F T⟩
/-! ### _law_pen -/
def spPen (K : PySem.W.Frag) : Sp := fun vs H Q _ => ∃ (a : Addr) (ns : List Int), vs = [.ref a] ∧ SqL K H a (ns.map V.int) ∧ ns.length ≤ 63 ∧ ∀ (p l : Addr) (H' : Hp), H p = none → Same H H' → Pen H' p l ns 0 0 → Q (.ref p) H'
theorem scPen : FnScope ["script"] ["script"] (defScope sPen) := ⟨rfl, rfl, rfl, by decide +kernel, rfl, by decide +kernel, by decide +kernel⟩
theorem cut63 (xs : List V) (h : xs.length ≤ 63) : cutV xs none (some 63) = xs := by
  unfold cutV
  rw [HT.sIx_none, show HT.sIx xs.length xs.length (some 63) = min 63 xs.length from HT.sIx_nat xs.length xs.length 63, Nat.min_eq_right h]
  simp
theorem df_pen (A : At K mg "_law_pen" sPen) (T : TxtP mg) : Df P w K mg base 1 "_law_pen" ["script"] (spPen K) := by
  obtain ⟨f, fd, hm, F⟩ := A.ex
  refine ⟨f, fd, hm, F.kp, F.binds (fun _ _ _ _ _ _ us hl => match us, hl with | [_], _ => rfl), F.ok scPen (fun vs H Q E h => ?_) (fun cdv A outer s H vs Q E hr h => ?_)⟩
  · obtain ⟨a, ns, rfl, _⟩ := h
    rfl
  · obtain ⟨a, ns, rfl, hS, hlen, q⟩ := h
    refine ⟨_, (pss_one (ps_ret (pe_disp (pps_cons pe_str (pe_callTy call_list_of (by rfl) T.list (by decide +kernel) (pa_cons (pe_slice sl_list (pv 0) po_none (po_some pe_int)) pa_nil)) (pps_cons pe_str pe_int (pps_cons pe_str pe_int pps_nil))) (by rfl) (by rfl) (fun z => by cases z) (by decide)))), ?_⟩
    intro p hp
    have s1 : Same H (upd H p (.dK [])) := fun b o e => by rw [upd_ne (ne_of_none e hp)]; exact e
    refine ⟨_, rfl, 63, rfl, a, _, rfl, s1.seq hS, fun c hc => ?_⟩
    rw [cut63 _ (by rw [List.length_map]; exact hlen)]
    have s2 : Same H (upd (upd H p (.dK [])) c (.lst (ns.map V.int))) := s1.trans fun b o e => by rw [upd_ne (ne_of_none e hc)]; exact e
    refine ⟨c, _, rfl, .inl (.inl (.inl upd_same)), fun l hl => ?_⟩
    have s3 : Same H (upd (upd (upd H p (.dK [])) c (.lst (ns.map V.int))) l (.lst (ns.map V.int))) := s2.trans fun b o e => by rw [upd_ne (ne_of_none e hl)]; exact e
    have hpc : p ≠ c := fun z => by rw [← z, upd_same] at hc; cases hc
    have hpl : p ≠ l := fun z => by rw [← z, upd_ne hpc, upd_same] at hl; cases hl
    refine ⟨by rw [upd_ne hpl, upd_ne hpc, upd_same], penD l 0 0, rfl, by show 3 ≤ 15; decide, ?_⟩
    refine q p l _ hp (fun b o e => ?_) ⟨upd_same, by rw [upd_ne hpl.symm, upd_same], hlen, Int.le_refl 0, Int.le_refl 0⟩
    rw [upd_ne (ne_of_none e hp)]
    exact s3 _ _ e
/-! ### _law_pick -/
def spPick (K : PySem.W.Frag) : Sp := fun vs H Q _ => ∃ (p l q : Addr) (ns : List Int) (a b : Int) (xs : List V), vs = [.ref p, .ref q] ∧ Pen H p l ns a b ∧ a ≤ 1073741824 ∧ SqL K H q xs ∧ q ≠ p ∧ 1 ≤ xs.length ∧ xs.length ≤ 100000 ∧
  ∀ (j : Nat) (v : V) (a' b' : Int) (H' : Hp), xs[j]? = some v → a' ≤ a + 1 → Pen H' p l ns a' b' → Kp p H H' → Q v H'
theorem scPick : FnScope ["pen", "some"] ["pen", "some"] (defScope sPick) := ⟨rfl, rfl, rfl, by decide +kernel, rfl, by decide +kernel, by decide +kernel⟩
theorem df_pick (A : At K mg "_law_pick" sPick) (T : TxtP mg) (Ddraw : Df P w K mg base 1 "_law_draw" ["pen", "many"] spDraw) : Df P w K mg base 2 "_law_pick" ["pen", "some"] (spPick K) := by
  obtain ⟨f, fd, hm, F⟩ := A.ex
  refine ⟨f, fd, hm, F.kp, F.binds (fun _ _ _ _ _ _ us hl => match us, hl with | [_, _], _ => rfl), F.ok scPick (fun vs H Q E h => ?_) (fun cdv A outer s H vs Q E hr h => ?_)⟩
  · obtain ⟨p, l, q, ns, a, b, xs, rfl, _⟩ := h
    rfl
  · obtain ⟨p, l, q, ns, a, b, xs, rfl, hP, ha, hS, hqp, h1, h2, k⟩ := h
    refine ⟨_, (pss_one (ps_ret (pe_ix ix_list (pv 1) (Ddraw.call (hr.mono (by decide)) (pa_cons (pv 0) (pa_cons (pe_callB call_len_seq (by rfl) T.len PySem.boot_len (pa_cons (pv 1) pa_nil)) pa_nil))) (fun _ _ => rfl)))), ?_⟩
    refine ⟨_, rfl, _, rfl, _, rfl, _, _, rfl, .inl hS, p, l, ns, a, b, _, rfl, hP, ha, by omega, by omega, fun d a' b' H' d0 d1 ha' hP' hK => ?_⟩
    have hd : d.toNat < xs.length := by omega
    exact ⟨q, _, _, _, rfl, rfl, hK.sql hqp hS, at_of (Int.toNat_of_nonneg d0).symm (List.getElem?_eq_getElem hd), k _ _ _ _ _ (List.getElem?_eq_getElem hd) ha' hP' hK⟩
end
end Ef
set_option Elab.async false
set_option linter.all false
set_option maxRecDepth 100000
set_option maxHeartbeats 2000000
/-! for i, x in enumerate(t), t a tuple -/
namespace Ef
open PySem PySem.Spec PyProof.Rows L2
def IteT (K : PySem.W.Frag) (a : Addr) : It :=
  ⟨fun i H => ∃ (xs : List V) (x : V), SqT K H a xs ∧ xs[i]? = some x, fun i H v H' => ∃ T x, v = .ref T ∧ H T = none ∧ H' = upd H T (.tup [.int (i : Nat), x]) ∧ ∀ xs, SqT K H a xs → xs[i]? = some x, fun i H => ∃ xs : List V, SqT K H a xs ∧ xs.length ≤ i⟩
/-- at vals end -/
theorem draws_end {prog : Program} {w : World} {A : Around} (hh : A.handled = none) (it t : Addr) (items : Array Value) (n : Nat) (hn : items.size ≤ n) :
    Draws prog w A it [it, t] n (fun _ _ => True) (fun i h => i = n ∧ h.IsTupleIter it t n ∧ h.IsTuple t items) where
  live := fun _ _ sta => let ⟨o, ho, _⟩ := sta.2.1; ⟨o, ho⟩
  frame := fun _ _ _ sta hk => ⟨sta.1, sta.2.1.at fun o e => hk it (by simp) o e, sta.2.2.at fun o e => hk t (by simp) o e⟩
  item := fun i s Q E hi sta hQ => absurd sta.1 (Nat.ne_of_lt hi)
  done := fun s Q E sta hE => wpAny_nextOf_tuple_end hh sta.2.1 sta.2.2 (by simp; omega) hE
theorem turn_enumT {P : Program} {w : World} {K : PySem.W.Frag} {elts : List Expr} {kk : Nat} {tpos : Pos} (a e it : Addr) :
    Turn P w K (.Tuple elts kk tpos) (IteT K a) [e, it] e (fun i h => (∃ was, IsEnum h e it (0 + ((i : Nat) : Int)) was) ∧ h.IsTupleIter it a i ∧ e ≠ it ∧ a ≠ it ∧ a ≠ e) where
  mem := by simp
  obj := fun i h sta b hb => by
    obtain ⟨⟨was, hEn⟩, ⟨o, ho, hc, hd⟩, _⟩ := sta
    have eOr : b = e ∨ b = it := by simpa using hb
    rcases eOr with z | z
    · rw [z]; exact ⟨_, hEn, fun v q => nomatch q⟩
    · rw [z]; exact ⟨o, ho, fun v q => by rw [hd] at q; cases q⟩
  keep := fun i h h' sta k => let ⟨⟨was, hEn⟩, hi, eNi⟩ := sta; ⟨⟨was, k e (by simp) _ hEn⟩, hi.at fun o q => k it (by simp) o q, eNi⟩
  item := by
    intro X hP hw hK hc i pins s σ H E I hFp sta hGo
    subst hP hw hK
    obtain ⟨⟨was, hEn⟩, hIt, eNi, aNi, aNe⟩ := sta
    obtain ⟨xs, x, hSq, hx⟩ := hGo
    obtain ⟨vals, rVs, p, zLen⟩ := I.tuple hSq
    obtain ⟨u, hu, ru⟩ := rVs.get hx
    have eIn : e < s.heap.objs.size := Heap.lt_size hEn
    have iIn : it < s.heap.objs.size := by obtain ⟨_, q, _⟩ := hIt; exact Heap.lt_size q
    have hlt : i < vals.toArray.size := by
      rcases Nat.lt_or_ge i vals.length with q | q
      · simpa using q
      · rw [List.getElem?_eq_none q] at hu; cases hu
    refine wpAny_pyNext_enum_itemC (Draws.tuple (A := X.A.in1) (I.ok.hd hc) it a aNi vals.toArray) hEn ⟨hIt, p⟩ hlt eNi (by simp [eNi, Ne.symm aNe]) fun y h' tk hy ho hit' hT zNew hk => ?_
    refine ⟨_, rfl, wpAny_letOwnedTupleGo_enum (s := { s with heap := h', toks := tk + 1 }) ho fun h'' he' sBut => ?_⟩
    have hT2 : h''.get? s.heap.objs.size = some { cls := .type "tuple", data := .seq #[.int (0 + ((i : Nat) : Int)) tk, y] } := (sBut.2 _ (Nat.ne_of_gt eIn)).trans hT
    have ey : y = u := by
      have z : vals[i]? = some y := by simpa using hy
      exact Option.some.inj (z.symm.trans hu)
    have e0 : (0 + ((i : Nat) : Int)) = (i : Int) := Int.zero_add _
    rw [e0] at hT2
    have fresh1 : ObjOk X.prog X.w (upd H s.heap.objs.size (.tup [.int (i : Nat), x])) h'' s.heap.objs.size (.tup [.int (i : Nat), x]) :=
      ⟨by show 2 ≤ sizeLine; decide, [.int i tk, y], .cons ⟨_, rfl⟩ (.cons (ey ▸ ru) .nil), ⟨_, hT2, rfl, _, rfl⟩⟩
    have J1 : Inv X pins σ (upd H s.heap.objs.size (.tup [.int (i : Nat), x])) { s with heap := h'', toks := tk + 1 } :=
      I.turnedNew (ch := [e, it]) (fun b ob hb q => (sBut.2 b (fun z => hb (by simp [z]))).trans (hk b ob (fun z => hb (by simp [z])) (fun z => hb (by simp [z])) q)) hFp (Nat.le_refl _) fresh1
    refine ⟨.ref s.heap.objs.size, _, J1, rfl, ⟨_, x, rfl, I.hok.fresh (Nat.le_refl _), rfl, fun ys hy => by rw [I.tuple_inj hy hSq]; exact hx⟩, ⟨⟨y, ?_⟩, hit'.1.at fun o q => (sBut.2 it (Ne.symm eNi)).trans q, eNi, aNi, aNe⟩, fun b hb => ?_⟩
    · have e1 : (0 + ((i + 1 : Nat) : Int)) = 0 + (i : Int) + 1 := by omega
      rw [e1]; exact he'
    · have bIn : b < s.heap.objs.size := by
        have eOr : b = e ∨ b = it := by simpa using hb
        rcases eOr with z | z
        · rw [z]; exact eIn
        · rw [z]; exact iIn
      rw [upd_ne (Nat.ne_of_lt bIn)]
      exact (hFp b hb).1
  done := by
    intro X hP hw hK hc i pins s σ H E I hFp sta hGo
    subst hP hw hK
    obtain ⟨⟨was, hEn⟩, hIt, eNi, aNi, aNe⟩ := sta
    obtain ⟨xs, hSq, hx⟩ := hGo
    obtain ⟨vals, rVs, p, zLen⟩ := I.tuple hSq
    obtain ⟨g0, g1, g2, g3, g4, g5⟩ := hFp it (by simp)
    have hl := rVs.length
    exact wpAny_pyNext_enum_endD (draws_end (A := X.A.in1) (I.ok.hd hc) it a vals.toArray i (by simp; omega)) hEn ⟨rfl, hIt, p⟩ fun h' eb => ⟨rfl, I.turned (t' := s.toks) (fun b o hb q => eb b o hb q) g0 g1 g3 g4 g5⟩
  self := fun A i s Q E sta h => let ⟨⟨_, hEn⟩, _⟩ := sta; wpAny_pyIter_enum hEn h
def iEnumT (K : PySem.W.Frag) (ta : TA) : TI := fun σ H R => ta σ H fun vs H1 => ∃ a xs, vs = [.ref a] ∧ SqT K H1 a xs ∧ R (IteT K a) H1
/-- a list or a tuple -/
def iEnumS (K : PySem.W.Frag) (ta : TA) : TI := fun σ H R => ta σ H fun vs H1 => ∃ a xs, vs = [.ref a] ∧ ((SqL K H1 a xs ∧ R (Ite K a) H1) ∨ (SqT K H1 a xs ∧ R (IteT K a) H1))
/-- enumerate(t): vals two fresh1 cells -/
theorem call_enumerate_tuple {prog : Program} {w : World} {A : Around} {E : Value → Shared → Prop} {s : Shared} {l : Addr} {items : Array Value} {Q : Value → Shared → Prop} (hL : s.heap.IsTuple l items)
    (h : ∀ h', IsEnum h' (s.heap.objs.size + 1) s.heap.objs.size (0 + ((0 : Nat) : Int)) .none → h'.IsTupleIter s.heap.objs.size l 0 → h'.objs.size = s.heap.objs.size + 2 →
      (∀ b o, s.heap.get? b = some o → h'.get? b = some o) → Q (.ref (s.heap.objs.size + 1)) { s with heap := h' }) :
    wpAny (model prog w) A (call (.type "enumerate") [.ref l]) Q E s := by
  have B := begins_tuple l items
  have M : Meets (Builtin.«enumerate.__new__» ⟨[.type "enumerate", .ref l], []⟩) (fun _ R s => s.heap.IsTuple l items ∧
      R (.ok (.ret (.ref (s.heap.push { cls := .type "tuple_iterator", data := .fields #[.ref l, .int 0 0] }).objs.size)))
        { s with heap := (s.heap.push { cls := .type "tuple_iterator", data := .fields #[.ref l, .int 0 0] }).push { cls := .type "enumerate", data := .fields #[.none, .bool false, .ref s.heap.objs.size, rawInt 0, .none, .none] } }) :=
    .of_wp fun prog w A R s h => by
      obtain ⟨heap0, g, d, tk, os⟩ := s
      obtain ⟨h1, h⟩ := h
      have subE := sub_enumerate
      have q1 : ∀ {A' : Around} {E : Value → Shared → Prop} {Q : Value → Shared → Prop}, Q (.ref heap0.objs.size) ⟨heap0.push { cls := .type "tuple_iterator", data := .fields #[.ref l, .int 0 0] }, g, d, tk, os⟩ → wpAny (model prog w) A' (pyIter (.ref l)) Q E ⟨heap0, g, d, tk, os⟩ :=
        fun q => B.iter prog w _ _ ⟨heap0, g, d, tk, os⟩ _ h1 q
      obtain ⟨oT, hoT, hcT, nT, hdT⟩ := id h1
      wp_walk using q1, AutoSeq1.wpAny_loadPart' hoT
      refine wpAny_stack_any fun sta => wpAny_pure ?_
      split
      · rename_i c _ _ _ _ _
        cases (c == Value.type "enumerate")
        · wp_walk using q1, AutoSeq1.wpAny_loadPart' hoT
          exact ⟨_, rfl, h⟩
        · wp_walk using q1, AutoSeq1.wpAny_loadPart' hoT
          exact ⟨_, rfl, h⟩
      · wp_walk using q1, AutoSeq1.wpAny_loadPart' hoT
        exact ⟨_, rfl, h⟩
  refine callType_new F.called_enumerate (by decide) (F.typeCall_enumerate_1 _) (F.newCall_enumerate_1 _) (fun obj => F.args_object_init_2 obj _) F.entry_enumerate_new M ⟨hL, ?_⟩
  have zLen : (s.heap.push { cls := .type "tuple_iterator", data := .fields #[.ref l, .int 0 0] }).objs.size = s.heap.objs.size + 1 := Heap.size_push ..
  show _ ∧ _
  rw [zLen]
  have hEn : IsEnum ((s.heap.push { cls := .type "tuple_iterator", data := .fields #[.ref l, .int 0 0] }).push
      { cls := .type "enumerate", data := .fields #[.none, .bool false, .ref s.heap.objs.size, rawInt 0, .none, .none] }) (s.heap.objs.size + 1) s.heap.objs.size 0 .none := by
    have := Heap.get?_push_size (s.heap.push { cls := .type "tuple_iterator", data := .fields #[.ref l, .int 0 0] })
      (o := { cls := .type "enumerate", data := .fields #[.none, .bool false, .ref s.heap.objs.size, rawInt 0, .none, .none] }) rfl
    rw [zLen] at this; exact this
  refine ⟨⟨_, hEn, rfl⟩, h _ hEn ⟨_, Heap.get?_push_of_some _ (Heap.get?_push_size _ rfl), rfl, rfl⟩ (by rw [Heap.size_push, zLen]) fun b o x => Heap.get?_push_of_some _ (Heap.get?_push_of_some _ x)⟩
theorem pi_enumS {X : Cx} {e : Expr} {ta : TA} {p pos tpos : Pos} {elts : List Expr} {kk : Nat} (hGo : Gl X "enumerate") (hm : X.mg "enumerate" = none) (ha : PA X [e] ta) (hs : starEach [e] X.env = [(false, eval e X.env)] := by rfl) :
    PI X (.Tuple elts kk tpos) (.Call (.Name "enumerate" p) [e] [] pos) (iEnumS X.K ta) := by
  refine ⟨fun pins s σ H R I h => ?_⟩
  refine Call_ (ld_blt I hGo hm boot_enumerate (PyProof.Rows.callWith_type1 (thn (ha.run pos pins s σ H _ I h) fun us s1 ⟨vs, H1, J1, r1, q1⟩ => ?_) hs rfl))
  obtain ⟨a, xs, ex, q⟩ := q1
  subst ex
  cases r1 with
  | cons r rr =>
    cases rr
    cases r
    have far : ∀ b, b ∈ [s1.heap.objs.size + 1, s1.heap.objs.size] → s1.heap.objs.size ≤ b := fun b hb => by
      have eOr : b = s1.heap.objs.size + 1 ∨ b = s1.heap.objs.size := by simpa using hb
      rcases eOr with z | z
      · rw [z]; exact Nat.le_add_right _ _
      · rw [z]; exact Nat.le_refl _
    rcases q with ⟨hSq, q⟩ | ⟨hSq, q⟩
    · obtain ⟨vals, rVs, pSeq, zLen⟩ := J1.list hSq
      refine call_enumerate_list pSeq.isList fun h' hEn hIt zNew hk => wpAny_pyIter_enum hEn ?_
      have J2 : Inv X pins σ H1 { s1 with heap := h' } := J1.kept (t' := s1.toks) hk
      exact ⟨s1.heap.objs.size + 1, [s1.heap.objs.size + 1, s1.heap.objs.size], _, _, H1, rfl, J2, turn_enum a (s1.heap.objs.size + 1) s1.heap.objs.size, ⟨⟨.none, hEn⟩, hIt, Nat.succ_ne_self _⟩, fun b hb => J1.fpOk (far b hb) (J1.hok.fresh (far b hb)), q⟩
    · obtain ⟨vals, rVs, pSeq, zLen⟩ := J1.tuple hSq
      have hal : a < s1.heap.objs.size := by obtain ⟨o, ho, _⟩ := (show s1.heap.IsTuple a vals.toArray from pSeq); exact Heap.lt_size ho
      refine call_enumerate_tuple (show s1.heap.IsTuple a vals.toArray from pSeq) fun h' hEn hIt zNew hk => wpAny_pyIter_enum hEn ?_
      have J2 : Inv X pins σ H1 { s1 with heap := h' } := J1.kept (t' := s1.toks) hk
      exact ⟨s1.heap.objs.size + 1, [s1.heap.objs.size + 1, s1.heap.objs.size], _, _, H1, rfl, J2, turn_enumT a (s1.heap.objs.size + 1) s1.heap.objs.size, ⟨⟨.none, hEn⟩, hIt, Nat.succ_ne_self _, Nat.ne_of_lt hal, Nat.ne_of_lt (Nat.lt_succ_of_lt hal)⟩, fun b hb => J1.fpOk (far b hb) (J1.hok.fresh (far b hb)), q⟩
end Ef
set_option Elab.async false
set_option linter.all false
set_option maxRecDepth 100000
set_option maxHeartbeats 2000000
/-! t[::-1] of a tuple; o(..) by the class's own __call__ -/
namespace Ef
open PySem PySem.Spec PyProof.Rows L2
theorem pick_back (its : Array Value) : (List.filterMap (fun k : Nat => its[((its.size : Int) - 1 + (k : Int) * (-1)).toNat]?) (List.range its.size)).toArray = its.toList.reverse.toArray := by
  congr 1
  have e : ∀ (l : List Nat), (∀ k ∈ l, k < its.size) → List.filterMap (fun k : Nat => its[((its.size : Int) - 1 + (k : Int) * (-1)).toNat]?) l = List.filterMap (fun x : Nat => its[x]?) (l.map fun k => its.size - 1 - k) := by
    intro l hl
    induction l with
    | nil => rfl
    | cons k l ih =>
      have := hl k (List.mem_cons_self)
      have q : ((its.size : Int) - 1 + (k : Int) * (-1)).toNat = its.size - 1 - k := by omega
      rw [List.map_cons, List.filterMap_cons, List.filterMap_cons, q, ih fun k hk => hl k (List.mem_cons_of_mem _ hk)]
  rw [e _ (fun k hk => List.mem_range.mp hk), PySem.W.krv_range, List.filterMap_reverse] 
  congr 1
  exact PySem.W.krv_all its
theorem places_back (n : Nat) : Builtin.Slice.slicePlaces ((n : Int) - 1) (-1) (-1) = n := by
  unfold Builtin.Slice.slicePlaces
  rw [if_neg (by decide)]
  split
  · have : ((n : Int) - 1 - -1 - 1) / -(-1 : Int) = (n : Int) - 1 := by
      rw [Int.neg_neg, Int.ediv_one]; omega
    rw [this]; omega
  · omega
theorem sliceApplied_back {prog : Program} {w : World} {A : Around} {E : Value → Shared → Prop} {s : Shared} {sl : Addr} {vl vu vs : Value} {n : Nat} {Q : Int × Int × Nat → Shared → Prop} (hs : s.heap.IsSliceOf sl vl vu vs) (pl : IsPart vl none) (pu : IsPart vu none) (ps : IsPart vs (some (-1)))
    (h : Q ((n : Int) - 1, -1, n) s) : wpAny (model prog w) A (Builtin.Slice.sliceApplied (.ref sl) (pure ↑n)) Q E s := by
  obtain ⟨os, hos, hcs, hds⟩ := id hs
  unfold Builtin.Slice.sliceApplied
  refine wpAny_bind ?_
  unfold Builtin.Slice.sliceFields
  refine wpAny_bind (wpAny_field hos hds rfl (wpAny_bind (wpAny_field hos hds rfl (wpAny_bind (wpAny_field hos hds rfl (wpAny_pure ?_))))))
  refine wpAny_bind (HT.slicePart_ ps ?_)
  dsimp only [Option.getD]
  rw [if_neg (by decide)]
  refine wpAny_bind (HT.slicePart_ pl (wpAny_bind (HT.slicePart_ pu (wpAny_bind (wpAny_pure ?_)))))
  have e : Builtin.Slice.sliceAdjust none none (-1) (n : Int) = ((n : Int) - 1, -1) := by
    unfold Builtin.Slice.sliceAdjust
    simp
  rw [e]
  dsimp only
  rw [places_back]
  exact wpAny_pure h
theorem getItem_tuple_back {prog : Program} {w : World} {A : Around} {E : Value → Shared → Prop} {s : Shared} {t sl : Addr} {items : Array Value} {vl vu vs : Value} {Q : Value → Shared → Prop} (ht : IsTup s.heap t items) (hs : s.heap.IsSliceOf sl vl vu vs) (pl : IsPart vl none) (pu : IsPart vu none) (ps : IsPart vs (some (-1)))
    (h : Q (.ref s.heap.objs.size) { s with heap := s.heap.push { cls := .type "tuple", data := .seq items.toList.reverse.toArray } }) (hsz : items.size ≤ sizeLine) : wpAny (model prog w) A (getItem (.ref t) (.ref sl)) Q E s := by
  obtain ⟨os, hos, hcs, hds⟩ := id hs
  have hTs : s.TypeIs (.ref sl) "slice" := ⟨os, hos, hcs⟩
  unfold getItem
  refine wpAny_holding (wpAny_bind (wpAny_sequenceKey (IsTup.typeIs ht) (by decide) (wpAny_bind (wpAny_callSpecial?_slot (IsTup.typeIs ht) slot_tuple_getitem (wpAny_call_entry slot_tuple_getitem (IsTup.typeIs ht) entry_tuple_getitem ?_ (args_tuple_getitem _ _))))))
  unfold Builtin.«tuple.__getitem__»
  show wpAny _ _ (Builtin.Tuple.tupleItemsOf (.ref t) >>= fun xs => _) _ _ _
  refine wpAny_bind (tupleItemsOf_ ht (wpAny_bind (wpAny_typeOf hTs ?_)))
  rw [if_pos (by decide)]
  refine wpAny_bind (sliceApplied_back (n := items.size) hs pl pu ps ?_)
  dsimp only
  rw [if_neg (by simp)]
  rw [pick_back]
  unfold Builtin.Tuple.tupleExact
  refine wpAny_bind (wpAny_newObj_type (wpAny_pure ⟨_, rfl, wpAny_pure h⟩) ?_)
  show items.toList.reverse.toArray.size ≤ sizeLine
  simpa using hsz
def tRevT (K : PySem.W.Frag) (te : TE) : TE := fun σ H Q => te σ H fun x H1 => ∃ a xs, x = .ref a ∧ SqT K H1 a xs ∧ ∀ p, H1 p = none → Q (.ref p) (upd H1 p (.tup xs.reverse))
theorem pe_revT {X : Cx} {e : Expr} {te : TE} {k : Nat} {p1 p2 p3 pos : Pos} (he : PE X e te) : PE X (e.Subscript (Expr.Slice none none (some (Expr.UnaryOp UnaryOp.USub (Expr.Constant (Const.int 1) k p1) p2)) p3) pos) (tRevT X.K te) := by
  refine ⟨fun pins s σ H Q I h => ?_⟩
  refine Subscript_ (thn (he.run pins s σ H _ I h) fun v s1 ⟨x, H1, I1, r1, a, xs, ex, hx, q⟩ => ?_)
  subst ex
  cases r1
  have hst := po_some (pe_un (X := X) (pos := p2) un_neg (pe_int (X := X) (i := 1) (j := k) (pos := p1)))
  refine wpAny_Slice (thn (po_none.run pins s1 σ H1 (fun o H2 => o = none ∧ H2 = H1) I1 ⟨rfl, rfl⟩) fun vl s2 ⟨l, H2, I2, pl, el, e2⟩ => ?_)
  subst el e2
  refine thn (po_none.run pins s2 σ _ (fun o H3 => o = none ∧ H3 = _) I2 ⟨rfl, rfl⟩) fun vu s3 ⟨u, H3, I3, pu, eu, e3⟩ => ?_
  subst eu e3
  refine thn (hst.run pins s3 σ _ (fun o H4 => o = some (-1) ∧ H4 = _) I3 ⟨1, rfl, -1, rfl, rfl, rfl⟩) fun vs s4 ⟨o, H4, I4, ps, eo, e4⟩ => ?_
  subst eo e4
  have I5 := I4.kept (t' := s4.toks) (fun b ob q => Heap.get?_push_of_some { cls := Value.type "slice", data := Data.fields #[vl, vu, vs] } q)
  obtain ⟨its, r, ht, hz⟩ := I5.tuple hx
  have hlen := r.length
  refine tail_any (IsTup.typeIs ht) slot_tuple_getitem.lookup (getItem_tuple_back ht (Heap.IsSliceOf.new s4.heap vl vu vs) pl pu ps ?_ ?_) (Eq.refl (subscripted _ false (Value.ref a) (Value.ref s4.heap.objs.size)))
  · refine ⟨.ref _, upd _ _ (.tup xs.reverse), Inv.laid I5 (fun b ob q => Heap.get?_push_of_some _ q) (Nat.le_refl _) ?_, rfl, q _ (I5.hok.fresh (Nat.le_refl _))⟩
    exact ⟨by rw [List.length_reverse]; exact hz, its.reverse, Vals.reverse r, ⟨_, Heap.get?_push_size _ rfl, rfl, 0, rfl⟩⟩
  · rw [List.size_toArray, ← hlen]; exact hz
end Ef
set_option Elab.async false
set_option linter.all false
set_option maxRecDepth 100000
set_option maxHeartbeats 2000000
namespace Ef
open PySem PySem.Spec PyProof.Rows L2
theorem callWith_inst {M : Model} {A : Around} {E : Value → Shared → Prop} {s : Shared} {pos : Pos} {x C : Addr} {ox : Obj} {first : List Value} {Q : Value → Shared → Prop} {args : List (Bool × Sem Value)} {keywords : List (Option Str × Sem Value)}
    (hplain : ((args.any fun x => x.fst) || keywords.any fun x => x.fst.isNone) = false) (hd : ox.data = Data.plain)
    (h : wpAny M A (evalArgs (.ref x) true args keywords) (fun a s₁ => (∃ od, PySem.W.InstAt s₁.heap x ox C od) ∧ wpAny M A (call (.ref x) (first ++ a.pos) a.kw) Q E s₁) E s) : wpAny M A (callWith pos (.ref x) first args keywords) Q E s := by
  unfold callWith
  refine wpAny_bind (wpAny_holding (wpAny_mono h (fun a s₁ h₁ => ?_) fun _ _ y => y))
  obtain ⟨⟨od, J⟩, h1⟩ := h₁
  refine wpAny_bind (wpAny_standAt ?_)
  have L := PySem.W.kco_keeper (M := M) J hd
  simp only [hplain]
  refine wpAny_bind (L.here ?_)
  have tail : ∀ {t : Sem Value}, wpAny M A t Q E s₁ → wpAny M A (t >>= fun r => do holding [r] point; pure r) Q E s₁ := fun {t} ht => wpAny_bind (wpAny_mono ht (fun r s₂ hr => wpAny_bind (wpAny_holding (wpAny_point (wpAny_pure hr)))) fun _ _ y => y)
  exact tail (wpAny_operateT h1)
/-- o(e, ..), o a local name that holds an instance of the class at C -/
def tCallI (C : Addr) (i : Nat) (sp : Sp) (E : L2.St → XK) (t : TA) : TE := fun σ H Q => ∃ a dx fs, σ[i]? = some (some (.ref a)) ∧ H a = some (.ins C dx fs) ∧ t σ H fun vs H1 => (∃ fs', H1 a = some (.ins C dx fs')) ∧ sp (.ref a :: vs) H1 Q (E σ)
theorem pe_callI {X : Cx} {CX : CXT} {k i : Nat} {C f : Addr} {fd : FuncData} {ps : List Str} {sp : Sp} {E : L2.St → XK} {x : Str} {p pos : Pos} {e : Expr} {es : List Expr} {t : TA}
    (hf : PySem.W.findIn X.K (.ref C) "__call__" = some (some (.ref f))) (hi : PySem.W.isFn X.K (.ref f) = true) (hn : PySem.W.fnIn X.K f = true)
    (F : FnOk X.prog X.w X.K X.mg X.base CX k f fd ps sp) (hr : Room k X.A) (hb : Binds X.K fd ps []) (hx : ∀ σ, PassesAt CX X σ (E σ)) (ha : PA X (e :: es) t)
    (hN : X.N[i]? = some x := by rfl) (hv : Vis X.env.scope x := by first | exact Or.inl rfl | exact Or.inr (Or.inl rfl) | exact Or.inr (Or.inr rfl))
    (hdb : (x == ("__debug__" : Str)) = false := by decide) (hcd : (x == ("__classdict__" : Str)) = false := by decide)
    (hst : starEach (e :: es) X.env = (false, eval e X.env) :: starEach es X.env := by rfl) (hpl : (backTo pos (starEach es X.env)).any (·.1) = false := by rfl) : PE X (.Call (.Name x p) (e :: es) [] pos) (tCallI C i sp E t) := by
  refine ⟨fun pins s σ H Q I h => ?_⟩
  obtain ⟨a, dx, fs, hs, ea, ht⟩ := h
  have hx' := pe_var (X := X) (pos := p) hN hv hdb hcd
  refine wpAny_Call_Name_kw (thn (hx'.run pins s σ H (fun v H1 => v = .ref a ∧ H1 = H) I ⟨.ref a, hs, rfl, rfl⟩) fun u s1 ⟨v, H1, I1, r1, q1⟩ => ?_)
  obtain ⟨rfl, rfl⟩ := q1
  cases r1
  show wpAny _ _ (callWith pos (.ref a) [] (backTo pos (starEach (e :: es) X.env)) []) _ _ _
  have w1 := thn (ha.run pos pins s1 σ _ _ I1 ht) (Q' := fun us s2 => (∃ od, PySem.W.InstAt s2.heap a (PySem.W.instObj C dx) C od) ∧ wpAny (model X.prog X.w) X.A (call (.ref a) ([] ++ us)) (EP X pins σ Q) X.xe s2) fun us s2 ⟨vs, H2, I2, r, ⟨fs', ea2⟩, q⟩ => by
    obtain ⟨mA2, OM2, _⟩ := ins_get I2.hok ea2
    obtain ⟨od2, J2, _⟩ := OM2.look
    refine ⟨⟨_, J2⟩, wpAny_call (PySem.W.kco_code I2.kIn J2 rfl hf hi hn ?_)⟩
    have hl : (.ref a :: us : List Value).length = ps.length := by rw [← F.len _ _ _ _ q]; exact congrArg (· + 1) r.length.symm
    have b := hb s2 (.ref a :: us) I2.kIn (by rw [List.append_nil]; exact hl)
    rw [List.append_nil] at b
    refine codeAny_mono (F.run X.A X.stack s2 H2 { pos := .ref a :: us } (.ref a :: us) (.ref a :: vs) Q (E σ) hr I2.env0 b (.cons rfl r) q) fun res s' hq => ?_
    cases res with
    | error er => exact hx σ pins H2 s2 er s' I2 hq
    | ok fl =>
      cases fl with
      | ret u => exact I2.after hq
      | next => exact False.elim hq
      | brk => exact False.elim hq
      | cont => exact False.elim hq
  rw [hst] at w1 ⊢
  refine callWith_inst (by simp only [backTo, List.any_cons] at hpl ⊢; simpa using hpl) rfl (PySem.Calls.evalArgs_plain w1)
end Ef
set_option Elab.async false
set_option linter.all false
set_option maxRecDepth 100000
set_option maxHeartbeats 2000000
/-! try with several clauses, each with a name -/
namespace Ef
open PySem PySem.Spec PyProof.Rows L2
abbrev AsC := Value × Nat × (Addr → Value → Option Addr → TS)
/-- the ends of a named clause: its name is gone behind it -/
def EndsAs (i : Nat) (D : Ends) : Ends := { nx := fun σ' H' => D.nx (σ'.set i none) H', rt := D.rt, bk := fun σ' H' => D.bk (σ'.set i none) H', ct := fun σ' H' => D.ct (σ'.set i none) H' }
def wAsL (K : PySem.W.Frag) (Wout : WX) (D : Ends) : List AsC → WX
  | [] => Wout
  | (c, i, ts) :: r => fun cls d σ H => ∃ b, PySem.W.exmOne K cls c = some b ∧ (b = true → ∀ a, H a = none → ts a cls d (EndsAs i D) (σ.set i (some (.ref a))) H) ∧ (b = false → wAsL K Wout D r cls d σ H)
inductive HdsAs (X : Cx) : List ExceptHandler → List AsC → Prop
  | nil : HdsAs X [] []
  | cons {x n : Str} {c : Value} {i : Nat} {ts : Addr → Value → Option Addr → TS} {b₀ : Stmt} {suite : List Stmt} {np pos' : Pos} {hds : List ExceptHandler} {l : List AsC}
      (hi : X.N[i]? = some n) (hln : X.env.kindOf n = some NameKind.local) (hc : Names X x c)
      (hsu : ∀ (a : Addr) (oe : Obj) (cls : Value) (d : Option Addr) (pn : List (Addr × Obj)), Zc cls d oe → (∃ vs, oe.data = Data.fields vs) → PSs (X.suite a ((a, oe) :: pn)) (b₀ :: suite) (ts a cls d))
      (r : HdsAs X hds l) : HdsAs X (ExceptHandler.ExceptHandler (some (Expr.Name x np)) (some n) (b₀ :: suite) pos' :: hds) ((c, i, ts) :: l)
/-- what stands when a clause is looked for -/
structure LandAs (X : Cx) (pins : List (Addr × Obj)) (σ : L2.St) (H : Hp) (sI : Shared) (B : Heap) (a : Addr) (cls : Value) (d : Option Addr) (s : Shared) : Prop where
  J : Inv X pins σ H sI
  nb : ∀ (b : Addr) (o : Obj), sI.heap.get? b = some o → ¬b ∈ frs X.stack → B.get? b = some o
  up : sI.heap.UpToSlots s.heap
  fl : PySem.HandSPX.FlyingZ B (X.env :: X.outer) a (Zc cls d) s.heap
  na : H a = none
  os : s.os = sI.os
  ag : PyProof.Rows.AllBare s.gens
theorem handle_as {X : Cx} {pins : List (Addr × Obj)} {σ : L2.St} {H : Hp} {sI : Shared} {B : Heap} {a : Addr} {cls : Value} {d : Option Addr} {D : Ends} {Wout : WX} (hs : X.stack = X.env :: X.outer) (hf : X.env.frame = some X.env.locals) (hN : X.N.Nodup) (tk : Takes X Wout) :
    ∀ {hds : List ExceptHandler} {l : List AsC}, HdsAs X hds l → ∀ {s : Shared}, LandAs X pins σ H sI B a cls d s → wAsL X.K Wout D l cls d σ H →
      wpAny (model X.prog X.w) X.A (handleBy (.ref a) X.env hds) (SP X pins D) X.xe s := by
  intro hds l hh
  induction hh with
  | nil =>
    intro s L h
    have k := id L.fl
    obtain ⟨k1, k2, k3, oe, vs, T, oT, ts', he, hz, hd, h1, hr⟩ := k
    refine wpAny_handleBy_nil ?_
    refine wpAny_bind (wpAny_field he hd h1 ?_)
    rw [if_neg (by simp)]
    refine wpAny_bind ?_
    rw [hf]
    refine PySem.HandSPX.setFlight_upZ L.fl fun h4 hh4 up4 => wpAny_throw (tk _ _ ⟨a, B, sI, pins, σ, H, cls, d, rfl, L.J, L.nb, Heap.UpToSlots.trans L.up up4, Or.inr (Or.inr (by rw [hs]; exact hh4)), L.na, L.os, L.ag, h⟩)
  | @cons x n c i ts b₀ suite np pos' hds l hi hln hc hsu r ih =>
    intro s L h
    have ok := L.J.ok
    have hloc : L2.Loc X.env.scope n := Or.inl hln
    have J3 := Inv.landed L.J L.nb L.fl.1 L.up L.os L.ag
    obtain ⟨oe3, vs3, he3, hz3, hd3⟩ := L.fl.there
    have notFr : ∀ {h' : Heap} {oe : Obj} {vs : Array Value}, h'.FunFrames B (X.env :: X.outer) → h'.get? a = some oe → oe.data = Data.fields vs → a ∉ List.filterMap (fun (x : Env) => x.frame) (X.env :: X.outer) := fun ff e dd hm => by
      obtain ⟨_, o', e', hnf⟩ := Heap.FunFrames.mem ff hm
      rw [e] at e'
      cases e'
      exact hnf _ dd
    have nfr := notFr L.fl.2.2.1 he3 hd3
    have nL : a ≠ X.env.locals := fun z => nfr (List.mem_filterMap.mpr ⟨X.env, List.mem_cons_self, by rw [hf, z]⟩)
    have nF : a ∉ X.fs := fun hm => by
      obtain ⟨e, he, q⟩ := List.mem_filterMap.mp hm
      exact nfr (List.mem_filterMap.mpr ⟨e, List.mem_cons_of_mem _ he, q⟩)
    have S3 := Inv.suite J3 he3 hd3 L.na nL nF
    obtain ⟨b, hb1, hyes, hno⟩ := h
    refine wpAny_handleBy_cons (codeAny_handlers_test ?_) (fun q => nomatch q)
    have LM : PySem.W.Looks (model X.prog X.w) s.heap (excMatches (.ref a) c) b := PySem.W.exm_one J3.kIn (fun A Q E s k q => wpAny_typeOf_ref (k a oe3 he3) (by rw [hz3.1]; exact q)) hb1
    have test : ∀ {Q E}, Q c s → wpAny (model X.prog X.w) (X.suite a ((a, oe3) :: (X.pn ++ pins))).A (eval (.Name x np) X.env) Q E s := fun {Q E} q => by
      obtain ⟨hg, hdbg, hm | ⟨hm, hv, hnn⟩⟩ := hc
      · exact ld_glob S3 hg hm q hdbg
      · exact ld_blt S3 hg hm hv q hnn hdbg
    refine test (LM.here ?_)
    cases b with
    | false => exact ih L (hno rfl)
    | true =>
      refine codeAny_handlers_suite_as (PySem.HandSPX.lands_againZ L.fl fun h4 fl4 up4 => ?_)
      have J4 := Inv.landed (s' := { s with heap := h4 }) L.J L.nb fl4.1 (Heap.UpToSlots.trans L.up up4) L.os L.ag
      obtain ⟨oe4, vs4, he4, hz4, hd4⟩ := fl4.there
      have S4 := Inv.suite J4 he4 hd4 L.na nL nF
      refine store_ok (X := X.suite a ((a, oe4) :: (X.pn ++ pins))) (pins := []) (v := .ref a) S4 hN hi hloc rfl (fun s5 S5 => wpAny_mono ((hsu a oe4 cls d (X.pn ++ pins) hz4 ⟨vs4, hd4⟩).run [] s5 (σ.set i (some (.ref a))) H (EndsAs i D) S5 (hyes rfl a L.na)) (fun f s6 hsp => ?_) fun _ _ z => False.elim z) (Or.inr hln)
      have end_ : ∀ {σ6 : L2.St} {H6 : Hp} {Q : Unit → Shared → Prop}, Inv (X.suite a ((a, oe4) :: (X.pn ++ pins))) [] σ6 H6 s6 → (∀ s7, Inv X pins (σ6.set i none) H6 s7 → Q () s7) → wpAny (model X.prog X.w) X.A (do bindName X.env n Value.none; unbindBehindTheSuite X.env n pos') Q X.xe s6 := fun S6 hq => gone_ok (Inv.unsuite S6 ok) hN hi hln hq
      cases f with
      | next => obtain ⟨σ6, H6, S6, q6⟩ := hsp; exact end_ S6 fun s7 J7 => ⟨_, _, J7, q6⟩
      | brk => obtain ⟨σ6, H6, S6, q6⟩ := hsp; exact end_ S6 fun s7 J7 => ⟨_, _, J7, q6⟩
      | cont => obtain ⟨σ6, H6, S6, q6⟩ := hsp; exact end_ S6 fun s7 J7 => ⟨_, _, J7, q6⟩
      | ret u => obtain ⟨v6, σ6, H6, S6, r6, q6⟩ := hsp; exact end_ S6 fun s7 J7 => ⟨v6, _, _, J7, r6, q6⟩
theorem ps_try_asL {X : Cx} {h₀ : ExceptHandler} {hds : List ExceptHandler} {l : List AsC} {body : List Stmt} {pos : Pos} {tb : WX → TS} {Wout : WX} (hs : X.stack = X.env :: X.outer) (hf : X.env.frame = some X.env.locals) (hN : X.N.Nodup) (tk : Takes X Wout)
    (hb : ∀ (W : WX) (pn : List (Addr × Obj)) (xe : Value → Shared → Prop), Takes (X.tr pn xe) W → PassesOwn (model X.prog X.w) X.A X.env xe → PSs (X.tr pn xe) body (tb W)) (hh : HdsAs X (h₀ :: hds) l) :
    PS X (.Try body (h₀ :: hds) [] [] pos) fun D σ H => tb (wAsL X.K Wout D l) D σ H := by
  refine ⟨fun pins s σ H D I h => ?_⟩
  have ok := I.ok
  have hfr : X.A.frames = some (X.env :: X.outer) := by rw [ok.frames, hs]
  refine wpAny_Try_except (wpAny_mono ((hb (wAsL X.K Wout D l) (X.pn ++ pins) _ (fun u s' xx => ?_) PassesOwn.looking).run [] s σ H D (Inv.toTry I _) h) (fun f s1 hsp => ?_) fun e s1 he => he)
  · obtain ⟨a, B, sI, pins', σ', H', cls, d, rfl, J', nb, up, sky, na, os, ag, hw⟩ := xx
    have J := Inv.ofTry J' ok
    have sky' : Sky B (X.env :: X.outer) a (Zc cls d) X.env.locals s'.heap := by rw [← hs]; exact sky
    exact Sky.land Zc.steady hfr hf sky' fun h3 fl3 up3 => handle_as hs hf hN tk hh ⟨J, nb, Heap.UpToSlots.trans up up3, fl3, na, os, ag⟩ hw
  · cases f with
    | next => obtain ⟨σ', H', J', q⟩ := hsp; exact wpAny_execs_nil ⟨σ', H', Inv.ofTry J' ok, q⟩
    | brk => obtain ⟨σ', H', J', q⟩ := hsp; exact ⟨σ', H', Inv.ofTry J' ok, q⟩
    | cont => obtain ⟨σ', H', J', q⟩ := hsp; exact ⟨σ', H', Inv.ofTry J' ok, q⟩
    | ret u => obtain ⟨v, σ', H', J', r, q⟩ := hsp; exact ⟨v, σ', H', Inv.ofTry J' ok, r, q⟩
end Ef
set_option Elab.async false
set_option linter.all false
/-! rows of whole numbers: values, differences, divisors -/
namespace Ef
/-- the value of a row -/
def evalR : List Int → Int → Int
  | [], _ => 0
  | c :: r, n => evalR r n * n + c
/-- of a degree below d -/
def PD : Nat → (Int → Int) → Prop
  | 0, f => ∀ n, f n = 0
  | d + 1, f => PD d fun n => f (n + 1) - f n
theorem PD.congr {d : Nat} {f g : Int → Int} (h : PD d f) (e : ∀ n, f n = g n) : PD d g := by
  have : f = g := funext e
  rw [← this]; exact h
theorem PD.add : ∀ {d : Nat} {f g : Int → Int}, PD d f → PD d g → PD d fun n => f n + g n
  | 0, f, g, hf, hg => fun n => by
    have h1 := hf n
    have h2 := hg n
    show f n + g n = 0
    rw [h1, h2]; rfl
  | d + 1, f, g, hf, hg => PD.congr (d := d) (PD.add (d := d) hf hg) fun n => by
    show (f (n + 1) - f n) + (g (n + 1) - g n) = (f (n + 1) + g (n + 1)) - (f n + g n)
    omega
theorem PD.up : ∀ {d : Nat} {f : Int → Int}, PD d f → PD (d + 1) f
  | 0, f, h => fun n => by
    have h1 := h n
    have h2 := h (n + 1)
    show f (n + 1) - f n = 0
    rw [h1, h2]; rfl
  | d + 1, f, h => PD.up (d := d) (f := fun n => f (n + 1) - f n) h
theorem PD.shift : ∀ {d : Nat} {f : Int → Int}, PD d f → PD d fun n => f (n + 1)
  | 0, f, h => fun n => h (n + 1)
  | d + 1, f, h => PD.shift (d := d) (f := fun n => f (n + 1) - f n) h
theorem PD.mulx : ∀ {d : Nat} {f : Int → Int}, PD d f → PD (d + 1) fun n => f n * n
  | 0, f, h => fun n => by
    have h1 := h n
    have h2 := h (n + 1)
    show f (n + 1) * (n + 1) - f n * n = 0
    rw [h1, h2, Int.zero_mul, Int.zero_mul]; rfl
  | d + 1, f, h => by
    have h1 := PD.mulx (d := d) (f := fun n => f (n + 1) - f n) h
    have h2 : PD (d + 1) fun n => f (n + 1) := PD.shift (d := d + 1) h
    show PD (d + 1) fun n => f (n + 1) * (n + 1) - f n * n
    refine PD.congr (d := d + 1) (PD.add h1 h2) fun n => ?_
    show (f (n + 1) - f n) * n + f (n + 1) = f (n + 1) * (n + 1) - f n * n
    rw [Int.sub_mul, Int.mul_add, Int.mul_one]
    omega
theorem PD.const (c : Int) : ∀ d : Nat, PD (d + 1) fun _ => c
  | 0 => fun n => Int.sub_self c
  | d + 1 => PD.up (PD.const c d)
theorem pd_row : ∀ r : List Int, PD r.length (evalR r)
  | [] => fun n => rfl
  | c :: r => PD.congr (d := r.length + 1) (PD.add (PD.mulx (pd_row r)) (PD.const c r.length)) fun n => rfl
theorem PD.dvd {u : Int} : ∀ {d : Nat} {f : Int → Int}, PD d f → (∀ k : Nat, k < d → u ∣ f k) → ∀ n, u ∣ f n
  | 0, f, h, _, n => by rw [h n]; exact Int.dvd_zero u
  | d + 1, f, h, hk, n => by
    have hd : ∀ n, u ∣ f (n + 1) - f n := PD.dvd (d := d) (f := fun n => f (n + 1) - f n) h fun k hk' => by
      have h1 := hk (k + 1) (by omega)
      have h2 := hk k (by omega)
      exact Int.dvd_sub h1 h2
    have h0 : u ∣ f 0 := hk 0 (by omega)
    have hp : ∀ k : Nat, u ∣ f k := fun k => by
      induction k with
      | zero => exact h0
      | succ k ih =>
        have := Int.dvd_add (hd k) ih
        rw [Int.sub_add_cancel] at this
        exact this
    have hn : ∀ k : Nat, u ∣ f (-(k : Int)) := fun k => by
      induction k with
      | zero => exact h0
      | succ k ih =>
        have h1 := hd (-((k + 1 : Nat) : Int))
        have e : -((k + 1 : Nat) : Int) + 1 = -(k : Int) := by omega
        rw [e] at h1
        have := Int.dvd_sub ih h1
        rw [Int.sub_sub_self] at this
        exact this
    rcases Int.le_total 0 n with z | z
    · have := hp n.toNat
      rw [Int.toNat_of_nonneg z] at this
      exact this
    · have := hn (-n).toNat
      rw [Int.toNat_of_nonneg (by omega), Int.neg_neg] at this
      exact this
/-- divisible at as many n in a row as the row has members: divisible everywhere -/
theorem row_dvd {r : List Int} {u : Int} (h : ∀ k : Nat, k < r.length → u ∣ evalR r k) (n : Int) : u ∣ evalR r n := (pd_row r).dvd h n
theorem eval_take : ∀ (r : List Int) (k : Nat) (n : Int), (∀ j, k ≤ j → j < r.length → r[j]? = some 0) → evalR (r.take k) n = evalR r n
  | [], k, n, _ => by rw [List.take_nil]
  | c :: r, 0, n, h => by
    have h0 : c = 0 := by
      have := h 0 (Nat.le_refl 0) (Nat.succ_pos _)
      simpa using this
    have ih := eval_take r 0 n fun j _ hj => by
      have := h (j + 1) (Nat.zero_le _) (Nat.succ_lt_succ hj)
      simpa using this
    show (0 : Int) = evalR r n * n + c
    rw [← ih, h0]
    show (0 : Int) = 0 * n + 0
    rw [Int.zero_mul]; rfl
  | c :: r, k + 1, n, h => by
    have ih := eval_take r k n fun j hk hj => by
      have := h (j + 1) (Nat.succ_le_succ hk) (Nat.succ_lt_succ hj)
      simpa using this
    show evalR (r.take k) n * n + c = evalR r n * n + c
    rw [ih]
theorem eval_map : ∀ (r : List Int) (g n : Int), (∀ c ∈ r, g ∣ c) → evalR r n = g * evalR (r.map fun c => c / g) n
  | [], g, n, _ => (Int.mul_zero g).symm
  | c :: r, g, n, h => by
    have ih := eval_map r g n fun c hc => h c (List.mem_cons_of_mem _ hc)
    show evalR r n * n + c = g * (evalR (r.map fun c => c / g) n * n + c / g)
    rw [Int.mul_add, Int.mul_ediv_cancel' (h c List.mem_cons_self), ih, Int.mul_assoc]
/-- the greatest common divisor of a number and a row -/
def gcdR (f : Nat) (t : List Int) : Nat := t.foldl (fun g c => Nat.gcd g c.natAbs) f
theorem gcdR_dvd : ∀ (t : List Int) (f : Nat), gcdR f t ∣ f ∧ ∀ c ∈ t, (gcdR f t : Int) ∣ c
  | [], f => ⟨Nat.dvd_refl f, fun c hc => by cases hc⟩
  | c :: t, f => by
    obtain ⟨h1, h2⟩ := gcdR_dvd t (Nat.gcd f c.natAbs)
    refine ⟨Nat.dvd_trans h1 (Nat.gcd_dvd_left _ _), fun x hx => ?_⟩
    rcases List.mem_cons.mp hx with rfl | hx
    · exact Int.ofNat_dvd_left.mpr (Nat.dvd_trans h1 (Nat.gcd_dvd_right _ _))
    · exact h2 x hx
theorem dvd_gcdR : ∀ (t : List Int) (f d : Nat), d ∣ f → (∀ c ∈ t, (d : Int) ∣ c) → d ∣ gcdR f t
  | [], f, d, h, _ => h
  | c :: t, f, d, h, hc => dvd_gcdR t (Nat.gcd f c.natAbs) d (Nat.dvd_gcd h (Int.ofNat_dvd_left.mp (hc c List.mem_cons_self))) fun x hx => hc x (List.mem_cons_of_mem _ hx)
theorem gcdR_one : ∀ t : List Int, gcdR 1 t = 1
  | [] => rfl
  | c :: t => by
    show gcdR (Nat.gcd 1 c.natAbs) t = 1
    rw [Nat.gcd_one_left]; exact gcdR_one t
theorem gcdR_pos {t : List Int} {f : Nat} (h : 0 < f) : 0 < gcdR f t := Nat.pos_of_dvd_of_pos (gcdR_dvd t f).1 h
theorem gcdR_take_succ {t : List Int} {f i : Nat} {c : Int} (h : t[i]? = some c) : gcdR f (t.take (i + 1)) = Nat.gcd (gcdR f (t.take i)) c.natAbs := by
  unfold gcdR
  rw [List.take_succ, h, Option.toList_some, List.foldl_append]
  rfl
/-- one lowest form -/
theorem gcdR_low {t : List Int} {f : Nat} (h : 0 < f) : gcdR (f / gcdR f t) (t.map fun c => c / (gcdR f t : Int)) = 1 := by
  have hg := gcdR_pos (t := t) h
  obtain ⟨h1, h2⟩ := gcdR_dvd t f
  obtain ⟨d1, d2⟩ := gcdR_dvd (t.map fun c => c / (gcdR f t : Int)) (f / gcdR f t)
  generalize hgd : gcdR (f / gcdR f t) (t.map fun c => c / (gcdR f t : Int)) = d at d1 d2 ⊢
  have k1 : d * gcdR f t ∣ f := by
    have := Nat.mul_dvd_mul_right d1 (gcdR f t)
    rw [Nat.div_mul_cancel h1] at this
    exact this
  have k2 : ∀ c ∈ t, ((d * gcdR f t : Nat) : Int) ∣ c := fun c hc => by
    have z := d2 (c / (gcdR f t : Int)) (List.mem_map_of_mem hc)
    have z2 := Int.mul_dvd_mul_right (gcdR f t : Int) z
    rw [Int.ediv_mul_cancel (h2 c hc)] at z2
    rw [Int.natCast_mul]
    exact z2
  have k3 := dvd_gcdR t f _ k1 k2
  have k4 := Nat.le_of_dvd hg k3
  rcases Nat.lt_or_ge d 2 with z | z
  · rcases Nat.eq_zero_or_pos d with rfl | z0
    · rw [Nat.zero_mul] at k3
      have := Nat.eq_zero_of_zero_dvd k3
      omega
    · omega
  · have := Nat.mul_le_mul_right (gcdR f t) z
    omega
/-- the row without the zeros at its end -/
def TrimOk (r t : List Int) : Prop := ∃ k, k ≤ r.length ∧ t = r.take k ∧ (∀ j, k ≤ j → j < r.length → r[j]? = some 0) ∧ (k = 0 ∨ ∃ c, r[k - 1]? = some c ∧ c ≠ 0)
/-- the least form p over u of the row r over un -/
structure Low (r : List Int) (un : Nat) (p : List Int) (u : Nat) : Prop where
  ex : ∃ (k g : Nat), 0 < g ∧ k ≤ r.length ∧ p = (r.take k).map (fun c => c / (g : Int)) ∧ (∀ c ∈ r.take k, (g : Int) ∣ c) ∧ un = g * u ∧ gcdR u p = 1 ∧ (∀ j, k ≤ j → j < r.length → r[j]? = some 0) ∧ (k = 0 ∨ ∃ c, r[k - 1]? = some c ∧ c ≠ 0)
  u1 : 0 < u
theorem Low.of_trim {r t : List Int} {un : Nat} (h : TrimOk r t) (h0 : 0 < un) : Low r un (t.map fun c => c / (gcdR un t : Int)) (un / gcdR un t) := by
  obtain ⟨k, hk, rfl, hz, hl⟩ := h
  have hg := gcdR_pos (t := r.take k) h0
  obtain ⟨h1, h2⟩ := gcdR_dvd (r.take k) un
  refine ⟨⟨k, gcdR un (r.take k), hg, hk, rfl, h2, (Nat.mul_div_cancel' h1).symm, gcdR_low h0, hz, hl⟩, Nat.div_pos (Nat.le_of_dvd h0 h1) hg⟩
theorem Low.eval {r p : List Int} {un u : Nat} (h : Low r un p u) (n : Int) : ∃ g : Int, 0 < g ∧ (un : Int) = g * u ∧ evalR r n = g * evalR p n := by
  obtain ⟨k, g, hg, hk, rfl, hd, hu, _, hz, _⟩ := h.ex
  refine ⟨g, by omega, by rw [hu, Int.natCast_mul], ?_⟩
  rw [← eval_take r k n hz, eval_map _ (g : Int) n hd]
theorem Low.mod {r p : List Int} {un u : Nat} (h : Low r un p u) (n : Int) : evalR r n % (un : Int) = 0 ↔ evalR p n % (u : Int) = 0 := by
  obtain ⟨g, hg, e1, e2⟩ := h.eval n
  rw [e1, e2, Int.mul_emod_mul_of_pos _ _ hg]
  constructor
  · intro z
    rcases Int.mul_eq_zero.mp z with z | z
    · omega
    · exact z
  · intro z
    rw [z, Int.mul_zero]
theorem Low.div {r p : List Int} {un u : Nat} (h : Low r un p u) (n : Int) : evalR r n / (un : Int) = evalR p n / (u : Int) := by
  obtain ⟨g, hg, e1, e2⟩ := h.eval n
  rw [e1, e2, Int.mul_ediv_mul_of_pos _ _ hg]
theorem Low.len {r p : List Int} {un u : Nat} (h : Low r un p u) : p.length ≤ r.length := by
  obtain ⟨k, g, hg, hk, rfl, _⟩ := h.ex
  rw [List.length_map, List.length_take]
  omega
/-- whole everywhere -/
theorem Low.whole {r p : List Int} {un u : Nat} (h : Low r un p u) : (∀ k : Nat, k < p.length → evalR p k % (u : Int) = 0) ↔ ∀ n : Int, -1 ≤ n → n < (r.length : Int) + 2 → evalR r n % (un : Int) = 0 := by
  constructor
  · intro hk n _ _
    exact (h.mod n).mpr (Int.emod_eq_zero_of_dvd (row_dvd (fun k hk' => Int.dvd_of_emod_eq_zero (hk k hk')) n))
  · intro hn k hk
    have := h.len
    exact (h.mod k).mp (hn k (by omega) (by omega))
/-- of at most b bits -/
def Bd (b : Nat) (x : Int) : Prop := x.natAbs < 2 ^ b
theorem Bd.up {a b : Nat} {x : Int} (h : Bd a x) (e : a ≤ b) : Bd b x := Nat.lt_of_lt_of_le h (Nat.pow_le_pow_right (by decide) e)
theorem Bd.step {a b c w : Nat} {x y z : Int} (hx : Bd a x) (hy : Bd b y) (hz : Bd c z) (h1 : a + b + 1 ≤ w) (h2 : c + 1 ≤ w) : Bd w (x * y + z) := by
  unfold Bd at *
  have e1 : (x * y + z).natAbs ≤ x.natAbs * y.natAbs + z.natAbs := by
    have := Int.natAbs_add_le (x * y) z
    rw [Int.natAbs_mul] at this
    exact this
  have e2 : x.natAbs * y.natAbs ≤ 2 ^ a * 2 ^ b := Nat.mul_le_mul (Nat.le_of_lt hx) (Nat.le_of_lt hy)
  rw [← Nat.pow_add] at e2
  have e3 : 2 ^ (a + b) ≤ 2 ^ (w - 1) := Nat.pow_le_pow_right (by decide) (by omega)
  have e4 : 2 ^ c ≤ 2 ^ (w - 1) := Nat.pow_le_pow_right (by decide) (by omega)
  have e5 : 2 ^ w = 2 ^ (w - 1) + 2 ^ (w - 1) := by
    rw [← Nat.two_mul, ← Nat.pow_succ', Nat.succ_eq_add_one, Nat.sub_add_cancel (by omega)]
  omega
theorem Bd.zero (b : Nat) : Bd b 0 := Nat.pow_pos (by decide)
theorem bd_eval {n : Int} {b : Nat} (hn : Bd b n) : ∀ r : List Int, (∀ c ∈ r, Bd b c) → Bd ((b + 1) * r.length) (evalR r n)
  | [], _ => Bd.zero _
  | c :: r, h => by
    have ih := bd_eval hn r fun c hc => h c (List.mem_cons_of_mem _ hc)
    have := Bd.step ih hn (h c List.mem_cons_self) (w := (b + 1) * (r.length + 1)) (by rw [Nat.mul_succ]; omega) (by rw [Nat.mul_succ]; omega)
    exact this
theorem Bd.div {b : Nat} {x g : Int} (h : Bd b x) (hg : 0 < g) : Bd b (x / g) := by
  unfold Bd at *
  rcases Int.le_total 0 x with z | z
  · have h1 := Int.ediv_nonneg z (Int.le_of_lt hg)
    have h2 : x / g ≤ x := Int.ediv_le_self g z
    omega
  · have h1 : x / g ≤ 0 := Int.ediv_nonpos_of_nonpos_of_neg z hg
    have h2 : x ≤ x / g := by
      rw [Int.le_ediv_iff_mul_le hg]
      have := Int.mul_le_mul_of_nonpos_left (c := 1) (b := g) (a := x) z (by omega)
      omega
    omega
end Ef
set_option Elab.async false
set_option linter.all false
set_option maxRecDepth 100000
set_option maxHeartbeats 4000000
namespace Ef
open PySem PySem.Spec PyProof.Rows L2
abbrev sIsInt : Stmt := top 10
abbrev sFrom : Stmt := top 11
structure TxtW (mg : Str → Option Value) : Prop extends TxtP mg where
  isinstance : mg "isinstance" = none
  bool : mg "bool" = none
  enumerate : mg "enumerate" = none
  reversed : mg "reversed" = none
  range : mg "range" = none
  tuple : mg "tuple" = none
/-- no int: a value of another built-in kind, or a truth -/
def NotInt (K : PySem.W.Frag) (H : Hp) (v : V) : Prop := ∃ (n : String) (b1 b2 : Bool), TyX K H v (.type n) ∧ kitB n "int" = some b1 ∧ kitB n "bool" = some b2 ∧ (b1 && !b2) = false
section
variable {P : Program} {w : World} {K : PySem.W.Frag} {mg : Str → Option Value} {base : Heap}
def spIsInt (K : PySem.W.Frag) : Sp := fun vs H Q _ => ∃ (v : V) (n : String) (b1 b2 : Bool), vs = [v] ∧ TyX K H v (.type n) ∧ kitB n "int" = some b1 ∧ kitB n "bool" = some b2 ∧ Q (.bl (b1 && !b2)) H
theorem scIsInt : FnScope ["value"] ["value"] (defScope sIsInt) := ⟨rfl, rfl, rfl, by decide +kernel, rfl, by decide +kernel, by decide +kernel⟩
theorem df_isint (A : At K mg "is_int" sIsInt) (T : TxtW mg) : Df P w K mg base 1 "is_int" ["value"] (spIsInt K) := by
  obtain ⟨f, fd, hm, F⟩ := A.ex
  refine ⟨f, fd, hm, F.kp, F.binds (fun _ _ _ _ _ _ us hl => match us, hl with | [_], _ => rfl), F.ok scIsInt (fun vs H Q E h => ?_) (fun cdv A outer s H vs Q E hr h => ?_)⟩
  · obtain ⟨v, n, b1, b2, rfl, _⟩ := h
    rfl
  · obtain ⟨v, n, b1, b2, rfl, ht, h1, h2, q⟩ := h
    refine ⟨_, (pss_one (ps_ret (pe_and (pe_callB call_isi (by rfl) T.isinstance (by decide +kernel) (pa_cons (pv 0) (pa_cons (pe_bltn (v := .ty "int") (by rfl) T.int (by decide +kernel) rfl) pa_nil))) (pe_one (pe_not (pe_callB call_isi (by rfl) T.isinstance (by decide +kernel) (pa_cons (pv 0) (pa_cons (pe_bltn (v := .ty "bool") (by rfl) T.bool (by decide +kernel) rfl) pa_nil)))))))), ?_⟩
    refine ⟨v, rfl, _, _, _, _, _, rfl, .ty "int", ht, kit_ty h1, b1, rfl, ?_⟩
    cases b1 with
    | true =>
      refine iteT ⟨v, rfl, _, _, _, _, _, rfl, .ty "bool", ht, kit_ty h2, b2, rfl, ?_⟩
      exact q
    | false => exact iteF q
def spFrom (K : PySem.W.Frag) : Sp := fun vs H Q _ => ∃ (v : V) (low : Int), vs = [v, .int low] ∧ ((∃ i, v = .int i ∧ Q (.bl (decide (low ≤ i))) H) ∨ (NotInt K H v ∧ Q (.bl false) H))
theorem scFrom : FnScope ["value", "low"] ["value", "low"] (defScope sFrom) := ⟨rfl, rfl, rfl, by decide +kernel, rfl, by decide +kernel, by decide +kernel⟩
theorem df_from (A : At K mg "is_int_from" sFrom) (Disint : Df P w K mg base 1 "is_int" ["value"] (spIsInt K)) : Df P w K mg base 2 "is_int_from" ["value", "low"] (spFrom K) := by
  obtain ⟨f, fd, hm, F⟩ := A.ex
  refine ⟨f, fd, hm, F.kp, F.binds (fun _ _ _ _ _ _ us hl => match us, hl with | [_, _], _ => rfl), F.ok scFrom (fun vs H Q E h => ?_) (fun cdv A outer s H vs Q E hr h => ?_)⟩
  · obtain ⟨v, low, rfl, _⟩ := h
    rfl
  · obtain ⟨v, low, rfl, h⟩ := h
    refine ⟨_, (pss_one (ps_ret (pe_and (Disint.call (hr.mono (by decide)) (pa_cons (pv 0) pa_nil)) (pe_one (pe_cmpR op_ge (pv 0) (pv 1) (nomark _)))))), ?_⟩
    rcases h with ⟨i, rfl, q⟩ | ⟨⟨n, b1, b2, ht, h1, h2, hb⟩, q⟩
    · refine ⟨_, rfl, _, "int", true, false, rfl, .base (.int i), by decide +kernel, by decide +kernel, _, rfl, ?_⟩
      exact iteT ⟨_, rfl, _, rfl, _, _, rfl, rfl, q⟩
    · refine ⟨_, rfl, _, n, b1, b2, rfl, ht, h1, h2, _, rfl, ?_⟩
      rw [hb]
      exact iteF q
end
end Ef
set_option Elab.async false
set_option linter.all false
set_option maxRecDepth 100000
set_option maxHeartbeats 2000000
/-! in, not, bool(..) by a class's own methods; a class that a local name holds, called -/
namespace Ef
open PySem PySem.Spec PyProof.Rows L2
/-- the class at C has its own method m: the def at f, which keeps sp -/
structure Own (P : Program) (w : World) (K : PySem.W.Frag) (mg : Str → Option Value) (base : Heap) (k : Nat) (C : Addr) (m : Str) (ps : List Str) (sp : Sp) : Prop where
  ex : ∃ f fd, PySem.W.findIn K (.ref C) m = some (some (.ref f)) ∧ PySem.W.isFn K (.ref f) = true ∧ PySem.W.typeIn K (.ref f) = some (.type "function") ∧ PySem.W.keepIn K (.ref f) = true ∧ Binds K fd ps [] ∧ FnOk P w K mg base CX0 k f fd ps sp
section
variable {X : Cx} {pins : List (Addr × Obj)} {σ : L2.St} {H : Hp} {s : Shared} {Q : VK} {k : Nat} {C a dx : Addr} {fs : List (Str × V)} {m : Str} {ps : List Str} {sp : Sp} {A : Around} {E' : Value → Shared → Prop}
/-- the call of a def from below the body that runs -/
theorem run_low {f : Addr} {fd : FuncData} {us : List Value} {vs : List V} (F : FnOk X.prog X.w X.K X.mg X.base CX0 k f fd ps sp) (hr : Room k A) (hfr : A.frames = X.A.frames) (hb : Binds X.K fd ps []) (I : Inv X pins σ H s) (r : Vals vs us) (h : sp vs H Q E0) :
    wpAny (model X.prog X.w) A (call (.ref f) us) (EP X pins σ Q) E' s := by
  have e0 : Env0 X.prog X.w X.K X.mg X.base A X.stack s H := by
    have e := I.env0
    exact ⟨hfr.trans e.frames, e.mod, e.bs, e.bsz, e.funs, e.frf, e.hok, e.bare⟩
  have hl : (us ++ []).length = ps.length := by rw [List.append_nil, ← r.length]; exact F.len _ _ _ _ h
  have hbt := hb s us I.kIn hl
  rw [List.append_nil] at hbt
  refine wpAny_call (codeAny_mono (F.run A X.stack s H ⟨us, []⟩ us vs Q E0 hr e0 hbt r h) fun res s' hq => ?_)
  cases res with
  | error e => exact False.elim hq
  | ok fl =>
    cases fl with
    | ret u => exact I.after hq
    | next => exact False.elim hq
    | brk => exact False.elim hq
    | cont => exact False.elim hq
/-- callSpecial? of such a method -/
theorem own_special {args : List Value} {vs : List V} {R : Option Value → Shared → Prop} (O : Own X.prog X.w X.K X.mg X.base k C m ps sp) (hr : Room k A) (hfr : A.frames = X.A.frames) (I : Inv X pins σ H s) (ea : H a = some (.ins C dx fs)) (r : Vals vs args)
    (h : sp (.ref a :: vs) H Q E0) (hR : ∀ u s', EP X pins σ Q u s' → R (some u) s') : wpAny (model X.prog X.w) A (callSpecial? (.ref a) m args) R E' s := by
  obtain ⟨f, fd, hf, hi, ht, hk, hb, F⟩ := O.ex
  obtain ⟨mA, OM, _⟩ := ins_get I.hok ea
  obtain ⟨od, J, _⟩ := OM.look
  refine PySem.W.special_fn I.kIn J hf ht ?_
  exact wpAny_mono (run_low (us := .ref a :: args) (vs := .ref a :: vs) F hr hfr hb I (.cons rfl r) h) (fun u s' z => hR u s' z) fun _ _ z => z
theorem own_unless {args : List Value} {vs : List V} {refuse : Sem Value} {R : Option Value → Shared → Prop} (O : Own X.prog X.w X.K X.mg X.base k C m ps sp) (hr : Room k A) (hfr : A.frames = X.A.frames) (I : Inv X pins σ H s) (ea : H a = some (.ins C dx fs)) (r : Vals vs args)
    (h : sp (.ref a :: vs) H Q E0) (hR : ∀ u s', EP X pins σ Q u s' → R (some u) s') : wpAny (model X.prog X.w) A (callSpecialUnlessNone? (.ref a) m args refuse) R E' s := by
  obtain ⟨f, fd, hf, hi, ht, hk, hb, F⟩ := O.ex
  obtain ⟨mA, OM, _⟩ := ins_get I.hok ea
  obtain ⟨od, J, _⟩ := OM.look
  unfold callSpecialUnlessNone? specialOf
  refine wpAny_bind (wpAny_bind (J.type.here ((PySem.W.looks_findIn I.kIn hf).here ?_)))
  refine wpAny_holding (wpAny_bind ((PySem.W.bind_fn I.kIn _ ht).here ?_))
  show wpAny _ _ (if (Value.ref f == Value.none) = true then _ else _) _ _ _
  rw [if_neg (show ¬ ((Value.ref f == Value.none) = true) from Bool.false_ne_true)]
  refine wpAny_bind (wpAny_mono (run_low (us := .ref a :: args) (vs := .ref a :: vs) F hr hfr hb I (.cons rfl r) h) (fun u s' z => wpAny_pure (hR u s' z)) fun _ _ z => z)
/-- x in o, x not in o, by o's own __contains__ -/
def rOwnIn (C : Addr) (sp : Sp) (neg : Bool) : R2 := fun x y H Q => ∃ (a dx : Addr) (fs : List (Str × V)), y = .ref a ∧ H a = some (.ins C dx fs) ∧ sp [.ref a, x] H (fun v H' => ∃ b, v = .bl b ∧ Q (.bl (if neg = true then !b else b)) H') E0
theorem contains_own {x : V} {u : Value} {R : Bool → Shared → Prop} {Qb : Bool → Hp → Prop} (O : Own X.prog X.w X.K X.mg X.base k C "__contains__" ps sp) (hr : Room k A) (hfr : A.frames = X.A.frames) (I : Inv X pins σ H s) (ea : H a = some (.ins C dx fs)) (r : RelV x u)
    (h : sp [.ref a, x] H (fun v H' => ∃ b, v = .bl b ∧ Qb b H') E0) (hR : ∀ b H' s', Inv X pins σ H' s' → Qb b H' → R b s') : wpAny (model X.prog X.w) A (contains (.ref a) u) R E' s := by
  obtain ⟨f, fd, hf, _⟩ := id O.ex
  obtain ⟨mA, OM, _⟩ := ins_get I.hok ea
  obtain ⟨od, J, _⟩ := OM.look
  unfold contains
  refine wpAny_holding ?_
  have e1 : stdlibNamesSay? (.ref a) u = none := by cases u <;> rfl
  rw [e1]
  dsimp only
  refine wpAny_bind ?_
  unfold specialOf
  refine wpAny_bind (J.type.here ((PySem.W.looks_findIn I.kIn hf).here ?_))
  show wpAny _ _ (if (some (Value.ref f) == some Value.none) = true then _ else _) _ _ _
  rw [if_neg (show ¬ ((some (Value.ref f) == some Value.none) = true) from Bool.false_ne_true)]
  refine wpAny_bind (own_unless (vs := [x]) O hr hfr I ea (.cons r .nil) h fun w' s' hz => ?_)
  obtain ⟨v, H', I', rv, b, rfl, q⟩ := hz
  cases rv
  exact wpAny_truthy_bool (hR b H' s' I' q)
theorem op_in_own (O : Own X.prog X.w X.K X.mg X.base k C "__contains__" ps sp) (hr : Room k X.A) : OpR X (compareOp .In) (rOwnIn C sp false) := by
  intro pins s σ H x y v u Q I rx ry h
  obtain ⟨a, dx, fs, rfl, ea, q⟩ := h
  cases ry
  show wpAny _ _ (contains (.ref a) v >>= fun z => pure (Value.bool z)) _ _ _
  exact wpAny_bind (contains_own O hr rfl I ea rx q fun b H' s' I' z => wpAny_pure ⟨.bl b, H', I', rfl, z⟩)
theorem op_notin_own (O : Own X.prog X.w X.K X.mg X.base k C "__contains__" ps sp) (hr : Room k X.A) : OpR X (compareOp .NotIn) (rOwnIn C sp true) := by
  intro pins s σ H x y v u Q I rx ry h
  obtain ⟨a, dx, fs, rfl, ea, q⟩ := h
  cases ry
  show wpAny _ _ (contains (.ref a) v >>= fun z => pure (Value.bool (!z))) _ _ _
  exact wpAny_bind (contains_own O hr rfl I ea rx q fun b H' s' I' z => wpAny_pure ⟨.bl (!b), H', I', rfl, z⟩)
/-- truth by an own __bool__ -/
theorem truthy_own {R : Bool → Shared → Prop} {Qb : Bool → Hp → Prop} (O : Own X.prog X.w X.K X.mg X.base k C "__bool__" ps sp) (hr : Room k A) (hfr : A.frames = X.A.frames) (I : Inv X pins σ H s) (ea : H a = some (.ins C dx fs))
    (h : sp [.ref a] H (fun v H' => ∃ b, v = .bl b ∧ Qb b H') E0) (hR : ∀ b H' s', Inv X pins σ H' s' → Qb b H' → R b s') : wpAny (model X.prog X.w) A (truthy (.ref a)) R E' s := by
  unfold truthy
  refine wpAny_bind (own_special (vs := []) (args := []) O hr hfr I ea .nil h fun w' s' hz => ?_)
  obtain ⟨v, H', I', rv, b, rfl, q⟩ := hz
  cases rv
  exact wpAny_pure (hR b H' s' I' q)
def rOwnTr (C : Addr) (sp : Sp) : V → Hp → (Bool → Hp → Prop) → Prop := fun x H Q => ∃ (a dx : Addr) (fs : List (Str × V)), x = .ref a ∧ H a = some (.ins C dx fs) ∧ sp [.ref a] H (fun v H' => ∃ b, v = .bl b ∧ Q b H') E0
/-- not o -/
theorem un_not_own (O : Own X.prog X.w X.K X.mg X.base k C "__bool__" ps sp) (hr : Room k X.A) : UnR X (unaryOp .Not) (fun x H Q => rOwnTr C sp x H fun b H' => Q (.bl (!b)) H') := by
  intro pins s σ H x v Q I rx h
  obtain ⟨a, dx, fs, rfl, ea, q⟩ := h
  cases rx
  unfold unaryOp
  refine wpAny_holding ?_
  show wpAny _ _ (truthy (.ref a) >>= fun z => pure (Value.bool (!z))) _ _ _
  exact wpAny_bind (truthy_own O hr rfl I ea q fun b H' s' I' z => wpAny_pure ⟨.bl (!b), H', I', rfl, z⟩)
theorem mono_truthy {M : Model} {E1 : Value → Shared → Prop} {x : Value} {R R' : Bool → Shared → Prop} (h : wpAny M A (truthy x) R E1 s) (hR : ∀ b s', R b s' → R' b s') : wpAny M A (truthy x) R' E1 s := wpAny_mono h (fun b s' z => hR b s' z) fun _ _ z => z
theorem bool_new_in (prog : Program) (w : World) (a : Addr) : MeetsIn prog w (Builtin.«bool.__new__» ⟨[.type "bool", .ref a], []⟩)
    (fun A R s => wpAny (model prog w) A.in1 (truthy (.ref a)) (fun b s' => R (.ok (.ret (.bool b))) s') (fun e s' => R (.error e) s') s) :=
  MeetsIn.of_wp fun A R s hs => by
    have f1 := F.conv_sub_bool
    repeat (any_goals (first | (with_reducible refine mono_truthy hs fun b s' hz => ?_) | wp_step))
    all_goals first | exact ⟨_, rfl, by assumption⟩ | skip
/-- bool(o) -/
theorem call_bool_own (O : Own X.prog X.w X.K X.mg X.base k C "__bool__" ps sp) (hr : Room (k + 2) X.A) : CallR X (.type "bool") (fun xs H Q => ∃ x, xs = [x] ∧ rOwnTr C sp x H fun b H' => Q (.bl b) H') := by
  intro pins s σ H xs us Q I r h
  obtain ⟨x, rfl, a, dx, fs, rfl, ea, q⟩ := h
  obtain rfl := Vals.ref1 r
  refine callType_newIn F.called_bool F.newNe_bool (F.typeCall_bool_1 _) (F.newCall_bool_1 _) (fun obj => F.args_object_init_2 obj _) F.entry_bool_new (bool_new_in X.prog X.w a) ?_
  exact truthy_own O hr.in1.in1 rfl I ea q fun b H' s' I' z => ⟨rfl, .bl b, H', I', rfl, z⟩
/-- C(e, ..) by a local name that holds the class -/
def tMakeL (i : Nat) (C : Addr) (sp : Sp) (t : TA) : TE := fun σ H Q => σ[i]? = some (some (.ref C)) ∧ tMake C sp [] E0 t σ H Q
theorem pe_makeL {f : Addr} {fd : FuncData} {i : Nat} {x : Str} {p pos : Pos} {e : Expr} {es : List Expr} {t : TA} (M : Mk X.K C f) (F : FnOk X.prog X.w X.K X.mg X.base CX0 k f fd ps sp) (hr : Room (k + 1) X.A) (hb : Binds X.K fd ps []) (ha : PA X (e :: es) t)
    (hN : X.N[i]? = some x := by rfl) (hv : Vis X.env.scope x := by first | exact Or.inl rfl | exact Or.inr (Or.inl rfl) | exact Or.inr (Or.inr rfl))
    (hdb : (x == ("__debug__" : Str)) = false := by decide) (hcd : (x == ("__classdict__" : Str)) = false := by decide)
    (hst : starEach (e :: es) X.env = (false, eval e X.env) :: starEach es X.env := by rfl) (hpl : (backTo pos (starEach es X.env)).any (·.1) = false := by rfl) : PE X (.Call (.Name x p) (e :: es) [] pos) (tMakeL i C sp t) := by
  refine ⟨fun pins s σ H Q I h => ?_⟩
  obtain ⟨hs, ht⟩ := h
  have hx := pe_var (X := X) (pos := p) hN hv hdb hcd
  refine wpAny_Call_Name_kw (thn (hx.run pins s σ H (fun v H1 => v = .ref C ∧ H1 = H) I ⟨.ref C, hs, rfl, rfl⟩) fun u s1 ⟨v, H1, I1, r1, q1⟩ => ?_)
  obtain ⟨rfl, rfl⟩ := q1
  cases r1
  exact PySem.W.callWith_K (h₀ := X.base) I.ok.mod.kin M.kp (thn (ha.run pos pins s1 σ _ _ I1 ht) fun us s2 ⟨vs, H2, I2, r, q⟩ => ⟨I2.kIn, run_make M F hr hb .nil pass0 I2 r q⟩) hst hpl
end
end Ef
set_option Elab.async false
set_option linter.all false
set_option maxRecDepth 100000
set_option maxHeartbeats 2000000
/-! comparisons by a class's own methods -/
namespace Ef
open PySem PySem.Spec PyProof.Rows L2
section
variable {X : Cx} {pins : List (Addr × Obj)} {σ : L2.St} {H : Hp} {s : Shared} {Q : VK} {k : Nat} {C a dx : Addr} {fs : List (Str × V)} {m : Str} {ps : List Str} {sp : Sp} {A : Around} {E' : Value → Shared → Prop}
/-- a slot of the class that holds a def: its call as a special one -/
theorem own_ifBound {args : List Value} {vs : List V} {R : Option Value → Shared → Prop} (O : Own X.prog X.w X.K X.mg X.base k C m ps sp) (hr : Room k A) (hfr : A.frames = X.A.frames) (I : Inv X pins σ H s) (ea : H a = some (.ins C dx fs)) (r : Vals vs args)
    (h : sp (.ref a :: vs) H Q E0) (hR : ∀ u s', EP X pins σ Q u s' → R (some u) s') : wpAny (model X.prog X.w) A (callSpecialIfBound? (.ref a) m args) R E' s := by
  obtain ⟨f, fd, hf, hi, ht, hk, hb, F⟩ := O.ex
  obtain ⟨mA, OM, _⟩ := ins_get I.hok ea
  obtain ⟨od, J, _⟩ := OM.look
  exact PySem.W.ifBound_K I.kIn J hf hi (wpAny_mono (run_low (us := .ref a :: args) (vs := .ref a :: vs) F hr hfr hb I (.cons rfl r) h) (fun u s' z => hR u s' z) fun _ _ z => z)
/-- what stands on the other side: of the same class, or a value of a built-in type -/
def Side (K : PySem.W.Frag) (C : Addr) (H : Hp) (y : V) : Prop := (∃ b dx fs, y = .ref b ∧ H b = some (.ins C dx fs)) ∨ (∃ b xs, y = .ref b ∧ H b = some (.lst xs))
/-- its type, and whether that is below the class -/
theorem side_type {y : V} {u : Value} {M : Model} (I : Inv X pins σ H s) (r : RelV y u) (h : Side X.K C H y) (hsub : PySem.W.subIn X.K (.type "list") (.ref C) = some false) : ∃ t : Value, PySem.W.Looks M s.heap (typeOf u) t ∧ ((t = .ref C) ∨ ((t != .ref C) = true ∧ PySem.W.Looks M s.heap (isSubtype t (.ref C)) false)) := by
  rcases h with ⟨b, dx, fs, rfl, e⟩ | ⟨b, xs, rfl, e⟩
  · cases r
    obtain ⟨mA, OM, _⟩ := ins_get I.hok e
    obtain ⟨od, J, _⟩ := OM.look
    exact ⟨.ref C, J.type, .inl rfl⟩
  · cases r
    obtain ⟨its, _, ht, _⟩ := I.list (.inl (.inl e))
    obtain ⟨o, ho, hc, _⟩ := ht.isList
    exact ⟨.type "list", fun A Q E s k q => wpAny_typeOf_ref (k b o ho) (by rw [hc]; exact q), .inr ⟨rfl, PySem.W.looks_subIn I.kIn hsub⟩⟩
def rOwnCmp (C : Addr) (sp : Sp) (K : PySem.W.Frag) (neg : Bool) : R2 := fun x y H Q => ∃ (a dx : Addr) (fs : List (Str × V)), x = .ref a ∧ H a = some (.ins C dx fs) ∧ Side K C H y ∧ sp [.ref a, y] H (fun v H' => ∃ b, v = .bl b ∧ Q (.bl (if neg = true then !b else b)) H') E0
/-- a op y by the left one's own method -/
theorem rich_own {op : CmpOp} {sym : String} {f r : Str} {y : V} {u : Value} {R : Value → Shared → Prop} {Qb : Bool → Hp → Prop} (hop : cmpInfo op = (sym, f, r)) (O : Own X.prog X.w X.K X.mg X.base k C f ps sp) (hr : Room k A) (hfr : A.frames = X.A.frames) (hsub : PySem.W.subIn X.K (.type "list") (.ref C) = some false)
    (I : Inv X pins σ H s) (ea : H a = some (.ins C dx fs)) (ry : RelV y u) (hs : Side X.K C H y) (h : sp [.ref a, y] H (fun v H' => ∃ b, v = .bl b ∧ Qb b H') E0) (hR : ∀ b H' s', Inv X pins σ H' s' → Qb b H' → R (.bool b) s') :
    wpAny (model X.prog X.w) A (richCompare op (.ref a) u) R E' s := by
  obtain ⟨mA, OM, _⟩ := ins_get I.hok ea
  obtain ⟨od, J, _⟩ := OM.look
  obtain ⟨t, Lt, ht⟩ := side_type (M := model X.prog X.w) I ry hs hsub
  have fin : wpAny (model X.prog X.w) A (tryCompare (.ref a) f u) (fun o s' => ∃ b H', o = some (.bool b) ∧ Inv X pins σ H' s' ∧ Qb b H') E' s := by
    unfold tryCompare
    refine wpAny_bind (own_ifBound (vs := [y]) O hr hfr I ea (.cons ry .nil) h fun w' s' hz => ?_)
    obtain ⟨v, H', I', rv, b, rfl, q⟩ := hz
    cases rv
    exact wpAny_pure ⟨b, H', rfl, I', q⟩
  unfold richCompare
  refine wpAny_holding (wpAny_bind (wpAny_cRoomFor (by have := hr.un; omega) ?_))
  rw [oneThing_ref]
  dsimp only
  rw [hop]
  dsimp only
  refine wpAny_bind (J.type.here (wpAny_bind (Lt.here ?_)))
  rcases ht with rfl | ⟨hne, Ls⟩
  · rw [if_neg (by simp)]
    refine wpAny_bind (wpAny_pure ?_)
    rw [if_neg (by decide)]
    refine wpAny_bind (wpAny_mono fin (fun o s' ⟨b, H', e, I', q⟩ => ?_) fun _ _ z => z)
    subst e
    exact wpAny_pure (hR b H' s' I' q)
  · have hne' : (Value.ref C != t) = true := by
      rw [bne_iff_ne] at hne ⊢
      exact fun z => hne z.symm
    rw [if_pos hne']
    refine wpAny_bind (Ls.here ?_)
    rw [if_neg (by decide)]
    refine wpAny_bind (wpAny_mono fin (fun o s' ⟨b, H', e, I', q⟩ => ?_) fun _ _ z => z)
    subst e
    exact wpAny_pure (hR b H' s' I' q)
/-- a op b by the left one's own method -/
theorem op_own {op : CmpOp} {sym : String} {f r : Str} (hop : cmpInfo op = (sym, f, r)) (hc : compareOp op = richCompare op) (O : Own X.prog X.w X.K X.mg X.base k C f ps sp) (hr : Room k X.A) (hsub : PySem.W.subIn X.K (.type "list") (.ref C) = some false) : OpR X (compareOp op) (rOwnCmp C sp X.K false) := by
  intro pins s σ H x y v u Q I rx ry h
  obtain ⟨a, dx, fs, rfl, ea, hs, q⟩ := h
  cases rx
  rw [hc]
  exact rich_own hop O hr rfl hsub I ea ry hs q fun b H' s' I' z => ⟨.bl b, H', I', rfl, z⟩
/-- a != b by the left one's own __eq__, where the class has no own __ne__ -/
theorem try_ne {y : V} {u : Value} {Qb : Bool → Hp → Prop} (O : Own X.prog X.w X.K X.mg X.base k C "__eq__" ps sp) (hr : Room (k + 1) A) (hfr : A.frames = X.A.frames) (hne : PySem.W.findIn X.K (.ref C) "__ne__" = some (some (.builtin "object.__ne__"))) (hmro : PySem.W.mroIn X.K C (.type "object") = some true)
    (I : Inv X pins σ H s) (ea : H a = some (.ins C dx fs)) (ry : RelV y u) (h : sp [.ref a, y] H (fun v H' => ∃ b, v = .bl b ∧ Qb b H') E0) :
    wpAny (model X.prog X.w) A (tryCompare (.ref a) "__ne__" u) (fun o s' => ∃ b H', o = some (.bool (!b)) ∧ Inv X pins σ H' s' ∧ Qb b H') E' s := by
  obtain ⟨mA, OM, _⟩ := ins_get I.hok ea
  obtain ⟨od, J, _⟩ := OM.look
  have body : wpAny (model X.prog X.w) A.in1 (Builtin.«object.__ne__» ⟨[.ref a, u], []⟩) (fun fin s' => ∃ b H', fin = Fin.done (Flow.ret (.bool (!b))) ∧ Inv X pins σ H' s' ∧ Qb b H') E' s := by
    unfold Builtin.«object.__ne__»
    refine wpAny_bind ?_
    unfold slotArgs
    refine wpAny_ite_false rfl (wpAny_ite_false rfl (wpAny_pure ?_))
    refine wpAny_bind (wpAny_cRoomFor (by have := hr.in1.un; omega) ?_)
    refine wpAny_bind (own_ifBound (vs := [y]) O hr.in1 (hfr) I ea (.cons ry .nil) h fun w' s' hz => ?_)
    obtain ⟨v, H', I', rv, b, rfl, q⟩ := hz
    cases rv
    refine wpAny_bind (wpAny_truthy_bool ?_)
    exact wpAny_pure ⟨b, H', rfl, I', q⟩
  have cl : wpAny (model X.prog X.w) A (call (.builtin "object.__ne__") [.ref a, u]) (fun v s' => ∃ b H', v = .bool (!b) ∧ Inv X pins σ H' s' ∧ Qb b H') E' s := by
    refine wpAny_call (codeAny_call_builtin F.cmp_object.ne.plain F.cmpEntry_ne (PySem.W.check_slot F.cmpKind_ne F.cmpSplit_ne (PySem.W.Looks.andThen J.type (PySem.W.looks_mroIn I.kIn hmro)) (F.cmpArgs_ne (.ref a) u) (wpAny_mono body (fun fin s' ⟨b, H', e, I', q⟩ => ?_) fun _ _ z => z)))
    subst e
    exact ⟨b, H', rfl, I', q⟩
  unfold tryCompare callSpecialIfBound? bindSpecialIfBound?
  refine wpAny_bind (wpAny_holding (wpAny_bind (wpAny_bind (wpAny_bind (J.type.here ((PySem.W.looks_findIn I.kIn hne).here ?_))))))
  have fin : wpAny (model X.prog X.w) A (do let r ← call (.builtin "object.__ne__") [.ref a, u]; pure (some r)) (fun o s' => wpAny (model X.prog X.w) A (match o with | some Value.notImplemented => pure none | none => pure none | some v => pure (some v)) (fun o s' => ∃ b H', o = some (.bool (!b)) ∧ Inv X pins σ H' s' ∧ Qb b H') E' s') E' s := by
    refine wpAny_bind (wpAny_mono cl (fun v s' ⟨b, H', e, I', q⟩ => wpAny_pure ?_) fun _ _ z => z)
    subst e
    exact wpAny_pure ⟨b, H', rfl, I', q⟩
  refine wpAny_bind (wpAny_askSetting (wpAny_ite ?_))
  split
  · exact wpAny_bind (wpAny_of_eq (F.cmp_object.ne.bind (.ref a)) (wpAny_pure fin))
  · exact wpAny_tryCatch (wpAny_bind (wpAny_of_eq (F.cmp_object.ne.bind (.ref a)) (wpAny_pure fin)))
theorem op_ne_own (O : Own X.prog X.w X.K X.mg X.base k C "__eq__" ps sp) (hr : Room (k + 1) X.A) (hsub : PySem.W.subIn X.K (.type "list") (.ref C) = some false) (hne : PySem.W.findIn X.K (.ref C) "__ne__" = some (some (.builtin "object.__ne__"))) (hmro : PySem.W.mroIn X.K C (.type "object") = some true) : OpR X (compareOp .NotEq) (rOwnCmp C sp X.K true) := by
  intro pins s σ H x y v u Q I rx ry h
  obtain ⟨a, dx, fs, rfl, ea, hs, q⟩ := h
  cases rx
  show wpAny _ _ (richCompare .NotEq (.ref a) u) _ _ _
  obtain ⟨mA, OM, _⟩ := ins_get I.hok ea
  obtain ⟨od, J, _⟩ := OM.look
  obtain ⟨t, Lt, ht⟩ := side_type (M := model X.prog X.w) I ry hs hsub
  have fin := try_ne (E' := X.xe) O hr rfl hne hmro I ea ry q
  unfold richCompare
  refine wpAny_holding (wpAny_bind (wpAny_cRoomFor (by have := hr.un; omega) ?_))
  rw [oneThing_ref]
  dsimp only [cmpInfo]
  refine wpAny_bind (J.type.here (wpAny_bind (Lt.here ?_)))
  rcases ht with rfl | ⟨hne, Ls⟩
  · rw [if_neg (by simp)]
    refine wpAny_bind (wpAny_pure ?_)
    rw [if_neg (by decide)]
    refine wpAny_bind (wpAny_mono fin (fun o s' ⟨b, H', e, I', q⟩ => ?_) fun _ _ z => z)
    subst e
    exact wpAny_pure ⟨.bl (!b), H', I', rfl, q⟩
  · have hne' : (Value.ref C != t) = true := by
      rw [bne_iff_ne] at hne ⊢
      exact fun z => hne z.symm
    rw [if_pos hne']
    refine wpAny_bind (Ls.here ?_)
    rw [if_neg (by decide)]
    refine wpAny_bind (wpAny_mono fin (fun o s' ⟨b, H', e, I', q⟩ => ?_) fun _ _ z => z)
    subst e
    exact wpAny_pure ⟨.bl (!b), H', I', rfl, q⟩
end
end Ef
set_option Elab.async false
set_option linter.all false
set_option maxRecDepth 100000
set_option maxHeartbeats 4000000
namespace Ef
open PySem PySem.Spec PyProof.Rows L2
abbrev sTrim : Stmt := top 14
abbrev sCom : Stmt := top 15
abbrev sCheck : Stmt := top 37
structure TxtQ (mg : Str → Option Value) : Prop extends TxtW mg where
  gcd : mg "gcd" = some (.builtin "math.gcd")
theorem Same.tup {K : PySem.W.Frag} {H H' : Hp} {a : Addr} {xs : List V} (e : Same H H') (h : SqT K H a xs) : SqT K H' a xs := by
  rcases h with (h | ⟨o, h⟩) | h
  · exact .inl (.inl (e _ _ h))
  · exact .inl (.inr ⟨o, e _ _ h⟩)
  · exact .inr h
theorem same_new {H : Hp} {p : Addr} {o : HO} (h : H p = none) : Same H (upd H p o) := fun b x e => by rw [upd_ne (ne_of_none e h)]; exact e
theorem same_mut {H0 H : Hp} {p : Addr} {o : HO} (h : Same H0 H) (hp : H0 p = none) : Same H0 (upd H p o) := fun b x e => by rw [upd_ne (ne_of_none e hp)]; exact h b x e
theorem dint (a b : Int) : decide (V.int a = V.int b) = decide (a = b) := by
  by_cases h : a = b
  · rw [decide_eq_true h, decide_eq_true (by rw [h])]
  · rw [decide_eq_false h, decide_eq_false (fun z => h (V.int.inj z))]
/-- a list or a tuple -/
def Seqs (K : PySem.W.Frag) (H : Hp) (a : Addr) (xs : List V) : Prop := SqL K H a xs ∨ SqT K H a xs
theorem Seqs.same {K : PySem.W.Frag} {H H' : Hp} {a : Addr} {xs : List V} (h : Seqs K H a xs) (e : Same H H') : Seqs K H' a xs := h.elim (fun h => .inl (e.seq h)) fun h => .inr (Same.tup e h)
theorem get_int {r : List Int} {k : Nat} (h : k < r.length) : ∃ c, r[k]? = some c ∧ (r.map V.int)[k]? = some (.int c) := ⟨r[k], List.getElem?_eq_getElem h, by rw [List.getElem?_map, List.getElem?_eq_getElem h]; rfl⟩
theorem atI_of {xs : List V} {i : Int} {j : Nat} {v : V} (e : i = (j : Int)) (h : xs[j]? = some v) : atI xs i = some v := at_of e h
theorem cut_hi (xs : List V) (k : Nat) (hk : k ≤ xs.length) : cutV xs none (some (k : Int)) = xs.take k := by
  unfold cutV
  rw [HT.sIx_none, HT.sIx_nat, Nat.min_eq_left hk, List.drop_zero, Nat.sub_zero]
theorem sl_seqs {K : PySem.W.Frag} {H : Hp} {a : Addr} {xs : List V} {lo hi : Option Int} {Q : VK} (h : Seqs K H a xs) (q : ∀ p H', Same H H' → Seqs K H' p (cutV xs lo hi) → Q (.ref p) H') : rSlL K (.ref a) lo hi H Q ∨ rSlA K (.ref a) lo hi H Q := by
  rcases h with h | h
  · exact .inl ⟨a, _, rfl, h, fun p hp => q p _ (same_new hp) (.inl (.inl (.inl upd_same)))⟩
  · refine .inr ⟨a, _, rfl, h, fun hw => ?_, fun hw p hp => q p _ (same_new hp) (.inr (.inl (.inl upd_same)))⟩
    refine q a H (Same.refl H) ?_
    have e2 : cutV xs lo hi = xs := by
      unfold cutV
      rw [hw.1, hw.2, List.drop_zero, Nat.sub_zero, List.take_length]
    rw [e2]
    exact .inr h
theorem ix_seqs {K : PySem.W.Frag} {H : Hp} {a : Addr} {xs : List V} {i : Int} {v : V} {Q : VK} (h : Seqs K H a xs) (e : atI xs i = some v) (q : Q v H) : rIx K (.ref a) (.int i) H Q := by
  rcases h with h | h
  · exact .inl ⟨a, _, _, _, rfl, rfl, h, e, q⟩
  · exact .inr (.inl ⟨a, _, _, _, rfl, rfl, h, e, q⟩)
section
variable {P : Program} {w : World} {K : PySem.W.Frag} {mg : Str → Option Value} {base : Heap}
/-! ### trimmed -/
def spTrim (K : PySem.W.Frag) : Sp := fun vs H Q _ => ∃ (a : Addr) (r : List Int), vs = [.ref a] ∧ Seqs K H a (r.map V.int) ∧ r.length ≤ 100 ∧ ∀ H' l t, Same H H' → H' l = some (.lst (t.map V.int)) → TrimOk r t → Q (.ref l) H'
theorem scTrim : FnScope ["row", "size"] ["row"] (defScope sTrim) := ⟨rfl, rfl, rfl, by decide +kernel, rfl, by decide +kernel, by decide +kernel⟩
theorem df_trim (A : At K mg "trimmed" sTrim) (T : TxtW mg) : Df P w K mg base 1 "trimmed" ["row"] (spTrim K) := by
  obtain ⟨f, fd, hm, F⟩ := A.ex
  refine ⟨f, fd, hm, F.kp, F.binds (fun _ _ _ _ _ _ us hl => match us, hl with | [_], _ => rfl), F.ok scTrim (fun vs H Q E h => ?_) (fun cdv A outer s H vs Q E hr h => ?_)⟩
  · obtain ⟨a, r, rfl, _⟩ := h
    rfl
  · obtain ⟨a, r, rfl, hS, hl, q⟩ := h
    refine ⟨_, (pss_cons (ps_set (i := 1) scTrim.nd rfl (.inl rfl) (pe_callB call_len_seq (by rfl) T.len PySem.boot_len (pa_cons (pv 0) pa_nil)))
      (pss_cons (ps_while PassesOwn.never (pw_and (pt_cmpR op_gt (pv 1) pe_int (nomark _)) (pw_and1 (pt_cmpR op_eq (pe_ix ix_seq (pv 0) (pe_op op_sub (pv 1) pe_int) (fun _ _ => rfl)) pe_int (nomark _)))).pt
      (pss_one (ps_set (i := 1) scTrim.nd rfl (.inl rfl) (pe_op op_sub (pv 1) pe_int))))
      (pss_one (ps_ret (pe_callTy call_list_of (by rfl) T.list (by decide +kernel) (pa_cons (pe_slice (sl_list.or sl_tupA) (pv 0) po_none (po_some (pv 1))) pa_nil)))))), ?_⟩
    refine ⟨_, rfl, a, _, rfl, hS, ?_⟩
    refine ⟨fun m σ H' => H' = H ∧ m ≤ r.length ∧ σ = [some (.ref a), some (.int (m : Int))] ∧ ∀ j, m ≤ j → j < r.length → r[j]? = some 0, ⟨r.length, rfl, Nat.le_refl _, by rw [List.length_map]; rfl, fun j h1 h2 => absurd h2 (by omega)⟩, fun m σ H' hW => ?_⟩
    obtain ⟨rfl, hm2, rfl, hz⟩ := hW
    have fin : ∀ (hk : m = 0 ∨ ∃ c, r[m - 1]? = some c ∧ c ≠ 0) (xs : List V), xs = (r.take m).map V.int → ∀ H1, Same H' H1 → ∀ l, H1 l = none → Q (.ref l) (upd H1 l (.lst xs)) := fun hk xs ex H1 s1 l hl' =>
      q _ l (r.take m) (s1.trans (same_new hl')) (by rw [upd_same, ex]) ⟨m, hm2, rfl, hz, hk⟩
    have ecut : cutV (r.map V.int) none (some (m : Int)) = (r.take m).map V.int := by rw [cut_hi _ m (by rw [List.length_map]; exact hm2), List.map_take]
    refine ⟨_, rfl, _, _, rfl, rfl, _, rfl, ?_⟩
    cases m with
    | zero =>
      refine iteF ?_
      refine ⟨_, rfl, _, rfl, _, rfl, sl_seqs hS fun p H1 s1 hp => ?_⟩
      exact ⟨p, _, rfl, hp, fin (.inl rfl) _ ecut H1 s1⟩
    | succ k =>
      rw [decide_eq_true (show (0 : Int) < ((k + 1 : Nat) : Int) by omega)]
      obtain ⟨c, hc, hc2⟩ := get_int (r := r) (k := k) (by omega)
      refine iteT ⟨_, rfl, _, rfl, _, _, rfl, rfl, ix_seqs hS (atI_of (j := k) (by omega) hc2) ⟨rfl, _, rfl, ?_⟩⟩
      rw [dint]
      refine ite2 (fun hb => ?_) (fun hb => ?_)
      · have hc0 := of_decide_eq_true hb
        subst hc0
        refine ⟨fun σ H2 => H2 = H' ∧ σ = [some (.ref a), some (.int (k : Int))], fun σ' H2 ⟨e1, e2⟩ => ⟨k, Nat.lt_succ_self k, e1, by omega, e2, fun j h1 h2 => ?_⟩, _, rfl, _, _, rfl, rfl, rfl, by show [some (V.ref a), some (V.int (((k + 1 : Nat) : Int) - 1))] = _; rw [show ((k + 1 : Nat) : Int) - 1 = (k : Int) by omega]⟩
        rcases Nat.lt_or_ge j (k + 1) with z | z
        · have e : j = k := by omega
          rw [e]; exact hc
        · exact hz j z h2
      · refine ⟨_, rfl, _, rfl, _, rfl, sl_seqs hS fun p H1 s1 hp => ?_⟩
        exact ⟨p, _, rfl, hp, fin (.inr ⟨c, hc, fun z => hb (decide_eq_true z)⟩) _ ecut H1 s1⟩
/-! ### common_divisor -/
def spCom (K : PySem.W.Frag) : Sp := fun vs H Q _ => ∃ (a : Addr) (t : List Int) (f : Nat), vs = [.int f, .ref a] ∧ SqL K H a (t.map V.int) ∧ Q (.int (gcdR f t : Nat)) H
theorem scCom : FnScope ["first", "row", "shared", "number"] ["first", "row"] (defScope sCom) := ⟨rfl, rfl, rfl, by decide +kernel, rfl, by decide +kernel, by decide +kernel⟩
theorem df_com (A : At K mg "common_divisor" sCom) (T : TxtQ mg) : Df P w K mg base 1 "common_divisor" ["first", "row"] (spCom K) := by
  obtain ⟨f, fd, hm, F⟩ := A.ex
  refine ⟨f, fd, hm, F.kp, F.binds (fun _ _ _ _ _ _ us hl => match us, hl with | [_, _], _ => rfl), F.ok scCom (fun vs H Q E h => ?_) (fun cdv A outer s H vs Q E hr h => ?_)⟩
  · obtain ⟨a, t, f, rfl, _⟩ := h
    rfl
  · obtain ⟨a, t, f, rfl, hS, q⟩ := h
    refine ⟨_, (pss_cons (ps_set (i := 2) scCom.nd rfl (.inl rfl) (pv 0))
      (pss_cons (ps_for PassesOwn.never rfl (pi_list (pv 1)) (pg_name (i := 3) scCom.nd rfl (.inl rfl))
      (pss_cons (ps_if (pt_cmpR op_eq (pv 2) pe_int (nomark _)) (pss_one (ps_ret pe_int)) pss_nil)
      (pss_one (ps_set (i := 2) scCom.nd rfl (.inl rfl) (pe_callBfun cr_gcd (by rfl) T.gcd (pa_cons (pv 2) (pa_cons (pv 3) pa_nil)))))))
      (pss_one (ps_ret (pv 2))))), ?_⟩
    refine ⟨_, rfl, _, rfl, a, rfl, ⟨_, hS⟩, for_list (K := K) (a := a) (xs := t.map V.int) (fun i σ H' => H' = H ∧ ∃ y : Option V, σ = [some (.int f), some (.ref a), some (.int (gcdR f (t.take i) : Nat)), y])
      ⟨rfl, none, rfl⟩ (fun i σ H' _ ⟨e, _⟩ => e ▸ hS) ?_ ?_⟩
    · rintro i x σ H' hi ⟨rfl, y, rfl⟩
      rw [List.getElem?_map] at hi
      obtain ⟨c, hc, rfl⟩ := Option.map_eq_some_iff.mp hi
      refine ⟨_, rfl, rfl, _, rfl, ?_⟩
      rw [dint]
      refine ite2 (fun hb => ?_) (fun hb => ?_)
      · have h1 : gcdR f (t.take i) = 1 := by have := of_decide_eq_true hb; omega
        have h2 : gcdR f t = 1 := by
          have e : gcdR f t = gcdR (gcdR f (t.take i)) (t.drop i) := by
            unfold gcdR
            rw [← List.foldl_append, List.take_append_drop]
          rw [e, h1, gcdR_one]
        rw [h2] at q
        exact q
      · exact ⟨_, rfl, _, rfl, _, _, rfl, rfl, some (.int c), by rw [gcdR_take_succ hc]; rfl⟩
    · rintro σ H' ⟨rfl, y, rfl⟩
      rw [List.length_map, List.take_length]
      exact ⟨_, rfl, q⟩
/-! ### errors with one field -/
/-- the error class x at C with one field f -/
structure ErrF (K : PySem.W.Frag) (mg : Str → Option Value) (x fl : Str) (C fI : Addr) : Prop where
  oex : OexC K C
  mgC : mg x = some (.ref C)
  iC : PySem.W.findIn K (.ref C) "__init__" = some (some (.ref fI))
  tI : PySem.W.typeIn K (.ref fI) = some (.type "function")
  nN : PySem.W.findIn K (.ref C) fl = some none
  xf : XfC K C
def spErr (K : PySem.W.Frag) (C : Addr) (fl : Str) : Sp := fun vs H Q _ => ∃ (a : Addr) (v : V), vs = [.ref a, v] ∧ H a = some (exo a C none) ∧ ∀ dx, H dx = none → dx ≠ a → Q .non (upd (upd H dx (exd dx [(fl, v)])) a (exo a C (some dx)))
/-- an error made and flying -/
theorem mk_err {C : Addr} {fl : Str} {H : Hp} {v : V} {R : XK} (h : ∀ d H', Same H H' → H d = none → H' d = some (.xd [(fl, v)]) → R (.ref C) (some d) H') :
    [v].length ≤ 1000 ∧ ∀ a, H a = none → spErr K C fl (.ref a :: ([v] ++ [])) (upd H a (exo a C none)) (fun v H2 => v = .non ∧ ∃ (d : Addr) (fs : List (Str × V)), H2 a = some (exo a C (some d)) ∧ H2 d = some (exd d fs) ∧ H d = none ∧ R (.ref C) (some d) (upd (del H2 a) d (.xd fs))) (fun _ _ _ => False) := by
  refine ⟨by show 1 ≤ 1000; decide, fun a ha => ⟨a, v, rfl, upd_same, fun dx h1 h2 => ⟨rfl, dx, _, upd_same, by rw [upd_ne h2, upd_same], ?_, ?_⟩⟩⟩
  · rw [upd_ne h2] at h1; exact h1
  · have hdx : H dx = none := by rw [upd_ne h2] at h1; exact h1
    refine h dx _ (fun b o e => ?_) hdx upd_same
    have nb : b ≠ dx := ne_of_none e hdx
    have na : b ≠ a := ne_of_none e ha
    rw [upd_ne nb]
    unfold del
    rw [if_neg na, upd_ne na, upd_ne nb, upd_ne na]
    exact e
theorem NotInt.same {H H' : Hp} {v : V} (h : NotInt K H v) (e : Same H H') : NotInt K H' v := by
  obtain ⟨n, b1, b2, ht, h1, h2, h3⟩ := h
  refine ⟨n, b1, b2, ?_, h1, h2, h3⟩
  cases ht with
  | base hb =>
    cases hb with
    | non => exact .base .non
    | bl x => exact .base (.bl x)
    | int x => exact .base (.int x)
    | str x => exact .base (.str x)
    | flt x => exact .base (.flt x)
    | lst h => exact .base (.lst (e _ _ h))
    | frz h => exact .base (.frz (e _ _ h))
    | tup h => exact .base (.tup (e _ _ h))
    | dK h => exact .base (.dK (e _ _ h))
    | dT h => exact .base (.dT (e _ _ h))
  | byt b => exact .byt b
  | set h => exact .set (e _ _ h)
  | kList h h' => exact .kList h h'
  | kTuple h h' => exact .kTuple h h'
  | kDict h h' => exact .kDict h h'
  | fTuple h => exact .fTuple (e _ _ h)
  | fDict h => exact .fDict (e _ _ h)
/-! ### _check_row -/
def spCheck (K : PySem.W.Frag) (CR : Addr) : Sp := fun vs H Q E => ∃ (a : Addr) (xs : List V), vs = [.ref a] ∧ Seqs K H a xs ∧ xs.length ≤ 1000 ∧
  ((∃ r : List Int, xs = r.map V.int ∧ ∀ H', Same H H' → Q .non H') ∨ (∃ (r : List Int) (v : V) (ys : List V), xs = r.map V.int ++ v :: ys ∧ NotInt K H v ∧ ∀ d H', Same H H' → H d = none → H' d = some (.xd [("index", .int (r.length : Int))]) → E (.ref CR) (some d) H'))
theorem scCheck : FnScope ["row", "index", "number"] ["row"] (defScope sCheck) := ⟨rfl, rfl, rfl, by decide +kernel, rfl, by decide +kernel, by decide +kernel⟩
/-- the first members are whole numbers -/
theorem check_step {K : PySem.W.Frag} {H H3 : Hp} {CR : Addr} {xs : List V} {i : Nat} {x : V} {Q : VK} {E : XK} (hx : xs[i]? = some x) (sm : Same H H3)
    (q : (∃ r : List Int, xs = r.map V.int ∧ ∀ H', Same H H' → Q .non H') ∨ (∃ (r : List Int) (v : V) (ys : List V), xs = r.map V.int ++ v :: ys ∧ NotInt K H v ∧ ∀ d H', Same H H' → H d = none → H' d = some (.xd [("index", .int (r.length : Int))]) → E (.ref CR) (some d) H'))
    (hi : ∀ (r : List Int) (v : V) (ys : List V), xs = r.map V.int ++ v :: ys → NotInt K H v → i ≤ r.length) :
    (∃ c, x = .int c ∧ ∀ (r : List Int) (v : V) (ys : List V), xs = r.map V.int ++ v :: ys → NotInt K H v → i + 1 ≤ r.length) ∨ (NotInt K H x ∧ ∀ d H', Same H H' → H d = none → H' d = some (.xd [("index", .int (i : Int))]) → E (.ref CR) (some d) H') := by
  rcases q with ⟨r, rfl, q⟩ | ⟨r, v, ys, rfl, hN, q⟩
  · rw [List.getElem?_map] at hx
    obtain ⟨c, hc, rfl⟩ := Option.map_eq_some_iff.mp hx
    refine .inl ⟨c, rfl, fun r2 v ys e hN => ?_⟩
    have h1 := hi r2 v ys e hN
    rcases Nat.lt_or_ge i r2.length with z | z
    · exact z
    · have ei : i = r2.length := by omega
      have e2 : (r.map V.int)[i]? = some v := by rw [e, ei, List.getElem?_append_right (by rw [List.length_map]; exact Nat.le_refl _), List.length_map, Nat.sub_self]; rfl
      rw [List.getElem?_map, hc] at e2
      injection e2 with e2
      obtain ⟨n, b1, b2, ht, k1, k2, k3⟩ := hN
      rw [← e2] at ht
      cases ht with
      | base hb =>
        cases hb
        have h1 : kitB "int" "int" = some true := by decide +kernel
        have h2 : kitB "int" "bool" = some false := by decide +kernel
        rw [h1] at k1; rw [h2] at k2
        injection k1 with k1; injection k2 with k2
        rw [← k1, ← k2] at k3
        cases k3
  · have h1 := hi r v ys rfl hN
    rcases Nat.lt_or_ge i r.length with z | z
    · rw [List.getElem?_append_left (by rw [List.length_map]; exact z), List.getElem?_map] at hx
      obtain ⟨c, hc, rfl⟩ := Option.map_eq_some_iff.mp hx
      refine .inl ⟨c, rfl, fun r2 v2 ys2 e hN2 => ?_⟩
      have h2 := hi r2 v2 ys2 e hN2
      rcases Nat.lt_or_ge i r2.length with w | w
      · exact w
      · have ei : i = r2.length := by omega
        have e2 : (r.map V.int ++ v :: ys)[i]? = some v2 := by rw [e, ei, List.getElem?_append_right (by rw [List.length_map]; exact Nat.le_refl _), List.length_map, Nat.sub_self]; rfl
        rw [List.getElem?_append_left (by rw [List.length_map]; exact z), List.getElem?_map, hc] at e2
        injection e2 with e2
        obtain ⟨n, b1, b2, ht, k1, k2, k3⟩ := hN2
        rw [← e2] at ht
        cases ht with
        | base hb =>
          cases hb
          have h1 : kitB "int" "int" = some true := by decide +kernel
          have h2 : kitB "int" "bool" = some false := by decide +kernel
          rw [h1] at k1; rw [h2] at k2
          injection k1 with k1; injection k2 with k2
          rw [← k1, ← k2] at k3
          cases k3
    · have ei : i = r.length := by omega
      subst ei
      rw [List.getElem?_append_right (by rw [List.length_map]; exact Nat.le_refl _), List.length_map, Nat.sub_self] at hx
      injection hx with hx
      rw [← hx]
      exact .inr ⟨hN, q⟩
end
end Ef
set_option Elab.async false
set_option linter.all false
/-! x is not True, for any x -/
namespace Ef
open PySem PySem.Spec PyProof.Rows L2
/-- no truth value -/
def NoBl : V → Prop
  | .int _ => True
  | .non => True
  | .str _ => True
  | .ref _ => True
  | _ => False
def rNotX : R2 := fun x y H Q => ∃ b : Bool, y = .bl b ∧ ((∃ a : Bool, x = .bl a ∧ Q (.bl (!decide (a = b))) H) ∨ (NoBl x ∧ Q (.bl true) H))
theorem op_notX {X : Cx} : OpR X (compareOp .IsNot) rNotX := by
  intro pins s σ H x y v u Q I rx ry h
  obtain ⟨b, rfl, ⟨a, rfl, q⟩ | ⟨hn, q⟩⟩ := h
  · exact op_notBl pins s σ H _ _ v u Q I rx ry ⟨a, b, rfl, rfl, q⟩
  · cases ry
    have fin : isSame v (.bool b) = pure false → wpAny (model X.prog X.w) X.A (compareOp .IsNot v (.bool b)) (EP X pins σ Q) X.xe s := fun e => by
      show wpAny _ _ (isSame v (.bool b) >>= fun z => pure (Value.bool !z)) _ _ _
      rw [e]
      exact wpAny_bind (wpAny_pure (wpAny_pure ⟨.bl true, H, I, rfl, q⟩))
    cases x with
    | int i =>
      obtain ⟨t, rfl⟩ := rx
      exact fin rfl
    | non => cases rx; exact fin rfl
    | str x =>
      obtain ⟨t, rfl⟩ := rx
      exact fin rfl
    | ref a => cases rx; exact fin rfl
    | _ => exact hn.elim
end Ef
set_option Elab.async false
set_option linter.all false
/-! x is not True, for any x at all -/
namespace Ef
open PySem PySem.Spec PyProof.Rows L2
def rNotA : R2 := fun x y H Q => ∃ b : Bool, y = .bl b ∧ ((∃ a : Bool, x = .bl a ∧ Q (.bl (!decide (a = b))) H) ∨ ((∀ c, x ≠ .bl c) ∧ Q (.bl true) H))
theorem op_notA {X : Cx} : OpR X (compareOp .IsNot) rNotA := by
  intro pins s σ H x y v u Q I rx ry h
  obtain ⟨b, rfl, ⟨a, rfl, q⟩ | ⟨hn, q⟩⟩ := h
  · exact op_notBl pins s σ H _ _ v u Q I rx ry ⟨a, b, rfl, rfl, q⟩
  · cases ry
    have fin : isSame v (.bool b) = pure false → wpAny (model X.prog X.w) X.A (compareOp .IsNot v (.bool b)) (EP X pins σ Q) X.xe s := fun e => by
      show wpAny _ _ (isSame v (.bool b) >>= fun z => pure (Value.bool !z)) _ _ _
      rw [e]
      exact wpAny_bind (wpAny_pure (wpAny_pure ⟨.bl true, H, I, rfl, q⟩))
    cases x with
    | bl c => exact absurd rfl (hn c)
    | int i =>
      obtain ⟨t, rfl⟩ := rx
      exact fin rfl
    | non => cases rx; exact fin rfl
    | str x =>
      obtain ⟨t, rfl⟩ := rx
      exact fin rfl
    | ref a => cases rx; exact fin rfl
    | byt x => obtain ⟨t, rfl⟩ := rx; exact fin rfl
    | flt x => obtain ⟨t, rfl⟩ := rx; exact fin rfl
    | ty x => cases rx; exact fin rfl
theorem NoBl.all {v : V} (h : NoBl v) : ∀ c, v ≠ .bl c := fun c e => by subst e; exact h
end Ef
set_option Elab.async false
set_option linter.all false
/-! x is True, for any x at all; what is no integer -/
namespace Ef
open PySem PySem.Spec PyProof.Rows L2
def rIsA : R2 := fun x y H Q => ∃ b : Bool, y = .bl b ∧ ((∃ a : Bool, x = .bl a ∧ Q (.bl (decide (a = b))) H) ∨ ((∀ c, x ≠ .bl c) ∧ Q (.bl false) H))
theorem op_isA {X : Cx} : OpR X (compareOp .Is) rIsA := by
  intro pins s σ H x y v u Q I rx ry h
  obtain ⟨b, rfl, ⟨a, rfl, q⟩ | ⟨hn, q⟩⟩ := h
  · exact op_isBl pins s σ H _ _ v u Q I rx ry ⟨a, b, rfl, rfl, q⟩
  · cases ry
    have fin : isSame v (.bool b) = pure false → wpAny (model X.prog X.w) X.A (compareOp .Is v (.bool b)) (EP X pins σ Q) X.xe s := fun e => by
      show wpAny _ _ (isSame v (.bool b) >>= fun z => pure (Value.bool z)) _ _ _
      rw [e]
      exact wpAny_bind (wpAny_pure (wpAny_pure ⟨.bl false, H, I, rfl, q⟩))
    cases x with
    | bl c => exact absurd rfl (hn c)
    | int i =>
      obtain ⟨t, rfl⟩ := rx
      exact fin rfl
    | non => cases rx; exact fin rfl
    | str x =>
      obtain ⟨t, rfl⟩ := rx
      exact fin rfl
    | ref a => cases rx; exact fin rfl
    | byt x => obtain ⟨t, rfl⟩ := rx; exact fin rfl
    | flt x => obtain ⟨t, rfl⟩ := rx; exact fin rfl
    | ty x => cases rx; exact fin rfl
theorem ty_cases {K : PySem.W.Frag} {H : Hp} {v : V} {n : String} {b1 b2 : Bool} (t : TyX K H v (.type n)) (k1 : kitB n "int" = some b1) (k2 : kitB n "bool" = some b2) (hb : (b1 && !b2) = false) :
    (∃ c, v = .bl c) ∨ (b1 = false ∧ ∀ c, v ≠ .bl c) := by
  cases b1 with
  | false =>
    by_cases h : ∃ c, v = .bl c
    · exact .inl h
    · exact .inr ⟨rfl, fun c e => h ⟨c, e⟩⟩
  | true =>
    cases b2 with
    | false => cases hb
    | true =>
      have no : ∀ {m : String}, kitB m "bool" = some false → m = n → False := fun h e => by
        rw [e, k2] at h; cases h
      cases t with
      | base b =>
        cases b with
        | bl c => exact .inl ⟨c, rfl⟩
        | non => exact (no (by decide +kernel) rfl).elim
        | int i => exact (no (by decide +kernel) rfl).elim
        | str x => exact (no (by decide +kernel) rfl).elim
        | flt x => exact (no (by decide +kernel) rfl).elim
        | lst e => exact (no (by decide +kernel) rfl).elim
        | frz e => exact (no (by decide +kernel) rfl).elim
        | tup e => exact (no (by decide +kernel) rfl).elim
        | dK e => exact (no (by decide +kernel) rfl).elim
        | dT e => exact (no (by decide +kernel) rfl).elim
      | byt b => exact (no (by decide +kernel) rfl).elim
      | set e => exact (no (by decide +kernel) rfl).elim
      | kList e c => exact (no (by decide +kernel) rfl).elim
      | kTuple e c => exact (no (by decide +kernel) rfl).elim
      | kDict e c => exact (no (by decide +kernel) rfl).elim
      | fTuple e => exact (no (by decide +kernel) rfl).elim
      | fDict e => exact (no (by decide +kernel) rfl).elim
theorem kit_int : kitB "int" "int" = some true := by decide +kernel
theorem kit_boolint : kitB "bool" "int" = some true := by decide +kernel
end Ef
set_option Elab.async false
set_option linter.all false
set_option maxRecDepth 100000
set_option maxHeartbeats 4000000
namespace Ef
open PySem PySem.Spec PyProof.Rows L2
abbrev sErrR : Stmt := inClass (top 4) 0
abbrev sErrU : Stmt := inClass (top 5) 0
section
variable {P : Program} {w : World} {K : PySem.W.Frag} {mg : Str → Option Value} {base : Heap}
theorem scErrR : FnScope ["self", "index"] ["self", "index"] (defScope sErrR) := ⟨rfl, rfl, rfl, by decide +kernel, rfl, by decide +kernel, by decide +kernel⟩
theorem scErrU : FnScope ["self", "under"] ["self", "under"] (defScope sErrU) := ⟨rfl, rfl, rfl, by decide +kernel, rfl, by decide +kernel, by decide +kernel⟩
theorem ok_errR {f C fI : Addr} {fd : FuncData} (F : Fun K "__init__" "BadRow.__init__" sErrR f fd) (T : ErrF K mg "BadRow" "index" C fI) : FnOk P w K mg base CX0 1 f fd ["self", "index"] (spErr K C "index") := by
  refine F.ok scErrR (fun vs H Q E h => ?_) (fun cdv A outer s H vs Q E hr h => ?_)
  · obtain ⟨a, v, rfl, _⟩ := h
    rfl
  · obtain ⟨a, v, rfl, ha, q⟩ := h
    refine ⟨_, (pss_one (ps_ost (pv 0) (pv 1))), ?_⟩
    exact ⟨_, rfl, _, rfl, a, C, rfl, T.oex, T.nN, .inl ⟨ha, fun dx h1 h2 => q dx h1 h2⟩⟩
theorem ok_errU {f C fI : Addr} {fd : FuncData} (F : Fun K "__init__" "BadUnder.__init__" sErrU f fd) (T : ErrF K mg "BadUnder" "under" C fI) : FnOk P w K mg base CX0 1 f fd ["self", "under"] (spErr K C "under") := by
  refine F.ok scErrU (fun vs H Q E h => ?_) (fun cdv A outer s H vs Q E hr h => ?_)
  · obtain ⟨a, v, rfl, _⟩ := h
    rfl
  · obtain ⟨a, v, rfl, ha, q⟩ := h
    refine ⟨_, (pss_one (ps_ost (pv 0) (pv 1))), ?_⟩
    exact ⟨_, rfl, _, rfl, a, C, rfl, T.oex, T.nN, .inl ⟨ha, fun dx h1 h2 => q dx h1 h2⟩⟩
/-- a def that may raise, by its name -/
structure DfX (P : Program) (w : World) (K : PySem.W.Frag) (mg : Str → Option Value) (base : Heap) (k : Nat) (x : Str) (ps : List Str) (sp : Sp) (f : Addr) (fd : FuncData) : Prop where
  at_ : mg x = some (.ref f)
  kp : PySem.W.keepIn K (.ref f) = true
  b : Binds K fd ps []
  F : FnOk P w K mg base (CX P w) k f fd ps sp
theorem dx_check {f CR fR : Addr} {fd fdR : FuncData} (hm : mg "_check_row" = some (.ref f)) (F : Fun K "_check_row" "_check_row" sCheck f fd) (T : TxtW mg) (ER : ErrF K mg "BadRow" "index" CR fR) (FR : FnOk P w K mg base CX0 1 fR fdR ["self", "index"] (spErr K CR "index")) (bR : Binds K fdR ["self", "index"] [])
    (Disint : Df P w K mg base 1 "is_int" ["value"] (spIsInt K)) : DfX P w K mg base 3 "_check_row" ["row"] (spCheck K CR) f fd := by
  refine ⟨hm, F.kp, F.binds (fun _ _ _ _ _ _ us hl => match us, hl with | [_], _ => rfl), F.okX scCheck (fun vs H Q E h => ?_) (fun cdv A outer s H vs Q E hr h => ?_)⟩
  · obtain ⟨a, xs, rfl, _⟩ := h
    rfl
  · obtain ⟨a, xs, rfl, hB, hl, q⟩ := h
    refine ⟨_, (pss_one (ps_for (passes_of rfl) rfl (pi_enumS (by rfl) T.enumerate (pa_cons (pv 0) pa_nil)) (pg_tup (by rfl) (pgs_cons (pg_name (i := 1) scCheck.nd rfl (.inl rfl)) (pgs_cons (pg_name (i := 2) scCheck.nd rfl (.inl rfl)) pgs_nil)))
      (pss_one (ps_if (pw_or (pt_not (pt_val (pe_callB call_isi (by rfl) T.isinstance (by decide +kernel) (pa_cons (pv 2) (pa_cons (pe_bltn (v := .ty "int") (by rfl) T.int (by decide +kernel) rfl) pa_nil))))) (pw_or (pt_cmpR op_isA (pv 2) pe_bl (nomark _)) (pw_or1 (pt_cmpR op_isA (pv 2) pe_bl (nomark _))))).pt (pss_one (ps_raise rfl (takes_of rfl rfl rfl rfl) (pmk_oex ER.oex ER.iC ER.tI FR (hr.mono (by decide)) bR .nil pass0 (by rfl) ER.mgC (pa_cons (pv 1) pa_nil)))) pss_nil)))), ?_⟩
    have hend : ∀ H', Same H H' → (∀ (r : List Int) (v : V) (ys : List V), xs = r.map V.int ++ v :: ys → NotInt K H v → xs.length ≤ r.length) → Q .non H' := fun H' sm hi => by
      rcases q with ⟨r, _, q⟩ | ⟨r, v, ys, e, hN, _⟩
      · exact q H' sm
      · have := hi r v ys e hN
        rw [e, List.length_append, List.length_map, List.length_cons] at this
        omega
    refine ⟨_, rfl, a, xs, rfl, ?_⟩
    rcases hB with hB | hB
    case' inl =>
      refine .inl ⟨hB, ?_⟩
      refine ⟨fun i m σ H3 => ∃ y2 y3, σ = [some (.ref a), y2, y3] ∧ i + m = xs.length ∧ Same H H3 ∧ ∀ (r : List Int) (v : V) (ys : List V), xs = r.map V.int ++ v :: ys → NotInt K H v → i ≤ r.length, ⟨xs.length, none, none, rfl, by omega, Same.refl H, fun _ _ _ _ _ => Nat.zero_le _⟩, fun i m σ H3 hW => ?_⟩
      have hsame : ∀ H3, Same H H3 → SqL K H3 a xs := fun H3 sm => sm.seq hB
    case' inr =>
      refine .inr ⟨hB, ?_⟩
      refine ⟨fun i m σ H3 => ∃ y2 y3, σ = [some (.ref a), y2, y3] ∧ i + m = xs.length ∧ Same H H3 ∧ ∀ (r : List Int) (v : V) (ys : List V), xs = r.map V.int ++ v :: ys → NotInt K H v → i ≤ r.length, ⟨xs.length, none, none, rfl, by omega, Same.refl H, fun _ _ _ _ _ => Nat.zero_le _⟩, fun i m σ H3 hW => ?_⟩
      have hsame : ∀ H3, Same H H3 → SqT K H3 a xs := fun H3 sm => Same.tup sm hB
    all_goals
      obtain ⟨y2, y3, rfl, em, sm, hI⟩ := hW
      by_cases hi : i < xs.length
      · obtain ⟨x, hx⟩ : ∃ x, xs[i]? = some x := ⟨xs[i], List.getElem?_eq_getElem hi⟩
        refine .inr ⟨⟨_, _, hsame _ sm, hx⟩, fun σ' H' => ∃ y2 y3, σ' = [some (.ref a), y2, y3] ∧ Same H H' ∧ ∀ (r : List Int) (v : V) (ys : List V), xs = r.map V.int ++ v :: ys → NotInt K H v → i + 1 ≤ r.length, fun σ' H' hN => ?_, fun y H' hy => ?_⟩
        · obtain ⟨z2, z3, e, sm', hI'⟩ := hN
          exact ⟨m - 1, by omega, z2, z3, e, by omega, sm', hI'⟩
        · obtain ⟨T, x1, rfl, nT, rfl, f1⟩ := hy
          have ex1 := Option.some.inj ((f1 _ (hsame _ sm)).symm.trans hx)
          subst ex1
          have sT : Same H (upd H3 T (.tup [.int (i : Nat), x1])) := sm.trans fun b o e => by rw [upd_ne (ne_of_none e nT)]; exact e
          refine ⟨T, _, rfl, .inl (.inl upd_same), rfl, _, _, rfl, _, _, rfl, rfl, ?_⟩
          generalize upd H3 T (.tup [.int (i : Nat), x1]) = H5 at sT ⊢
          rcases check_step hx sm q hI with ⟨c, rfl, hI'⟩ | ⟨hN, qE⟩
          · refine ⟨_, rfl, _, _, _, _, _, rfl, .ty "int", .base (.int c), kit_ty kit_int, true, rfl, iteF ?_⟩
            refine ⟨_, rfl, _, rfl, .inr ⟨fun c e => (nomatch e), _, rfl, iteF ?_⟩⟩
            exact ⟨_, rfl, _, rfl, .inr ⟨fun c e => (nomatch e), _, rfl, iteF ⟨_, _, rfl, sT, hI'⟩⟩⟩
          · have qF : E (.ref CR) = E (.ref CR) := rfl
            have flying : ∀ d H', Same H5 H' → H5 d = none → H' d = some (.xd [("index", .int (i : Int))]) → E (.ref CR) (some d) H' := fun d H' s2 hd hx => qE d H' (sT.trans s2) (sT.free hd) hx
            obtain ⟨nm, b1, b2, ht, k1, k2, hb⟩ := hN.same sT
            rcases ty_cases ht k1 k2 hb with ⟨c, rfl⟩ | ⟨rfl, hnb⟩
            · refine ⟨_, rfl, _, _, _, _, _, rfl, .ty "int", .base (.bl c), kit_ty kit_boolint, true, rfl, iteF ?_⟩
              refine ⟨_, rfl, _, rfl, .inl ⟨c, rfl, _, rfl, ?_⟩⟩
              cases c with
              | true => exact iteT ⟨_, rfl, mk_err (v := .int (i : Int)) (R := E) flying⟩
              | false => exact iteF ⟨_, rfl, _, rfl, .inl ⟨false, rfl, _, rfl, iteT ⟨_, rfl, mk_err (v := .int (i : Int)) (R := E) flying⟩⟩⟩
            · refine ⟨_, rfl, _, _, _, _, _, rfl, .ty "int", ht, kit_ty k1, false, rfl, iteT ?_⟩
              exact ⟨_, rfl, mk_err (v := .int (i : Int)) (R := E) flying⟩
      · exact .inl ⟨⟨_, hsame _ sm, by omega⟩, hend _ sm fun r v ys e hN => by have := hI r v ys e hN; omega⟩
end
end Ef
set_option Elab.async false
set_option linter.all false
set_option maxRecDepth 100000
set_option maxHeartbeats 4000000
namespace Ef
open PySem PySem.Spec PyProof.Rows L2
abbrev sInit : Stmt := inClass (top 35) 0
abbrev sEq : Stmt := inClass (top 35) 6
/-- the attributes -/
def pf (ra : Addr) (u : Int) : List (Str × V) := putF "under" (.int u) (putF "row" (.ref ra) [])
/-- at p a piece of the row r over u -/
def PAt (K : PySem.W.Frag) (C : Addr) (H : Hp) (p : Addr) (r : List Int) (u : Nat) : Prop := ∃ dx ra : Addr, H p = some (.ins C dx (pf ra u)) ∧ SqT K H ra (r.map V.int)
theorem PAt.same {K : PySem.W.Frag} {C : Addr} {H H' : Hp} {p : Addr} {r : List Int} {u : Nat} (h : PAt K C H p r u) (e : Same H H') : PAt K C H' p r u := by
  obtain ⟨dx, ra, h1, h2⟩ := h
  exact ⟨dx, ra, e _ _ h1, Same.tup e h2⟩
/-- the class, what the text has of it -/
structure ClsP (K : PySem.W.Frag) (mg : Str → Option Value) (C : Addr) : Prop where
  cl : Cls K C
  mgC : mg "Piece" = some (.ref C)
  nR : NoAttr K C "row"
  nU : NoAttr K C "under"
theorem sqt_upd {K : PySem.W.Frag} {H : Hp} {a p C dx : Addr} {fs : List (Str × V)} {xs : List V} {o : HO} (h : SqT K H a xs) (hp : H p = some (.ins C dx fs)) : SqT K (upd H p o) a xs := by
  rcases h with (h | ⟨z, h⟩) | h
  · exact .inl (.inl (by rw [upd_ne (ne_of h hp (by intro q; cases q))]; exact h))
  · exact .inl (.inr ⟨z, by rw [upd_ne (ne_of h hp (by intro q; cases q))]; exact h⟩)
  · exact .inr h
theorem lk_ne {f g : Str} {v : V} {fs : List (Str × V)} (h : ¬ g = f) : (putF f v fs).lookup g = fs.lookup g := by rw [lookup_putF, if_neg h]
theorem lk_eq {f : Str} {v : V} {fs : List (Str × V)} : (putF f v fs).lookup f = some v := by rw [lookup_putF, if_pos rfl]
theorem pf_under {ra : Addr} {u : Int} : (pf ra u).lookup ("under" : Str) = some (.int u) := lk_eq
theorem pf_row {ra : Addr} {u : Int} : (pf ra u).lookup ("row" : Str) = some (.ref ra) := (lk_ne (by decide +kernel)).trans lk_eq
section
variable {P : Program} {w : World} {K : PySem.W.Frag} {mg : Str → Option Value} {base : Heap}
/-- no integer from 1 on -/
def BadUn (K : PySem.W.Frag) (H : Hp) (v : V) : Prop := (NotInt K H v ∧ v ≠ .bl false) ∨ ∃ i : Int, v = .int i ∧ i < 1
def spInit (K : PySem.W.Frag) (C CR CU : Addr) : Sp := fun vs H Q E => ∃ (H0 : Hp) (p dx a : Addr) (xs : List V) (v : V), vs = [.ref p, .ref a, v] ∧ Same H0 H ∧ H0 p = none ∧ H p = some (.ins C dx []) ∧ Seqs K H0 a xs ∧ xs.length ≤ 100 ∧
  ((∃ (r : List Int) (z : V) (ys : List V), xs = r.map V.int ++ z :: ys ∧ NotInt K H0 z ∧ ∀ d H', Same H0 H' → H0 d = none → H' d = some (.xd [("index", .int (r.length : Int))]) → E (.ref CR) (some d) H') ∨
   (∃ r : List Int, xs = r.map V.int ∧ ((∃ un : Nat, v = .int (un : Int) ∧ 0 < un ∧ Bd 8000 (un : Int) ∧ ∀ (pr : List Int) (u : Nat) (H' : Hp), Low r un pr u → Same H0 H' → PAt K C H' p pr u → Q .non H') ∨
     (BadUn K H0 v ∧ ∀ d H', Same H0 H' → H0 d = none → H' d = some (.xd [("under", v)]) → E (.ref CU) (some d) H'))))
theorem scInit : FnScope ["self", "row", "under", "numbers", "shared", "number"] ["self", "row", "under"] (defScope sInit) := ⟨rfl, rfl, rfl, by decide +kernel, rfl, by decide +kernel, by decide +kernel⟩
theorem binds_init {f : Addr} {fd : FuncData} (F : FunD K "__init__" "Piece.__init__" (defArgs sInit) (defBody sInit) (defScope sInit) [V.int 1] [] f fd) : Binds K fd ["self", "row", "under"] [] := by
  have z : ∃ ds, Vals (List.drop 1 [V.int 1]) ds ∧ Binds K fd ["self", "row", "under"] ds := by
    refine F.binds1 (ps := ["self", "row", "under"]) 3 1 (fun z => by cases z) rfl (fun T kV doc pm an cdv ct us its hu hi => ?_)
    match us, hu, its, hi with
    | [_, _, _], _, [_], _ => exact ⟨_, rfl, rfl⟩
  obtain ⟨ds, hv, hb⟩ := z
  cases hv
  exact hb
theorem binds_init1 {f : Addr} {fd : FuncData} (F : FunD K "__init__" "Piece.__init__" (defArgs sInit) (defBody sInit) (defScope sInit) [V.int 1] [] f fd) : ∃ ds, Vals [.int 1] ds ∧ Binds K fd ["self", "row", "under"] ds := by
  refine F.binds1 (ps := ["self", "row", "under"]) 2 0 (fun z => by cases z) rfl (fun T kV doc pm an cdv ct us its hu hi => ?_)
  match us, hu, its, hi with
  | [_, _], _, [_], _ => exact ⟨_, rfl, rfl⟩
theorem ok_init {f C CR CU fU fk : Addr} {fd fdU fdk : FuncData} (F : FunD K "__init__" "Piece.__init__" (defArgs sInit) (defBody sInit) (defScope sInit) [V.int 1] [] f fd) (T : TxtQ mg) (CW : ClsP K mg C)
    (EU : ErrF K mg "BadUnder" "under" CU fU) (FU : FnOk P w K mg base CX0 1 fU fdU ["self", "under"] (spErr K CU "under")) (bU : Binds K fdU ["self", "under"] []) (CKR : DfX P w K mg base 3 "_check_row" ["row"] (spCheck K CR) fk fdk)
    (Disintfrom : Df P w K mg base 2 "is_int_from" ["value", "low"] (spFrom K)) (Dtrimmed : Df P w K mg base 1 "trimmed" ["row"] (spTrim K)) (Dcommondivisor : Df P w K mg base 1 "common_divisor" ["first", "row"] (spCom K)) :
    FnOk P w K mg base (CX P w) 4 f fd ["self", "row", "under"] (spInit K C CR CU) := by
  refine FunD.ok F scInit (fun vs H Q E h => ?_) (fun cdv A outer s H vs Q E hr h => ?_)
  · obtain ⟨H0, p, dx, a, xs, v, rfl, _⟩ := h
    rfl
  · obtain ⟨H0, p, dx, a, xs, v, rfl, s0, p0, hp, hS, hl, q⟩ := h
    refine ⟨_, (pss_cons (ps_expr (pe_callS CKR.F (hr.mono (by decide)) (by rfl) CKR.at_ CKR.kp CKR.b (fun σ => passAt (takes_of rfl rfl rfl rfl) σ) (pa_cons (pv 1) pa_nil)))
      (pss_cons (ps_if (pw_or (pt_not (pt_val (pe_callB call_isi (by rfl) T.isinstance (by decide +kernel) (pa_cons (pv 2) (pa_cons (pe_bltn (v := .ty "int") (by rfl) T.int (by decide +kernel) rfl) pa_nil))))) (pw_or (pt_cmpR op_isA (pv 2) pe_bl (nomark _)) (pw_or1 (pt_cmpR op_lt (pv 2) pe_int (nomark _))))).pt (pss_one (ps_raise rfl (takes_of rfl rfl rfl rfl) (pmk_oex EU.oex EU.iC EU.tI FU (hr.mono (by decide)) bU .nil pass0 (by rfl) EU.mgC (pa_cons (pv 2) pa_nil)))) pss_nil)
      (pss_cons (ps_set (i := 3) scInit.nd rfl (.inl rfl) (Dtrimmed.call (hr.mono (by decide)) (pa_cons (pv 1) pa_nil)))
      (pss_cons (ps_set (i := 4) scInit.nd rfl (.inr rfl) (pe_ifExp (pt_cmpR op_gt (pv 2) pe_int (nomark _)) (Dcommondivisor.call (hr.mono (by decide)) (pa_cons (pv 2) (pa_cons (pv 3) pa_nil))) pe_int))
      (pss_cons (ps_fld (pv 0) (pe_callTy call_tuple_of (by rfl) T.tuple (by decide +kernel) (pa_cons (pe_ifExp (pt_cmpR op_eq (pv 4) pe_int (nomark _)) (pv 3) (pe_lc (own := [("number", 5)]) (g := gName 5) (by rfl) scInit.nd (pi_list (pv 3)) (blkOk_by (own := [("number", 5)]) (N := ["self", "row", "under", "numbers", "shared", "number"]) (sc := defScope sInit) (by decide +kernel)) (fun _ _ _ _ _ => pg_name (i := 5) scInit.nd rfl (Or.inl rfl)) (fun _ _ _ _ _ => pts_nil) (fun _ _ _ _ _ => (pe_op op_fdivW (pv 5) (pv 4))))) pa_nil)) rfl)
      (pss_one (ps_fld (pv 0) (pe_op op_fdivW (pv 2) (pv 4)) rfl))))))), ?_⟩
    refine ⟨_, rfl, a, xs, rfl, hS.same s0, by omega, ?_⟩
    rcases q with ⟨r, z, ys, e, hN, q⟩ | ⟨r, rfl, q⟩
    · exact .inr ⟨r, z, ys, e, hN.same s0, fun d H' s1 hd hx => q d H' (s0.trans s1) (s0.free hd) hx⟩
    refine .inl ⟨r, rfl, fun H1 s1 => ?_⟩
    have s01 := s0.trans s1
    rw [List.length_map] at hl
    rcases q with ⟨un, rfl, hu, hub, q⟩ | ⟨hB, q⟩
    case' inr =>
      rcases hB with ⟨hN, hf⟩ | ⟨i, rfl, hi⟩
      · have flying : ∀ d H', Same H1 H' → H1 d = none → H' d = some (.xd [("under", v)]) → E (.ref CU) (some d) H' := fun d H' s2 hd hx => q d H' (s01.trans s2) (s01.free hd) hx
        obtain ⟨nm, b1, b2, ht, k1, k2, hb⟩ := hN.same s01
        rcases ty_cases ht k1 k2 hb with ⟨c, rfl⟩ | ⟨rfl, hnb⟩
        · cases c with
          | false => exact absurd rfl hf
          | true =>
            refine ⟨_, rfl, _, _, _, _, _, rfl, .ty "int", .base (.bl true), kit_ty kit_boolint, true, rfl, iteF ?_⟩
            exact ⟨_, rfl, _, rfl, .inl ⟨true, rfl, _, rfl, iteT ⟨_, rfl, mk_err (v := .bl true) (R := E) flying⟩⟩⟩
        · refine ⟨_, rfl, _, _, _, _, _, rfl, .ty "int", ht, kit_ty k1, false, rfl, iteT ?_⟩
          exact ⟨_, rfl, mk_err (v := v) (R := E) flying⟩
      · refine ⟨_, rfl, _, _, _, _, _, rfl, .ty "int", .base (.int i), kit_ty kit_int, true, rfl, iteF ?_⟩
        refine ⟨_, rfl, _, rfl, .inr ⟨fun c e => (nomatch e), _, rfl, iteF ?_⟩⟩
        refine ⟨_, rfl, _, _, rfl, rfl, _, rfl, ?_⟩
        rw [decide_eq_true hi]
        refine iteT ?_
        exact ⟨_, rfl, mk_err (v := .int i) (R := E) fun d H' s2 hd hx => q d H' (s01.trans s2) (s01.free hd) hx⟩
    refine ⟨_, rfl, _, _, _, _, _, rfl, .ty "int", .base (.int (un : Int)), kit_ty kit_int, true, rfl, iteF ?_⟩
    refine ⟨_, rfl, _, rfl, .inr ⟨fun c e => (nomatch e), _, rfl, iteF ?_⟩⟩
    refine ⟨_, rfl, _, _, rfl, rfl, _, rfl, ?_⟩
    rw [decide_eq_false (show ¬ (un : Int) < 1 by omega)]
    refine iteF ?_
    refine ⟨_, rfl, a, r, rfl, hS.same s01, hl, fun H2 l t s2 h2 ht => ?_⟩
    have s02 := s01.trans s2
    have hg := gcdR_pos (t := t) hu
    obtain ⟨gd1, gd2⟩ := gcdR_dvd t un
    have hgb : Bd 8000 ((gcdR un t : Nat) : Int) := by
      have h1 := Nat.le_of_dvd hu gd1
      unfold Bd at *
      rw [Int.natAbs_natCast] at *
      exact Nat.lt_of_le_of_lt h1 hub
    have hLow := Low.of_trim ht hu
    have h1g : un = 1 → gcdR un t = 1 := fun e => by rw [e]; exact gcdR_one t
    have hp2 : H2 p = some (.ins C dx []) := s2 _ _ (s1 _ _ hp)
    have htl : t.length ≤ 100 := by
      obtain ⟨k, hk, rfl, _⟩ := ht
      rw [List.length_take]; omega
    have fin : ∀ (ra : Addr) (H4 : Hp) (g : Nat), gcdR un t = g → Same H2 H4 → SqT K H4 ra ((t.map fun c => c / (g : Int)).map V.int) →
        Q .non (upd H4 p (.ins C dx (putF "under" (.int ((un / g : Nat) : Int)) (putF "row" (.ref ra) [])))) := fun ra H4 g hgg s4 e4 => by
      subst hgg
      exact q _ _ _ hLow (same_mut (s02.trans s4) p0) ⟨dx, ra, upd_same, sqt_upd e4 (s4 _ _ hp2)⟩
    have one : ∀ (ra : Addr), H2 ra = none → SqT K (upd H2 ra (.tup (t.map V.int))) ra ((t.map fun c => c / ((1 : Nat) : Int)).map V.int) := fun ra hra => by
      rw [show (t.map fun c => c / ((1 : Nat) : Int)) = t from (List.map_congr_left fun c _ => Int.ediv_one c).trans (List.map_id _)]
      exact .inl (.inl upd_same)
    -- shared
    refine ⟨_, rfl, _, _, rfl, rfl, _, rfl, ?_⟩
    refine ite2 (fun hb => ?_) (fun hb => ?_)
    · refine ⟨_, rfl, _, rfl, l, t, un, rfl, .inl (.inl h2), ?_⟩
      generalize hgg : gcdR un t = g at hg hgb ⊢
      have hgi : (0 : Int) < (g : Int) := by omega
      -- self.row
      refine ⟨_, rfl, rfl, _, rfl, ?_⟩
      by_cases hg1 : g = 1
      · subst hg1
        refine iteT ⟨_, rfl, l, _, rfl, .inl ⟨.inl (.inl h2), fun ra hra => ?_⟩⟩
        have s4 := same_new (o := .tup (t.map V.int)) hra
        have e4 := one ra hra
        generalize upd H2 ra (.tup (t.map V.int)) = H4 at s4 e4 ⊢
        refine ⟨_, rfl, p, C, dx, _, rfl, s4 _ _ hp2, CW.cl, CW.nR, (by show 0 < 1000; decide), ?_⟩
        refine ⟨_, rfl, _, rfl, _, _, rfl, rfl, wide_div hgi hgb (by decide) (by decide), _, rfl, p, C, dx, _, rfl, upd_same, CW.cl, CW.nU, (by show 1 < 1000; decide), ?_⟩
        rw [upd_upd]
        exact fin ra H4 1 hgg s4 e4
      rw [decide_eq_false (show ¬ V.int (g : Int) = V.int 1 from fun z => hg1 (by injection z with z; omega))]
      refine iteF ⟨_, rfl, l, rfl, ⟨_, .inl (.inl h2)⟩, fun D hD => ?_⟩
      refine lc_list (K := K) (a := l) (xs := t.map V.int) (fun i H' => Same H2 H' ∧ H' D = some (.lst (((t.take i).map fun c => c / (g : Int)).map V.int))) ⟨same_new hD, upd_same⟩ (fun i H' _ hh => .inl (.inl (hh.1 _ _ h2))) ?_ ?_
      · rintro i x H' hi ⟨sx, hx⟩
        rw [List.getElem?_map] at hi
        obtain ⟨c, hc, rfl⟩ := Option.map_eq_some_iff.mp hi
        refine ⟨rfl, _, rfl, _, rfl, _, _, rfl, rfl, wide_div hgi hgb (by decide) (by decide), _, hx, ?_, same_mut sx hD, ?_⟩
        · rw [List.length_map, List.length_map, List.length_take]
          exact Nat.lt_of_le_of_lt (show min i t.length ≤ 100 by omega) (by decide)
        · rw [upd_same, List.take_succ, hc, Option.toList_some, List.map_append, List.map_append]
          rfl
      · rintro H3 ⟨s3, h3⟩
        rw [List.length_map, List.take_length] at h3
        refine ⟨D, _, rfl, .inl ⟨.inl (.inl h3), fun ra hra => ?_⟩⟩
        have s4 := s3.trans (same_new (o := .tup ((t.map fun c => c / (g : Int)).map V.int)) hra)
        have e4 : SqT K (upd H3 ra (.tup ((t.map fun c => c / (g : Int)).map V.int))) ra ((t.map fun c => c / (g : Int)).map V.int) := .inl (.inl upd_same)
        generalize upd H3 ra (.tup ((t.map fun c => c / (g : Int)).map V.int)) = H4 at s4 e4 ⊢
        refine ⟨_, rfl, p, C, dx, _, rfl, s4 _ _ hp2, CW.cl, CW.nR, (by show 0 < 1000; decide), ?_⟩
        -- self.under
        refine ⟨_, rfl, _, rfl, _, _, rfl, rfl, wide_div hgi hgb (by decide) (by decide), _, rfl, p, C, dx, _, rfl, upd_same, CW.cl, CW.nU, (by show 1 < 1000; decide), ?_⟩
        rw [upd_upd]
        exact fin ra H4 g hgg s4 e4
    · have hu1 : un = 1 := by
        have : ¬ (1 : Int) < (un : Int) := fun z => hb (decide_eq_true z)
        omega
      refine ⟨_, rfl, rfl, _, rfl, iteT ⟨_, rfl, l, _, rfl, .inl ⟨.inl (.inl h2), fun ra hra => ?_⟩⟩⟩
      have s4 := same_new (o := .tup (t.map V.int)) hra
      have e4 := one ra hra
      generalize upd H2 ra (.tup (t.map V.int)) = H4 at s4 e4 ⊢
      refine ⟨_, rfl, p, C, dx, _, rfl, s4 _ _ hp2, CW.cl, CW.nR, (by show 0 < 1000; decide), ?_⟩
      refine ⟨_, rfl, _, rfl, _, _, rfl, rfl, wide_div (b := 8000) (by decide) (show Bd 8000 1 from by unfold Bd; decide) (by decide) (by decide), _, rfl, p, C, dx, _, rfl, upd_same, CW.cl, CW.nU, (by show 1 < 1000; decide), ?_⟩
      rw [upd_upd]
      exact fin ra H4 1 (h1g hu1) s4 e4
/-! ### == -/
def spEq (K : PySem.W.Frag) (C : Addr) : Sp := fun vs H Q _ => ∃ (p : Addr) (y : V) (r1 : List Int) (u1 : Nat), vs = [.ref p, y] ∧ PAt K C H p r1 u1 ∧ r1.length ≤ 1000 ∧
  ((∃ (b : Addr) (r2 : List Int) (u2 : Nat), y = .ref b ∧ PAt K C H b r2 u2 ∧ r2.length ≤ 1000 ∧ Q (.bl (decide (r1 = r2 ∧ u1 = u2))) H) ∨ (∃ (b : Addr) (xs : List V), y = .ref b ∧ H b = some (.lst xs) ∧ Q (.bl false) H))
theorem scEq : FnScope ["self", "other"] ["self", "other"] (defScope sEq) := ⟨rfl, rfl, rfl, by decide +kernel, rfl, by decide +kernel, by decide +kernel⟩
structure ClsQ (K : PySem.W.Frag) (mg : Str → Option Value) (C : Addr) : Prop extends ClsP K mg C where
  cc : PySem.W.findIn K (.ref C) "__class__" = some (some (.builtin "object.__class__"))
  cg : PySem.W.specialIn K (.builtin "object.__class__") "__get__" = some (some (.builtin "getset_descriptor.__get__"))
  ct : PySem.W.takesIn K (.builtin "object.__class__") = some true
  co : PySem.W.mroIn K C (.type "object") = some true
  sl : PySem.W.subIn K (.type "list") (.ref C) = some false
theorem eqv_ints : ∀ as bs : List Int, PyData.eqvAll (as.map PyData.int) (bs.map PyData.int) = decide (as = bs)
  | [], [] => rfl
  | [], _ :: _ => rfl
  | _ :: _, [] => rfl
  | a :: as, b :: bs => by
    show (PyData.eqv (.int a) (.int b) && PyData.eqvAll (as.map PyData.int) (bs.map PyData.int)) = _
    rw [eqv_ints as bs]
    show (decide (a = b) && decide (as = bs)) = decide (a :: as = b :: bs)
    by_cases h1 : a = b <;> by_cases h2 : as = bs <;> simp [h1, h2]
theorem ok_eq {f C : Addr} {fd : FuncData} (F : Fun K "__eq__" "Piece.__eq__" sEq f fd) (T : TxtQ mg) (CW : ClsQ K mg C) (hli : PySem.W.kitOne K (.type "list") (.ref C) = some false) : FnOk P w K mg base CX0 1 f fd ["self", "other"] (spEq K C) := by
  refine F.ok scEq (fun vs H Q E h => ?_) (fun cdv A outer s H vs Q E hr h => ?_)
  · obtain ⟨p, y, r1, u1, rfl, _⟩ := h
    rfl
  · obtain ⟨p, y, r1, u1, rfl, ⟨dx, ra, h1, h2⟩, hl1, q⟩ := h
    refine ⟨_, (pss_one (ps_ret (pe_and (pe_callB call_isi (by rfl) T.isinstance (by decide +kernel) (pa_cons (pv 1) (pa_cons (pe_glob (v := .ref C) (by rfl) CW.mgC rfl) pa_nil))) (pe_and (pe_cmpR (op_eqD hr.units) (pe_fld (pv 0) rfl) (pe_fld (pv 1) rfl) (nomark _)) (pe_one (pe_cmpR op_eq (pe_fld (pv 0) rfl) (pe_fld (pv 1) rfl) (nomark _))))))), ?_⟩
    rcases q with ⟨b, r2, u2, rfl, ⟨dx2, ra2, k1, k2⟩, hl2, q⟩ | ⟨b, xs, rfl, hb, q⟩
    · refine ⟨_, rfl, _, _, _, _, true, rfl, .own C, .base (.ins k1 CW.cl CW.cc CW.cg CW.ct CW.co), if_pos (by simp), ?_⟩
      refine ⟨_, rfl, iteT ?_⟩
      refine ⟨_, rfl, p, C, dx, _, _, rfl, h1, CW.cl, CW.nR, pf_row, _, rfl, b, C, dx2, _, _, rfl, k1, CW.cl, CW.nR, pf_row, _, _, .tup h2 (dp_ints r1), .tup k2 (dp_ints r2), (sh_list (can_ints r1).1 (can_ints r1).2).2, (sh_list (can_ints r2).1 (can_ints r2).2).2, _, rfl, ?_⟩
      rw [show PyData.eqv (.tuple (r1.map PyData.int)) (.tuple (r2.map PyData.int)) = decide (r1 = r2) from eqv_ints r1 r2]
      by_cases hr : r1 = r2
      · rw [decide_eq_true hr]
        refine iteT ⟨_, rfl, p, C, dx, _, _, rfl, h1, CW.cl, CW.nU, pf_under, _, rfl, b, C, dx2, _, _, rfl, k1, CW.cl, CW.nU, pf_under, rfl, ?_⟩
        have e : decide (V.int (u1 : Int) = V.int (u2 : Int)) = decide (r1 = r2 ∧ u1 = u2) := by
          rw [dint]
          by_cases hu : u1 = u2
          · rw [decide_eq_true (show (u1 : Int) = (u2 : Int) by rw [hu]), decide_eq_true (show r1 = r2 ∧ u1 = u2 from ⟨hr, hu⟩)]
          · rw [decide_eq_false (show ¬ (u1 : Int) = (u2 : Int) by omega), decide_eq_false (show ¬ (r1 = r2 ∧ u1 = u2) from fun z => hu z.2)]
        dsimp only
        rw [e]
        exact q
      · rw [decide_eq_false hr]
        rw [decide_eq_false (fun z => hr z.1)] at q
        exact iteF q
    · refine ⟨_, rfl, _, _, _, _, false, rfl, .own C, .base (.lst hb), hli, ?_⟩
      exact ⟨_, rfl, iteF q⟩
end
end Ef
set_option Elab.async false
set_option linter.all false
/-! one least form -/
namespace Ef
theorem gcdR_mul (d : Nat) : ∀ (t : List Int) (f : Nat), gcdR (d * f) (t.map fun c => (d : Int) * c) = d * gcdR f t
  | [], f => rfl
  | c :: t, f => by
    show gcdR (Nat.gcd (d * f) ((d : Int) * c).natAbs) (t.map fun c => (d : Int) * c) = d * gcdR (Nat.gcd f c.natAbs) t
    rw [Int.natAbs_mul, Int.natAbs_natCast, Nat.gcd_mul_left]
    exact gcdR_mul d t _
/-- the member, or 0 -/
theorem Low.cross {r p : List Int} {un u : Nat} (h : Low r un p u) (j : Nat) : p.getD j 0 * (un : Int) = r.getD j 0 * (u : Int) := by
  obtain ⟨k, g, hg, hk, rfl, hd, hu, _, hz, hl⟩ := h.ex
  rcases Nat.lt_or_ge j k with z | z
  · have hjl : j < r.length := by omega
    have e : (r.take k)[j]? = some r[j] := by rw [List.getElem?_take, if_pos z, List.getElem?_eq_getElem hjl]
    have e1 : ((r.take k).map fun c => c / (g : Int)).getD j 0 = r[j] / (g : Int) := by rw [List.getD_eq_getElem?_getD, List.getElem?_map, e]; rfl
    have e2 : r.getD j 0 = r[j] := by rw [List.getD_eq_getElem?_getD, List.getElem?_eq_getElem hjl]; rfl
    rw [e1, e2, hu, Int.natCast_mul, ← Int.mul_assoc, Int.ediv_mul_cancel (hd _ (List.mem_of_getElem? e))]
  · have e1 : ((r.take k).map fun c => c / (g : Int)).getD j 0 = 0 := by
      rw [List.getD_eq_getElem?_getD, List.getElem?_eq_none (by rw [List.length_map, List.length_take]; omega)]; rfl
    have e2 : r.getD j 0 = 0 := by
      rcases Nat.lt_or_ge j r.length with w | w
      · rw [List.getD_eq_getElem?_getD, hz j z w]; rfl
      · rw [List.getD_eq_getElem?_getD, List.getElem?_eq_none w]; rfl
    rw [e1, e2, Int.zero_mul, Int.zero_mul]
theorem Low.un0 {r p : List Int} {un u : Nat} (h : Low r un p u) : 0 < un := by
  obtain ⟨k, g, hg, hk, _, _, hu, _⟩ := h.ex
  rw [hu]; exact Nat.mul_pos hg h.u1
theorem Low.gcd1 {r p : List Int} {un u : Nat} (h : Low r un p u) : gcdR u p = 1 := by
  obtain ⟨k, g, hg, hk, hp, hd, hu, h1, _⟩ := h.ex
  exact h1
/-- no 0 at the end -/
theorem Low.end_ {r p : List Int} {un u : Nat} (h : Low r un p u) (j : Nat) (hj : j + 1 = p.length) : p.getD j 0 ≠ 0 := by
  obtain ⟨k, g, hg, hk, rfl, hd, hu, _, hz, hl⟩ := h.ex
  rw [List.length_map, List.length_take] at hj
  rcases hl with rfl | ⟨c, hc, hc0⟩
  · omega
  · have ej : j = k - 1 := by omega
    have e : (r.take k)[j]? = some c := by rw [List.getElem?_take, if_pos (by omega), ej]; exact hc
    have e1 : ((r.take k).map fun c => c / (g : Int)).getD j 0 = c / (g : Int) := by rw [List.getD_eq_getElem?_getD, List.getElem?_map, e]; rfl
    rw [e1]
    intro z
    have := Int.mul_ediv_cancel' (hd c (List.mem_of_getElem? e))
    rw [z, Int.mul_zero] at this
    exact hc0 this.symm
theorem dvd_of_cross {p q : List Int} {u v : Nat} (h1 : gcdR u p = 1) (hc : ∀ j, p.getD j 0 * (v : Int) = q.getD j 0 * (u : Int)) : u ∣ v := by
  have h := gcdR_mul v p u
  rw [h1, Nat.mul_one] at h
  rw [← h]
  refine dvd_gcdR _ _ _ (Nat.dvd_mul_left u v) fun c hcm => ?_
  obtain ⟨x, hx, rfl⟩ := List.mem_map.mp hcm
  obtain ⟨j, hj, rfl⟩ := List.getElem_of_mem hx
  have e := hc j
  have e2 : p.getD j 0 = p[j] := by rw [List.getD_eq_getElem?_getD, List.getElem?_eq_getElem hj]; rfl
  rw [e2] at e
  rw [Int.mul_comm, e]
  exact Int.dvd_mul_left _ _
theorem ext_getD : ∀ {p q : List Int}, (∀ j, p.getD j 0 = q.getD j 0) → (∀ j, j + 1 = p.length → p.getD j 0 ≠ 0) → (∀ j, j + 1 = q.length → q.getD j 0 ≠ 0) → p = q := by
  intro p q h hp hq
  have hlen : ∀ {p q : List Int}, (∀ j, p.getD j 0 = q.getD j 0) → (∀ j, j + 1 = p.length → p.getD j 0 ≠ 0) → p.length ≤ q.length := by
    intro p q h hp
    rcases Nat.lt_or_ge q.length p.length with z | z
    · have h1 := hp (p.length - 1) (by omega)
      rw [h (p.length - 1)] at h1
      rw [List.getD_eq_getElem?_getD, List.getElem?_eq_none (by omega)] at h1
      exact absurd rfl h1
    · exact z
  have l1 := hlen h hp
  have l2 := hlen (fun j => (h j).symm) hq
  refine List.ext_getElem (by omega) fun j h1 h2 => ?_
  have := h j
  rw [List.getD_eq_getElem?_getD, List.getD_eq_getElem?_getD, List.getElem?_eq_getElem h1, List.getElem?_eq_getElem h2] at this
  exact this
/-- two rows that are one over their divisors have one least form -/
theorem Low.unique {r s p q : List Int} {un vn u v : Nat} (h1 : Low r un p u) (h2 : Low s vn q v) (e : ∀ j, r.getD j 0 * (vn : Int) = s.getD j 0 * (un : Int)) : p = q ∧ u = v := by
  have z1 := h1.un0
  have z2 := h2.un0
  have hc : ∀ j, p.getD j 0 * (v : Int) = q.getD j 0 * (u : Int) := fun j => by
    have a := h1.cross j
    have b := h2.cross j
    have c := e j
    have k : p.getD j 0 * (v : Int) * ((un : Int) * (vn : Int)) = q.getD j 0 * (u : Int) * ((un : Int) * (vn : Int)) := by
      have s1 : p.getD j 0 * (v : Int) * ((un : Int) * (vn : Int)) = (p.getD j 0 * (un : Int)) * (v : Int) * (vn : Int) := by
        simp only [Int.mul_assoc, Int.mul_comm, Int.mul_left_comm]
      have s2 : q.getD j 0 * (u : Int) * ((un : Int) * (vn : Int)) = (q.getD j 0 * (vn : Int)) * (u : Int) * (un : Int) := by
        simp only [Int.mul_assoc, Int.mul_comm, Int.mul_left_comm]
      rw [s1, s2, a, b]
      have s3 : r.getD j 0 * (u : Int) * (v : Int) * (vn : Int) = (r.getD j 0 * (vn : Int)) * ((u : Int) * (v : Int)) := by
        simp only [Int.mul_assoc, Int.mul_comm, Int.mul_left_comm]
      have s4 : s.getD j 0 * (v : Int) * (u : Int) * (un : Int) = (s.getD j 0 * (un : Int)) * ((u : Int) * (v : Int)) := by
        simp only [Int.mul_assoc, Int.mul_comm, Int.mul_left_comm]
      rw [s3, s4, c]
    have nz : ((un : Int) * (vn : Int)) ≠ 0 := by
      have := Int.mul_pos (show (0 : Int) < (un : Int) by omega) (show (0 : Int) < (vn : Int) by omega)
      omega
    exact Int.eq_of_mul_eq_mul_right nz k
  have d1 := dvd_of_cross h1.gcd1 hc
  have d2 := dvd_of_cross h2.gcd1 fun j => (hc j).symm
  have euv := Nat.dvd_antisymm d1 d2
  subst euv
  have nz : (u : Int) ≠ 0 := by have := h1.u1; omega
  exact ⟨ext_getD (fun j => Int.eq_of_mul_eq_mul_right nz (hc j)) h1.end_ h2.end_, rfl⟩
/-- one least form: one row over its divisor -/
theorem Low.back {r s p : List Int} {un vn u : Nat} (h1 : Low r un p u) (h2 : Low s vn p u) (j : Nat) : r.getD j 0 * (vn : Int) = s.getD j 0 * (un : Int) := by
  have a := h1.cross j
  have b := h2.cross j
  have nz : (u : Int) ≠ 0 := by have := h1.u1; omega
  refine Int.eq_of_mul_eq_mul_right nz ?_
  have s1 : r.getD j 0 * (vn : Int) * (u : Int) = (r.getD j 0 * (u : Int)) * (vn : Int) := by simp only [Int.mul_assoc, Int.mul_comm, Int.mul_left_comm]
  have s2 : s.getD j 0 * (un : Int) * (u : Int) = (s.getD j 0 * (u : Int)) * (un : Int) := by simp only [Int.mul_assoc, Int.mul_comm, Int.mul_left_comm]
  rw [s1, s2, ← a, ← b]
  simp only [Int.mul_assoc, Int.mul_comm, Int.mul_left_comm]
end Ef
set_option Elab.async false
set_option linter.all false
/-! rows: sums, products; least forms carried over -/
namespace Ef
/-- the member, or 0 -/
def cf (r : List Int) (j : Nat) : Int := r.getD j 0
theorem cf_nil (j : Nat) : cf [] j = 0 := by unfold cf; rw [List.getD_eq_getElem?_getD]; rfl
theorem cf_lt {r : List Int} {j : Nat} (h : j < r.length) : cf r j = r[j] := by unfold cf; rw [List.getD_eq_getElem?_getD, List.getElem?_eq_getElem h]; rfl
theorem cf_ge {r : List Int} {j : Nat} (h : r.length ≤ j) : cf r j = 0 := by unfold cf; rw [List.getD_eq_getElem?_getD, List.getElem?_eq_none h]; rfl
theorem cf_of {r : List Int} {j : Nat} {c : Int} (h : r[j]? = some c) : cf r j = c := by unfold cf; rw [List.getD_eq_getElem?_getD, h]; rfl
theorem cf_map {r : List Int} {f : Int → Int} (h0 : f 0 = 0) (j : Nat) : cf (r.map f) j = f (cf r j) := by
  rcases Nat.lt_or_ge j r.length with z | z
  · rw [cf_lt (by rw [List.length_map]; exact z), cf_lt z, List.getElem_map]
  · rw [cf_ge (by rw [List.length_map]; exact z), cf_ge z, h0]
theorem cf_cons (x : Int) (r : List Int) (j : Nat) : cf (x :: r) j = if j = 0 then x else cf r (j - 1) := by
  cases j with
  | zero => rw [if_pos rfl]; rfl
  | succ j => rw [if_neg (Nat.succ_ne_zero j)]; rfl
theorem cf_append (r s : List Int) (j : Nat) : cf (r ++ s) j = if j < r.length then cf r j else cf s (j - r.length) := by
  unfold cf
  by_cases h : j < r.length
  · rw [if_pos h, List.getD_eq_getElem?_getD, List.getD_eq_getElem?_getD, List.getElem?_append_left h]
  · rw [if_neg h, List.getD_eq_getElem?_getD, List.getD_eq_getElem?_getD, List.getElem?_append_right (by omega)]
theorem cf_rep (k j : Nat) : cf (List.replicate k 0) j = 0 := by
  rcases Nat.lt_or_ge j k with z | z
  · rw [cf_lt (by rw [List.length_replicate]; exact z), List.getElem_replicate]
  · rw [cf_ge (by rw [List.length_replicate]; exact z)]
/-- one trimmed form there is -/
theorem trim_ex : ∀ n : Nat, ∀ r : List Int, n ≤ r.length → (∀ j, n ≤ j → j < r.length → r[j]? = some 0) → ∃ t, TrimOk r t
  | 0, r, _, hz => ⟨[], 0, Nat.zero_le _, List.take_zero.symm, hz, .inl rfl⟩
  | n + 1, r, hn, hz => by
    by_cases h : r[n]? = some 0
    · refine trim_ex n r (by omega) fun j h1 h2 => ?_
      rcases Nat.eq_or_lt_of_le h1 with rfl | z
      · exact h
      · exact hz j z h2
    · have e : r[n]? = some r[n] := List.getElem?_eq_getElem (by omega)
      exact ⟨r.take (n + 1), n + 1, hn, rfl, hz, .inr ⟨r[n], by rw [Nat.add_sub_cancel]; exact e, fun z => h (by rw [e, z])⟩⟩
theorem low_ex (r : List Int) {un : Nat} (h : 0 < un) : ∃ p u, Low r un p u := by
  obtain ⟨t, ht⟩ := trim_ex r.length r (Nat.le_refl _) fun j h1 h2 => absurd h2 (by omega)
  exact ⟨_, _, Low.of_trim ht h⟩
/-- one function, one least form -/
theorem Low.move {r s p : List Int} {un vn u : Nat} (h : Low r un p u) (hv : 0 < vn) (e : ∀ j, cf r j * (vn : Int) = cf s j * (un : Int)) : Low s vn p u := by
  obtain ⟨q, v, h2⟩ := low_ex s hv
  obtain ⟨e1, e2⟩ := h.unique h2 e
  subst e1 e2
  exact h2
/-- a sum of n members -/
def sm (n : Nat) (h : Nat → Int) : Int := match n with
  | 0 => 0
  | n + 1 => sm n h + h n
theorem sm_congr {n : Nat} {f g : Nat → Int} (h : ∀ i, i < n → f i = g i) : sm n f = sm n g := by
  induction n with
  | zero => rfl
  | succ n ih =>
    show sm n f + f n = sm n g + g n
    rw [ih fun i hi => h i (by omega), h n (Nat.lt_succ_self n)]
theorem sm_head {n : Nat} {h : Nat → Int} : sm (n + 1) h = h 0 + sm n fun i => h (i + 1) := by
  induction n with
  | zero => show 0 + h 0 = h 0 + 0; omega
  | succ n ih =>
    show sm (n + 1) h + h (n + 1) = h 0 + (sm n (fun i => h (i + 1)) + h (n + 1))
    rw [ih]; omega
theorem sm_zero {n : Nat} {h : Nat → Int} (hz : ∀ i, i < n → h i = 0) : sm n h = 0 := by
  induction n with
  | zero => rfl
  | succ n ih =>
    show sm n h + h n = 0
    rw [ih fun i hi => hz i (by omega), hz n (Nat.lt_succ_self n)]; rfl
theorem sm_ext {n k : Nat} {h : Nat → Int} (hz : ∀ i, n ≤ i → i < n + k → h i = 0) : sm (n + k) h = sm n h := by
  induction k with
  | zero => rfl
  | succ k ih =>
    show sm (n + k) h + h (n + k) = sm n h
    rw [ih fun i h1 h2 => hz i h1 (by omega), hz (n + k) (by omega) (by omega)]; omega
theorem sm_mul {n : Nat} {h : Nat → Int} (c : Int) : sm n h * c = sm n fun i => h i * c := by
  induction n with
  | zero => exact Int.zero_mul c
  | succ n ih =>
    show (sm n h + h n) * c = sm n (fun i => h i * c) + h n * c
    rw [Int.add_mul, ih]
theorem sm_rev {n : Nat} {h : Nat → Int} : sm n h = sm n fun i => h (n - 1 - i) := by
  induction n with
  | zero => rfl
  | succ n ih =>
    rw [sm_head (h := fun i => h (n + 1 - 1 - i))]
    show sm n h + h n = h (n - 0) + sm n fun i => h (n - (i + 1))
    rw [ih, Nat.sub_zero, Int.add_comm]
    congr 1
    exact sm_congr fun i hi => by rw [show n - 1 - i = n - (i + 1) by omega]
/-- the product's members -/
def cv (f g : Nat → Int) (j : Nat) : Int := sm (j + 1) fun i => f i * g (j - i)
theorem cv_comm (f g : Nat → Int) (j : Nat) : cv f g j = cv g f j := by
  unfold cv
  rw [sm_rev]
  refine sm_congr fun i hi => ?_
  rw [show j + 1 - 1 - i = j - i by omega, show j - (j - i) = i by omega, Int.mul_comm]
theorem cv_scale (f g : Nat → Int) (c d : Int) (j : Nat) : cv (fun i => f i * c) (fun i => g i * d) j = cv f g j * (c * d) := by
  unfold cv
  rw [sm_mul]
  refine sm_congr fun i _ => ?_
  simp only [Int.mul_assoc, Int.mul_comm, Int.mul_left_comm]
/-- a product up to a number of the first one's members -/
def cvk (k : Nat) (f g : Nat → Int) (j : Nat) : Int := sm k fun i => if i ≤ j then f i * g (j - i) else 0
theorem cvk_succ (k : Nat) (f g : Nat → Int) (j : Nat) : cvk (k + 1) f g j = cvk k f g j + (if k ≤ j then f k * g (j - k) else 0) := rfl
theorem cvk_all {k : Nat} {f g : Nat → Int} (hz : ∀ i, k ≤ i → f i = 0) (j : Nat) : cvk k f g j = cv f g j := by
  have e1 : cvk (k + (j + 1)) f g j = cvk k f g j := sm_ext fun i h1 _ => by
    rw [hz i h1, Int.zero_mul]; split <;> rfl
  have e2 : cvk (j + 1 + k) f g j = cv f g j := by
    unfold cvk cv
    rw [sm_ext fun i h1 _ => by rw [if_neg (by omega)]]
    exact sm_congr fun i hi => by rw [if_pos (by omega)]
  rw [← e1, ← e2, Nat.add_comm]
/-- the product of two rows -/
def mulR : List Int → List Int → Nat → Int := fun a b => cv (cf a) (cf b)
theorem cv_cons (x : Int) (a : List Int) (g : Nat → Int) (j : Nat) : cv (cf (x :: a)) g j = x * g j + (if j = 0 then 0 else cv (cf a) g (j - 1)) := by
  unfold cv
  rw [sm_head]
  congr 1
  cases j with
  | zero => rfl
  | succ j =>
    rw [if_neg (Nat.succ_ne_zero j)]
    refine sm_congr fun i hi => ?_
    rw [show j + 1 - (i + 1) = j + 1 - 1 - i by omega]
    rfl
theorem cv_nil (g : Nat → Int) (j : Nat) : cv (cf []) g j = 0 := sm_zero fun i _ => by rw [cf_nil, Int.zero_mul]
theorem cv_congr {f f' g g' : Nat → Int} (hf : ∀ i, f i = f' i) (hg : ∀ i, g i = g' i) (j : Nat) : cv f g j = cv f' g' j := by
  rw [show f = f' from funext hf, show g = g' from funext hg]
/-- the product of two least forms -/
theorem Low.mul {r s p q R x : List Int} {un vn u v z : Nat} (h1 : Low r un p u) (h2 : Low s vn q v) (hR : ∀ j, cf R j = cv (cf p) (cf q) j) (h3 : Low R (u * v) x z) {S : List Int} (hS : ∀ j, cf S j = cv (cf r) (cf s) j) : Low S (un * vn) x z := by
  refine h3.move (Nat.mul_pos h1.un0 h2.un0) fun j => ?_
  rw [hR, hS, Int.natCast_mul, Int.natCast_mul, ← cv_scale, ← cv_scale]
  exact cv_congr (fun i => h1.cross i) (fun i => h2.cross i) j
/-- sums and differences of two least forms: e is 1 or -1 -/
theorem Low.add {r s p q R x : List Int} {un vn u v z w : Nat} {e : Int} (h1 : Low r un p u) (h2 : Low s vn q v) (hw : 0 < w) (hR : ∀ j, cf R j * ((u : Int) * (v : Int)) = (cf p j * (v : Int) + e * (cf q j * (u : Int))) * (w : Int)) (h3 : Low R w x z) {S : List Int} {tn : Nat} (ht : 0 < tn) (hS : ∀ j, cf S j * ((un : Int) * (vn : Int)) = (cf r j * (vn : Int) + e * (cf s j * (un : Int))) * (tn : Int)) : Low S tn x z := by
  refine h3.move ht fun j => ?_
  have c1 : cf p j * (un : Int) = cf r j * (u : Int) := h1.cross j
  have c2 : cf q j * (vn : Int) = cf s j * (v : Int) := h2.cross j
  have hu := h1.u1
  have hv := h2.u1
  have hun := h1.un0
  have hvn := h2.un0
  have nz : ((u : Int) * (v : Int)) * ((un : Int) * (vn : Int)) ≠ 0 := by
    have a := Int.mul_pos (show (0 : Int) < (u : Int) by omega) (show (0 : Int) < (v : Int) by omega)
    have b := Int.mul_pos (show (0 : Int) < (un : Int) by omega) (show (0 : Int) < (vn : Int) by omega)
    have := Int.mul_pos a b
    omega
  refine Int.eq_of_mul_eq_mul_right nz ?_
  have l1 : cf R j * (tn : Int) * (((u : Int) * (v : Int)) * ((un : Int) * (vn : Int))) = (cf R j * ((u : Int) * (v : Int))) * ((tn : Int) * ((un : Int) * (vn : Int))) := by ac_rfl
  have l2 : cf S j * (w : Int) * (((u : Int) * (v : Int)) * ((un : Int) * (vn : Int))) = (cf S j * ((un : Int) * (vn : Int))) * ((w : Int) * ((u : Int) * (v : Int))) := by ac_rfl
  rw [l1, l2, hR, hS]
  have m1 : (cf p j * (v : Int) + e * (cf q j * (u : Int))) * (w : Int) * ((tn : Int) * ((un : Int) * (vn : Int))) = ((cf p j * (un : Int)) * ((v : Int) * (vn : Int)) + e * ((cf q j * (vn : Int)) * ((u : Int) * (un : Int)))) * ((w : Int) * (tn : Int)) := by
    simp only [Int.add_mul]
    congr 1 <;> ac_rfl
  have m2 : (cf r j * (vn : Int) + e * (cf s j * (un : Int))) * (tn : Int) * ((w : Int) * ((u : Int) * (v : Int))) = ((cf r j * (u : Int)) * ((v : Int) * (vn : Int)) + e * ((cf s j * (v : Int)) * ((u : Int) * (un : Int)))) * ((w : Int) * (tn : Int)) := by
    simp only [Int.add_mul]
    congr 1 <;> ac_rfl
  rw [m1, m2, c1, c2]
/-- powers as functions -/
def pwF (f : Nat → Int) : Nat → Nat → Int
  | 0 => fun j => if j = 0 then 1 else 0
  | k + 1 => cv (pwF f k) f
theorem pwF_cross {f g : Nat → Int} {a b : Int} (h : ∀ i, f i * a = g i * b) (k : Nat) : ∀ j, pwF f k j * a ^ k = pwF g k j * b ^ k := by
  induction k with
  | zero => intro j; rw [Int.pow_zero, Int.pow_zero]; rfl
  | succ k ih =>
    intro j
    show cv (pwF f k) f j * a ^ (k + 1) = cv (pwF g k) g j * b ^ (k + 1)
    rw [Int.pow_succ, Int.pow_succ, ← cv_scale, ← cv_scale]
    exact cv_congr ih h j
/-- the product as a list -/
def mulL (a b : List Int) : List Int := (List.range (a.length + b.length)).map fun j => cv (cf a) (cf b) j
theorem mulL_len (a b : List Int) : (mulL a b).length = a.length + b.length := by unfold mulL; rw [List.length_map, List.length_range]
theorem cf_mulL (a b : List Int) (j : Nat) : cf (mulL a b) j = cv (cf a) (cf b) j := by
  rcases Nat.lt_or_ge j (a.length + b.length) with z | z
  · exact cf_of (by unfold mulL; rw [List.getElem?_map, List.getElem?_range z]; rfl)
  · rw [cf_ge (by rw [mulL_len]; exact z)]
    refine (sm_zero fun i hi => ?_).symm
    rcases Nat.lt_or_ge i a.length with y | y
    · rw [cf_ge (r := b) (by omega), Int.mul_zero]
    · rw [cf_ge (r := a) y, Int.zero_mul]
theorem sm_bd {n B : Nat} {h : Nat → Int} (hb : ∀ i, i < n → (h i).natAbs ≤ B) : (sm n h).natAbs ≤ n * B := by
  induction n with
  | zero => exact Nat.zero_le _
  | succ n ih =>
    have h1 := ih fun i hi => hb i (by omega)
    have h2 := hb n (Nat.lt_succ_self n)
    have h3 := Int.natAbs_add_le (sm n h) (h n)
    show (sm n h + h n).natAbs ≤ (n + 1) * B
    rw [Nat.succ_mul]; omega
theorem cf_bd {r : List Int} {b : Nat} (h : ∀ c ∈ r, Bd b c) (j : Nat) : Bd b (cf r j) := by
  rcases Nat.lt_or_ge j r.length with z | z
  · rw [cf_lt z]; exact h _ (List.getElem_mem z)
  · rw [cf_ge z]; exact Bd.zero b
theorem mulL_bd {r s : List Int} {a b w : Nat} (hr : ∀ c ∈ r, Bd a c) (hs : ∀ c ∈ s, Bd b c) (hl : r.length + s.length ≤ 120) (hw : a + b + 7 ≤ w) : ∀ c ∈ mulL r s, Bd w c := fun c hc => by
  unfold mulL at hc
  obtain ⟨j, hj, rfl⟩ := List.mem_map.mp hc
  have hj := List.mem_range.mp hj
  refine Bd.up (a := a + b + 7) ?_ hw
  have h1 : (cv (cf r) (cf s) j).natAbs ≤ (j + 1) * 2 ^ (a + b) := sm_bd fun i _ => by
    rw [Int.natAbs_mul, Nat.pow_add]
    exact Nat.mul_le_mul (Nat.le_of_lt (cf_bd hr i)) (Nat.le_of_lt (cf_bd hs _))
  have h2 : (j + 1) * 2 ^ (a + b) ≤ 120 * 2 ^ (a + b) := Nat.mul_le_mul_right _ (by omega)
  unfold Bd
  rw [Nat.pow_add _ _ 7]
  have := Nat.two_pow_pos (a + b)
  omega
/-- the powers as lists -/
def powL (r : List Int) : Nat → List Int
  | 0 => [1]
  | k + 1 => mulL (powL r k) r
theorem cf_powL (r : List Int) (k : Nat) : ∀ j, cf (powL r k) j = pwF (cf r) k j := by
  induction k with
  | zero =>
    intro j
    cases j with
    | zero => rfl
    | succ j => exact cf_ge (by show 1 ≤ j + 1; omega)
  | succ k ih => intro j; show cf (mulL (powL r k) r) j = _; rw [cf_mulL]; exact cv_congr ih (fun _ => rfl) j
theorem powL_len (r : List Int) (k : Nat) : (powL r k).length = 1 + k * r.length := by
  induction k with
  | zero => rw [Nat.zero_mul]; rfl
  | succ k ih => show (mulL (powL r k) r).length = _; rw [mulL_len, ih, Nat.succ_mul, Nat.add_assoc]
theorem powL_bd {r : List Int} {b : Nat} (h : ∀ c ∈ r, Bd b c) (hl : r.length ≤ 4) : ∀ k : Nat, k ≤ 6 → ∀ c ∈ powL r k, Bd (1 + k * (b + 7)) c
  | 0, _, c, hc => by
    rw [List.mem_singleton.mp hc]; unfold Bd; rw [Nat.zero_mul]; decide
  | k + 1, hk, c, hc => by
    have hk1 : k * r.length ≤ 6 * 4 := Nat.mul_le_mul (by omega) hl
    exact mulL_bd (powL_bd h hl k (by omega)) h (by rw [powL_len]; omega) (by rw [Nat.succ_mul]; omega) c hc
/-- a bound of sums and products -/
theorem Bd.mul {a b w : Nat} {x y : Int} (hx : Bd a x) (hy : Bd b y) (h : a + b ≤ w) : Bd w (x * y) := by
  refine Bd.up (a := a + b) ?_ h
  unfold Bd at *
  rw [Int.natAbs_mul, Nat.pow_add]
  exact Nat.mul_lt_mul'' hx hy
end Ef
set_option Elab.async false
set_option linter.all false
set_option maxRecDepth 100000
set_option maxHeartbeats 4000000
namespace Ef
open PySem PySem.Spec PyProof.Rows
theorem sm_add {n : Nat} {f g : Nat → Int} : (sm n fun i => f i + g i) = sm n f + sm n g := by
  induction n with
  | zero => rfl
  | succ n ih =>
    show (sm n fun i => f i + g i) + (f n + g n) = (sm n f + f n) + (sm n g + g n)
    rw [ih]; omega
theorem eval_cf : ∀ (r : List Int) (x : Int) (N : Nat), r.length ≤ N → evalR r x = sm N fun i => cf r i * x ^ i
  | [], x, N, _ => (sm_zero fun i _ => by rw [cf_nil, Int.zero_mul]).symm
  | c :: r, x, 0, h => absurd h (by rw [List.length_cons]; omega)
  | c :: r, x, N + 1, h => by
    rw [sm_head]
    have e : (sm N fun i => cf (c :: r) (i + 1) * x ^ (i + 1)) = sm N (fun i => cf r i * x ^ i) * x := by
      rw [sm_mul]
      refine sm_congr fun i _ => ?_
      rw [cf_cons, if_neg (by omega), Nat.add_sub_cancel, Int.pow_succ, Int.mul_assoc]
    rw [e, ← eval_cf r x N (by rw [List.length_cons] at h; omega), cf_cons, if_pos rfl, Int.pow_zero, Int.mul_one]
    show evalR r x * x + c = _
    omega
theorem eval_deg {r : List Int} {N : Nat} (hz : ∀ j, N ≤ j → cf r j = 0) (x : Int) : evalR r x = sm N fun i => cf r i * x ^ i := by
  rw [eval_cf r x (N + r.length) (by omega)]
  exact sm_ext fun i h1 _ => by rw [hz i h1, Int.zero_mul]
theorem ev_lin {t r : List Int} {c d : Int} (h : ∀ j, cf t j * c = cf r j * d) (x : Int) : evalR t x * c = evalR r x * d := by
  rw [eval_cf t x (t.length + r.length) (by omega), eval_cf r x (t.length + r.length) (by omega), sm_mul, sm_mul]
  refine sm_congr fun i _ => ?_
  rw [Int.mul_right_comm, h i, Int.mul_right_comm]
theorem ev_congr {t r : List Int} (h : ∀ j, cf t j = cf r j) (x : Int) : evalR t x = evalR r x := by
  have := ev_lin (t := t) (r := r) (c := 1) (d := 1) (fun j => by rw [h j]) x
  rw [Int.mul_one, Int.mul_one] at this
  exact this
theorem ev_add {t r s : List Int} (h : ∀ j, cf t j = cf r j + cf s j) (x : Int) : evalR t x = evalR r x + evalR s x := by
  rw [eval_cf t x (t.length + r.length + s.length) (by omega), eval_cf r x (t.length + r.length + s.length) (by omega), eval_cf s x (t.length + r.length + s.length) (by omega), ← sm_add]
  refine sm_congr fun i _ => ?_
  rw [h i, Int.add_mul]
theorem ev_by {t r : List Int} {c : Int} (h : ∀ j, cf t j = cf r j * c) (x : Int) : evalR t x = evalR r x * c := by
  have := ev_lin (t := t) (r := r) (c := 1) (d := c) (fun j => by rw [h j, Int.mul_one]) x
  rwa [Int.mul_one] at this
theorem two_cv (a b : Int) (g : Nat → Int) (j : Nat) : cv (cf [a, b]) g j = a * g j + if j = 0 then 0 else b * g (j - 1) := by
  rw [cv_cons]
  by_cases h : j = 0
  · rw [if_pos h, if_pos h]
  · rw [if_neg h, if_neg h, cv_cons, cv_nil]
    by_cases h2 : j - 1 = 0
    · rw [if_pos h2]; omega
    · rw [if_neg h2]; omega
theorem ev_two {t s : List Int} {a b : Int} (h : ∀ j, cf t j = cv (cf [a, b]) (cf s) j) (x : Int) : evalR t x = (a + b * x) * evalR s x := by
  have e := ev_add (t := t) (r := s.map fun c => c * a) (s := 0 :: s.map fun c => c * b) (fun j => by
    rw [h j, two_cv, cf_map (Int.zero_mul a), cf_cons, Int.mul_comm]
    by_cases hj : j = 0
    · rw [if_pos hj, if_pos hj]
    · rw [if_neg hj, if_neg hj, cf_map (Int.zero_mul b), Int.mul_comm b]) x
  rw [e, ev_by (t := s.map fun c => c * a) (r := s) (c := a) (fun j => cf_map (Int.zero_mul a) j) x]
  show _ + (evalR (s.map fun c => c * b) x * x + 0) = _
  rw [ev_by (t := s.map fun c => c * b) (r := s) (c := b) (fun j => cf_map (Int.zero_mul b) j) x, Int.add_mul, Int.mul_comm a, Int.mul_assoc (evalR s x), Int.mul_comm (evalR s x) (b * x)]
  omega
def mkL (f : Nat → Int) (n : Nat) : List Int := (List.range n).map f
theorem mkL_len (f : Nat → Int) (n : Nat) : (mkL f n).length = n := by unfold mkL; rw [List.length_map, List.length_range]
theorem cf_mkL (f : Nat → Int) (n j : Nat) : cf (mkL f n) j = if j < n then f j else 0 := by
  by_cases h : j < n
  · rw [if_pos h]
    exact cf_of (by unfold mkL; rw [List.getElem?_map, List.getElem?_range h]; rfl)
  · rw [if_neg h]
    exact cf_ge (by rw [mkL_len]; omega)
/-! ### stretched -/
def stF (r m : Int) : List Int → Nat → Int
  | [] => fun _ => 0
  | c :: s => fun j => cv (cf [r, m]) (stF r m s) j + cf [c] j
theorem cf_one (c : Int) (j : Nat) : cf [c] j = if j = 0 then c else 0 := by
  rw [cf_cons, cf_nil]
theorem stF_cons (r m c : Int) (s : List Int) (j : Nat) : stF r m (c :: s) j = (r * stF r m s j + if j = 0 then 0 else m * stF r m s (j - 1)) + if j = 0 then c else 0 := by
  show cv (cf [r, m]) (stF r m s) j + cf [c] j = _
  rw [two_cv, cf_one]
theorem stF_zero (r m : Int) : ∀ (s : List Int) (j : Nat), s.length ≤ j → stF r m s j = 0
  | [], _, _ => rfl
  | c :: s, j, h => by
    rw [List.length_cons] at h
    rw [stF_cons, if_neg (by omega), if_neg (by omega), stF_zero r m s j (by omega), stF_zero r m s (j - 1) (by omega), Int.mul_zero, Int.mul_zero]; rfl
theorem stF_id : ∀ (s : List Int) (j : Nat), stF 0 1 s j = cf s j
  | [], j => (cf_nil j).symm
  | c :: s, j => by
    rw [stF_cons, cf_cons]
    by_cases h : j = 0
    · rw [if_pos h, if_pos h, if_pos h]; omega
    · rw [if_neg h, if_neg h, if_neg h, stF_id s (j - 1)]; omega
theorem stF_ev (r m x : Int) : ∀ (s t : List Int), (∀ j, cf t j = stF r m s j) → evalR t x = evalR s (m * x + r)
  | [], t, h => by
    rw [ev_congr (r := []) (fun j => by rw [h j, cf_nil]; rfl) x]; rfl
  | c :: s, t, h => by
    have hs : ∀ j, cf (mkL (stF r m s) s.length) j = stF r m s j := fun j => by
      rw [cf_mkL]
      by_cases hj : j < s.length
      · rw [if_pos hj]
      · rw [if_neg hj, stF_zero r m s j (by omega)]
    have hp : ∀ j, cf (mulL [r, m] (mkL (stF r m s) s.length)) j = cv (cf [r, m]) (cf (mkL (stF r m s) s.length)) j := cf_mulL _ _
    rw [ev_add (r := mulL [r, m] (mkL (stF r m s) s.length)) (s := [c]) (fun j => by
      rw [h j, hp j]
      show cv (cf [r, m]) (stF r m s) j + cf [c] j = _
      rw [cv_congr (fun _ => rfl) (fun i => (hs i).symm) j]) x, ev_two hp x, stF_ev r m x s _ hs]
    show (r + m * x) * evalR s (m * x + r) + (0 * x + c) = evalR s (m * x + r) * (m * x + r) + c
    rw [Int.mul_comm, Int.add_comm r, Int.zero_mul, Int.zero_add]
theorem Bd.add' {a w : Nat} {x y : Int} (hx : Bd a x) (hy : Bd a y) (h : a + 1 ≤ w) : Bd w (x + y) := by
  unfold Bd at *
  have h1 := Int.natAbs_add_le x y
  have h2 : 2 ^ (a + 1) ≤ 2 ^ w := Nat.pow_le_pow_right (by decide) h
  rw [Nat.pow_succ] at h2
  omega
/-- a number times one, a number times the other, and one more -/
theorem bd_step {a b : Nat} {x y z p q : Int} (hx : Bd a x) (hp : Bd b p) (hy : Bd a y) (hq : Bd b q) (hz : Bd (a + b + 1) z) : Bd (a + b + 2) (x * p + y * q + z) :=
  ((hx.mul hp (Nat.le_refl _)).add' (hy.mul hq (Nat.le_refl _)) (Nat.le_refl _)).add' hz (Nat.le_refl _)
theorem stF_bd {r m : Int} {a b : Nat} (hr : Bd a r) (hm : Bd a m) : ∀ (s : List Int), (∀ c ∈ s, Bd b c) → ∀ j, Bd (b + (a + 2) * s.length) (stF r m s j)
  | [], _, j => Bd.zero _
  | c :: s, h, j => by
    have ih := stF_bd hr hm s fun c hc => h c (List.mem_cons_of_mem _ hc)
    rw [stF_cons, List.length_cons]
    have e : b + (a + 2) * (s.length + 1) = a + (b + (a + 2) * s.length) + 2 := by rw [Nat.mul_succ]; omega
    rw [e]
    have hc : Bd (a + (b + (a + 2) * s.length) + 1) c := (h c (List.mem_cons_self ..)).up (by omega)
    by_cases hj : j = 0
    · rw [if_pos hj, if_pos hj]
      have := bd_step hr (ih j) hm (Bd.zero _) hc
      rwa [Int.mul_zero] at this
    · rw [if_neg hj, if_neg hj]
      exact bd_step hr (ih j) hm (ih (j - 1)) (Bd.zero _)
/-! ### led through values: Newton -/
def dl : Nat → (Nat → Int) → Nat → Int
  | 0, f => f
  | i + 1, f => fun j => dl i f (j + 1) - dl i f j
theorem dl_in : ∀ (i : Nat) (f : Nat → Int) (j : Nat), dl (i + 1) f j = dl i (dl 1 f) j
  | 0, _, _ => rfl
  | i + 1, f, j => by
    show dl (i + 1) f (j + 1) - dl (i + 1) f j = dl i (dl 1 f) (j + 1) - dl i (dl 1 f) j
    rw [dl_in i f (j + 1), dl_in i f j]
theorem dl_zero {f : Nat → Int} {n L : Nat} (h : ∀ j, L + j < n → dl L f j = 0) : ∀ d j, L + d + j < n → dl (L + d) f j = 0
  | 0, j, hj => h j hj
  | d + 1, j, hj => by
    show dl (L + d) f (j + 1) - dl (L + d) f j = 0
    rw [dl_zero h d (j + 1) (by omega), dl_zero h d j (by omega)]; rfl
def ch : Nat → Nat → Int
  | _, 0 => 1
  | 0, _ + 1 => 0
  | n + 1, k + 1 => ch n k + ch n (k + 1)
theorem ch_z (n : Nat) : ch n 0 = 1 := by cases n <;> rfl
theorem ch_big : ∀ n k : Nat, n < k → ch n k = 0
  | _, 0, h => absurd h (Nat.not_lt_zero _)
  | 0, _ + 1, _ => rfl
  | n + 1, k + 1, h => by
    show ch n k + ch n (k + 1) = 0
    rw [ch_big n k (by omega), ch_big n (k + 1) (by omega)]; rfl
theorem ch_step : ∀ n k : Nat, ((k : Int) + 1) * ch n (k + 1) = ((n : Int) - k) * ch n k
  | 0, 0 => rfl
  | 0, k + 1 => by show _ * (0 : Int) = _ * (0 : Int); rw [Int.mul_zero, Int.mul_zero]
  | n + 1, 0 => by
    have := ch_step n 0
    show (((0 : Nat) : Int) + 1) * (ch n 0 + ch n 1) = (((n + 1 : Nat) : Int) - ((0 : Nat) : Int)) * (1 : Int)
    rw [ch_z] at this ⊢
    have e : ch n (0 + 1) = ch n 1 := rfl
    rw [e] at this
    generalize ch n 1 = a at *
    omega
  | n + 1, k + 1 => by
    have h1 := ch_step n (k + 1)
    have h2 := ch_step n k
    show _ * (ch n (k + 1) + ch n (k + 2)) = _ * (ch n k + ch n (k + 1))
    have e1 : ((k + 1 : Nat) : Int) = (k : Int) + 1 := rfl
    have e2 : ((n + 1 : Nat) : Int) = (n : Int) + 1 := rfl
    rw [e1] at h1 ⊢
    rw [e2]
    generalize ch n (k + 1) = b at *
    generalize ch n (k + 2) = c at *
    generalize ch n k = a at *
    grind
theorem newton : ∀ (j : Nat) (f : Nat → Int), f j = sm (j + 1) fun i => dl i f 0 * ch j i
  | 0, f => by show f 0 = 0 + f 0 * 1; omega
  | j + 1, f => by
    have h1 := newton j f
    have h2 := newton j (dl 1 f)
    have e0 : f (j + 1) = f j + dl 1 f j := by show _ = f j + (f (j + 1) - f j); omega
    have e1 : (sm (j + 1) fun i => dl i f 0 * ch j i) = dl 0 f 0 * ch j 0 + sm (j + 1) fun i => dl (i + 1) f 0 * ch j (i + 1) := by
      rw [← sm_head (n := j + 1) (h := fun i => dl i f 0 * ch j i)]
      show _ = (sm (j + 1) fun i => dl i f 0 * ch j i) + dl (j + 1) f 0 * ch j (j + 1)
      rw [ch_big j (j + 1) (by omega), Int.mul_zero]; omega
    rw [e0, h1, h2, e1, sm_head (n := j + 1), ch_z, ch_z, Int.add_assoc, ← sm_add]
    refine congrArg _ (sm_congr fun i _ => ?_)
    rw [← dl_in i f 0]
    show dl (i + 1) f 0 * ch j (i + 1) + dl (i + 1) f 0 * ch j i = dl (i + 1) f 0 * (ch j i + ch j (i + 1))
    rw [Int.mul_add]; omega
theorem newton_cut {f : Nat → Int} {n L : Nat} (hz : ∀ j, L + j < n → dl L f j = 0) {j : Nat} (hj : j < n) : f j = sm L fun i => dl i f 0 * ch j i := by
  rw [newton j f]
  rcases Nat.le_total (j + 1) L with h | h
  · obtain ⟨d, rfl⟩ := Nat.exists_eq_add_of_le h
    exact (sm_ext fun i h1 _ => by rw [ch_big j i (by omega), Int.mul_zero]).symm
  · obtain ⟨d, hd⟩ := Nat.exists_eq_add_of_le h
    rw [hd]
    refine sm_ext fun i h1 h2 => ?_
    obtain ⟨e, rfl⟩ := Nat.exists_eq_add_of_le h1
    rw [dl_zero hz e 0 (by omega), Int.zero_mul]
/-- what holds when the members from k on are taken in -/
def Nw (f : Nat → Int) (p : Int) (L k : Nat) (t : List Int) (U : Int) : Prop :=
  (∀ j : Nat, ((max k 1 : Nat) : Int) * ch j k * evalR t (p + (j : Int)) = U * (sm L (fun i => dl i f 0 * ch j i) - sm k fun i => dl i f 0 * ch j i)) ∧ ∀ j, L - k ≤ j → cf t j = 0
theorem nw_start (f : Nat → Int) (p : Int) (L : Nat) : Nw f p L L [] 1 := ⟨fun j => by show _ * (0 : Int) = _; rw [Int.mul_zero]; omega, fun j _ => cf_nil j⟩
theorem nw_step {f : Nat → Int} {p U : Int} {L k : Nat} {t t2 : List Int} (h : Nw f p L (k + 1) t U) (hk : k < L) (e : ∀ j, cf t2 j = cv (cf [-p - (k : Int), 1]) (cf t) j + cf [dl k f 0 * U] j) : Nw f p L k t2 (U * ((max k 1 : Nat) : Int)) := by
  refine ⟨fun j => ?_, fun j hj => ?_⟩
  · have h1 := h.1 j
    have h2 := ch_step j k
    have ev : evalR t2 (p + (j : Int)) = ((-p - (k : Int)) + 1 * (p + (j : Int))) * evalR t (p + (j : Int)) + dl k f 0 * U := by
      rw [ev_add (r := mulL [-p - (k : Int), 1] t) (s := [dl k f 0 * U]) (fun i => by rw [e i, cf_mulL]) _, ev_two (fun i => cf_mulL _ _ i)]
      show _ + (0 * _ + dl k f 0 * U) = _
      rw [Int.zero_mul, Int.zero_add]
    have es : (sm (k + 1) fun i => dl i f 0 * ch j i) = (sm k fun i => dl i f 0 * ch j i) + dl k f 0 * ch j k := rfl
    have em : ((max (k + 1) 1 : Nat) : Int) = (k : Int) + 1 := by omega
    rw [es, em] at h1
    rw [ev]
    generalize (sm L fun i => dl i f 0 * ch j i) = S at *
    generalize (sm k fun i => dl i f 0 * ch j i) = s at *
    generalize evalR t (p + (j : Int)) = E at *
    generalize ch j (k + 1) = c1 at *
    generalize ch j k = c0 at *
    generalize dl k f 0 = g at *
    generalize ((max k 1 : Nat) : Int) = mm at *
    generalize (k : Int) = kk at *
    generalize (j : Int) = jj at *
    have a1 : (-p - kk) + 1 * (p + jj) = jj - kk := by omega
    rw [a1]
    rw [h2] at h1
    grind
  · rw [e j, two_cv, cf_one, h.2 j (by omega), if_neg (show ¬ j = 0 by omega), if_neg (show ¬ j = 0 by omega), h.2 (j - 1) (by omega)]; omega
theorem nw_end {f : Nat → Int} {p U : Int} {L n : Nat} {t : List Int} (h : Nw f p L 0 t U) (hz : ∀ j, L + j < n → dl L f j = 0) {j : Nat} (hj : j < n) : evalR t (p + (j : Int)) = U * f j := by
  have h1 := h.1 j
  rw [← newton_cut hz hj, ch_z] at h1
  have e : ((max 0 1 : Nat) : Int) = 1 := rfl
  rw [e, Int.one_mul, Int.one_mul] at h1
  rw [h1]
  show U * (f j - 0) = _
  rw [Int.sub_zero]
/-! ### squares -/
theorem three_zero {D : List Int} (hz : ∀ j, 3 ≤ j → cf D j = 0) {s : Int} (e0 : evalR D s = 0) (e1 : evalR D (s + 1) = 0) (e2 : evalR D (s + 2) = 0) (j : Nat) : cf D j = 0 := by
  rw [eval_deg hz] at e0 e1 e2
  have k : ∀ x : Int, (sm 3 fun i => cf D i * x ^ i) = cf D 0 + cf D 1 * x + cf D 2 * (x * x) := fun x => by
    show ((0 + cf D 0 * x ^ 0) + cf D 1 * x ^ 1) + cf D 2 * x ^ 2 = _
    rw [Int.pow_zero, Int.pow_succ, Int.pow_zero, Int.pow_succ, Int.pow_succ, Int.pow_zero]
    simp only [Int.one_mul, Int.mul_one, Int.zero_add]
  rw [k] at e0 e1 e2
  have a2 : cf D 2 = 0 := by grind
  have a1 : cf D 1 = 0 := by grind
  have a0 : cf D 0 = 0 := by grind
  match j with
  | 0 => exact a0
  | 1 => exact a1
  | 2 => exact a2
  | j + 3 => exact hz _ (by omega)
/-- the squares of a line, times a number -/
theorem sq_third {f : Nat → Int} {n : Nat} {u s : Int} (h : ∀ j, j < n → f j = u * ((s + (j : Int)) * (s + (j : Int)))) : ∀ j, 3 + j < n → dl 3 f j = 0 := fun j hj => by
  show (f (j + 3) - f (j + 2) - (f (j + 2) - f (j + 1))) - (f (j + 2) - f (j + 1) - (f (j + 1) - f j)) = 0
  rw [h (j + 3) (by omega), h (j + 2) (by omega), h (j + 1) (by omega), h j (by omega)]
  have e1 : ((j + 1 : Nat) : Int) = (j : Int) + 1 := rfl
  have e2 : ((j + 2 : Nat) : Int) = (j : Int) + 2 := rfl
  have e3 : ((j + 3 : Nat) : Int) = (j : Int) + 3 := rfl
  rw [e1, e2, e3]
  grind
theorem sq_cf {t : List Int} {U u p l : Int} (hz : ∀ j, 3 ≤ j → cf t j = 0) (h : ∀ j : Nat, j < 3 → evalR t (p + (j : Int)) = U * (u * ((p + l + (j : Int)) * (p + l + (j : Int))))) (j : Nat) : cf t j = cf [u * l * l, 2 * u * l, u] j * U := by
  have k : ∀ x : Int, evalR [u * l * l, 2 * u * l, u] x = u * ((x + l) * (x + l)) := fun x => by
    show ((0 * x + u) * x + 2 * u * l) * x + u * l * l = _
    grind
  have hD : ∀ j, cf (mkL (fun j => cf t j + cf [u * l * l, 2 * u * l, u] j * (-U)) (t.length + 3)) j = cf t j + cf [u * l * l, 2 * u * l, u] j * (-U) := fun j => by
    rw [cf_mkL]
    by_cases hj : j < t.length + 3
    · rw [if_pos hj]
    · rw [if_neg hj, cf_ge (r := t) (by omega), cf_ge (r := [u * l * l, 2 * u * l, u]) (by show 3 ≤ j; omega), Int.zero_mul]; rfl
  have ev : ∀ x, evalR (mkL (fun j => cf t j + cf [u * l * l, 2 * u * l, u] j * (-U)) (t.length + 3)) x = evalR t x + evalR [u * l * l, 2 * u * l, u] x * (-U) := fun x => by
    have em : ∀ j, cf ([u * l * l, 2 * u * l, u].map fun c => c * (-U)) j = cf [u * l * l, 2 * u * l, u] j * (-U) := fun j => cf_map (f := fun c => c * (-U)) (Int.zero_mul _) j
    rw [ev_add (r := t) (s := [u * l * l, 2 * u * l, u].map fun c => c * (-U)) (fun j => by rw [hD j, em j]) x, ev_by em x]
  have z := three_zero (D := mkL (fun j => cf t j + cf [u * l * l, 2 * u * l, u] j * (-U)) (t.length + 3)) (s := p) (fun j hj => by rw [hD j, hz j hj, cf_ge (r := [u * l * l, 2 * u * l, u]) hj, Int.zero_mul]; rfl)
    (by rw [ev, k]; have := h 0 (by decide); rw [show p + ((0 : Nat) : Int) = p by omega] at this; rw [this]; grind)
    (by rw [ev, k]; have := h 1 (by decide); rw [show p + ((1 : Nat) : Int) = p + 1 by omega] at this; rw [this]; grind)
    (by rw [ev, k]; have := h 2 (by decide); rw [show p + ((2 : Nat) : Int) = p + 2 by omega] at this; rw [this]; grind) j
  rw [hD j, Int.mul_neg] at z
  omega
end Ef
set_option Elab.async false
set_option linter.all false
set_option maxRecDepth 100000
set_option maxHeartbeats 2000000
/-! the stretches of the signs of a row -/
namespace Ef
def sg (x : Int) : Int := if x = 0 then 0 else if 0 < x then 1 else -1
theorem sg_zero {x : Int} : sg x = 0 ↔ x = 0 := by
  unfold sg
  by_cases h : x = 0
  · rw [if_pos h]; exact ⟨fun _ => h, fun _ => rfl⟩
  · rw [if_neg h]
    refine ⟨fun z => ?_, fun z => absurd z h⟩
    by_cases h2 : 0 < x
    · rw [if_pos h2] at z; cases z
    · rw [if_neg h2] at z; cases z
theorem sg_pos {x : Int} (h : 0 < x) : sg x = 1 := by unfold sg; rw [if_neg (by omega), if_pos h]
theorem sg_neg {x : Int} (h : x < 0) : sg x = -1 := by unfold sg; rw [if_neg (by omega), if_neg (by omega)]
theorem sg_three (x : Int) : (sg x = 0 ∧ x = 0) ∨ (sg x = 1 ∧ 0 < x) ∨ (sg x = -1 ∧ x < 0) := by
  rcases Int.lt_trichotomy x 0 with h | h | h
  · exact .inr (.inr ⟨sg_neg h, h⟩)
  · exact .inl ⟨sg_zero.mpr h, h⟩
  · exact .inr (.inl ⟨sg_pos h, h⟩)
theorem sg_mul {g x : Int} (h : 0 < g) : sg (g * x) = sg x := by
  rcases sg_three x with ⟨e, h2⟩ | ⟨e, h2⟩ | ⟨e, h2⟩
  · rw [e, h2, Int.mul_zero]; rfl
  · rw [e, sg_pos (Int.mul_pos h h2)]
  · rw [e, sg_neg (Int.mul_neg_of_pos_of_neg h h2)]
theorem sg_opp (x : Int) : sg (-x) = -sg x := by
  rcases sg_three x with ⟨e, h2⟩ | ⟨e, h2⟩ | ⟨e, h2⟩
  · rw [e, h2]; rfl
  · rw [e, sg_neg (by omega)]
  · rw [e, sg_pos (by omega)]; rfl
/-- a stretch: its first place, its last one if there is one, its sign -/
abbrev Stt := Int × Option Int × Int
def Upto (n : Int) : Option Int → Prop
  | none => True
  | some y => n ≤ y
theorem Upto.le {n k : Int} {e : Option Int} (h : Upto k e) (hn : n ≤ k) : Upto n e := by
  cases e with
  | none => trivial
  | some y => exact Int.le_trans hn h
/-- the stretches l tell the signs of f from a to e -/
inductive Cv (f : Int → Int) (a : Int) : List Stt → Option Int → Prop
  | nil : Cv f a [] (some (a - 1))
  | snoc {l : List Stt} {b s : Int} {e : Option Int} : Cv f a l (some (b - 1)) → (∀ t, l.getLast? = some t → t.2.2 ≠ s) → Upto b e → (∀ n, b ≤ n → Upto n e → sg (f n) = s) → Cv f a (l ++ [(b, e, s)]) e
section
variable {f g : Int → Int} {a b s : Int} {l : List Stt} {e : Option Int}
theorem Cv.start (h : Cv f a l e) : ∀ y, e = some y → a - 1 ≤ y := by
  induction h with
  | nil => intro y z; cases z; exact Int.le_refl _
  | snoc h1 h2 h3 h4 ih =>
    intro y z
    subst z
    have := ih _ rfl
    have h3 : _ ≤ y := h3
    omega
theorem Cv.from (h : Cv f a l (some (b - 1))) : a ≤ b := by have := h.start _ rfl; omega
/-- what stands at the end -/
theorem Cv.inv (h : Cv f a l e) : (l = [] ∧ e = some (a - 1)) ∨ ∃ l' b s, l = l' ++ [(b, e, s)] ∧ Cv f a l' (some (b - 1)) ∧ (∀ t, l'.getLast? = some t → t.2.2 ≠ s) ∧ Upto b e ∧ ∀ n, b ≤ n → Upto n e → sg (f n) = s := by
  cases h with
  | nil => exact .inl ⟨rfl, rfl⟩
  | snoc h1 h2 h3 h4 => exact .inr ⟨_, _, _, rfl, h1, h2, h3, h4⟩
theorem Cv.congr (h : Cv f a l e) (hfg : ∀ n, sg (f n) = sg (g n)) : Cv g a l e := by
  induction h with
  | nil => exact .nil
  | snoc h1 h2 h3 h4 ih => exact .snoc ih h2 h3 fun n h5 h6 => by rw [← hfg]; exact h4 n h5 h6
/-- the sign of the last stretch is that of its last place -/
theorem Cv.lastSign (h : Cv f a l (some b)) : ∀ t, l.getLast? = some t → t.2.2 = sg (f b) := by
  rcases h.inv with ⟨rfl, _⟩ | ⟨l', b', s', rfl, _, _, h3, h4⟩
  · intro t ht; cases ht
  · intro t ht
    rw [List.getLast?_concat] at ht
    cases ht
    exact (h4 b h3 (Int.le_refl b)).symm
theorem Cv.empty (h : Cv f a l (some (a - 1))) : l = [] := by
  rcases h.inv with ⟨rfl, _⟩ | ⟨l', b', s', rfl, h1, _, h3, _⟩
  · rfl
  · have := h1.from
    have h3 : b' ≤ a - 1 := h3
    omega
theorem Cv.full (h : Cv f a l e) (ha : Upto a e) : l ≠ [] := by
  rcases h.inv with ⟨rfl, rfl⟩ | ⟨l', b', s', rfl, _, _, _, _⟩
  · have ha : a ≤ a - 1 := ha
    omega
  · intro z
    cases l' <;> cases z
/-- only one list tells them -/
theorem Cv.unique (h : Cv f a l e) : ∀ {l2 : List Stt}, Cv f a l2 e → l = l2 := by
  induction h with
  | nil => intro l2 h2; exact h2.empty.symm
  | @snoc l b s e h1 h2 h3 h4 ih =>
    intro l2 k
    rcases k.inv with ⟨rfl, z⟩ | ⟨l', b', s', rfl, k1, k2, k3, k4⟩
    · subst z
      have := h1.from
      have h3 : b ≤ a - 1 := h3
      omega
    · have hm : Upto (max b b') e := by
        rcases Int.le_total b b' with z | z
        · rw [Int.max_eq_right z]; exact k3
        · rw [Int.max_eq_left z]; exact h3
      have es : s = s' := (h4 _ (Int.le_max_left ..) hm).symm.trans (k4 _ (Int.le_max_right ..) hm)
      subst es
      have key : ∀ {c d : Int} {m n : List Stt}, Cv f a m (some (c - 1)) → (∀ t, m.getLast? = some t → t.2.2 ≠ s) → (∀ n, d ≤ n → Upto n e → sg (f n) = s) → Cv f a n (some (d - 1)) → Upto c e → ¬ d < c := by
        intro c d m n m1 m2 n4 n1 hu hlt
        have had := n1.from
        cases hl : m.getLast? with
        | none =>
          rw [List.getLast?_eq_none_iff.mp hl] at m1
          rcases m1.inv with ⟨_, z⟩ | ⟨l', b', s', z, _⟩
          · have z := Option.some.inj z
            omega
          · cases l' <;> cases z
        | some t =>
          have e1 := m1.lastSign t hl
          exact m2 t hl (e1.trans (n4 (c - 1) (by omega) (hu.le (by omega))))
      have n1 := key h1 h2 k4 k1 h3
      have n2 := key k1 k2 h4 h1 k3
      have eb : b = b' := by omega
      subst eb
      rw [ih k1]
/-! ### put together -/
def push (l : List Stt) (x : Stt) : List Stt := match l.getLast? with
  | some t => if t.2.2 = x.2.2 then l.dropLast ++ [(t.1, x.2)] else l ++ [x]
  | none => l ++ [x]
theorem Cv.push (h : Cv f a l (some (b - 1))) (hb : Upto b e) (hs : ∀ n, b ≤ n → Upto n e → sg (f n) = s) : Cv f a (push l (b, e, s)) e := by
  unfold Ef.push
  cases hl : l.getLast? with
  | none => exact .snoc h (fun t ht => by rw [hl] at ht; cases ht) hb hs
  | some t =>
    dsimp only
    by_cases z : t.2.2 = s
    · rw [if_pos z]
      rcases h.inv with ⟨rfl, _⟩ | ⟨l', b', s', rfl, h1, h2, h3, h4⟩
      · cases hl
      · rw [List.getLast?_concat] at hl
        have hl := Option.some.inj hl
        subst hl
        rw [List.dropLast_concat]
        have z : s' = s := z
        subst z
        have h3 : b' ≤ b - 1 := h3
        refine .snoc h1 h2 (hb.le (by omega)) fun n h5 h6 => ?_
        rcases Int.lt_or_le n b with y | y
        · exact h4 n h5 (show n ≤ b - 1 by omega)
        · exact hs n y h6
    · rw [if_neg z]
      exact .snoc h (fun u hu => by rw [hl] at hu; cases hu; exact z) hb hs
def pushAll (l ps : List Stt) : List Stt := ps.foldl push l
theorem pushAll_snoc (l ps : List Stt) (x : Stt) : pushAll l (ps ++ [x]) = push (pushAll l ps) x := by unfold pushAll; rw [List.foldl_append]; rfl
theorem Cv.pushAll {ps : List Stt} (h : Cv f a l (some (b - 1))) (hp : Cv f b ps e) : Cv f a (pushAll l ps) e := by
  induction hp with
  | nil => exact h
  | snoc h1 h2 h3 h4 ih => rw [pushAll_snoc]; exact ih.push h3 h4
/-- of the stretches of the moves -/
theorem Cv.over {d : Int → Int} {str : Stt → List Stt} {ms : List Stt} (hm : Cv d a ms e) (hs : ∀ x ∈ ms, Upto x.1 x.2.1 → (∀ n, x.1 ≤ n → Upto n x.2.1 → sg (d n) = x.2.2) → Cv f x.1 (str x) x.2.1) : Cv f a (ms.foldl (fun l x => Ef.pushAll l (str x)) []) e := by
  induction hm with
  | nil => exact .nil
  | @snoc l b s e h1 h2 h3 h4 ih =>
    rw [List.foldl_append]
    exact (ih fun x hx => hs x (List.mem_append_left _ hx)).pushAll (hs (b, e, s) (List.mem_append_right _ List.mem_cons_self) h3 h4)
end
/-- where a list of stretches from a ends -/
def endOf (a : Int) (l : List Stt) : Option Int := match l.getLast? with
  | none => some (a - 1)
  | some x => x.2.1
theorem Cv.end_ {f : Int → Int} {a : Int} {l : List Stt} {e : Option Int} (h : Cv f a l e) : e = endOf a l := by
  cases h with
  | nil => rfl
  | snoc h1 h2 h3 h4 => unfold endOf; rw [List.getLast?_concat]
theorem Cv.split {f : Int → Int} {a : Int} {l : List Stt} {e : Option Int} (h : Cv f a l e) : ∀ {i : Nat} {x : Stt}, l[i]? = some x → Upto x.1 x.2.1 ∧ (∀ n, x.1 ≤ n → Upto n x.2.1 → sg (f n) = x.2.2) ∧ Cv f a (l.take i) (some (x.1 - 1)) := by
  induction h with
  | nil => intro i x hx; cases hx
  | @snoc l b s e h1 h2 h3 h4 ih =>
    intro i x hx
    rcases Nat.lt_or_ge i l.length with z | z
    · rw [List.getElem?_append_left z] at hx
      rw [List.take_append_of_le_length (by omega)]
      exact ih hx
    · rw [List.getElem?_append_right z] at hx
      have hi : i - l.length = 0 := by
        rcases Nat.eq_zero_or_pos (i - l.length) with y | y
        · exact y
        · rw [List.getElem?_eq_none (by show 1 ≤ _; omega)] at hx; cases hx
      rw [hi] at hx
      cases hx
      rw [show i = l.length by omega, List.take_append_of_le_length (Nat.le_refl _), List.take_length]
      exact ⟨h3, h4, h1⟩
theorem push_all {p : Stt → Prop} {l : List Stt} {x : Stt} (h : ∀ y ∈ l, p y) (hx : p x) (hm : ∀ t, p t → p (t.1, x.2)) : ∀ y ∈ push l x, p y := by
  intro y hy
  unfold push at hy
  cases hl : l.getLast? with
  | none =>
    rw [hl] at hy
    rcases List.mem_append.mp hy with k | k
    · exact h y k
    · rw [List.mem_singleton.mp k]; exact hx
  | some t =>
    rw [hl] at hy
    dsimp only at hy
    by_cases z : t.2.2 = x.2.2
    · rw [if_pos z] at hy
      rcases List.mem_append.mp hy with k | k
      · exact h y (List.dropLast_subset l k)
      · rw [List.mem_singleton.mp k]; exact hm t (h t (List.mem_of_getLast? hl))
    · rw [if_neg z] at hy
      rcases List.mem_append.mp hy with k | k
      · exact h y k
      · rw [List.mem_singleton.mp k]; exact hx
theorem pushAll_all {p : Stt → Prop} (hm : ∀ t x, p t → p x → p (t.1, x.2)) : ∀ {ps l : List Stt}, (∀ y ∈ l, p y) → (∀ y ∈ ps, p y) → ∀ y ∈ pushAll l ps, p y
  | [], _, h, _ => h
  | x :: ps, l, h, hp => pushAll_all (l := push l x) hm (push_all h (hp x List.mem_cons_self) fun t ht => hm t x ht (hp x List.mem_cons_self)) fun y hy => hp y (List.mem_cons_of_mem _ hy)
theorem push_len (l : List Stt) (x : Stt) : (push l x).length ≤ l.length + 1 := by
  unfold push
  cases l.getLast? with
  | none => rw [List.length_append]; exact Nat.le_refl _
  | some t =>
    dsimp only
    split
    · rw [List.length_append, List.length_dropLast]; show _ + 1 ≤ _; omega
    · rw [List.length_append]; exact Nat.le_refl _
theorem pushAll_len : ∀ (ps l : List Stt), (pushAll l ps).length ≤ l.length + ps.length
  | [], _ => Nat.le_refl _
  | x :: ps, l => by
    have h1 := pushAll_len ps (push l x)
    have h2 := push_len l x
    show (pushAll (push l x) ps).length ≤ l.length + (ps.length + 1)
    omega
theorem pushAll_take {l ps : List Stt} {j : Nat} {x : Stt} (h : ps[j]? = some x) : pushAll l (ps.take (j + 1)) = push (pushAll l (ps.take j)) x := by
  rw [List.take_succ, h, Option.toList_some, pushAll_snoc]
/-! ### one stretch of a move -/
section
variable {f : Int → Int} {a m c : Int} {e : Option Int}
/-- f moves by m from a to e -/
def Mv (f : Int → Int) (m a : Int) (e : Option Int) : Prop := ∀ n, a ≤ n → Upto n e → 1 ≤ m * (f (n + 1) - f n)
theorem Mv.grow (h : Mv f m a e) {n : Int} (hn : a ≤ n) : ∀ k : Nat, Upto (n + k) e → m * f n + (k : Int) ≤ m * f (n + k) := by
  intro k
  induction k with
  | zero => intro _; rw [show n + ((0 : Nat) : Int) = n by omega]; omega
  | succ k ih =>
    intro hu
    have h1 := ih (hu.le (by omega))
    have h2 := h (n + k) (by omega) (hu.le (by omega))
    rw [Int.mul_sub] at h2
    rw [show n + ((k + 1 : Nat) : Int) = n + (k : Int) + 1 by omega]
    omega
theorem Mv.mono (h : Mv f m a e) {n k : Int} (hn : a ≤ n) (hk : n ≤ k) (hu : Upto k e) : m * f n + (k - n) ≤ m * f k := by
  have := h.grow hn (k - n).toNat (by rw [show n + (((k - n).toNat : Nat) : Int) = k by omega]; exact hu)
  rw [show n + (((k - n).toNat : Nat) : Int) = k by omega] at this
  omega
theorem mv_of {s : Int} (h : ∀ n, a ≤ n → Upto n e → sg (f (n + 1) - f n) = s) (h0 : s ≠ 0) : Mv f s a e := fun n h1 h2 => by
  have := h n h1 h2
  rcases sg_three (f (n + 1) - f n) with ⟨z, y⟩ | ⟨z, y⟩ | ⟨z, y⟩
  · omega
  · rw [show s = 1 by omega]; omega
  · rw [show s = -1 by omega]; omega
theorem sg_by {m x : Int} (hm : m = 1 ∨ m = -1) : (0 < m * x → sg x = m) ∧ (m * x < 0 → sg x = -m) ∧ (0 ≤ m * x → x ≠ 0 → sg x = m) := by
  rcases hm with rfl | rfl
  · refine ⟨fun h => sg_pos (by omega), fun h => sg_neg (by omega), fun h h0 => sg_pos (by omega)⟩
  · refine ⟨fun h => sg_neg (by omega), fun h => sg_pos (by omega), fun h h0 => sg_neg (by omega)⟩
/-- no move -/
theorem cv_still (h : ∀ n, a ≤ n → Upto n e → sg (f (n + 1) - f n) = 0) (ha : Upto a e) : Cv f a [(a, e, sg (f a))] e := by
  refine Cv.snoc .nil (fun t ht => by cases ht) ha fun n h1 h2 => ?_
  have : ∀ k : Nat, Upto (a + k) e → f (a + k) = f a := by
    intro k
    induction k with
    | zero => intro _; rw [show a + ((0 : Nat) : Int) = a by omega]
    | succ k ih =>
      intro hu
      have h3 := h (a + k) (by omega) (hu.le (by omega))
      rw [sg_zero] at h3
      have := ih (hu.le (by omega))
      rw [show a + ((k + 1 : Nat) : Int) = a + (k : Int) + 1 by omega]
      omega
  have e1 := this (n - a).toNat (by rw [show a + (((n - a).toNat : Nat) : Int) = n by omega]; exact h2)
  rw [show a + (((n - a).toNat : Nat) : Int) = n by omega] at e1
  rw [e1]
/-- away from 0 -/
theorem cv_away (hm : m = 1 ∨ m = -1) (h : Mv f m a e) (ha : Upto a e) (hf : sg (f a) = m) : Cv f a [(a, e, m)] e := by
  refine Cv.snoc .nil (fun t ht => by cases ht) ha fun n h1 h2 => (sg_by hm).1 ?_
  have h3 := h.mono (Int.le_refl a) h1 h2
  have : 0 < m * f a := by
    rcases hm with rfl | rfl
    · rcases sg_three (f a) with ⟨z, y⟩ | ⟨z, y⟩ | ⟨z, y⟩ <;> omega
    · rcases sg_three (f a) with ⟨z, y⟩ | ⟨z, y⟩ | ⟨z, y⟩ <;> omega
  omega
/-- not yet at 0 -/
theorem cv_short {y : Int} (hm : m = 1 ∨ m = -1) (h : Mv f m a (some y)) (ha : a ≤ y) (hf : m * f y < 0) : Cv f a [(a, some y, -m)] (some y) := by
  refine Cv.snoc .nil (fun t ht => by cases ht) ha fun n h1 h2 => (sg_by hm).2.1 ?_
  have h2 : n ≤ y := h2
  have := h.mono h1 h2 (Int.le_refl y)
  omega
/-- c is the first place at which f is not ahead of 0 any more -/
structure Cross (f : Int → Int) (m a : Int) (e : Option Int) (c : Int) : Prop where
  lo : a ≤ c
  hi : Upto c e
  out : 0 ≤ m * f c
  ahead : ∀ n, a ≤ n → n < c → m * f n < 0
def upB (d : Int) : Option Int → Bool
  | none => true
  | some y => decide (d ≤ y)
def stretchL (m a : Int) (e : Option Int) (c d : Int) : List Stt :=
  (if a < c then [(a, some (c - 1), -m)] else []) ++ ((if c < d then [(c, some c, 0)] else []) ++ (if upB d e = true then [(d, e, m)] else []))
theorem cv_cross (hm : m = 1 ∨ m = -1) (h : Mv f m a e) (X : Cross f m a e c) : Cv f a (stretchL m a e c (if f c = 0 then c + 1 else c)) e := by
  unfold stretchL
  have m0 : m ≠ 0 := by omega
  have mm : -m ≠ m := by omega
  have h1 : Cv f a (if a < c then [(a, some (c - 1), -m)] else []) (some (c - 1)) := by
    by_cases z : a < c
    · rw [if_pos z]
      refine Cv.snoc (l := []) .nil (fun t ht => by cases ht) (show a ≤ c - 1 by omega) fun n n1 n2 => (sg_by hm).2.1 (X.ahead n n1 ?_)
      have n2 : n ≤ c - 1 := n2
      omega
    · rw [if_neg z, show c = a from Int.le_antisymm (by omega) X.lo]
      exact .nil
  have n1 : ∀ t, (if a < c then [((a, some (c - 1), -m) : Stt)] else []).getLast? = some t → t.2.2 = -m := by
    intro t ht
    by_cases z : a < c
    · rw [if_pos z] at ht; cases ht; rfl
    · rw [if_neg z] at ht; cases ht
  by_cases hz : f c = 0
  · rw [if_pos hz, if_pos (show c < c + 1 by omega)]
    have h2 : Cv f a ((if a < c then [(a, some (c - 1), -m)] else []) ++ [(c, some c, 0)]) (some c) :=
      Cv.snoc h1 (fun t ht => by rw [n1 t ht]; omega) (Int.le_refl c) fun n k1 k2 => by
        have k2 : n ≤ c := k2
        rw [Int.le_antisymm k2 k1, hz]; rfl
    have last : ∀ t, ((if a < c then [((a, some (c - 1), -m) : Stt)] else []) ++ [(c, some c, 0)]).getLast? = some t → t.2.2 ≠ m := by
      intro t ht
      rw [List.getLast?_concat] at ht
      cases ht
      exact fun z => m0 z.symm
    have rest : ∀ n, c + 1 ≤ n → Upto n e → sg (f n) = m := fun n k1 k2 => (sg_by hm).1 (by
      have := h.mono X.lo (show c ≤ n by omega) k2
      rw [hz, Int.mul_zero] at this
      omega)
    cases e with
    | none =>
      rw [if_pos (show upB (c + 1) none = true from rfl), ← List.append_assoc]
      exact Cv.snoc (by rw [show c + 1 - 1 = c by omega]; exact h2) last trivial rest
    | some y =>
      by_cases hy : c + 1 ≤ y
      · rw [if_pos (show upB (c + 1) (some y) = true from decide_eq_true hy), ← List.append_assoc]
        exact Cv.snoc (by rw [show c + 1 - 1 = c by omega]; exact h2) last hy rest
      · rw [if_neg (show ¬ upB (c + 1) (some y) = true from fun z => hy (of_decide_eq_true z)), List.append_nil]
        have hc : c ≤ y := X.hi
        rw [show y = c by omega]
        exact h2
  · rw [if_neg hz, if_neg (Int.lt_irrefl c), List.nil_append]
    have last : ∀ t, (if a < c then [((a, some (c - 1), -m) : Stt)] else []).getLast? = some t → t.2.2 ≠ m := fun t ht => by rw [n1 t ht]; exact mm
    have rest : ∀ n, c ≤ n → Upto n e → sg (f n) = m := fun n k1 k2 => by
      have h3 := h.mono X.lo k1 k2
      have h4 := X.out
      rcases Int.lt_or_le c n with z | z
      · exact (sg_by hm).1 (by omega)
      · rw [show n = c by omega]
        exact (sg_by hm).2.2 X.out hz
    cases e with
    | none =>
      rw [if_pos (show upB c none = true from rfl)]
      exact Cv.snoc h1 last trivial rest
    | some y =>
      have hc : c ≤ y := X.hi
      rw [if_pos (show upB c (some y) = true from decide_eq_true hc)]
      exact Cv.snoc h1 last hc rest
end
/-! ### beyond all -/
theorem tail_sign : ∀ {r : List Int} {B : Int}, 1 ≤ B → (∀ c ∈ r, -B < c ∧ c < B) → (∀ n, evalR r n = 0) ∨ ∃ s : Int, (s = 1 ∨ s = -1) ∧ ∀ n, B ≤ n → 1 ≤ s * evalR r n
  | [], _, _, _ => .inl fun _ => rfl
  | c :: r, B, hB, h => by
    have hc := h c List.mem_cons_self
    rcases tail_sign hB fun x hx => h x (List.mem_cons_of_mem _ hx) with z | ⟨s, hs, hz⟩
    · have e : ∀ n, evalR (c :: r) n = c := fun n => by show evalR r n * n + c = c; rw [z n, Int.zero_mul, Int.zero_add]
      rcases sg_three c with ⟨_, k⟩ | ⟨_, k⟩ | ⟨_, k⟩
      · exact .inl fun n => (e n).trans k
      · exact .inr ⟨1, .inl rfl, fun n _ => by rw [e n]; omega⟩
      · exact .inr ⟨-1, .inr rfl, fun n _ => by rw [e n]; omega⟩
    · refine .inr ⟨s, hs, fun n hn => ?_⟩
      have h1 := hz n hn
      show 1 ≤ s * (evalR r n * n + c)
      have h2 : n ≤ s * evalR r n * n := by
        have := Int.mul_le_mul_of_nonneg_right h1 (show 0 ≤ n by omega)
        rw [Int.one_mul] at this
        exact this
      have h3 : -B < s * c := by rcases hs with rfl | rfl <;> omega
      rw [Int.mul_add, ← Int.mul_assoc]
      omega
/-- where a row that grows for ever is not ahead of 0 any more -/
theorem out_far {r : List Int} {B m a : Int} (hB : 1 ≤ B) (h : ∀ c ∈ r, -B < c ∧ c < B) (hM : Mv (evalR r) m a none) (hm : m = 1 ∨ m = -1) {n : Int} (hn : B ≤ n) : 1 ≤ m * evalR r n := by
  rcases tail_sign hB h with z | ⟨s, hs, hz⟩
  · have := hM a (Int.le_refl a) trivial
    rw [z, z, Int.sub_self, Int.mul_zero] at this
    omega
  · have h1 := hz n hn
    have es : s = m := by
      have hx : a ≤ max a B := Int.le_max_left ..
      have hB2 : B ≤ max a B := Int.le_max_right ..
      have h2 := hM.grow hx ((m * evalR r (max a B)).natAbs + 1) trivial
      have h3 := hz (max a B + (((m * evalR r (max a B)).natAbs + 1 : Nat) : Int)) (by omega)
      generalize evalR r (max a B + (((m * evalR r (max a B)).natAbs + 1 : Nat) : Int)) = v at h2 h3
      rcases hs with rfl | rfl <;> rcases hm with rfl | rfl <;> first | rfl | (exfalso; omega)
    rw [← es]; exact h1
/-! ### the steps of a row -/
def stp (r : List Int) (j : Nat) : Int := sm (r.length - (j + 1)) fun i => ch (j + 1 + i) j * cf r (j + 1 + i)
theorem stp_cons (c : Int) (s : List Int) (j : Nat) : stp (c :: s) j = stp s j + (if j = 0 then 0 else stp s (j - 1)) + cf s j := by
  unfold stp
  rw [List.length_cons, show s.length + 1 - (j + 1) = s.length - j by omega]
  have e1 : (sm (s.length - j) fun i => ch (j + 1 + i) j * cf (c :: s) (j + 1 + i)) = sm (s.length - j) fun i => ch (j + i + 1) j * cf s (j + i) := sm_congr fun i _ => by
    rw [cf_cons, if_neg (by omega), show j + 1 + i - 1 = j + i by omega, show j + 1 + i = j + i + 1 by omega]
  rw [e1]
  have e2 : (sm (s.length - j) fun i => ch (j + i) j * cf s (j + i)) = cf s j + sm (s.length - (j + 1)) fun i => ch (j + 1 + i) j * cf s (j + 1 + i) := by
    rcases Nat.lt_or_ge j s.length with z | z
    · rw [show s.length - j = s.length - (j + 1) + 1 by omega, sm_head, Nat.add_zero, show ch j j = 1 from chn j, Int.one_mul]
      exact congrArg _ (sm_congr fun i _ => by rw [show j + (i + 1) = j + 1 + i by omega])
    · rw [show s.length - j = 0 by omega, show s.length - (j + 1) = 0 by omega, cf_ge z]; rfl
  cases j with
  | zero =>
    rw [if_pos rfl]
    have e3 : (sm (s.length - 0) fun i => ch (0 + i + 1) 0 * cf s (0 + i)) = sm (s.length - 0) fun i => ch (0 + i) 0 * cf s (0 + i) := sm_congr fun i _ => by rw [ch_z, ch_z]
    rw [e3, e2]
    omega
  | succ j =>
    rw [if_neg (by omega), Nat.add_sub_cancel]
    have e3 : (sm (s.length - (j + 1)) fun i => ch (j + 1 + i + 1) (j + 1) * cf s (j + 1 + i)) = (sm (s.length - (j + 1)) fun i => ch (j + 1 + i) j * cf s (j + 1 + i)) + sm (s.length - (j + 1)) fun i => ch (j + 1 + i) (j + 1) * cf s (j + 1 + i) := by
      rw [← sm_add]
      exact sm_congr fun i _ => by
        rw [← Int.add_mul]; rfl
    rw [e3, e2]
    omega
where
  chn : ∀ j, ch j j = 1 := fun j => by
    induction j with
    | zero => rfl
    | succ j ih => show ch j j + ch j (j + 1) = 1; rw [ih, ch_big j (j + 1) (by omega)]; rfl
theorem stp_zero {r : List Int} {j : Nat} (h : r.length ≤ j + 1) : stp r j = 0 := by unfold stp; rw [show r.length - (j + 1) = 0 by omega]; rfl
theorem stp_eval : ∀ (r : List Int) (n : Int) (N : Nat), r.length ≤ N → (sm N fun i => stp r i * n ^ i) = evalR r (n + 1) - evalR r n
  | [], n, N, _ => (sm_zero fun i _ => by rw [stp_zero (Nat.zero_le _), Int.zero_mul])
  | c :: s, n, 0, h => absurd h (by rw [List.length_cons]; omega)
  | c :: s, n, N + 1, h => by
    rw [List.length_cons] at h
    have ih := stp_eval s n N (by omega)
    have e1 : (sm (N + 1) fun i => stp (c :: s) i * n ^ i) = (sm (N + 1) fun i => stp s i * n ^ i) + (sm (N + 1) fun i => (if i = 0 then 0 else stp s (i - 1)) * n ^ i) + sm (N + 1) fun i => cf s i * n ^ i := by
      rw [← sm_add, ← sm_add]
      exact sm_congr fun i _ => by rw [stp_cons, Int.add_mul, Int.add_mul]
    have e2 : (sm (N + 1) fun i => stp s i * n ^ i) = sm N fun i => stp s i * n ^ i := by
      show sm N _ + stp s N * n ^ N = _
      rw [stp_zero (by omega), Int.zero_mul, Int.add_zero]
    have e3 : (sm (N + 1) fun i => (if i = 0 then 0 else stp s (i - 1)) * n ^ i) = (sm N fun i => stp s i * n ^ i) * n := by
      rw [sm_head, if_pos rfl, Int.zero_mul, Int.zero_add, sm_mul]
      exact sm_congr fun i _ => by rw [if_neg (by omega), Nat.add_sub_cancel, Int.pow_succ, Int.mul_assoc]
    rw [e1, e2, e3, ih, ← eval_cf s n (N + 1) (by omega)]
    show _ = evalR s (n + 1) * (n + 1) + c - (evalR s n * n + c)
    rw [Int.sub_mul, Int.mul_add, Int.mul_one]
    omega
theorem eval_stp {r t : List Int} (h : ∀ j, cf t j = stp r j) (n : Int) : evalR t n = evalR r (n + 1) - evalR r n := by
  rw [← stp_eval r n r.length (Nat.le_refl _), eval_deg (N := r.length) (fun j hj => by rw [h j]; exact stp_zero (by omega)) n]
  exact sm_congr fun i _ => by rw [h i]
end Ef
set_option Elab.async false
set_option linter.all false
set_option maxRecDepth 100000
set_option maxHeartbeats 2000000
/-! l[::-1], l[-2::-1] of a list; either of a list and a tuple -/
namespace Ef
open PySem PySem.Spec PyProof.Rows L2
theorem pick_less (items : Array Value) (h : 1 ≤ items.size) : slicePick items (some (-2)) none (some (-1)) = (items.toList.take (items.size - 1)).reverse.toArray := by
  have e : sliceBounds (some (-2)) none (some (-1)) items.size = (((items.size - 1 : Nat) : Int) - 1, -1, -1) := by
    unfold sliceBounds
    simp
    omega
  unfold slicePick
  rw [e]
  show ((sliceRange (((items.size - 1 : Nat) : Int) - 1) (-1) (-1)).filterMap (items[·]?)).toArray = _
  rw [PySem.W.krv_sliceRange, PySem.W.krv_range, List.filterMap_reverse]
  have e2 := pick_run items 0 (items.size - 1)
  rw [show ((0 + ·) : Nat → Nat) = id from funext fun k => Nat.zero_add k, List.map_id, List.drop_zero] at e2
  rw [e2]
/-- how many items stand up to the place o, counted as a slice with the step -1 does -/
def backOf (o : Option Int) (n : Nat) : Option Nat := if o = none then some n else if o = some (-2) then (if 1 ≤ n then some (n - 1) else none) else none
def tBack (K : PySem.W.Frag) (te : TE) (tl : L2.St → Hp → (Option Int → Hp → Prop) → Prop) : TE := fun σ H Q => te σ H fun x H1 => tl σ H1 fun o H2 => ∃ (a : Addr) (xs : List V) (k : Nat), x = .ref a ∧ SqL K H2 a xs ∧ backOf o xs.length = some k ∧ ∀ p, H2 p = none → Q (.ref p) (upd H2 p (.lst (xs.take k).reverse))
theorem pe_back {X : Cx} {e : Expr} {lo : Option Expr} {te : TE} {tl : L2.St → Hp → (Option Int → Hp → Prop) → Prop} {k : Nat} {p1 p2 p3 pos : Pos} (he : PE X e te) (hlo : PO X lo tl) : PE X (e.Subscript (Expr.Slice lo none (some (Expr.UnaryOp UnaryOp.USub (Expr.Constant (Const.int 1) k p1) p2)) p3) pos) (tBack X.K te tl) := by
  refine ⟨fun pins s σ H Q I h => Subscript_ (thn (he.run pins s σ H _ I h) fun v s1 hh => ?_)⟩
  obtain ⟨x, H1, I1, r1, h1⟩ := hh
  have hst := po_some (pe_un (X := X) (pos := p2) un_neg (pe_int (X := X) (i := 1) (j := k) (pos := p1)))
  refine wpAny_Slice (thn (hlo.run pins s1 σ H1 _ I1 h1) fun vl s2 hh => ?_)
  obtain ⟨o, H2, I2, pl, a, xs, n, ex, hx, hk, q⟩ := hh
  subst ex
  cases r1
  refine thn (po_none.run pins s2 σ _ (fun o H3 => o = none ∧ H3 = _) I2 ⟨rfl, rfl⟩) fun vu s3 hh => ?_
  obtain ⟨u, H3, I3, pu, rfl, rfl⟩ := hh
  refine thn (hst.run pins s3 σ _ (fun o H4 => o = some (-1) ∧ H4 = _) I3 ⟨1, rfl, -1, rfl, rfl, rfl⟩) fun vs s4 hh => ?_
  obtain ⟨o4, H4, I4, ps, rfl, rfl⟩ := hh
  have I5 := I4.kept (t' := s4.toks) (fun b ob q => Heap.get?_push_of_some { cls := Value.type "slice", data := Data.fields #[vl, vu, vs] } q)
  obtain ⟨its, r, ht, hz⟩ := I5.list hx
  have hlen := r.length
  refine tail_any ht.isList.typeIs slot_list_getitem.lookup (wpAny_getItem_list_slice ht.isList (Heap.IsSliceOf.new s4.heap vl vu vs) pl pu ps (by decide) ?_ (by rw [List.size_toArray, ← hlen]; exact hz)) (Eq.refl (subscripted _ false (Value.ref a) (Value.ref s4.heap.objs.size)))
  have e : slicePick its.toArray o none (some (-1)) = (its.take n).reverse.toArray := by
    unfold backOf at hk
    by_cases h1 : o = none
    · subst h1
      rw [if_pos rfl] at hk
      cases hk
      rw [PySem.W.krv_pick, hlen, List.take_length]
    · rw [if_neg h1] at hk
      by_cases h2 : o = some (-2)
      · subst h2
        rw [if_pos rfl] at hk
        by_cases h3 : 1 ≤ xs.length
        · rw [if_pos h3] at hk
          cases hk
          rw [pick_less _ (by rw [List.size_toArray, ← hlen]; exact h3), List.size_toArray, hlen]
        · rw [if_neg h3] at hk; cases hk
      · rw [if_neg h2] at hk; cases hk
  rw [e]
  refine ⟨.ref _, upd _ _ (.lst (xs.take n).reverse), Inv.laid I5 (fun b ob q => Heap.get?_push_of_some _ q) (Nat.le_refl _) ?_, rfl, q _ (I5.hok.fresh (Nat.le_refl _))⟩
  exact ⟨by rw [List.length_reverse, List.length_take]; omega, _, 0, Vals.reverse (r.take n), Heap.get?_push_size _ rfl⟩
/-- one of two readings -/
theorem pe_either {X : Cx} {e : Expr} {ta tb : TE} (ha : PE X e ta) (hb : PE X e tb) : PE X e (fun σ H Q => ta σ H Q ∨ tb σ H Q) := ⟨fun pins s σ H Q I h => h.elim (ha.run pins s σ H Q I) (hb.run pins s σ H Q I)⟩
end Ef
set_option Elab.async false
set_option linter.all false
set_option maxRecDepth 100000
set_option maxHeartbeats 2000000
/-! | & - ^ and ~ by a class's own methods -/
namespace Ef
open PySem PySem.Spec PyProof.Rows L2
/-- the class at C has its own method m, which may raise -/
structure OwnG (P : Program) (w : World) (K : PySem.W.Frag) (mg : Str → Option Value) (base : Heap) (CXg : CXT) (k : Nat) (C : Addr) (m : Str) (ps : List Str) (sp : Sp) : Prop where
  ex : ∃ f fd, PySem.W.findIn K (.ref C) m = some (some (.ref f)) ∧ PySem.W.typeIn K (.ref f) = some (.type "function") ∧ Binds K fd ps [] ∧ FnOk P w K mg base CXg k f fd ps sp
/-- the class stands first among those that it looks names up in -/
def hdIn (K : PySem.W.Frag) (C : Addr) : Bool := match PySem.W.clsIn K C with
  | some cd => cd.mro.head? == some (.ref C)
  | none => false
section
variable {X : Cx} {pins : List (Addr × Obj)} {σ : L2.St} {H : Hp} {s : Shared} {Q : VK} {k : Nat} {C a dx : Addr} {fs : List (Str × V)} {m : Str} {ps : List Str} {sp : Sp} {A : Around} {E' : Value → Shared → Prop} {CXg : CXT} {E : XK}
theorem anyM_first {α : Type} {M : Model} {h : Heap} {f : α → Sem Bool} {x : α} {xs : List α} (hf : PySem.W.Looks M h (f x) true) : PySem.W.Looks M h ((x :: xs).anyM f) true := fun A Q E s e q => by
  show wpAny _ _ (f x >>= fun b => _) _ _ _
  exact wpAny_bind (hf A _ E s e (wpAny_pure q))
theorem looks_fills {K : PySem.W.Frag} {M : Model} {h : Heap} {nm : String} {f : Addr} (x : K.In h) (hd : hdIn K C = true) (hf : PySem.W.findIn K (.ref C) (dunder nm) = some (some (.ref f))) : PySem.W.Looks M h (fillsNumberSlot (.ref C) nm) true := by
  unfold hdIn at hd
  cases hc : PySem.W.clsIn K C with
  | none => rw [hc] at hd; cases hd
  | some cd =>
    rw [hc] at hd
    have hm : PySem.W.Looks M h (mroOf (.ref C)) cd.mro := (PySem.W.looks_clsIn x hc).andThen .now
    have hh : cd.mro.head? = some (.ref C) := by simpa using hd
    cases hl : cd.mro with
    | nil => rw [hl] at hh; cases hh
    | cons c r =>
      rw [hl] at hh hm
      have hc2 : c = .ref C := Option.some.inj hh
      subst hc2
      unfold fillsNumberSlot
      dsimp only
      refine hm.andThen (anyM_first ?_)
      dsimp only
      refine anyM_first ?_
      refine (PySem.W.looks_findIn x hf).andThen ?_
      dsimp only
      exact PySem.W.Looks.now
/-- a op b of two instances by the left one's own method: what it gives is an instance again -/
def rOwnBin (C : Addr) (sp : Sp) (E : XK) : R2 := fun x y H Q => ∃ (a dx b dy : Addr) (fs gs : List (Str × V)), x = .ref a ∧ y = .ref b ∧ H a = some (.ins C dx fs) ∧ H b = some (.ins C dy gs) ∧ sp [.ref a, .ref b] H (fun v H' => (∃ p, v = .ref p) ∧ Q v H') E
theorem op_bin_own {op : Operator} {sym nm : String} {f : Str} (hop : op.info = (sym, nm)) (hn : dunder nm = f) (O : OwnG X.prog X.w X.K X.mg X.base CXg k C f ps sp) (hd : hdIn X.K C = true) (hr : Room k X.A) (hx : Passes CXg X E) : OpR X (binaryOp op) (rOwnBin C sp E) := by
  intro pins s σ H x y v u Q I rx ry h
  obtain ⟨a, dx, b, dy, fs, gs, rfl, rfl, ea, eb, q⟩ := h
  cases rx
  cases ry
  subst hn
  obtain ⟨f, fd, hf, ht, hb, F⟩ := O.ex
  obtain ⟨mA, OM, _⟩ := ins_get I.hok ea
  obtain ⟨od, J, _⟩ := OM.look
  obtain ⟨mB, OMb, _⟩ := ins_get I.hok eb
  obtain ⟨odb, Jb, _⟩ := OMb.look
  have fin : wpAny (model X.prog X.w) X.A (tryMethod (.ref a) (dunder nm) (.ref b)) (fun o s' => ∃ p, o = some (.ref p) ∧ EP X pins σ Q (.ref p) s') X.xe s := by
    unfold tryMethod
    refine wpAny_bind (PySem.W.special_fn I.kIn J hf ht ?_)
    refine wpAny_mono (run_fn (us := [.ref a, .ref b]) (vs := [.ref a, .ref b]) F hr hb .nil hx I (.cons rfl (.cons rfl .nil)) q) (fun u s' hz => ?_) fun _ _ z => z
    obtain ⟨v, H', I', rv, ⟨p, rfl⟩, q'⟩ := hz
    obtain rfl : u = Value.ref p := rv
    exact wpAny_pure ⟨p, rfl, .ref p, H', I', rfl, q'⟩
  unfold binaryOp
  refine wpAny_holding ?_
  rw [hop]
  dsimp only
  refine wpAny_bind ?_
  unfold binaryOp1
  dsimp only
  refine wpAny_bind (J.type.here (wpAny_bind (Jb.type.here (wpAny_bind ((looks_fills I.kIn hd hf).here ?_)))))
  rw [if_pos (by simp)]
  refine wpAny_bind (wpAny_pure ?_)
  simp only [Bool.and_false, Bool.false_and, Bool.true_and, Bool.false_eq_true, if_false, if_true, ite_false, ite_true, pure_bind, bind_pure_comp]
  refine wpAny_bind (wpAny_mono fin (fun o s' ⟨p, e, z⟩ => ?_) fun _ _ z => z)
  subst e
  exact wpAny_pure (wpAny_pure z)
/-- ~o by an own __invert__ that gives an instance -/
def rOwnUn (C : Addr) (sp : Sp) (E : XK) : V → Hp → VK → Prop := fun x H Q => ∃ (a dx : Addr) (fs : List (Str × V)), x = .ref a ∧ H a = some (.ins C dx fs) ∧ sp [.ref a] H Q E
theorem un_inv_own (O : OwnG X.prog X.w X.K X.mg X.base CXg k C "__invert__" ps sp) (hr : Room k X.A) (hx : Passes CXg X E) : UnR X (unaryOp .Invert) (rOwnUn C sp E) := by
  intro pins s σ H x v Q I rx h
  obtain ⟨a, dx, fs, rfl, ea, q⟩ := h
  cases rx
  obtain ⟨f, fd, hf, ht, hb, F⟩ := O.ex
  obtain ⟨mA, OM, _⟩ := ins_get I.hok ea
  obtain ⟨od, J, _⟩ := OM.look
  unfold unaryOp
  refine wpAny_holding ?_
  dsimp only
  rw [if_neg (by decide)]
  refine wpAny_bind (PySem.W.special_fn I.kIn J hf ht ?_)
  refine wpAny_mono (run_fn (us := [.ref a]) (vs := [.ref a]) F hr hb .nil hx I (.cons rfl .nil) q) (fun u s' hz => ?_) fun _ _ z => z
  exact wpAny_pure hz
theorem un_neg_own (O : OwnG X.prog X.w X.K X.mg X.base CXg k C "__neg__" ps sp) (hr : Room k X.A) (hx : Passes CXg X E) : UnR X (unaryOp .USub) (rOwnUn C sp E) := by
  intro pins s σ H x v Q I rx h
  obtain ⟨a, dx, fs, rfl, ea, q⟩ := h
  cases rx
  obtain ⟨f, fd, hf, ht, hb, F⟩ := O.ex
  obtain ⟨mA, OM, _⟩ := ins_get I.hok ea
  obtain ⟨od, J, _⟩ := OM.look
  unfold unaryOp
  refine wpAny_holding ?_
  dsimp only
  rw [if_neg (by decide)]
  refine wpAny_bind (PySem.W.special_fn I.kIn J hf ht ?_)
  refine wpAny_mono (run_fn (us := [.ref a]) (vs := [.ref a]) F hr hb .nil hx I (.cons rfl .nil) q) (fun u s' hz => ?_) fun _ _ z => z
  exact wpAny_pure hz
end
end Ef
set_option Elab.async false
set_option linter.all false
set_option maxRecDepth 100000
set_option maxHeartbeats 2000000
/-! an own operator of an instance and an int, on either side -/
namespace Ef
open PySem PySem.Spec PyProof.Rows L2
section
variable {X : Cx} {pins : List (Addr × Obj)} {σ : L2.St} {H : Hp} {s : Shared} {Q : VK} {k : Nat} {C a dx : Addr} {fs : List (Str × V)} {m : Str} {ps : List Str} {sp : Sp} {A : Around} {E' : Value → Shared → Prop} {CXg : CXT} {E : XK}
/-- what the table says of the built-in int for an operator -/
structure IntOp (nm : String) (id : String) : Prop where
  fills : fillsNumberSlot (.type "int") nm = pure true
  slot : Slot "int" (dunder nm) id
  r : ∃ ro, typeLookup (.type "int") (dunderR nm) = pure ro
/-- a op i by the left one's own method: what it gives is an instance -/
def rOwnInt (C : Addr) (sp : Sp) (E : XK) : R2 := fun x y H Q => ∃ (a dx : Addr) (fs : List (Str × V)) (i : Int), x = .ref a ∧ y = .int i ∧ H a = some (.ins C dx fs) ∧ sp [.ref a, .int i] H (fun v H' => (∃ p, v = .ref p) ∧ Q v H') E
theorem op_bin_int {op : Operator} {sym nm id : String} {f g : Str} {rc : Option Value} (hop : op.info = (sym, nm)) (hn : dunder nm = f) (hg : dunderR nm = g) (O : OwnG X.prog X.w X.K X.mg X.base CXg k C f ps sp) (hd : hdIn X.K C = true)
    (hR : PySem.W.findIn X.K (.ref C) g = some rc) (hp : rc = none ∨ ∃ g : Addr, rc = some (.ref g)) (T : IntOp nm id) (hsub : PySem.W.subIn X.K (.type "int") (.ref C) = some false)
    (hr : Room k X.A) (hx : Passes CXg X E) : OpR X (binaryOp op) (rOwnInt C sp E) := by
  intro pins s σ H x y v u Q I rx ry h
  obtain ⟨a, dx, fs, i, rfl, rfl, ea, q⟩ := h
  cases rx
  obtain ⟨t, rfl⟩ := ry
  subst hn
  subst hg
  obtain ⟨f, fd, hf, ht, hb, F⟩ := O.ex
  obtain ⟨mA, OM, _⟩ := ins_get I.hok ea
  obtain ⟨od, J, _⟩ := OM.look
  obtain ⟨ro, hro⟩ := T.r
  have one : wpAny (model X.prog X.w) X.A (tryMethod (.ref a) (dunder nm) (.int i t)) (fun o s' => ∃ p, o = some (.ref p) ∧ EP X pins σ Q (.ref p) s') X.xe s := by
    unfold tryMethod
    refine wpAny_bind (PySem.W.special_fn I.kIn J hf ht ?_)
    refine wpAny_mono (run_fn (us := [.ref a, .int i t]) (vs := [.ref a, .int i]) F hr hb .nil hx I (.cons rfl (.cons ⟨_, rfl⟩ .nil)) q) (fun u s' hz => ?_) fun _ _ z => z
    obtain ⟨v, H', I', rv, ⟨p, rfl⟩, q'⟩ := hz
    obtain rfl : u = Value.ref p := rv
    exact wpAny_pure ⟨p, rfl, .ref p, H', I', rfl, q'⟩
  have kin := I.kIn
  have L1 : PySem.W.Looks (model X.prog X.w) s.heap (typeOf (.ref a)) (.ref C) := J.type
  have L2 : PySem.W.Looks (model X.prog X.w) s.heap (typeOf (.int i t)) (.type "int") := PySem.W.Looks.of_pure rfl
  have L3 : PySem.W.Looks (model X.prog X.w) s.heap (fillsNumberSlot (.ref C) nm) true := looks_fills kin hd hf
  have L4 : PySem.W.Looks (model X.prog X.w) s.heap (fillsNumberSlot (.type "int") nm) true := PySem.W.Looks.of_pure T.fills
  have L5 : PySem.W.Looks (model X.prog X.w) s.heap (isSubtype (.type "int") (.ref C)) false := PySem.W.looks_subIn kin hsub
  have L6 : PySem.W.Looks (model X.prog X.w) s.heap (numberSlotInPython (.ref C) nm) true := PySem.W.ksp_inPy kin hf hR hp
  have L7 : PySem.W.Looks (model X.prog X.w) s.heap (numberSlotInPython (.type "int") nm) false := PySem.W.Looks.of_pure rfl
  have L8 : PySem.W.Looks (model X.prog X.w) s.heap (typeLookup (.type "int") (dunderR nm)) ro := PySem.W.Looks.of_pure hro
  have hne : (Value.ref C == Value.type "int") = false := Bool.eq_false_iff.mpr fun q => by cases beq_iff_eq.mp q
  unfold binaryOp
  refine wpAny_holding ?_
  rw [hop]
  dsimp only
  refine wpAny_bind ?_
  unfold binaryOp1
  dsimp only
  refine wpAny_bind (L1.here (wpAny_bind (L2.here (wpAny_bind (L3.here ?_)))))
  simp only [hne, Bool.false_eq_true, if_false]
  refine wpAny_bind (L4.here ?_)
  simp only [Bool.and_self, if_true]
  refine wpAny_bind (L5.here ?_)
  simp only [Bool.false_eq_true, if_false, pure_bind, Bool.not_false, Bool.and_self, if_true]
  refine wpAny_bind (L6.here ?_)
  simp only [if_true]
  refine wpAny_bind (L7.here ?_)
  simp only [Bool.not_false, if_true]
  refine wpAny_bind (L8.here ?_)
  refine wpAny_bind (wpAny_mono one (fun o s' ⟨p, e, z⟩ => ?_) fun _ _ z => z)
  subst e
  exact wpAny_pure (wpAny_pure z)
/-- an int's own method declines an instance -/
def Declines (id : String) : Prop := ∀ (P : Program) (w : World) (A : Around) (E : Value → Shared → Prop) (s : Shared) (i : Int) (t : Tok) (a dx C : Addr) (Q : Value → Shared → Prop), s.heap.get? a = some (PySem.W.instObj C dx) → Q .notImplemented s → wpAny (model P w) A (call (.builtin id) [.int i t, .ref a]) Q E s
theorem intBinary_ref (name : String) (f : Int → Int → Sem Fin) (i : Int) (t : Tok) (a dx C : Addr) : Meets (Builtin.Int.intBinary name f false ⟨[.int i t, .ref a], []⟩) (fun _ R s => s.heap.get? a = some (PySem.W.instObj C dx) ∧ R (.ok (.ret Value.notImplemented)) s) :=
  .of_wp fun prog w A R s h => by
    obtain ⟨hl, h⟩ := h
    unfold Builtin.Int.intBinary slotArgs
    refine wpAny_bind (wpAny_ite_false rfl (wpAny_ite_false rfl (wpAny_pure ?_)))
    refine wpAny_bind ?_
    unfold Builtin.Int.intOfSelf asInt?
    refine wpAny_bind (wpAny_pure (wpAny_pure ?_))
    refine wpAny_bind ?_
    show wpAny _ _ (load a >>= fun o => _) _ _ _
    refine wpAny_bind (wpAny_load hl (wpAny_pure ?_))
    exact wpAny_bind (wpAny_rule (wpAny_pure ⟨_, rfl, h⟩))
theorem declines_add : Declines "int.__add__" := fun P w A E s i t a dx C Q e q =>
  call_meets PySem.F.slot_int_add (typeIs_int s i t) PySem.F.entry_int_add (PySem.F.args_int_add_2 _ _) (intBinary_ref "__add__" (fun x y => retInt (x + y)) i t a dx C) ⟨e, q⟩
theorem declines_sub : Declines "int.__sub__" := fun P w A E s i t a dx C Q e q =>
  call_meets PySem.F.slot_int_sub (typeIs_int s i t) PySem.F.entry_int_sub (PySem.F.args_int_sub_2 _ _) (intBinary_ref "__sub__" (fun x y => retInt (x - y)) i t a dx C) ⟨e, q⟩
theorem declines_mul : Declines "int.__mul__" := fun P w A E s i t a dx C Q e q =>
  call_meets PySem.F.slot_int_mul (typeIs_int s i t) PySem.F.entry_int_mul (PySem.F.args_int_mul_2 _ _) (intBinary_ref "__mul__" (fun x y => Builtin.intProduct "__mul__" x y) i t a dx C) ⟨e, q⟩
theorem intop_add : IntOp "add" "int.__add__" := ⟨PySem.F.fills_int_add, PySem.F.slot_int_add, _, PySem.F.slot_int_radd.lookup⟩
theorem intop_sub : IntOp "sub" "int.__sub__" := ⟨PySem.F.fills_int_sub, PySem.F.slot_int_sub, _, PySem.F.slot_int_rsub.lookup⟩
theorem intop_mul : IntOp "mul" "int.__mul__" := ⟨PySem.F.fills_int_mul, PySem.F.slot_int_mul, _, PySem.F.slot_int_rmul.lookup⟩
theorem intop_pow : IntOp "pow" "int.__pow__" := ⟨PySem.F.fills_int_pow, PySem.F.slot_int_pow, _, PySem.F.slot_int_rpow.lookup⟩
/-- i op a by the right one's own reflected method -/
def rOwnRef (C : Addr) (sp : Sp) (E : XK) : R2 := fun x y H Q => ∃ (a dx : Addr) (fs : List (Str × V)) (i : Int), x = .int i ∧ y = .ref a ∧ H a = some (.ins C dx fs) ∧ sp [.ref a, .int i] H (fun v H' => (∃ p, v = .ref p) ∧ Q v H') E
theorem op_bin_ref {op : Operator} {sym nm id : String} {g f1 : Str} {f0 : Addr} (hop : op.info = (sym, nm)) (hn : dunderR nm = g) (hg : dunder nm = f1) (O : OwnG X.prog X.w X.K X.mg X.base CXg k C g ps sp) (hd : hdIn X.K C = true)
    (hF : PySem.W.findIn X.K (.ref C) f1 = some (some (.ref f0))) (T : IntOp nm id) (hdec : Declines id) (hsub : PySem.W.subIn X.K (.ref C) (.type "int") = some false)
    (hr : Room k X.A) (hx : Passes CXg X E) : OpR X (binaryOp op) (rOwnRef C sp E) := by
  intro pins s σ H x y v u Q I rx ry h
  obtain ⟨a, dx, fs, i, rfl, rfl, ea, q⟩ := h
  obtain ⟨t, rfl⟩ := rx
  cases ry
  subst hn
  subst hg
  obtain ⟨f, fd, hf, ht, hb, F⟩ := O.ex
  obtain ⟨mA, OM, _⟩ := ins_get I.hok ea
  have hobj := OM.obj
  obtain ⟨od, J, _⟩ := OM.look
  have one : wpAny (model X.prog X.w) X.A (tryMethod (.ref a) (dunderR nm) (.int i t)) (fun o s' => ∃ p, o = some (.ref p) ∧ EP X pins σ Q (.ref p) s') X.xe s := by
    unfold tryMethod
    refine wpAny_bind (PySem.W.special_fn I.kIn J hf ht ?_)
    refine wpAny_mono (run_fn (us := [.ref a, .int i t]) (vs := [.ref a, .int i]) F hr hb .nil hx I (.cons rfl (.cons ⟨_, rfl⟩ .nil)) q) (fun u s' hz => ?_) fun _ _ z => z
    obtain ⟨v, H', I', rv, ⟨p, rfl⟩, q'⟩ := hz
    obtain rfl : u = Value.ref p := rv
    exact wpAny_pure ⟨p, rfl, .ref p, H', I', rfl, q'⟩
  have kin := I.kIn
  have L1 : PySem.W.Looks (model X.prog X.w) s.heap (typeOf (.ref a)) (.ref C) := J.type
  have L2 : PySem.W.Looks (model X.prog X.w) s.heap (typeOf (.int i t)) (.type "int") := PySem.W.Looks.of_pure rfl
  have L3 : PySem.W.Looks (model X.prog X.w) s.heap (fillsNumberSlot (.ref C) nm) true := looks_fills kin hd hF
  have L4 : PySem.W.Looks (model X.prog X.w) s.heap (fillsNumberSlot (.type "int") nm) true := PySem.W.Looks.of_pure T.fills
  have L5 : PySem.W.Looks (model X.prog X.w) s.heap (isSubtype (.ref C) (.type "int")) false := PySem.W.looks_subIn kin hsub
  have L7 : PySem.W.Looks (model X.prog X.w) s.heap (numberSlotInPython (.type "int") nm) false := PySem.W.Looks.of_pure rfl
  have hne : (Value.type "int" == Value.ref C) = false := Bool.eq_false_iff.mpr fun q => by cases beq_iff_eq.mp q
  unfold binaryOp
  refine wpAny_holding ?_
  rw [hop]
  dsimp only
  refine wpAny_bind ?_
  unfold binaryOp1
  dsimp only
  refine wpAny_bind (L2.here (wpAny_bind (L1.here (wpAny_bind (L4.here ?_)))))
  simp only [hne, Bool.false_eq_true, if_false]
  refine wpAny_bind (L3.here ?_)
  simp only [Bool.and_self, if_true]
  refine wpAny_bind (L5.here ?_)
  simp only [Bool.false_eq_true, if_false, pure_bind, Bool.not_false, Bool.and_self, if_true]
  refine wpAny_bind (L7.here ?_)
  simp only [Bool.false_eq_true, if_false, pure_bind]
  refine wpAny_bind (wpAny_tryMethod_declines (typeIs_int s i t) T.slot (hdec _ _ _ _ _ _ _ _ _ _ _ hobj ⟨rfl, ?_⟩))
  simp only [Bool.false_eq_true, if_false, pure_bind, Bool.not_false, Bool.and_self, if_true]
  refine wpAny_bind (wpAny_mono one (fun o s' ⟨p, e, z⟩ => ?_) fun _ _ z => z)
  subst e
  exact wpAny_bind (wpAny_rule (wpAny_pure (wpAny_pure z)))
end
end Ef
set_option Elab.async false
set_option linter.all false
set_option maxRecDepth 100000
set_option maxHeartbeats 4000000
namespace Ef
open PySem PySem.Spec PyProof.Rows L2
abbrev sSign : Stmt := top 12
abbrev sVal : Stmt := top 13
abbrev sTm : Stmt := top 16
abbrev sStp : Stmt := top 20
abbrev sNeg : Stmt := inClass (top 35) 13
structure TxtR (mg : Str → Option Value) : Prop extends TxtQ mg where
  comb : mg "comb" = some (.builtin "math.comb")
  sum : mg "sum" = none
  min : mg "min" = none
  wide : ∃ t, mg "WIDE" = some (.int 64 t)
/-- comb(a, b) -/
def rComb : List V → Hp → VK → Prop := fun vs H Q => ∃ a b : Int, vs = [.int a, .int b] ∧ 0 ≤ a ∧ 0 ≤ b ∧ a < 2 ^ 64 ∧ b ≤ 9000 ∧ Q (.int (PySem.W.mcComb a b)) H
theorem cr_comb {X : Cx} : CallR X (.builtin "math.comb") rComb := by
  intro pins s σ H xs us Q I r h
  obtain ⟨a, b, rfl, ha, hb, h1, h2, q⟩ := h
  obtain ⟨t, u, rfl⟩ := Vals.int2 r
  exact PySem.W.mc_comb ha hb h1 (.inl h2) fun _ => ⟨.int _, H, I.tok _, ⟨_, rfl⟩, q⟩
theorem comb_ch : ∀ a : Nat, a < 9 → ∀ b : Nat, b < 9 → PySem.W.mcComb (a : Int) (b : Int) = ch a b ∧ (ch a b).natAbs ≤ 70 := by decide +kernel
theorem sum_sm (h : Nat → Int) : ∀ n, ((List.range n).map h).sum = sm n h
  | 0 => rfl
  | n + 1 => by
    rw [List.range_succ, List.map_append, List.sum_append, sum_sm h n]
    show sm n h + (h n + 0) = sm n h + h n
    omega
/-! ### a list or a tuple, walked -/
def iSeq (K : PySem.W.Frag) (tl : TE) : TI := fun σ H R => tl σ H fun x H1 => ∃ a, x = .ref a ∧ (((∃ xs, SqL K H1 a xs) ∧ R (Itl K a) H1) ∨ ((∃ xs, SqT K H1 a xs) ∧ R (Itt K a) H1))
theorem pi_seq {X : Cx} {tg l : Expr} {tl : TE} (hl : PE X l tl) : PI X tg l (iSeq X.K tl) := by
  refine ⟨fun pins s σ H R I h => thn (hl.run pins s σ H _ I h) fun v s1 hh => ?_⟩
  obtain ⟨x, H1, I1, r1, a, e, q⟩ := hh
  subst e
  cases r1
  have fresh : ∀ b ∈ [s1.heap.objs.size], ∀ o : Obj, FpOk X pins H1 b := fun b hb o => by
    have e : b = s1.heap.objs.size := by simpa using hb
    subst e
    exact I1.fpOk (Nat.le_refl _) (I1.hok.fresh (Nat.le_refl _))
  have o0 : Obj := { cls := .none, data := .fields #[] }
  rcases q with ⟨⟨xs, hq⟩, q⟩ | ⟨⟨xs, hq⟩, q⟩
  · obtain ⟨its, rv, p, hz⟩ := I1.list hq
    exact wpAny_pyIter_list p.isList ⟨s1.heap.objs.size, [s1.heap.objs.size], _, _, H1, rfl, I1.kept (t' := s1.toks) fun b o e => Heap.get?_push_of_some _ e, turn_list a _, ⟨_, Heap.get?_push_size _ rfl, rfl, rfl⟩, fun b hb => fresh b hb o0, q⟩
  · obtain ⟨its, rv, p, hz⟩ := I1.tuple hq
    exact wpAny_pyIter_tuple (show s1.heap.IsTuple a its.toArray from p) ⟨s1.heap.objs.size, [s1.heap.objs.size], _, _, H1, rfl, I1.kept (t' := s1.toks) fun b o e => Heap.get?_push_of_some _ e, turn_tuple a _, ⟨_, Heap.get?_push_size _ rfl, rfl, rfl⟩, fun b hb => fresh b hb o0, q⟩
theorem eval_drop1 {r : List Int} {i : Nat} {c : Int} (h : r.reverse[i]? = some c) : r.drop (r.length - (i + 1)) = c :: r.drop (r.length - i) := by
  have hil : i < r.length := by
    rcases Nat.lt_or_ge i r.length with z | z
    · exact z
    · rw [List.getElem?_eq_none (by rw [List.length_reverse]; exact z)] at h; cases h
  rw [List.getElem?_reverse hil] at h
  have hk : r.length - (i + 1) < r.length := by omega
  rw [List.drop_eq_getElem_cons hk, show r.length - (i + 1) + 1 = r.length - i by omega]
  congr 1
  rw [show r.length - 1 - i = r.length - (i + 1) by omega, List.getElem?_eq_getElem hk] at h
  exact Option.some.inj h
section
variable {P : Program} {w : World} {K : PySem.W.Frag} {mg : Str → Option Value} {base : Heap}
def spSign : Sp := fun vs H Q _ => ∃ n : Int, vs = [.int n] ∧ Q (.int (sg n)) H
theorem scSign : FnScope ["number"] ["number"] (defScope sSign) := ⟨rfl, rfl, rfl, by decide +kernel, rfl, by decide +kernel, by decide +kernel⟩
theorem df_sign (A : At K mg "sign_of" sSign) : Df P w K mg base 1 "sign_of" ["number"] spSign := by
  obtain ⟨f, fd, hm, F⟩ := A.ex
  refine ⟨f, fd, hm, F.kp, F.binds (fun _ _ _ _ _ _ us hl => match us, hl with | [_], _ => rfl), F.ok scSign (fun vs H Q E h => ?_) (fun cdv A outer s H vs Q E hr h => ?_)⟩
  · obtain ⟨n, rfl, _⟩ := h
    rfl
  · obtain ⟨n, rfl, q⟩ := h
    refine ⟨_, (pss_cons (ps_if (pt_cmpR op_eq (pv 0) pe_int (nomark _)) (pss_one (ps_ret pe_int)) pss_nil)
      (pss_one (ps_ret (pe_ifExp (pt_cmpR op_gt (pv 0) pe_int (nomark _)) pe_int (pe_un un_neg pe_int))))), ?_⟩
    refine ⟨_, rfl, rfl, _, rfl, ?_⟩
    rw [dint]
    unfold sg at q
    refine ite2 (fun hc => ?_) (fun hc => ?_)
    · rw [if_pos (of_decide_eq_true hc)] at q
      exact q
    · rw [if_neg (fun z => hc (decide_eq_true z))] at q
      refine ⟨_, rfl, _, _, rfl, rfl, _, rfl, ?_⟩
      refine ite2 (fun hd => ?_) (fun hd => ?_)
      · rw [if_pos (of_decide_eq_true hd)] at q
        exact q
      · rw [if_neg (fun z => hd (decide_eq_true z))] at q
        exact ⟨_, rfl, q⟩
/-! ### value_at -/
def spVal (K : PySem.W.Frag) : Sp := fun vs H Q _ => ∃ (a : Addr) (r : List Int) (n : Int), vs = [.ref a, .int n] ∧ Seqs K H a (r.map V.int) ∧ r.length ≤ 8 ∧ (∀ c ∈ r, Bd 3000 c) ∧ Bd 3000 n ∧ ∀ H', Same H H' → Q (.int (evalR r n)) H'
theorem scVal : FnScope ["row", "n", "total", "number"] ["row", "n"] (defScope sVal) := ⟨rfl, rfl, rfl, by decide +kernel, rfl, by decide +kernel, by decide +kernel⟩
theorem df_val (A : At K mg "value_at" sVal) : Df P w K mg base 1 "value_at" ["row", "n"] (spVal K) := by
  obtain ⟨f, fd, hm, F⟩ := A.ex
  refine ⟨f, fd, hm, F.kp, F.binds (fun _ _ _ _ _ _ us hl => match us, hl with | [_, _], _ => rfl), F.ok scVal (fun vs H Q E h => ?_) (fun cdv A outer s H vs Q E hr h => ?_)⟩
  · obtain ⟨a, r, n, rfl, _⟩ := h
    rfl
  · obtain ⟨a, r, n, rfl, hS, hl, hc, hn, q⟩ := h
    refine ⟨_, (pss_cons (ps_set (i := 2) scVal.nd rfl (.inl rfl) pe_int)
      (pss_cons (ps_for PassesOwn.never rfl (pi_seq (pe_either (pe_back (pv 0) po_none) (pe_revT (pv 0)))) (pg_name (i := 3) scVal.nd rfl (.inl rfl))
      (pss_one (ps_set (i := 2) scVal.nd rfl (.inl rfl) (pe_op op_add (pe_op op_mulW (pv 2) (pv 1)) (pv 3)))))
      (pss_one (ps_ret (pv 2))))), ?_⟩
    have wide : ∀ i : Nat, CMulW (evalR (r.drop (r.length - i)) n) n := fun i => by
      have h1 := bd_eval hn (r.drop (r.length - i)) fun c hm => hc c (List.mem_of_mem_drop hm)
      have h2 : (3000 + 1) * (r.drop (r.length - i)).length ≤ 3001 * 8 := Nat.mul_le_mul_left _ (by rw [List.length_drop]; omega)
      exact wide_mul (Bd.up h1 h2) hn (by decide) (by decide) (by decide)
    rcases hS with hS | hS
    · refine .inl ⟨_, rfl, a, _, _, rfl, hS, rfl, fun p hp => ?_⟩
      rw [List.take_length]
      have hT : SqL K (upd H p (.lst (r.map V.int).reverse)) p (r.reverse.map V.int) := .inl (.inl (by rw [upd_same, List.map_reverse]))
      have s1 := same_new (o := .lst (r.map V.int).reverse) hp
      generalize upd H p (.lst (r.map V.int).reverse) = H1 at hT s1 ⊢
      refine ⟨p, rfl, .inl ⟨⟨_, hT⟩, for_list (K := K) (a := p) (xs := r.reverse.map V.int) (fun i σ H' => H' = H1 ∧ ∃ y : Option V, σ = [some (.ref a), some (.int n), some (.int (evalR (r.drop (r.length - i)) n)), y])
        ⟨rfl, none, by rw [Nat.sub_zero, List.drop_length]; rfl⟩ (fun i σ H' _ ⟨e, _⟩ => e ▸ hT) ?_ ?_⟩⟩
      · rintro i x σ H' hi ⟨rfl, y, rfl⟩
        rw [List.getElem?_map] at hi
        obtain ⟨c, hc2, rfl⟩ := Option.map_eq_some_iff.mp hi
        refine ⟨_, rfl, _, rfl, _, _, rfl, rfl, wide i, _, rfl, _, _, rfl, rfl, rfl, some (.int c), ?_⟩
        rw [eval_drop1 hc2]
        rfl
      · rintro σ H' ⟨rfl, y, rfl⟩
        rw [List.length_map, List.length_reverse, Nat.sub_self, List.drop_zero]
        exact ⟨_, rfl, q H' s1⟩
    · refine .inr ⟨_, rfl, a, _, rfl, hS, fun p hp => ?_⟩
      have hT : SqT K (upd H p (.tup (r.map V.int).reverse)) p (r.reverse.map V.int) := .inl (.inl (by rw [upd_same, List.map_reverse]))
      have s1 := same_new (o := .tup (r.map V.int).reverse) hp
      generalize upd H p (.tup (r.map V.int).reverse) = H1 at hT s1 ⊢
      refine ⟨p, rfl, .inr ⟨⟨_, hT⟩, for_tup (K := K) (a := p) (xs := r.reverse.map V.int) (fun i σ H' => H' = H1 ∧ ∃ y : Option V, σ = [some (.ref a), some (.int n), some (.int (evalR (r.drop (r.length - i)) n)), y])
        ⟨rfl, none, by rw [Nat.sub_zero, List.drop_length]; rfl⟩ (fun i σ H' _ ⟨e, _⟩ => e ▸ hT) ?_ ?_⟩⟩
      · rintro i x σ H' hi ⟨rfl, y, rfl⟩
        rw [List.getElem?_map] at hi
        obtain ⟨c, hc2, rfl⟩ := Option.map_eq_some_iff.mp hi
        refine ⟨_, rfl, _, rfl, _, _, rfl, rfl, wide i, _, rfl, _, _, rfl, rfl, rfl, some (.int c), ?_⟩
        rw [eval_drop1 hc2]
        rfl
      · rintro σ H' ⟨rfl, y, rfl⟩
        rw [List.length_map, List.length_reverse, Nat.sub_self, List.drop_zero]
        exact ⟨_, rfl, q H' s1⟩
end
end Ef
set_option Elab.async false
set_option linter.all false
set_option maxRecDepth 100000
set_option maxHeartbeats 2000000
/-! an own error without any arguments; // by any divisor -/
namespace Ef
open PySem PySem.Spec PyProof.Rows L2
section
variable {X : Cx} {C : Addr} {bmB : List Value} {B newId initId : String}
/-- raise X(), X without an __init__ of its own -/
theorem pmk_none {x : Str} {p pos : Pos} (F : ExcBaseFacts B newId initId bmB) (q : PySem.W.excIn X.K C bmB newId = true) (gC : X.mg x = some (.ref C)) (kC : PySem.W.keepIn X.K (.ref C) = true) (r : Raises X (.ref C)) (hg : Gl X x) (hdb : (x == ("__debug__" : Str)) = false := by decide) :
    PMk X (.Call (.Name x p) [] [] pos) (fun _ H Q => Q (.ref C) none H) := fun pins s σ H Q I h => by
  refine wpAny_Call_Name_kw (ld_glob I hg gC (PySem.W.callWith_K0 I.kIn kC ?_) hdb)
  show wpAny _ _ (call (.ref C) []) _ _ _
  obtain ⟨bm, N, nm, qn, bs, hdct, sn, sub, ab, col, dd, k0, k1, k2, k3, k5, mN, hC, hN, hni, T⟩ := exc_obj I.kIn q
  exact wpAny_call_exc_subT F T hC hN hni (fun h' e hm => mk_of I hm r h (I.hok.gone hm.new)) (Nat.zero_le _)
/-- // by a divisor of any sign -/
def CDivZ (_ j : Int) : Prop := j ≠ 0 ∧ j.natAbs.log2 < 9000
theorem op_fdivZ : OpR X (binaryOp .FloorDiv) (rI CDivZ fun i j => .int (i.fdiv j)) := opI fun i j _ _ _ _ _ hc q => floordiv_int hc.1 q (.inl (PyProof.noPylong_of_log2 hc.2))
theorem wide_divZ {i j : Int} {b : Nat} (h : j ≠ 0) (hb : j.natAbs < 2 ^ b) (h0 : 0 < b) (h9 : b ≤ 9000) : CDivZ i j := ⟨h, Nat.lt_of_lt_of_le (PySem.Flt.log2_lt_of h0 hb) h9⟩
end
end Ef
set_option Elab.async false
set_option linter.all false
set_option maxRecDepth 100000
set_option maxHeartbeats 4000000
namespace Ef
open PySem PySem.Spec PyProof.Rows L2
theorem stp_bd {r : List Int} {b : Nat} (h : ∀ c ∈ r, Bd b c) (hl : r.length ≤ 7) (j : Nat) : Bd (b + 9) (stp r j) := by
  have hb : ∀ i, i < r.length - (j + 1) → (ch (j + 1 + i) j * cf r (j + 1 + i)).natAbs ≤ 70 * 2 ^ b := fun i hi => by
    rw [Int.natAbs_mul]
    exact Nat.mul_le_mul (comb_ch (j + 1 + i) (by omega) j (by omega)).2 (Nat.le_of_lt (cf_bd h _))
  have h1 := sm_bd hb
  unfold Bd stp
  have h2 : (r.length - (j + 1)) * (70 * 2 ^ b) ≤ 7 * (70 * 2 ^ b) := Nat.mul_le_mul_right _ (by omega)
  have h3 : 0 < 2 ^ b := Nat.pow_pos (by decide)
  rw [Nat.pow_add]
  show _ < 2 ^ b * 512
  omega
section
variable {P : Program} {w : World} {K : PySem.W.Frag} {mg : Str → Option Value} {base : Heap}
/-! ### row_times -/
theorem lc_seqs {a : Addr} {r : List Int} {f : Int → Int} {H1 : Hp} {σ : L2.St} {Qd : Addr → Hp → Prop} {g : TG} {te : TE} {vs : List Nat} (ha : Seqs K H1 a (r.map V.int)) (hl : r.length ≤ 1000)
    (hs : ∀ (c : Int) (H : Hp) (R : VK), c ∈ r → Same H1 H → R (.int (f c)) H → g (.int c) (wipe σ vs) H fun σ2 H2 => wipe σ2 vs = wipe σ vs ∧ te σ2 H2 R)
    (hd : ∀ D H', H1 D = none → Same H1 H' → H' D = some (.lst ((r.map f).map V.int)) → Qd D H') :
    let R : It → Hp → Prop := fun J H1 => ∀ D, H1 D = none → ∃ W : Nat → Nat → Hp → Prop, (∃ m, W 0 m (upd H1 D (.lst []))) ∧ ∀ i m H, W i m H → (J.stop i H ∧ Qd D H) ∨ (J.go i H ∧ ∃ Nx : Hp → Prop, (∀ H', Nx H' → ∃ m', m' < m ∧ W (i + 1) m' H') ∧ ∀ y H', J.yld i H y H' → g y (wipe σ vs) H' fun σ2 H2 => wipe σ2 vs = wipe σ vs ∧ tYes σ2 H2 fun b H3 => if b = true then te σ2 H3 fun z H4 => ∃ acc, H4 D = some (.lst acc) ∧ acc.length < sizeLine ∧ Nx (upd H4 D (.lst (acc ++ [z]))) else Nx H3)
    ((∃ xs, SqL K H1 a xs) ∧ R (Itl K a) H1) ∨ ((∃ xs, SqT K H1 a xs) ∧ R (Itt K a) H1) := by
  have step : ∀ (D : Addr) (i : Nat) (y : V) (H' : Hp), H1 D = none → (r.map V.int)[i]? = some y → Same H1 H' → H' D = some (.lst (((r.take i).map f).map V.int)) → g y (wipe σ vs) H' fun σ2 H2 => wipe σ2 vs = wipe σ vs ∧ tYes σ2 H2 fun b H3 => if b = true then te σ2 H3 fun z H4 => ∃ acc, H4 D = some (.lst acc) ∧ acc.length < sizeLine ∧ Same H1 (upd H4 D (.lst (acc ++ [z]))) ∧ (upd H4 D (.lst (acc ++ [z]))) D = some (.lst (((r.take (i + 1)).map f).map V.int)) else Same H1 H3 ∧ H3 D = some (.lst (((r.take (i + 1)).map f).map V.int)) := by
    intro D i y H' hD hi sx hx
    rw [List.getElem?_map] at hi
    obtain ⟨c, hc, rfl⟩ := Option.map_eq_some_iff.mp hi
    refine hs c H' _ (List.mem_of_getElem? hc) sx ⟨_, hx, ?_, same_mut sx hD, ?_⟩
    · rw [List.length_map, List.length_map, List.length_take]
      exact Nat.lt_of_le_of_lt (show min i r.length ≤ 1000 by omega) (by decide)
    · rw [upd_same, List.take_succ, hc, Option.toList_some, List.map_append, List.map_append]
      rfl
  rcases ha with ha | ha
  · refine .inl ⟨⟨_, ha⟩, fun D hD => ?_⟩
    refine lc_list (K := K) (a := a) (xs := r.map V.int) (tt := tYes) (fun i H' => Same H1 H' ∧ H' D = some (.lst (((r.take i).map f).map V.int))) ⟨same_new hD, upd_same⟩ (fun i H' _ hh => hh.1.seq ha) (fun i y H' hi ⟨sx, hx⟩ => step D i y H' hD hi sx hx) ?_
    rintro H3 ⟨s3, h3⟩
    rw [List.length_map, List.take_length] at h3
    exact hd D H3 hD s3 h3
  · refine .inr ⟨⟨_, ha⟩, fun D hD => ?_⟩
    refine lc_tup (K := K) (a := a) (xs := r.map V.int) (tt := tYes) (fun i H' => Same H1 H' ∧ H' D = some (.lst (((r.take i).map f).map V.int))) ⟨same_new hD, upd_same⟩ (fun i H' _ hh => Same.tup hh.1 ha) (fun i y H' hi ⟨sx, hx⟩ => step D i y H' hD hi sx hx) ?_
    rintro H3 ⟨s3, h3⟩
    rw [List.length_map, List.take_length] at h3
    exact hd D H3 hD s3 h3
def spTm (K : PySem.W.Frag) : Sp := fun vs H Q _ => ∃ (a : Addr) (r : List Int) (f : Int), vs = [.ref a, .int f] ∧ Seqs K H a (r.map V.int) ∧ r.length ≤ 1000 ∧ (∀ c ∈ r, Bd 9000 c) ∧ Bd 9000 f ∧ ∀ l H', H l = none → Same H H' → H' l = some (.lst ((r.map fun c => c * f).map V.int)) → Q (.ref l) H'
theorem scTm : FnScope ["row", "factor", "number"] ["row", "factor"] (defScope sTm) := ⟨rfl, rfl, rfl, by decide +kernel, rfl, by decide +kernel, by decide +kernel⟩
theorem df_tm (A : At K mg "row_times" sTm) : Df P w K mg base 1 "row_times" ["row", "factor"] (spTm K) := by
  obtain ⟨f, fd, hm, F⟩ := A.ex
  refine ⟨f, fd, hm, F.kp, F.binds (fun _ _ _ _ _ _ us hl => match us, hl with | [_, _], _ => rfl), F.ok scTm (fun vs H Q E h => ?_) (fun cdv A outer s H vs Q E hr h => ?_)⟩
  · obtain ⟨a, r, f, rfl, _⟩ := h
    rfl
  · obtain ⟨a, r, f, rfl, hS, hl, hb, hf, q⟩ := h
    refine ⟨_, (pss_one (ps_ret (pe_lc (own := [("number", 2)]) (g := gName 2) (by rfl) scTm.nd (pi_seq (pv 0)) (blkOk_by (own := [("number", 2)]) (N := ["row", "factor", "number"]) (sc := defScope sTm) (by decide +kernel)) (fun _ _ _ _ _ => pg_name (i := 2) scTm.nd rfl (Or.inl rfl)) (fun _ _ _ _ _ => pts_nil) (fun _ _ _ _ _ => (pe_op op_mulW (pv 2) (pv 1)))))), ?_⟩
    refine ⟨_, rfl, a, rfl, lc_seqs (f := fun c => c * f) hS hl (fun c H R hc _ h => ⟨rfl, _, rfl, _, rfl, _, _, rfl, rfl, wide_mul (hb c hc) hf (by decide) (by decide) (by decide), h⟩) fun D H' hD s1 h1 => q D H' hD s1 h1⟩
/-! ### row_of_steps -/
def spStp (K : PySem.W.Frag) : Sp := fun vs H Q _ => ∃ (a : Addr) (r : List Int) (b : Nat), vs = [.ref a] ∧ Seqs K H a (r.map V.int) ∧ 1 ≤ r.length ∧ r.length ≤ 7 ∧ (∀ c ∈ r, Bd b c) ∧ b ≤ 2000 ∧
  ∀ (l : Addr) (t : List Int) (H' : Hp), Same H H' → H l = none → H' l = some (.lst (t.map V.int)) → t.length = r.length - 1 → (∀ j, cf t j = stp r j) → (∀ c ∈ t, Bd (b + 9) c) → Q (.ref l) H'
theorem scStp : FnScope ["row", "size", "j", "k"] ["row"] (defScope sStp) := ⟨rfl, rfl, rfl, by decide +kernel, rfl, by decide +kernel, by decide +kernel⟩
/-- the scope of the outer comprehension of row_of_steps -/
def scJ : Scope := { kind := .function, names := [(".0", .local), ("j", .cell), ("sum", .globalImplicit), ("range", .globalImplicit), ("row", .cell), ("size", .cell)], isGenerator := false, isCoroutine := false }
theorem df_stp (A : At K mg "row_of_steps" sStp) (T : TxtR mg) : Df P w K mg base 1 "row_of_steps" ["row"] (spStp K) := by
  obtain ⟨f, fd, hm, F⟩ := A.ex
  refine ⟨f, fd, hm, F.kp, F.binds (fun _ _ _ _ _ _ us hl => match us, hl with | [_], _ => rfl), F.ok scStp (fun vs H Q E h => ?_) (fun cdv A outer s H vs Q E hr h => ?_)⟩
  · obtain ⟨a, r, b, rfl, _⟩ := h
    rfl
  · obtain ⟨a, r, b, rfl, hS, h1, h7, hb, hb2, q⟩ := h
    refine ⟨_, (pss_cons (ps_set (i := 1) scStp.nd rfl (.inr rfl) (pe_callB call_len_seq (by rfl) T.len PySem.boot_len (pa_cons (pv 0) pa_nil)))
      (pss_one (ps_ret (pe_lc (own := [("j", 2)]) (g := gName 2) (by rfl) scStp.nd (pi_range1 (by rfl) T.range (pa_cons (pe_op op_sub (pv 1) pe_int) pa_nil)) (blkOk_by (own := [("j", 2)]) (N := ["row", "size", "j", "k"]) (sc := defScope sStp) (by decide +kernel)) (fun _ _ _ _ _ => pg_name (i := 2) scStp.nd rfl (Or.inr rfl)) (fun _ _ _ _ _ => pts_nil) (fun _ _ _ _ _ => (pe_callB (show CallR _ (.builtin "sum") (rSum K) from cr_sum rfl) (by rfl) T.sum (by decide +kernel) (pa_cons (pe_lc (own := [("k", 3)]) (g := gName 3) (by rfl) scStp.nd (pi_range2 (by rfl) T.range (pa_cons (pe_op op_add (pv 2) pe_int) (pa_cons (pv 1) pa_nil))) (blkOk_by (own := [("k", 3)]) (N := ["row", "size", "j", "k"]) (sc := scJ) (by decide +kernel)) (fun _ _ _ _ _ => pg_name (i := 3) scStp.nd rfl (Or.inl rfl)) (fun _ _ _ _ _ => pts_nil) (fun _ _ _ _ _ => (pe_op op_mulW (pe_callBfun cr_comb (by rfl) T.comb (pa_cons (pv 3) (pa_cons (pv 2) pa_nil))) (pe_ix (show IxR _ (rIx K) from ix_seq) (pv 0) (pv 3) (fun _ _ => rfl))))) pa_nil))))))), ?_⟩
    refine ⟨_, rfl, a, _, rfl, hS, ?_⟩
    rw [List.length_map]
    refine ⟨_, rfl, _, _, rfl, rfl, _, rfl, by omega, by omega, fun D hD => ?_⟩
    refine lc_range (lo := 0) (n := ((r.length : Int) - 1).toNat) (fun j H' => Same H H' ∧ H' D = some (.lst (((List.range j).map (stp r)).map V.int))) ⟨same_new hD, upd_same⟩ ?_ ?_
    · rintro j H1 hj ⟨s1, e1⟩
      refine ⟨rfl, ?_⟩
      refine ⟨_, rfl, _, _, rfl, rfl, _, rfl, _, _, rfl, ⟨by omega, by omega, by omega, by omega⟩, fun D2 hD2 => ?_⟩
      refine lc_range (lo := 0 + (j : Int) + 1) (n := ((r.length : Int) - (0 + (j : Int) + 1)).toNat) (fun i H' => Same H1 H' ∧ H' D2 = some (.lst (((List.range i).map fun i => ch (j + 1 + i) j * cf r (j + 1 + i)).map V.int))) ⟨same_new hD2, upd_same⟩ ?_ ?_
      · rintro i H2 hi ⟨s2, e2⟩
        obtain ⟨c, hc, hc2⟩ := get_int (r := r) (k := j + 1 + i) (by omega)
        obtain ⟨ec, eb⟩ := comb_ch (j + 1 + i) (by omega) j (by omega)
        have ei : 0 + (j : Int) + 1 + (i : Int) = ((j + 1 + i : Nat) : Int) := by omega
        have ej : 0 + (j : Int) = (j : Int) := by omega
        refine ⟨rfl, _, rfl, _, rfl, _, _, rfl, by omega, by omega, by omega, by omega, _, rfl, _, rfl, ix_seqs ((hS.same s1).same s2) (at_of (j := j + 1 + i) ei hc2) ?_⟩
        rw [ei, ej, ec, ← cf_of hc]
        refine ⟨_, _, rfl, rfl, wide_mul (a := 7) (b := 3000) (by omega) ((cf_bd hb (j + 1 + i)).up (by omega)) (by decide) (by decide) (by decide), _, e2, ?_, same_mut s2 hD2, ?_⟩
        · rw [List.length_map, List.length_map, List.length_range]; exact Nat.lt_of_le_of_lt (show i ≤ 100 by omega) (by decide)
        · rw [upd_same, List.range_succ, List.map_append, List.map_append]
          rfl
      · rintro H2 ⟨s2, e2⟩
        refine ⟨D2, _, rfl, .inl (.inl e2), ?_⟩
        rw [sum_sm, show ((r.length : Int) - (0 + (j : Int) + 1)).toNat = r.length - (j + 1) by omega]
        refine ⟨_, s2 _ _ e1, ?_, same_mut (s1.trans s2) hD, ?_⟩
        · rw [List.length_map, List.length_map, List.length_range]; exact Nat.lt_of_le_of_lt (show j ≤ 100 by omega) (by decide)
        · rw [upd_same, List.range_succ, List.map_append, List.map_append]
          rfl
    · rintro H1 ⟨s1, e1⟩
      rw [show ((r.length : Int) - 1).toNat = r.length - 1 by omega] at e1
      refine q D _ H1 s1 hD e1 (by rw [List.length_map, List.length_range]) (fun j => ?_) fun c hc => ?_
      · rcases Nat.lt_or_ge j (r.length - 1) with z | z
        · rw [cf_lt (by rw [List.length_map, List.length_range]; exact z), List.getElem_map, List.getElem_range]
        · rw [cf_ge (by rw [List.length_map, List.length_range]; exact z), stp_zero (by omega)]
      · obtain ⟨j, _, rfl⟩ := List.mem_map.mp hc
        exact stp_bd hb h7 j
end
end Ef
set_option Elab.async false
set_option linter.all false
set_option maxRecDepth 100000
set_option maxHeartbeats 4000000
set_option exponentiation.threshold 20
namespace Ef
open PySem PySem.Spec PyProof.Rows L2
abbrev sBeh : Stmt := top 27
abbrev sCro : Stmt := top 28
abbrev sBra : Stmt := top 29
abbrev sOut : Stmt := top 30
abbrev sNar : Stmt := top 31
abbrev sCut : Stmt := top 32
/-- None, or a whole number -/
def lv : Option Int → V
  | none => .non
  | some y => .int y
/-- a row that is told off -/
structure RowAt (K : PySem.W.Frag) (H : Hp) (q : Addr) (r : List Int) : Prop where
  s : Seqs K H q (r.map V.int)
  l : r.length ≤ 7
  b : ∀ c ∈ r, Bd 850 c
theorem RowAt.same {K : PySem.W.Frag} {H H' : Hp} {q : Addr} {r : List Int} (h : RowAt K H q r) (e : Same H H') : RowAt K H' q r := ⟨h.s.same e, h.l, h.b⟩
/-- n is out: at the end, or not ahead of 0 -/
def Out (f : Int → Int) (m : Int) (e : Option Int) (n : Int) : Prop := (∃ y, e = some y ∧ y ≤ n) ∨ 0 ≤ m * f n
instance {f : Int → Int} {m n : Int} : {e : Option Int} → Decidable (Out f m e n)
  | none => if h : 0 ≤ m * f n then isTrue (.inr h) else isFalse fun z => z.elim (fun ⟨_, y, _⟩ => (nomatch y)) h
  | some y => if h : y ≤ n then isTrue (.inl ⟨y, rfl, h⟩) else if h2 : 0 ≤ m * f n then isTrue (.inr h2) else isFalse fun z => z.elim (fun ⟨y', e, h3⟩ => h (by cases e; exact h3)) h2
/-- what a cut gives -/
def cutI (f : Int → Int) (m lo hi n : Int) : Int × Int := if lo < n ∧ n < hi then (if 0 ≤ m * f n then (lo, n) else (n, hi)) else (lo, hi)
/-- between lo and hi f comes to 0 -/
structure Brk (f : Int → Int) (m lo hi : Int) : Prop where
  lt : lo < hi
  a : m * f lo < 0
  o : 0 ≤ m * f hi
theorem Brk.cut {f : Int → Int} {m lo hi n : Int} (h : Brk f m lo hi) : Brk f m (cutI f m lo hi n).1 (cutI f m lo hi n).2 ∧ lo ≤ (cutI f m lo hi n).1 ∧ (cutI f m lo hi n).2 ≤ hi ∧ (lo < n → n < hi → (cutI f m lo hi n).2 - (cutI f m lo hi n).1 < hi - lo) := by
  unfold cutI
  have := h.lt
  by_cases z : lo < n ∧ n < hi
  · rw [if_pos z]
    by_cases y : 0 ≤ m * f n
    · rw [if_pos y]
      exact ⟨⟨z.1, h.a, y⟩, Int.le_refl _, Int.le_of_lt z.2, fun _ _ => by show n - lo < hi - lo; omega⟩
    · rw [if_neg y]
      exact ⟨⟨z.2, show m * f n < 0 by omega, h.o⟩, Int.le_of_lt z.1, Int.le_refl _, fun _ _ => by show hi - n < hi - lo; omega⟩
  · rw [if_neg z]
    exact ⟨h, Int.le_refl _, Int.le_refl _, fun h1 h2 => absurd ⟨h1, h2⟩ z⟩
section
variable {P : Program} {w : World} {K : PySem.W.Frag} {mg : Str → Option Value} {base : Heap}
/-! ### _is_behind, _is_out, _cut -/
def spBeh (K : PySem.W.Frag) : Sp := fun vs H Q _ => ∃ (q : Addr) (r : List Int) (m n : Int), vs = [.ref q, .int m, .int n] ∧ RowAt K H q r ∧ (m = 1 ∨ m = -1) ∧ Bd 3000 n ∧ ∀ H', Same H H' → Q (.bl (decide (0 ≤ m * evalR r n))) H'
theorem scBeh : FnScope ["row", "move", "n"] ["row", "move", "n"] (defScope sBeh) := ⟨rfl, rfl, rfl, by decide +kernel, rfl, by decide +kernel, by decide +kernel⟩
theorem m_small {m : Int} (hm : m = 1 ∨ m = -1) : -(2 ^ 64) < m ∧ m < 2 ^ 64 := by rcases hm with rfl | rfl <;> decide
theorem df_beh (A : At K mg "_is_behind" sBeh) (Dvalueat : Df P w K mg base 1 "value_at" ["row", "n"] (spVal K)) : Df P w K mg base 2 "_is_behind" ["row", "move", "n"] (spBeh K) := by
  obtain ⟨f, fd, hm, F⟩ := A.ex
  refine ⟨f, fd, hm, F.kp, F.binds (fun _ _ _ _ _ _ us hl => match us, hl with | [_, _, _], _ => rfl), F.ok scBeh (fun vs H Q E h => ?_) (fun cdv A outer s H vs Q E hr h => ?_)⟩
  · obtain ⟨a, r, m, n, rfl, _⟩ := h
    rfl
  · obtain ⟨a, r, m, n, rfl, hR, hm, hn, q⟩ := h
    refine ⟨_, (pss_one (ps_ret (pe_cmpR op_ge (pe_op op_mul (pv 1) (Dvalueat.call (hr.mono (by decide)) (pa_cons (pv 0) (pa_cons (pv 2) pa_nil)))) pe_int (nomark _)))), ?_⟩
    refine ⟨_, rfl, _, rfl, _, rfl, a, r, n, rfl, hR.s, Nat.le_succ_of_le hR.l, fun c hc => (hR.b c hc).up (by decide), hn, fun H1 s1 => ?_⟩
    exact ⟨_, _, rfl, rfl, .inl (m_small hm), _, _, rfl, rfl, q H1 s1⟩
def spOut (K : PySem.W.Frag) : Sp := fun vs H Q _ => ∃ (q : Addr) (r : List Int) (m n : Int) (e : Option Int), vs = [.ref q, .int m, .int n, lv e] ∧ RowAt K H q r ∧ (m = 1 ∨ m = -1) ∧ Bd 3000 n ∧ ∀ H', Same H H' → Q (.bl (decide (Out (evalR r) m e n))) H'
theorem scOut : FnScope ["row", "move", "n", "last"] ["row", "move", "n", "last"] (defScope sOut) := ⟨rfl, rfl, rfl, by decide +kernel, rfl, by decide +kernel, by decide +kernel⟩
theorem df_out (A : At K mg "_is_out" sOut) (Disbehind : Df P w K mg base 2 "_is_behind" ["row", "move", "n"] (spBeh K)) : Df P w K mg base 3 "_is_out" ["row", "move", "n", "last"] (spOut K) := by
  obtain ⟨f, fd, hm, F⟩ := A.ex
  refine ⟨f, fd, hm, F.kp, F.binds (fun _ _ _ _ _ _ us hl => match us, hl with | [_, _, _, _], _ => rfl), F.ok scOut (fun vs H Q E h => ?_) (fun cdv A outer s H vs Q E hr h => ?_)⟩
  · obtain ⟨a, r, m, n, e, rfl, _⟩ := h
    rfl
  · obtain ⟨a, r, m, n, e, rfl, hR, hm, hn, q⟩ := h
    refine ⟨_, (pss_one (ps_ret (pe_or (pe_and (pe_cmpR op_notN (pv 3) pe_non (nomark _)) (pe_one (pe_cmpR op_ge (pv 2) (pv 3) (nomark _)))) (pe_one (Disbehind.call (hr.mono (by decide)) (pa_cons (pv 0) (pa_cons (pv 1) (pa_cons (pv 2) pa_nil)))))))), ?_⟩
    have rest : ∀ H', H' = H → (∀ H', Same H H' → Q (.bl (decide (0 ≤ m * evalR r n))) H') → tCall (spBeh K) [] E0 (tCons (tVar 0) (tCons (tVar 1) (tCons (tVar 2) tNil))) (L2.start ["row", "move", "n", "last"] [V.ref a, V.int m, V.int n, lv e]) H' Q := fun H' e1 q => by
      subst e1
      exact ⟨_, rfl, _, rfl, _, rfl, a, r, m, n, rfl, hR, hm, hn, q⟩
    cases e with
    | none =>
      refine ⟨_, rfl, rfl, _, rfl, iteF ⟨_, rfl, iteF (rest H rfl fun H1 s1 => ?_)⟩⟩
      have e : decide (0 ≤ m * evalR r n) = decide (Out (evalR r) m none n) := by
        by_cases h : 0 ≤ m * evalR r n
        · rw [decide_eq_true h, decide_eq_true (.inr h)]
        · rw [decide_eq_false h, decide_eq_false fun z => z.elim (fun ⟨_, y, _⟩ => (nomatch y)) h]
      rw [e]
      exact q H1 s1
    | some y =>
      refine ⟨_, rfl, rfl, _, rfl, iteT ⟨_, rfl, _, rfl, _, _, rfl, rfl, _, rfl, ite2 (fun hb => ?_) (fun hb => rest H rfl fun H1 s1 => ?_)⟩⟩
      · have := q H (Same.refl H)
        rw [decide_eq_true (.inl ⟨y, rfl, of_decide_eq_true hb⟩)] at this
        exact this
      · have e : decide (0 ≤ m * evalR r n) = decide (Out (evalR r) m (some y) n) := by
          by_cases h : 0 ≤ m * evalR r n
          · rw [decide_eq_true h, decide_eq_true (.inr h)]
          · rw [decide_eq_false h, decide_eq_false fun z => z.elim (fun ⟨y', e, h3⟩ => hb (decide_eq_true (by cases e; exact h3))) h]
        rw [e]
        exact q H1 s1
def spCut (K : PySem.W.Frag) : Sp := fun vs H Q _ => ∃ (q : Addr) (r : List Int) (m lo hi n : Int), vs = [.ref q, .int m, .int lo, .int hi, .int n] ∧ RowAt K H q r ∧ (m = 1 ∨ m = -1) ∧ Bd 3000 lo ∧ Bd 3000 hi ∧
  ∀ (t : Addr) (H' : Hp), Same H H' → H' t = some (.tup [.int (cutI (evalR r) m lo hi n).1, .int (cutI (evalR r) m lo hi n).2]) → Q (.ref t) H'
theorem scCut : FnScope ["row", "move", "low", "high", "n"] ["row", "move", "low", "high", "n"] (defScope sCut) := ⟨rfl, rfl, rfl, by decide +kernel, rfl, by decide +kernel, by decide +kernel⟩
theorem bd_between {b : Nat} {x y z : Int} (hx : Bd b x) (hz : Bd b z) (h1 : x ≤ y) (h2 : y ≤ z) : Bd b y := by unfold Bd at *; omega
theorem df_cut (A : At K mg "_cut" sCut) (Disbehind : Df P w K mg base 2 "_is_behind" ["row", "move", "n"] (spBeh K)) : Df P w K mg base 3 "_cut" ["row", "move", "low", "high", "n"] (spCut K) := by
  obtain ⟨f, fd, hm, F⟩ := A.ex
  refine ⟨f, fd, hm, F.kp, F.binds (fun _ _ _ _ _ _ us hl => match us, hl with | [_, _, _, _, _], _ => rfl), F.ok scCut (fun vs H Q E h => ?_) (fun cdv A outer s H vs Q E hr h => ?_)⟩
  · obtain ⟨a, r, m, lo, hi, n, rfl, _⟩ := h
    rfl
  · obtain ⟨a, r, m, lo, hi, n, rfl, hR, hm, hlo, hhi, q⟩ := h
    refine ⟨_, (pss_cons (ps_if (pt_not (pt_chain op_lt op_lt (pv 2) (pv 4) (pv 3))) (pss_one (ps_ret (pe_tup (pa_cons (pv 2) (pa_cons (pv 3) pa_nil))))) pss_nil)
      (pss_one (ps_ret (pe_ifExp (pt_val (Disbehind.call (hr.mono (by decide)) (pa_cons (pv 0) (pa_cons (pv 1) (pa_cons (pv 4) pa_nil))))) (pe_tup (pa_cons (pv 2) (pa_cons (pv 4) pa_nil))) (pe_tup (pa_cons (pv 4) (pa_cons (pv 3) pa_nil))))))), ?_⟩
    refine ⟨_, rfl, _, rfl, _, _, rfl, rfl, _, rfl, ?_⟩
    unfold cutI at q
    have other : ¬ (lo < n ∧ n < hi) → ∀ p, H p = none → Q (.ref p) (upd H p (.tup [.int lo, .int hi])) := fun z p hp => by
      rw [if_neg z] at q
      exact q p _ (same_new hp) upd_same
    refine ite2 (fun h1 => ?_) (fun h1 => ?_)
    · refine ⟨_, rfl, _, _, rfl, rfl, _, rfl, ?_⟩
      have h1 := of_decide_eq_true h1
      by_cases h2 : n < hi
      · rw [decide_eq_true h2, if_pos ⟨h1, h2⟩] at *
        refine iteF ⟨_, rfl, _, rfl, _, rfl, a, r, m, n, rfl, hR, hm, bd_between hlo hhi (Int.le_of_lt h1) (Int.le_of_lt h2), fun H1 s1 => ⟨_, rfl, ?_⟩⟩
        refine ite2 (fun hb => ?_) (fun hb => ?_)
        · rw [if_pos (of_decide_eq_true hb)] at q
          exact ⟨_, rfl, _, rfl, by show 2 ≤ sizeLine; decide, fun p hp => q p _ (s1.trans (same_new hp)) upd_same⟩
        · rw [if_neg (fun z => hb (decide_eq_true z))] at q
          exact ⟨_, rfl, _, rfl, by show 2 ≤ sizeLine; decide, fun p hp => q p _ (s1.trans (same_new hp)) upd_same⟩
      · rw [decide_eq_false h2]
        exact iteT ⟨_, rfl, _, rfl, by show 2 ≤ sizeLine; decide, other fun z => h2 z.2⟩
    · exact ⟨_, rfl, iteT ⟨_, rfl, _, rfl, by show 2 ≤ sizeLine; decide, other fun z => h1 (decide_eq_true z.1)⟩⟩
/-! ### _narrowed -/
def spNar (K : PySem.W.Frag) : Sp := fun vs H Q _ => ∃ (q : Addr) (r : List Int) (m lo hi st : Int), vs = [.ref q, .int m, .int lo, .int hi, .int st] ∧ RowAt K H q r ∧ (m = 1 ∨ m = -1) ∧ Bd 863 lo ∧ Bd 863 hi ∧ Brk (evalR r) m lo hi ∧ 2 ≤ hi - lo ∧
  ∀ (t : Addr) (lo' hi' : Int) (H' : Hp), Same H H' → H' t = some (.tup [.int lo', .int hi']) → Brk (evalR r) m lo' hi' → lo ≤ lo' → hi' ≤ hi → hi' - lo' < hi - lo → Q (.ref t) H'
theorem scNar : FnScope ["row", "move", "low", "high", "step", "ahead", "behind", "guess", "middle"] ["row", "move", "low", "high", "step"] (defScope sNar) := ⟨rfl, rfl, rfl, by decide +kernel, rfl, by decide +kernel, by decide +kernel⟩
theorem RowAt.ev {K : PySem.W.Frag} {H : Hp} {q : Addr} {r : List Int} (h : RowAt K H q r) {n : Int} (hn : Bd 863 n) : Bd 6048 (evalR r n) := by
  have h1 := bd_eval hn r fun c hc => (h.b c hc).up (by decide)
  exact h1.up (Nat.mul_le_mul_left 864 h.l)
theorem Bd.m {b : Nat} {m x : Int} (hm : m = 1 ∨ m = -1) (h : Bd b x) : Bd b (m * x) := by
  unfold Bd at *
  rcases hm with rfl | rfl
  · rw [Int.one_mul]; exact h
  · rw [Int.neg_mul, Int.one_mul, Int.natAbs_neg]; exact h
theorem df_nar (A : At K mg "_narrowed" sNar) (Dvalueat : Df P w K mg base 1 "value_at" ["row", "n"] (spVal K)) (Dcut : Df P w K mg base 3 "_cut" ["row", "move", "low", "high", "n"] (spCut K)) : Df P w K mg base 4 "_narrowed" ["row", "move", "low", "high", "step"] (spNar K) := by
  obtain ⟨f, fd, hm, F⟩ := A.ex
  refine ⟨f, fd, hm, F.kp, F.binds (fun _ _ _ _ _ _ us hl => match us, hl with | [_, _, _, _, _], _ => rfl), F.ok scNar (fun vs H Q E h => ?_) (fun cdv A outer s H vs Q E hr h => ?_)⟩
  · obtain ⟨a, r, m, lo, hi, st, rfl, _⟩ := h
    rfl
  · obtain ⟨a, r, m, lo, hi, st, rfl, hR, hm, hlo, hhi, hB, h2, q⟩ := h
    refine ⟨_, (pss_cons (ps_set (i := 5) scNar.nd rfl (.inl rfl) (pe_op op_mul (pe_un un_neg (pv 1)) (Dvalueat.call (hr.mono (by decide)) (pa_cons (pv 0) (pa_cons (pv 2) pa_nil)))))
      (pss_cons (ps_set (i := 6) scNar.nd rfl (.inl rfl) (pe_op op_mul (pv 1) (Dvalueat.call (hr.mono (by decide)) (pa_cons (pv 0) (pa_cons (pv 3) pa_nil)))))
      (pss_cons (ps_set (i := 7) scNar.nd rfl (.inl rfl) (pe_op op_add (pv 2) (pe_op op_fdivW (pe_op op_mulW (pv 5) (pe_op op_sub (pv 3) (pv 2))) (pe_op op_add (pv 5) (pv 6)))))
      (pss_cons (ps_set (i := 8) scNar.nd rfl (.inl rfl) (pe_op op_fdivW (pe_op op_add (pv 2) (pv 3)) pe_int))
      (pss_cons (ps_asg (Dcut.call (hr.mono (by decide)) (pa_cons (pv 0) (pa_cons (pv 1) (pa_cons (pv 2) (pa_cons (pv 3) (pa_cons (pe_op op_sub (pv 7) (pv 4)) pa_nil)))))) (pg_tup (by rfl) (pgs_cons (pg_name (i := 2) scNar.nd rfl (.inl rfl)) (pgs_cons (pg_name (i := 3) scNar.nd rfl (.inl rfl)) pgs_nil))))
      (pss_cons (ps_asg (Dcut.call (hr.mono (by decide)) (pa_cons (pv 0) (pa_cons (pv 1) (pa_cons (pv 2) (pa_cons (pv 3) (pa_cons (pe_op op_add (pv 7) (pv 4)) pa_nil)))))) (pg_tup (by rfl) (pgs_cons (pg_name (i := 2) scNar.nd rfl (.inl rfl)) (pgs_cons (pg_name (i := 3) scNar.nd rfl (.inl rfl)) pgs_nil))))
      (pss_one (ps_ret (Dcut.call (hr.mono (by decide)) (pa_cons (pv 0) (pa_cons (pv 1) (pa_cons (pv 2) (pa_cons (pv 3) (pa_cons (pv 8) pa_nil)))))))))))))), ?_⟩
    have bc : ∀ c ∈ r, Bd 3000 c := fun c hc => (hR.b c hc).up (by decide)
    have l8 := Nat.le_succ_of_le hR.l
    have mn : -m = 1 ∨ -m = -1 := by omega
    -- ahead, behind
    refine ⟨_, rfl, _, rfl, _, rfl, _, rfl, a, r, lo, rfl, hR.s, l8, bc, hlo.up (by decide), fun H1 s1 => ?_⟩
    refine ⟨_, _, rfl, rfl, .inl (m_small mn), ?_⟩
    refine ⟨_, rfl, _, rfl, _, rfl, a, r, hi, rfl, (hR.same s1).s, l8, bc, hhi.up (by decide), fun H2 s2 => ?_⟩
    refine ⟨_, _, rfl, rfl, .inl (m_small hm), ?_⟩
    have pa : 0 < -m * evalR r lo := by have := hB.a; rw [Int.neg_mul]; omega
    have pb : 0 ≤ m * evalR r hi := hB.o
    have ba := Bd.m mn (hR.ev hlo)
    have bb := Bd.m hm (hR.ev hhi)
    have bh : Bd 864 (hi - lo) := by
      have e : hi - lo = hi * 1 + -lo := by omega
      rw [e]
      have bl : Bd 863 (-lo) := by unfold Bd at *; rw [Int.natAbs_neg]; exact hlo
      unfold Bd at *
      have := Int.natAbs_add_le (hi * 1) (-lo)
      rw [Int.mul_one] at this
      rw [Int.mul_one, show (2 : Nat) ^ 864 = 2 ^ 863 + 2 ^ 863 from by rw [← Nat.two_mul, ← Nat.pow_succ']]
      omega
    have bd : Bd 6049 (-m * evalR r lo + m * evalR r hi) := by
      unfold Bd at *
      have := Int.natAbs_add_le (-m * evalR r lo) (m * evalR r hi)
      rw [show (2 : Nat) ^ 6049 = 2 ^ 6048 + 2 ^ 6048 from by rw [← Nat.two_mul, ← Nat.pow_succ']]
      omega
    refine ⟨_, rfl, _, rfl, _, rfl, _, rfl, _, _, rfl, rfl, _, _, rfl, rfl, wide_mul ba bh (by decide) (by decide) (by decide), _, rfl, _, rfl, _, _, rfl, rfl, _, _, rfl, rfl, wide_div (Int.add_pos_of_pos_of_nonneg pa pb) bd (by decide) (by decide), _, _, rfl, rfl, ?_⟩
    dsimp only
    generalize lo + -m * evalR r lo * (hi - lo) / (-m * evalR r lo + m * evalR r hi) = g
    -- middle
    refine ⟨_, rfl, _, rfl, _, _, rfl, rfl, _, _, rfl, rfl, wide_div (b := 2) (by decide) (by decide) (by decide) (by decide), ?_⟩
    -- first cut
    have hR2 := (hR.same s1).same s2
    refine ⟨_, rfl, _, rfl, _, rfl, _, rfl, _, rfl, _, rfl, _, _, rfl, rfl, a, r, m, lo, hi, g - st, rfl, hR2, hm, hlo.up (by decide), hhi.up (by decide), fun t1 H3 s3 e3 => ?_⟩
    obtain ⟨hB1, l1, u1, _⟩ := hB.cut (n := g - st)
    generalize hc1 : cutI (evalR r) m lo hi (g - st) = c1 at hB1 l1 u1 e3 ⊢
    obtain ⟨lo1, hi1⟩ := c1
    dsimp only at hB1 l1 u1 e3
    refine ⟨t1, _, rfl, .inl (.inl e3), rfl, _, _, rfl, _, _, rfl, rfl, ?_⟩
    have b1 : Bd 863 lo1 := bd_between hlo hhi l1 (by have := hB1.lt; omega)
    have c1 : Bd 863 hi1 := bd_between hlo hhi (by have := hB1.lt; omega) u1
    refine ⟨_, rfl, _, rfl, _, rfl, _, rfl, _, rfl, _, rfl, _, _, rfl, rfl, a, r, m, lo1, hi1, g + st, rfl, hR2.same s3, hm, b1.up (by decide), c1.up (by decide), fun t2 H4 s4 e4 => ?_⟩
    obtain ⟨hB2, l2, u2, _⟩ := hB1.cut (n := g + st)
    generalize hc2 : cutI (evalR r) m lo1 hi1 (g + st) = c2 at hB2 l2 u2 e4 ⊢
    obtain ⟨lo2, hi2⟩ := c2
    dsimp only at hB2 l2 u2 e4
    refine ⟨t2, _, rfl, .inl (.inl e4), rfl, _, _, rfl, _, _, rfl, rfl, ?_⟩
    have b2 : Bd 863 lo2 := bd_between b1 c1 l2 (by have := hB2.lt; omega)
    have c2 : Bd 863 hi2 := bd_between b1 c1 (by have := hB2.lt; omega) u2
    refine ⟨_, rfl, _, rfl, _, rfl, _, rfl, _, rfl, a, r, m, lo2, hi2, (lo + hi) / 2, rfl, (hR2.same s3).same s4, hm, b2.up (by decide), c2.up (by decide), fun t3 H5 s5 e5 => ?_⟩
    obtain ⟨hB3, l3, u3, d3⟩ := hB2.cut (n := (lo + hi) / 2)
    refine q t3 _ _ H5 (((s1.trans s2).trans s3).trans (s4.trans s5)) e5 hB3 (by omega) (by omega) ?_
    by_cases z : lo2 < (lo + hi) / 2 ∧ (lo + hi) / 2 < hi2
    · have := d3 z.1 z.2
      omega
    · omega
end
end Ef
set_option Elab.async false
set_option linter.all false
set_option maxRecDepth 100000
set_option maxHeartbeats 4000000
set_option exponentiation.threshold 20
namespace Ef
open PySem PySem.Spec PyProof.Rows L2
/-- the row r, moving by m from a to e, comes from ahead of 0 to 0 or behind it -/
structure Way (r : List Int) (m a : Int) (e : Option Int) : Prop where
  hm : m = 1 ∨ m = -1
  mv : Mv (evalR r) m a e
  up : Upto a e
  st : m * evalR r a < 0
  en : ∀ y, e = some y → 0 ≤ m * evalR r y ∧ y ≤ 2 ^ 860
  far : ∀ n, 2 ^ 860 ≤ n → Out (evalR r) m e n
  lo : -(2 ^ 860) ≤ a
  hi : a ≤ 2 ^ 860
theorem pw_le {a b : Nat} (h : a ≤ b) : (2 : Int) ^ a ≤ 2 ^ b := by exact_mod_cast Nat.pow_le_pow_right (by decide) h
theorem pw_pos (a : Nat) : (0 : Int) < 2 ^ a := by exact_mod_cast Nat.pow_pos (n := a) (by decide : 0 < 2)
theorem pw_succ (a : Nat) : (2 : Int) ^ (a + 1) = 2 * 2 ^ a := by rw [Int.pow_succ]; omega
theorem bd_of {b : Nat} {x : Int} (h1 : -(2 ^ b) < x) (h2 : x < 2 ^ b) : Bd b x := by
  unfold Bd
  have : ((2 : Int) ^ b) = ((2 ^ b : Nat) : Int) := by exact_mod_cast rfl
  omega
theorem Bd.lt {b : Nat} {x : Int} (h : Bd b x) : -(2 ^ b) < x ∧ x < 2 ^ b := by
  unfold Bd at h
  have : ((2 : Int) ^ b) = ((2 ^ b : Nat) : Int) := by exact_mod_cast rfl
  omega
section
variable {P : Program} {w : World} {K : PySem.W.Frag} {mg : Str → Option Value} {base : Heap}
def spBra (K : PySem.W.Frag) : Sp := fun vs H Q _ => ∃ (q : Addr) (r : List Int) (m a : Int) (e : Option Int), vs = [.ref q, .int m, .int a, lv e] ∧ RowAt K H q r ∧ Way r m a e ∧
  ∀ (t : Addr) (lo hi : Int) (H' : Hp), Same H H' → H' t = some (.tup [.int lo, .int hi]) → Brk (evalR r) m lo hi → a ≤ lo → Upto hi e → hi ≤ 2 ^ 862 → Q (.ref t) H'
theorem scBra : FnScope ["row", "move", "first", "last", "small", "great", "middle", "low", "high"] ["row", "move", "first", "last"] (defScope sBra) := ⟨rfl, rfl, rfl, by decide +kernel, rfl, by decide +kernel, by decide +kernel⟩
theorem shl_ok {g : Nat} (h : g ≤ 2000) : CShl 1 (g : Int) := by
  refine ⟨by omega, ?_⟩
  have e : (Builtin.Int.intBits 1 : Int) = 1 := by decide +kernel
  rw [e]
  have : (2 : Int) ^ 27 = 134217728 := by decide
  omega
theorem bd_place {a : Int} {g : Nat} (h1 : -(2 ^ 860) ≤ a) (h2 : a ≤ 2 ^ 860) (hg : g ≤ 2000) : Bd 3000 (a + 1 * 2 ^ (g : Int).toNat) := by
  rw [Int.toNat_natCast, Int.one_mul]
  have e1 := pw_le hg
  have e2 := pw_le (show 860 ≤ 2000 by decide)
  have e3 := pw_le (show 2001 ≤ 3000 by decide)
  have e4 := pw_succ 2000
  have e5 := pw_pos g
  have e6 := pw_pos 860
  exact bd_of (by omega) (by omega)
theorem df_bra (A : At K mg "_bracket" sBra) (Disout : Df P w K mg base 3 "_is_out" ["row", "move", "n", "last"] (spOut K)) : Df P w K mg base 4 "_bracket" ["row", "move", "first", "last"] (spBra K) := by
  obtain ⟨f, fd, hm, F⟩ := A.ex
  refine ⟨f, fd, hm, F.kp, F.binds (fun _ _ _ _ _ _ us hl => match us, hl with | [_, _, _, _], _ => rfl), F.ok scBra (fun vs H Q E h => ?_) (fun cdv A outer s H vs Q E hr h => ?_)⟩
  · obtain ⟨q, r, m, a, e, rfl, _⟩ := h
    rfl
  · obtain ⟨p, r, m, a, e, rfl, hR, hW, q⟩ := h
    refine ⟨_, (pss_cons (ps_asg (pe_tup (pa_cons (pe_un un_neg pe_int) (pa_cons pe_int pa_nil))) (pg_tup (by rfl) (pgs_cons (pg_name (i := 4) scBra.nd rfl (.inl rfl)) (pgs_cons (pg_name (i := 5) scBra.nd rfl (.inl rfl)) pgs_nil))))
      (pss_cons (ps_while PassesOwn.never (pt_not (pt_val (Disout.call (hr.mono (by decide)) (pa_cons (pv 0) (pa_cons (pv 1) (pa_cons (pe_op op_add (pv 2) (pe_op op_shlW pe_int (pv 5))) (pa_cons (pv 3) pa_nil)))))))
      (pss_one (ps_par (i := 4) (j := 5) (by rfl) scBra.nd rfl rfl (by decide) rfl rfl (pa_cons (pv 5) (pa_cons (pe_op op_add (pe_op op_mul pe_int (pv 5)) pe_int) pa_nil)) (by rfl))))
      (pss_cons (ps_while PassesOwn.never (pt_cmpR op_gt (pe_op op_sub (pv 5) (pv 4)) pe_int (nomark _))
      (pss_cons (ps_set (i := 6) scBra.nd rfl (.inl rfl) (pe_op op_fdivW (pe_op op_add (pv 4) (pv 5)) pe_int))
      (pss_one (ps_if (pt_val (Disout.call (hr.mono (by decide)) (pa_cons (pv 0) (pa_cons (pv 1) (pa_cons (pe_op op_add (pv 2) (pe_op op_shlW pe_int (pv 6))) (pa_cons (pv 3) pa_nil)))))) (pss_one (ps_set (i := 5) scBra.nd rfl (.inl rfl) (pv 6))) (pss_one (ps_set (i := 4) scBra.nd rfl (.inl rfl) (pv 6)))))))
      (pss_cons (ps_set (i := 7) scBra.nd rfl (.inl rfl) (pe_ifExp (pt_cmpR op_lt (pv 4) pe_int (nomark _)) (pv 2) (pe_op op_add (pv 2) (pe_op op_shlW pe_int (pv 4)))))
      (pss_cons (ps_set (i := 8) scBra.nd rfl (.inl rfl) (pe_op op_add (pv 2) (pe_op op_shlW pe_int (pv 5))))
      (pss_cons (ps_if (pw_and (pt_cmpR op_notN (pv 3) pe_non (nomark _)) (pw_and1 (pt_cmpR op_lt (pv 3) (pv 8) (nomark _)))).pt (pss_one (ps_ret (pe_tup (pa_cons (pv 7) (pa_cons (pv 3) pa_nil))))) pss_nil)
      (pss_one (ps_ret (pe_tup (pa_cons (pv 7) (pa_cons (pv 8) pa_nil))))))))))), ?_⟩
    have far : ∀ g : Nat, 862 ≤ g → Out (evalR r) m e (a + 2 ^ g) := fun g hg => hW.far _ (by
      have e1 := pw_le hg
      have e2 := pw_succ 860
      have e3 := pw_succ 861
      have e4 := pw_pos 860
      have := hW.lo
      omega)
    refine ⟨_, rfl, by show 2 ≤ sizeLine; decide, fun t0 ht0 => ⟨t0, _, rfl, .inl (.inl upd_same), rfl, _, _, rfl, _, _, rfl, rfl, ?_⟩⟩
    have s0 := same_new (o := .tup [.int (-1), .int 0]) ht0
    generalize upd H t0 (.tup [.int (-1), .int 0]) = H0 at s0 ⊢
    -- the first loop
    refine ⟨fun n σ H' => ∃ (k g : Nat), Same H H' ∧ σ = [some (.ref p), some (.int m), some (.int a), some (lv e), some (.int ((k : Int) - 1)), some (.int (g : Int)), none, none, none] ∧ k ≤ g ∧ g ≤ 1726 ∧ n = 1727 - g ∧ (k = 0 ∨ ¬ Out (evalR r) m e (a + 2 ^ (k - 1))),
      ⟨1727, 0, 0, s0, rfl, Nat.le_refl _, by omega, rfl, .inl rfl⟩, fun n σ H1 hI => ?_⟩
    obtain ⟨k, g, s1, rfl, hkg, hg, rfl, hk⟩ := hI
    refine ⟨_, rfl, _, rfl, _, rfl, _, rfl, _, _, rfl, rfl, shl_ok (by omega), _, _, rfl, rfl, _, rfl, p, r, m, _, e, rfl, hR.same s1, hW.hm, bd_place hW.lo hW.hi (by omega), fun H2 s2 => ⟨_, rfl, ?_⟩⟩
    rw [Int.toNat_natCast, Int.one_mul]
    by_cases ho : Out (evalR r) m e (a + 2 ^ g)
    case neg =>
      rw [decide_eq_false ho]
      have hlt : g < 862 := by
        rcases Nat.lt_or_ge g 862 with z | z
        · exact z
        · exact absurd (far g z) ho
      refine iteT ⟨fun σ H' => Same H H' ∧ σ = [some (.ref p), some (.int m), some (.int a), some (lv e), some (.int (((g + 1 : Nat) : Int) - 1)), some (.int ((2 * g + 1 : Nat) : Int)), none, none, none], fun σ' H' hN => ⟨1727 - (2 * g + 1), by omega, g + 1, 2 * g + 1, hN.1, hN.2, by omega, by omega, rfl, .inr ho⟩, ?_⟩
      refine ⟨_, rfl, _, rfl, _, _, rfl, rfl, .inl ⟨by decide, by decide⟩, _, _, rfl, rfl, _, _, rfl, s1.trans s2, ?_⟩
      show [_, _, _, _, some (V.int (g : Int)), some (V.int (2 * (g : Int) + 1)), _, _, _] = _
      rw [show ((g + 1 : Nat) : Int) - 1 = (g : Int) by omega, show 2 * (g : Int) + 1 = ((2 * g + 1 : Nat) : Int) by omega]
    case pos =>
      rw [decide_eq_true ho]
      refine iteF ?_
      -- the second loop
      have s12 := s1.trans s2
      refine ⟨fun n σ H' => ∃ (k g : Nat) (y : Option V), Same H H' ∧ σ = [some (.ref p), some (.int m), some (.int a), some (lv e), some (.int ((k : Int) - 1)), some (.int (g : Int)), y, none, none] ∧ k ≤ g ∧ g ≤ 1726 ∧ n = g - k ∧ (k = 0 ∨ ¬ Out (evalR r) m e (a + 2 ^ (k - 1))) ∧ Out (evalR r) m e (a + 2 ^ g),
        ⟨g - k, k, g, none, s12, rfl, hkg, hg, rfl, hk, ho⟩, fun n σ H3 hI => ?_⟩
      clear s1 s2 hk ho hkg hg s12
      obtain ⟨k, g, y, s1, rfl, hkg, hg, rfl, hk, ho⟩ := hI
      refine ⟨_, rfl, _, rfl, _, _, rfl, rfl, _, _, rfl, rfl, _, rfl, ?_⟩
      refine ite2 (fun hb => ?_) (fun hb => ?_)
      · have hb := of_decide_eq_true hb
        refine ⟨fun σ H' => ∃ (k' g' : Nat) (y : Option V), g' - k' < g - k ∧ Same H H' ∧ σ = [some (.ref p), some (.int m), some (.int a), some (lv e), some (.int ((k' : Int) - 1)), some (.int (g' : Int)), y, none, none] ∧ k' ≤ g' ∧ g' ≤ 1726 ∧ (k' = 0 ∨ ¬ Out (evalR r) m e (a + 2 ^ (k' - 1))) ∧ Out (evalR r) m e (a + 2 ^ g'),
          fun σ' H' hN => ?_, ?_⟩
        · obtain ⟨k', g', y, h1, h2, h3, h4, h5, h6, h7⟩ := hN
          exact ⟨_, h1, k', g', y, h2, h3, h4, h5, rfl, h6, h7⟩
        refine ⟨_, rfl, _, rfl, _, _, rfl, rfl, _, _, rfl, rfl, wide_div (b := 2) (by decide) (by decide) (by decide) (by decide), ?_⟩
        obtain ⟨x, ex, x1, x2⟩ : ∃ x : Nat, ((k : Int) - 1 + (g : Int)) / 2 = (x : Int) ∧ k ≤ x ∧ x < g := ⟨((k : Int) - 1 + (g : Int)).toNat / 2, by omega, by omega, by omega⟩
        dsimp only
        rw [ex]
        refine ⟨_, rfl, _, rfl, _, rfl, _, rfl, _, _, rfl, rfl, shl_ok (by omega), _, _, rfl, rfl, _, rfl, p, r, m, _, e, rfl, hR.same s1, hW.hm, bd_place hW.lo hW.hi (by omega), fun H4 s4 => ⟨_, rfl, ?_⟩⟩
        rw [Int.toNat_natCast, Int.one_mul]
        refine ite2 (fun hc => ?_) (fun hc => ?_)
        · exact ⟨_, rfl, k, x, _, by omega, s1.trans s4, rfl, by omega, by omega, hk, of_decide_eq_true hc⟩
        · refine ⟨_, rfl, x + 1, g, some (.int (x : Int)), by omega, s1.trans s4, ?_, by omega, by omega, .inr fun z => hc (decide_eq_true z), ho⟩
          show [_, _, _, _, some (V.int (x : Int)), _, _, _, _] = _
          rw [show ((x + 1 : Nat) : Int) - 1 = (x : Int) by omega]
      · have hgk : g = k := by
          have : ¬ (1 : Int) < (g : Int) - ((k : Int) - 1) := fun z => hb (decide_eq_true z)
          omega
        subst hgk
        clear hb hkg
        have pg := pw_pos g
        have p860 := pw_pos 860
        have p861 := pw_succ 860
        have p862 := pw_succ 861
        have wlo := hW.lo
        have whi := hW.hi
        refine ⟨_, rfl, _, _, rfl, rfl, _, rfl, ?_⟩
        refine ite2 ?g1 ?g2
        case' g1 =>
          intro hs
          have g0 : g = 0 := by have := of_decide_eq_true hs; omega
          refine ⟨_, rfl, ?_⟩
          obtain ⟨lo, elo, l1, l2, l3, l4, l5⟩ : ∃ lo : Int, a = lo ∧ a ≤ lo ∧ m * evalR r lo < 0 ∧ (∀ y, e = some y → lo < y) ∧ lo < a + 2 ^ g ∧ a + 2 ^ g ≤ 2 ^ 862 := by
            refine ⟨a, rfl, Int.le_refl a, hW.st, fun y ey => ?_, by omega, ?_⟩
            · have h1 := hW.up
              rw [ey] at h1
              have h1 : a ≤ y := h1
              have h2 := (hW.en y ey).1
              have h3 := hW.st
              rcases Int.lt_or_le a y with z | z
              · exact z
              · rw [show y = a by omega] at h2; omega
            · rw [g0, Int.pow_zero]; omega
        case' g2 =>
          intro hs
          have g1 : 1 ≤ g := by
            rcases Nat.eq_zero_or_pos g with z | z
            · exact absurd (decide_eq_true (show (g : Int) - 1 < 0 by omega)) hs
            · exact z
          have hno : ¬ Out (evalR r) m e (a + 2 ^ (g - 1)) := hk.elim (fun z => by omega) id
          refine ⟨_, rfl, _, rfl, _, _, rfl, rfl, (by have := shl_ok (g := g - 1) (by omega); rw [show ((g - 1 : Nat) : Int) = (g : Int) - 1 by omega] at this; exact this), _, _, rfl, rfl, ?_⟩
          dsimp only
          rw [Int.one_mul, show ((g : Int) - 1).toNat = g - 1 by omega]
          obtain ⟨lo, elo, l1, l2, l3, l4, l5⟩ : ∃ lo : Int, a + 2 ^ (g - 1) = lo ∧ a ≤ lo ∧ m * evalR r lo < 0 ∧ (∀ y, e = some y → lo < y) ∧ lo < a + 2 ^ g ∧ a + 2 ^ g ≤ 2 ^ 862 := by
            have pg1 := pw_pos (g - 1)
            have e2 := pw_succ (g - 1)
            rw [show g - 1 + 1 = g by omega] at e2
            refine ⟨_, rfl, by omega, ?_, fun y ey => ?_, by omega, ?_⟩
            · rcases Int.lt_or_le (m * evalR r (a + 2 ^ (g - 1))) 0 with z | z
              · exact z
              · exact absurd (.inr z) hno
            · rcases Int.lt_or_le (a + 2 ^ (g - 1)) y with z | z
              · exact z
              · exact absurd (.inl ⟨y, ey, z⟩) hno
            · rcases Int.lt_or_le (a + 2 ^ (g - 1)) (2 ^ 860) with z | z
              · omega
              · exact absurd (hW.far _ z) hno
          rw [elo]
        all_goals
          refine ⟨_, rfl, _, rfl, _, _, rfl, rfl, shl_ok (by omega), _, _, rfl, rfl, ?_⟩
          dsimp only
          rw [Int.toNat_natCast, Int.one_mul]
          refine ⟨_, rfl, rfl, _, rfl, ?_⟩
          cases e with
          | none =>
            have hz : 0 ≤ m * evalR r (a + 2 ^ g) := ho.elim (fun z => by obtain ⟨y, z, _⟩ := z; cases z) id
            refine iteF (iteF ⟨_, rfl, _, rfl, by show 2 ≤ sizeLine; decide, fun p hp => ?_⟩)
            first
              | exact q p _ _ _ (s1.trans (same_new hp)) upd_same ⟨l4, l2, hz⟩ l1 trivial l5
              | (subst elo; exact q p _ _ _ (s1.trans (same_new hp)) upd_same ⟨l4, l2, hz⟩ l1 trivial l5)
          | some y =>
            have ly := l3 y rfl
            have hy := hW.en y rfl
            refine iteT ⟨_, rfl, _, rfl, _, _, rfl, rfl, _, rfl, ?_⟩
            refine ite2 (fun hb => ?_) (fun hb => ?_)
            · have hb := of_decide_eq_true hb
              refine ⟨_, rfl, _, rfl, by show 2 ≤ sizeLine; decide, fun p hp => ?_⟩
              first
                | exact q p _ _ _ (s1.trans (same_new hp)) upd_same ⟨ly, l2, hy.1⟩ l1 (Int.le_refl y) (by omega)
                | (subst elo; exact q p _ _ _ (s1.trans (same_new hp)) upd_same ⟨ly, l2, hy.1⟩ l1 (Int.le_refl y) (by omega))
            · have hb : a + 2 ^ g ≤ y := by
                rcases Int.lt_or_le y (a + 2 ^ g) with z | z
                · exact absurd (decide_eq_true z) hb
                · exact z
              have hz : 0 ≤ m * evalR r (a + 2 ^ g) := ho.elim (fun z => by
                obtain ⟨y', z, z2⟩ := z
                cases z
                rw [show a + 2 ^ g = y by omega]
                exact hy.1) id
              refine ⟨_, rfl, _, rfl, by show 2 ≤ sizeLine; decide, fun p hp => ?_⟩
              first
                | exact q p _ _ _ (s1.trans (same_new hp)) upd_same ⟨l4, l2, hz⟩ l1 hb l5
                | (subst elo; exact q p _ _ _ (s1.trans (same_new hp)) upd_same ⟨l4, l2, hz⟩ l1 hb l5)
end
end Ef
set_option Elab.async false
set_option linter.all false
set_option maxRecDepth 100000
set_option maxHeartbeats 4000000
set_option exponentiation.threshold 20
namespace Ef
open PySem PySem.Spec PyProof.Rows L2
theorem two_row {r : List Int} (h : r.length = 2) : ∃ c d, r = [c, d] ∧ ∀ n, evalR r n = d * n + c := by
  match r, h with
  | [c, d], _ => exact ⟨c, d, rfl, fun n => by show ((0 * n + d) * n + c) = _; rw [Int.zero_mul, Int.zero_add]⟩
/-- where a line comes to 0 -/
theorem line_cross {r : List Int} {m a c d : Int} {e : Option Int} (hW : Way r m a e) (hf : ∀ n, evalR r n = d * n + c) : d ≠ 0 ∧ a < -(c.fdiv d) ∧ Cross (evalR r) m a e (-(c.fdiv d)) := by
  have hm := hW.hm
  have h1 := hW.mv a (Int.le_refl a) hW.up
  rw [hf, hf] at h1
  have hd : 1 ≤ m * d := by
    rw [show d * (a + 1) + c - (d * a + c) = d by rw [Int.mul_add, Int.mul_one]; omega] at h1
    exact h1
  have d0 : d ≠ 0 := fun z => by rw [z, Int.mul_zero] at hd; omega
  have eq : c.fdiv d = (m * c) / (m * d) := by
    rcases hm with rfl | rfl
    · rw [Int.one_mul, Int.one_mul] at *
      exact Int.fdiv_eq_ediv_of_nonneg c (by omega)
    · rw [show -1 * c = -c by omega, show -1 * d = -d by omega] at *
      rw [← Int.fdiv_eq_ediv_of_nonneg (-c) (show 0 ≤ -d by omega), Int.neg_fdiv_neg]
  generalize hq : (m * c) / (m * d) = q at eq
  have k1 : m * d * q ≤ m * c := by rw [← hq]; exact Int.mul_ediv_self_le (by omega)
  have k2 : m * c < m * d * q + m * d := by
    have := Int.lt_mul_ediv_self_add (x := m * c) (k := m * d) (by omega)
    rw [hq] at this
    exact this
  have ev : ∀ n, m * evalR r n = m * d * n + m * c := fun n => by rw [hf, Int.mul_add, Int.mul_assoc]
  have st := hW.st
  rw [ev] at st
  rw [eq]
  have out : 0 ≤ m * evalR r (-q) := by rw [ev, Int.mul_neg]; omega
  have ahead : ∀ n, n < -q → m * evalR r n < 0 := fun n hn => by
    rw [ev]
    have h2 : m * d * n ≤ m * d * (-q - 1) := Int.mul_le_mul_of_nonneg_left (by omega) (by omega)
    rw [Int.mul_sub, Int.mul_neg, Int.mul_one] at h2
    omega
  have lt : a < -q := by
    rcases Int.lt_or_le a (-q) with z | z
    · exact z
    · have h2 : m * d * -q ≤ m * d * a := Int.mul_le_mul_of_nonneg_left z (by omega)
      rw [Int.mul_neg] at h2
      omega
  refine ⟨d0, lt, by omega, ?_, out, fun n _ hn => ahead n hn⟩
  cases e with
  | none => trivial
  | some y =>
    have h3 := (hW.en y rfl).1
    rcases Int.lt_or_le y (-q) with z | z
    · have := ahead y z; omega
    · exact z
section
variable {P : Program} {w : World} {K : PySem.W.Frag} {mg : Str → Option Value} {base : Heap}
def spCro (K : PySem.W.Frag) : Sp := fun vs H Q _ => ∃ (q : Addr) (r : List Int) (m a : Int) (e : Option Int), vs = [.ref q, .int m, .int a, lv e] ∧ RowAt K H q r ∧ Way r m a e ∧
  ∀ (c : Int) (H' : Hp), Same H H' → Cross (evalR r) m a e c → a < c → Q (.int c) H'
theorem scCro : FnScope ["row", "move", "first", "last", "low", "high", "parts", "step"] ["row", "move", "first", "last"] (defScope sCro) := ⟨rfl, rfl, rfl, by decide +kernel, rfl, by decide +kernel, by decide +kernel⟩
theorem df_cro (A : At K mg "_crossing" sCro) (T : TxtR mg) (Dbracket : Df P w K mg base 4 "_bracket" ["row", "move", "first", "last"] (spBra K)) (Dnarrowed : Df P w K mg base 4 "_narrowed" ["row", "move", "low", "high", "step"] (spNar K)) (Dcut : Df P w K mg base 3 "_cut" ["row", "move", "low", "high", "n"] (spCut K)) :
    Df P w K mg base 5 "_crossing" ["row", "move", "first", "last"] (spCro K) := by
  obtain ⟨f, fd, hm, F⟩ := A.ex
  obtain ⟨tW, eW⟩ := T.wide
  refine ⟨f, fd, hm, F.kp, F.binds (fun _ _ _ _ _ _ us hl => match us, hl with | [_, _, _, _], _ => rfl), F.ok scCro (fun vs H Q E h => ?_) (fun cdv A outer s H vs Q E hr h => ?_)⟩
  · obtain ⟨q, r, m, a, e, rfl, _⟩ := h
    rfl
  · obtain ⟨p, r, m, a, e, rfl, hR, hW, q⟩ := h
    refine ⟨_, (pss_cons (ps_if (pt_cmpR op_eq (pe_callB call_len_seq (by rfl) T.len PySem.boot_len (pa_cons (pv 0) pa_nil)) pe_int (nomark _)) (pss_one (ps_ret (pe_un un_neg (pe_op op_fdivZ (pe_ix ix_seq (pv 0) pe_int (fun _ _ => rfl)) (pe_ix ix_seq (pv 0) pe_int (fun _ _ => rfl)))))) pss_nil)
      (pss_cons (ps_asg (Dbracket.call (hr.mono (by decide)) (pa_cons (pv 0) (pa_cons (pv 1) (pa_cons (pv 2) (pa_cons (pv 3) pa_nil))))) (pg_tup (by rfl) (pgs_cons (pg_name (i := 4) scCro.nd rfl (.inl rfl)) (pgs_cons (pg_name (i := 5) scCro.nd rfl (.inl rfl)) pgs_nil))))
      (pss_cons (ps_set (i := 6) scCro.nd rfl (.inl rfl) pe_int)
      (pss_cons (ps_while PassesOwn.never (pt_cmpR op_gt (pe_op op_sub (pv 5) (pv 4)) (pe_glob (v := .int 64) rfl eW ⟨_, rfl⟩) (nomark _))
      (pss_cons (ps_set (i := 7) scCro.nd rfl (.inl rfl) (pe_op op_add (pe_op op_fdivW (pe_op op_sub (pv 5) (pv 4)) (pv 6)) pe_int))
      (pss_cons (ps_asg (Dnarrowed.call (hr.mono (by decide)) (pa_cons (pv 0) (pa_cons (pv 1) (pa_cons (pv 4) (pa_cons (pv 5) (pa_cons (pv 7) pa_nil)))))) (pg_tup (by rfl) (pgs_cons (pg_name (i := 4) scCro.nd rfl (.inl rfl)) (pgs_cons (pg_name (i := 5) scCro.nd rfl (.inl rfl)) pgs_nil))))
      (pss_one (ps_set (i := 6) scCro.nd rfl (.inl rfl) (pe_ifExp (pt_cmpR op_le (pe_op op_sub (pv 5) (pv 4)) (pe_op op_mul pe_int (pv 7)) (nomark _)) (pe_op op_mulW (pv 6) (pv 6)) pe_int))))))
      (pss_cons (ps_while PassesOwn.never (pt_cmpR op_gt (pe_op op_sub (pv 5) (pv 4)) pe_int (nomark _))
      (pss_one (ps_asg (Dcut.call (hr.mono (by decide)) (pa_cons (pv 0) (pa_cons (pv 1) (pa_cons (pv 4) (pa_cons (pv 5) (pa_cons (pe_op op_fdivW (pe_op op_add (pv 4) (pv 5)) pe_int) pa_nil)))))) (pg_tup (by rfl) (pgs_cons (pg_name (i := 4) scCro.nd rfl (.inl rfl)) (pgs_cons (pg_name (i := 5) scCro.nd rfl (.inl rfl)) pgs_nil))))))
      (pss_one (ps_ret (pv 5)))))))), ?_⟩
    refine ⟨_, rfl, p, _, rfl, hR.s, rfl, _, rfl, ?_⟩
    rw [List.length_map, dint]
    refine ite2 (fun hb => ?_) (fun hb => ?_)
    · have h2 : r.length = 2 := by have := of_decide_eq_true hb; omega
      obtain ⟨c, d, er, hf⟩ := two_row h2
      obtain ⟨d0, lt, hX⟩ := line_cross hW hf
      have hS := hR.s
      have bd := hR.b d (by rw [er]; exact List.mem_cons_of_mem _ List.mem_cons_self)
      refine ⟨_, rfl, ix_seqs hS (at_of (j := 0) (v := .int c) rfl (by rw [er]; rfl)) ⟨_, rfl, ix_seqs hS (at_of (j := 1) (v := .int d) rfl (by rw [er]; rfl)) ⟨_, _, rfl, rfl, wide_divZ d0 bd (by decide) (by decide), _, rfl, q _ H (Same.refl H) hX lt⟩⟩⟩
    · have wlo := hW.lo
      have whi := hW.hi
      have p860 := pw_pos 860
      have p861 := pw_succ 860
      have p862 := pw_succ 861
      have p863 := pw_succ 862
      have bdp : ∀ x, a ≤ x → x ≤ 2 ^ 862 → Bd 863 x := fun x h1 h2 => bd_of (by omega) (by omega)
      refine ⟨_, rfl, _, rfl, _, rfl, _, rfl, p, r, m, a, e, rfl, hR, hW, fun t1 lo hi H1 s1 e1 hB l1 u1 v1 => ⟨t1, _, rfl, .inl (.inl e1), rfl, _, _, rfl, _, _, rfl, rfl, ?_⟩⟩
      -- the first loop
      refine ⟨fun n σ H' => ∃ (lo hi pt : Int) (y : Option V), Same H H' ∧ σ = [some (.ref p), some (.int m), some (.int a), some (lv e), some (.int lo), some (.int hi), some (.int pt), y] ∧ n = (hi - lo).toNat ∧ Brk (evalR r) m lo hi ∧ a ≤ lo ∧ Upto hi e ∧ hi ≤ 2 ^ 862 ∧ 1 ≤ pt ∧ (64 < hi - lo → pt ≤ 2 ^ 864 * 2 ^ 864),
        ⟨_, lo, hi, 4, none, s1, rfl, rfl, hB, l1, u1, v1, by omega, fun _ => by
          have e1 := pw_succ 863
          have h2 : (2 : Int) ^ 864 * 1 ≤ 2 ^ 864 * 2 ^ 864 := Int.mul_le_mul_of_nonneg_left (by omega) (by omega)
          omega⟩, fun n σ H2 hI => ?_⟩
      clear s1 e1 hB l1 u1 v1
      obtain ⟨lo, hi, pt, y, s1, rfl, rfl, hB, l1, u1, v1, pp, pb⟩ := hI
      have hlt := hB.lt
      refine ⟨_, rfl, _, rfl, _, _, rfl, rfl, _, _, rfl, rfl, _, rfl, ?_⟩
      refine ite2 (fun hc => ?_) (fun hc => ?_)
      · have hc := of_decide_eq_true hc
        have pb := pb hc
        have blo := bdp lo l1 (by omega)
        have bhi := bdp hi (by omega) v1
        have bpt : Bd 1729 pt := by
          have e1 := pw_succ 1728
          have e2 : (2 : Int) ^ 864 * 2 ^ 864 = 2 ^ 1728 := by rw [← Int.pow_add]
          have e3 := pw_pos 1728
          exact bd_of (by omega) (by omega)
        refine ⟨fun σ H' => ∃ (lo' hi' pt' : Int) (y : Option V), (hi' - lo').toNat < (hi - lo).toNat ∧ Same H H' ∧ σ = [some (.ref p), some (.int m), some (.int a), some (lv e), some (.int lo'), some (.int hi'), some (.int pt'), y] ∧ Brk (evalR r) m lo' hi' ∧ a ≤ lo' ∧ Upto hi' e ∧ hi' ≤ 2 ^ 862 ∧ 1 ≤ pt' ∧ (64 < hi' - lo' → pt' ≤ 2 ^ 864 * 2 ^ 864),
          fun σ' H' hN => ?_, ?_⟩
        · obtain ⟨lo', hi', pt', y, h1, h2, h3, h4, h5, h6, h7, h8, h9⟩ := hN
          exact ⟨_, h1, lo', hi', pt', y, h2, h3, rfl, h4, h5, h6, h7, h8, h9⟩
        refine ⟨_, rfl, _, rfl, _, _, rfl, rfl, _, rfl, _, _, rfl, rfl, wide_div (by omega) bpt (by decide) (by decide), _, _, rfl, rfl, ?_⟩
        dsimp only
        have hst : 1 ≤ (hi - lo) / pt + 1 := by have := Int.ediv_nonneg (show 0 ≤ hi - lo by omega) (show 0 ≤ pt by omega); omega
        have hsp : 32 ≤ (hi - lo) / pt → pt ≤ hi - lo := fun h => by
          have h1 := Int.ediv_mul_le (hi - lo) (show pt ≠ 0 by omega)
          have h2 : 1 * pt ≤ (hi - lo) / pt * pt := Int.mul_le_mul_of_nonneg_right (by omega) (by omega)
          omega
        generalize hst2 : (hi - lo) / pt = sp at hst hsp ⊢
        refine ⟨_, rfl, _, rfl, _, rfl, _, rfl, _, rfl, p, r, m, lo, hi, _, rfl, hR.same s1, hW.hm, blo, bhi, hB, by omega, fun t2 lo' hi' H3 s3 e3 hB' l2 u2 d2 => ⟨t2, _, rfl, .inl (.inl e3), rfl, _, _, rfl, _, _, rfl, rfl, ?_⟩⟩
        have hlt' := hB'.lt
        refine ⟨_, rfl, _, rfl, _, _, rfl, rfl, _, rfl, _, _, rfl, rfl, .inl ⟨by decide, by decide⟩, _, _, rfl, rfl, _, rfl, ?_⟩
        refine ite2 (fun hd => ?_) (fun hd => ?_)
        · have hd := of_decide_eq_true hd
          refine ⟨_, rfl, _, rfl, _, _, rfl, rfl, wide_mul bpt bpt (by decide) (by decide) (by decide), lo', hi', pt * pt, _, by omega, s1.trans s3, rfl, hB', by omega, u1.le u2, by omega, ?_, fun hw => ?_⟩
          · have : 1 * 1 ≤ pt * pt := Int.mul_le_mul pp pp (by omega) (by omega)
            omega
          · have h1 : pt ≤ hi - lo := hsp (by omega)
            have h2 : pt ≤ 2 ^ 864 := by have := pw_succ 863; omega
            exact Int.mul_le_mul h2 h2 (by omega) (by omega)
        · refine ⟨lo', hi', 4, _, by omega, s1.trans s3, rfl, hB', by omega, u1.le u2, by omega, by omega, fun _ => ?_⟩
          have e1 := pw_succ 863
          have h2 : (2 : Int) ^ 864 * 1 ≤ 2 ^ 864 * 2 ^ 864 := Int.mul_le_mul_of_nonneg_left (by omega) (by omega)
          omega
      · -- the second loop
        refine ⟨fun n σ H' => ∃ (lo hi : Int) (y6 y7 : Option V), Same H H' ∧ σ = [some (.ref p), some (.int m), some (.int a), some (lv e), some (.int lo), some (.int hi), y6, y7] ∧ n = (hi - lo).toNat ∧ Brk (evalR r) m lo hi ∧ a ≤ lo ∧ Upto hi e ∧ hi ≤ 2 ^ 862,
          ⟨_, lo, hi, _, _, s1, rfl, rfl, hB, l1, u1, v1⟩, fun n σ H3 hI => ?_⟩
        clear s1 hB l1 u1 v1 pp pb hc hlt
        obtain ⟨lo, hi, y6, y7, s1, rfl, rfl, hB, l1, u1, v1⟩ := hI
        have hlt := hB.lt
        refine ⟨_, rfl, _, rfl, _, _, rfl, rfl, _, _, rfl, rfl, _, rfl, ?_⟩
        refine ite2 (fun hc => ?_) (fun hc => ?_)
        · have hc := of_decide_eq_true hc
          refine ⟨fun σ H' => ∃ (lo' hi' : Int) (y6 y7 : Option V), (hi' - lo').toNat < (hi - lo).toNat ∧ Same H H' ∧ σ = [some (.ref p), some (.int m), some (.int a), some (lv e), some (.int lo'), some (.int hi'), y6, y7] ∧ Brk (evalR r) m lo' hi' ∧ a ≤ lo' ∧ Upto hi' e ∧ hi' ≤ 2 ^ 862,
            fun σ' H' hN => ?_, ?_⟩
          · obtain ⟨lo', hi', y6, y7, h1, h2, h3, h4, h5, h6, h7⟩ := hN
            exact ⟨_, h1, lo', hi', y6, y7, h2, h3, rfl, h4, h5, h6, h7⟩
          refine ⟨_, rfl, _, rfl, _, rfl, _, rfl, _, rfl, _, rfl, _, _, rfl, rfl, _, _, rfl, rfl, wide_div (b := 2) (by decide) (by decide) (by decide) (by decide), p, r, m, lo, hi, _, rfl, hR.same s1, hW.hm, (bdp lo l1 (by omega)).up (by decide), (bdp hi (by omega) v1).up (by decide), fun t2 H4 s4 e4 => ?_⟩
          obtain ⟨hB2, l2, u2, d2⟩ := hB.cut (n := (lo + hi) / 2)
          have d2 := d2 (by omega) (by omega)
          generalize hcc : cutI (evalR r) m lo hi ((lo + hi) / 2) = cc at hB2 l2 u2 d2 e4
          obtain ⟨lo', hi'⟩ := cc
          dsimp only at hB2 l2 u2 d2 e4
          have hlt2 := hB2.lt
          exact ⟨t2, _, rfl, .inl (.inl e4), rfl, _, _, rfl, _, _, rfl, rfl, lo', hi', _, _, by omega, s1.trans s4, rfl, hB2, by omega, u1.le u2, by omega⟩
        · have hc : hi - lo ≤ 1 := by
            rcases Int.lt_or_le 1 (hi - lo) with z | z
            · exact absurd (decide_eq_true z) hc
            · exact z
          refine ⟨_, rfl, q hi H3 s1 ⟨by omega, u1, hB.o, fun n h1 h2 => ?_⟩ (by omega)⟩
          have h3 := hW.mv.mono h1 (show n ≤ lo by omega) (u1.le (by omega))
          have := hB.a
          omega
end
end Ef
set_option Elab.async false
set_option linter.all false
set_option maxRecDepth 100000
set_option maxHeartbeats 4000000
set_option exponentiation.threshold 20
namespace Ef
open PySem PySem.Spec PyProof.Rows L2
abbrev sStrt : Stmt := top 26
/-! ### lists of stretches -/
def Tr (H : Hp) (t : Addr) (x : Stt) : Prop := H t = some (.tup [.int x.1, lv x.2.1, .int x.2.2])
def Trs (H : Hp) (l : Addr) (xs : List Stt) : Prop := ∃ ts : List Addr, H l = some (.lst (ts.map V.ref)) ∧ Paired (Tr H) ts xs
theorem Tr.same {H H' : Hp} {t : Addr} {x : Stt} (h : Tr H t x) (s : Same H H') : Tr H' t x := s _ _ h
theorem prd_same {H H' : Hp} {ts : List Addr} {xs : List Stt} (h : Paired (Tr H) ts xs) (s : Same H H') : Paired (Tr H') ts xs := L2.Paired.mapP h fun _ _ h => h.same s
theorem Trs.same {H H' : Hp} {l : Addr} {xs : List Stt} (h : Trs H l xs) (s : Same H H') : Trs H' l xs := by
  obtain ⟨ts, h1, h2⟩ := h
  exact ⟨ts, s _ _ h1, prd_same h2 s⟩
theorem prd_lst {H : Hp} {l : Addr} {ys : List V} {o : HO} {ts : List Addr} {xs : List Stt} (h : Paired (Tr H) ts xs) (hl : H l = some (.lst ys)) : Paired (Tr (upd H l o)) ts xs := L2.Paired.mapP h fun t x h => by
  show upd H l o t = _
  rw [upd_ne (ne_of h hl (by intro z; cases z))]
  exact h
theorem prd_snoc {H : Hp} {t : Addr} {x : Stt} : ∀ {ts : List Addr} {xs : List Stt}, Paired (Tr H) ts xs → Tr H t x → Paired (Tr H) (ts ++ [t]) (xs ++ [x])
  | _, _, .nil, h => .cons h .nil
  | _, _, .cons h1 h2, h => .cons h1 (prd_snoc h2 h)
/-- one more stretch -/
theorem trs_push {H : Hp} {l t : Addr} {x : Stt} {ts : List Addr} {xs : List Stt} (hl : H l = some (.lst (ts.map V.ref))) (hp : Paired (Tr H) ts xs) (ht : H t = some (.tup [.int x.1, lv x.2.1, .int x.2.2])) : Trs (upd H l (.lst (ts.map V.ref ++ [.ref t]))) l (xs ++ [x]) := by
  refine ⟨ts ++ [t], by rw [upd_same, List.map_append]; rfl, prd_lst (prd_snoc hp ht) hl⟩
theorem prd_len {H : Hp} {ts : List Addr} {xs : List Stt} (h : Paired (Tr H) ts xs) : ts.length = xs.length := Paired.length h
theorem mem_opt {α : Type} {c : Prop} [Decidable c] {x y : α} (h : x ∈ (if c then [y] else [])) : x = y := by
  by_cases z : c
  · rw [if_pos z] at h; exact List.mem_singleton.mp h
  · rw [if_neg z] at h; cases h
theorem len_opt {α : Type} {c : Prop} [Decidable c] {y : α} : (if c then [y] else []).length ≤ 1 := by
  by_cases z : c
  · rw [if_pos z]; exact Nat.le_refl 1
  · rw [if_neg z]; exact Nat.zero_le 1
/-- the ends of stretches -/
def InB (a : Int) (x : Stt) : Prop := a ≤ x.1 ∧ x.1 ≤ 2 ^ 855 + 1 ∧ ∀ y, x.2.1 = some y → y ≤ 2 ^ 855
section
variable {P : Program} {w : World} {K : PySem.W.Frag} {mg : Str → Option Value} {base : Heap}
def spStrt (K : PySem.W.Frag) : Sp := fun vs H Q _ => ∃ (q : Addr) (r : List Int) (a mv : Int) (e : Option Int), vs = [.ref q, .int a, lv e, .int mv] ∧ RowAt K H q r ∧ Upto a e ∧ -(2 ^ 860) ≤ a ∧ a ≤ 2 ^ 855 + 1 ∧ (∀ y, e = some y → y ≤ 2 ^ 855) ∧
  (∀ n, a ≤ n → Upto n e → sg (evalR r (n + 1) - evalR r n) = mv) ∧ ∀ (l : Addr) (ps : List Stt) (H' : Hp), H l = none → Same H H' → Trs H' l ps → Cv (evalR r) a ps e → (∀ x ∈ ps, InB a x) → ps.length ≤ 3 → Q (.ref l) H'
theorem scStr : FnScope ["row", "first", "last", "move", "here", "at", "behind", "found"] ["row", "first", "last", "move"] (defScope sStrt) := ⟨rfl, rfl, rfl, by decide +kernel, rfl, by decide +kernel, by decide +kernel⟩
/-- the parts of _signs_of_stretch, as its term reads -/
def strIf3 (K : PySem.W.Frag) : TS := tIfS (tOr (tTest (tOp (fun x y H Q => y = V.non ∧ Q (V.bl (decide (x = V.non))) H) (tVar 2) (tC V.non))) (tTest (tOp (rI0 fun i j => V.bl (decide (i ≤ j))) (tVar 6) (tVar 2)))) (tDrop (tBM K "list" rAppend (tVar 7) (tCons (tTup (tCons (tVar 6) (tCons (tVar 2) (tCons (tVar 3) tNil)))) tNil))) tNext
def strIf2 (K : PySem.W.Frag) : TS := tIfS (tTest (tOp (rI0 fun i j => V.bl (decide (i < j))) (tVar 5) (tVar 6))) (tDrop (tBM K "list" rAppend (tVar 7) (tCons (tTup (tCons (tVar 5) (tCons (tVar 5) (tCons (tC (V.int 0)) tNil)))) tNil))) tNext
def strIf1 (K : PySem.W.Frag) : TS := tIfS (tTest (tOp (rI0 fun i j => V.bl (decide (i < j))) (tVar 1) (tVar 5))) (tDrop (tBM K "list" rAppend (tVar 7) (tCons (tTup (tCons (tVar 1) (tCons (tOp (rI0 fun i j => V.int (i - j)) (tVar 5) (tC (V.int 1))) (tCons (tUn (rU fun i => V.int (-i)) (tVar 3)) tNil)))) tNil))) tNext
def strTail2 (K : PySem.W.Frag) : TS := tSeq (tAsg (tLst tNil) (gName 7)) (tSeq (strIf1 K) (tSeq (strIf2 K) (tSeq (strIf3 K) (tRet (tVar 7)))))
def strTail (K : PySem.W.Frag) : TS := tSeq (tAsg (tIf (tTest (tOp rEq (tCall (spVal K) [] E0 (tCons (tVar 0) (tCons (tVar 5) tNil))) (tC (V.int 0)))) (tOp (rI0 fun i j => V.int (i + j)) (tVar 5) (tC (V.int 1))) (tVar 5)) (gName 6)) (strTail2 K)
/-- found.append((x, y, z)) -/
theorem app_tr {K : PySem.W.Frag} {H0 H1 : Hp} {l : Addr} {ps : List Stt} {x : Stt} {R : Hp → Prop} (s : Same H0 H1) (hl0 : H0 l = none) (h : Trs H1 l ps) (hn : ps.length ≤ 10000) (q : ∀ H', Same H0 H' → Trs H' l (ps ++ [x]) → R H') :
    [V.int x.1, lv x.2.1, V.int x.2.2].length ≤ sizeLine ∧ ∀ t, H1 t = none → rAppend (.ref l) [.ref t] (upd H1 t (.tup [.int x.1, lv x.2.1, .int x.2.2])) fun _ H' => R H' := by
  obtain ⟨ts, h1, h2⟩ := h
  refine ⟨by show 3 ≤ sizeLine; decide, fun t ht => ?_⟩
  have e1 := same_new (o := .tup [.int x.1, lv x.2.1, .int x.2.2]) ht
  refine ⟨l, _, _, rfl, rfl, e1 _ _ h1, ?_, q _ (same_mut (s.trans e1) hl0) (trs_push (e1 _ _ h1) (prd_same h2 e1) upd_same)⟩
  rw [List.length_map, prd_len h2]
  exact Nat.lt_of_le_of_lt hn (by decide)
def strBody (K : PySem.W.Frag) : TS := tSeq (tAsg (tIf (tTest (tOp rEq (tVar 4) (tC (V.int 0)))) (tVar 1) (tCall (spCro K) [] E0 (tCons (tVar 0) (tCons (tVar 3) (tCons (tVar 1) (tCons (tVar 2) tNil)))))) (gName 5)) (strTail K)
theorem df_strt (A : At K mg "_signs_of_stretch" sStrt) (Dsignof : Df P w K mg base 1 "sign_of" ["number"] spSign) (Dvalueat : Df P w K mg base 1 "value_at" ["row", "n"] (spVal K)) (Dcrossing : Df P w K mg base 5 "_crossing" ["row", "move", "first", "last"] (spCro K)) :
    Df P w K mg base 6 "_signs_of_stretch" ["row", "first", "last", "move"] (spStrt K) := by
  obtain ⟨f, fd, hm, F⟩ := A.ex
  refine ⟨f, fd, hm, F.kp, F.binds (fun _ _ _ _ _ _ us hl => match us, hl with | [_, _, _, _], _ => rfl), F.ok scStr (fun vs H Q E h => ?_) (fun cdv A outer s H vs Q E hr h => ?_)⟩
  · obtain ⟨q, r, a, mv, e, rfl, _⟩ := h
    rfl
  · obtain ⟨p, r, a, mv, e, rfl, hR, hu, ha1, ha2, he, hs, q⟩ := h
    refine ⟨_, (pss_cons (ps_set (i := 4) scStr.nd rfl (.inl rfl) (Dsignof.call (hr.mono (by decide)) (pa_cons (Dvalueat.call (hr.mono (by decide)) (pa_cons (pv 0) (pa_cons (pv 1) pa_nil))) pa_nil)))
      (pss_cons (ps_if (pw_or (pt_cmpR op_eq (pv 3) pe_int (nomark _)) (pw_or1 (pt_cmpR op_eq (pv 4) (pv 3) (nomark _)))).pt (pss_one (ps_ret (pe_lst (pa_cons (pe_tup (pa_cons (pv 1) (pa_cons (pv 2) (pa_cons (pv 4) pa_nil)))) pa_nil)))) pss_nil)
      (pss_cons (ps_if (pw_and (pt_cmpR op_notN (pv 2) pe_non (nomark _)) (pw_and1 (pt_cmpR op_lt (pe_op op_mul (pv 3) (Dvalueat.call (hr.mono (by decide)) (pa_cons (pv 0) (pa_cons (pv 2) pa_nil)))) pe_int (nomark _)))).pt (pss_one (ps_ret (pe_lst (pa_cons (pe_tup (pa_cons (pv 1) (pa_cons (pv 2) (pa_cons (pe_un un_neg (pv 3)) pa_nil)))) pa_nil)))) pss_nil)
      (pss_cons (ps_set (i := 5) scStr.nd rfl (.inl rfl) (pe_ifExp (pt_cmpR op_eq (pv 4) pe_int (nomark _)) (pv 1) (Dcrossing.call (hr.mono (by decide)) (pa_cons (pv 0) (pa_cons (pv 3) (pa_cons (pv 1) (pa_cons (pv 2) pa_nil)))))))
      (pss_cons (ps_set (i := 6) scStr.nd rfl (.inl rfl) (pe_ifExp (pt_cmpR op_eq (Dvalueat.call (hr.mono (by decide)) (pa_cons (pv 0) (pa_cons (pv 5) pa_nil))) pe_int (nomark _)) (pe_op op_add (pv 5) pe_int) (pv 5)))
      (pss_cons (ps_set (i := 7) scStr.nd rfl (.inl rfl) (pe_lst pa_nil))
      (pss_cons (ps_if (pt_cmpR op_lt (pv 1) (pv 5) (nomark _)) (pss_one (ps_expr (pe_bm PySem.F.plainAttrs_list PySem.F.slot_list_append PySem.F.type_list_append mt_append (pv 7) (pa_cons (pe_tup (pa_cons (pv 1) (pa_cons (pe_op op_sub (pv 5) pe_int) (pa_cons (pe_un un_neg (pv 3)) pa_nil)))) pa_nil)))) pss_nil)
      (pss_cons (ps_if (pt_cmpR op_lt (pv 5) (pv 6) (nomark _)) (pss_one (ps_expr (pe_bm PySem.F.plainAttrs_list PySem.F.slot_list_append PySem.F.type_list_append mt_append (pv 7) (pa_cons (pe_tup (pa_cons (pv 5) (pa_cons (pv 5) (pa_cons pe_int pa_nil)))) pa_nil)))) pss_nil)
      (pss_cons (ps_if (pw_or (pt_cmpR op_isN (pv 2) pe_non (nomark _)) (pw_or1 (pt_cmpR op_le (pv 6) (pv 2) (nomark _)))).pt (pss_one (ps_expr (pe_bm PySem.F.plainAttrs_list PySem.F.slot_list_append PySem.F.type_list_append mt_append (pv 7) (pa_cons (pe_tup (pa_cons (pv 6) (pa_cons (pv 2) (pa_cons (pv 3) pa_nil)))) pa_nil)))) pss_nil)
      (pss_one (ps_ret (pv 7)))))))))))), ?_⟩
    have q860 := pw_le (show 855 ≤ 860 by decide)
    have q856 := pw_succ 855
    have p855 := pw_pos 855
    have q860' := pw_le (show 856 ≤ 860 by decide)
    have p860 := pw_pos 860
    have p861 := pw_succ 860
    have bc : ∀ c ∈ r, Bd 3000 c := fun c hc => (hR.b c hc).up (by decide)
    have l8 := Nat.le_succ_of_le hR.l
    have ba : Bd 861 a := bd_of (by omega) (by omega)
    refine ⟨_, rfl, _, rfl, p, r, a, rfl, hR.s, l8, bc, ba.up (by decide), fun H1 s1 => ⟨_, rfl, ?_⟩⟩
    have one : ∀ (H1 : Hp) (x : Stt), Same H H1 → Cv (evalR r) a [x] e → InB a x → ∀ t, H1 t = none → [V.ref t].length ≤ sizeLine ∧ ∀ l, (upd H1 t (.tup [.int x.1, lv x.2.1, .int x.2.2])) l = none → Q (.ref l) (upd (upd H1 t (.tup [.int x.1, lv x.2.1, .int x.2.2])) l (.lst [.ref t])) := fun H1 x s1 hc hb t ht =>
      ⟨by show 1 ≤ sizeLine; decide, fun l hl => q l [x] _ ((s1.trans (same_new ht)).free hl) ((s1.trans (same_new ht)).trans (same_new hl)) ⟨[t], upd_same, .cons (same_new hl _ _ upd_same) .nil⟩ hc (fun y hy => by rw [List.mem_singleton.mp hy]; exact hb) (by show 1 ≤ 3; decide)⟩
    have inb : ∀ s, InB a (a, e, s) := fun s => ⟨Int.le_refl a, ha2, he⟩
    refine ⟨_, rfl, rfl, _, rfl, ?_⟩
    rw [dint]
    have three : mv = 0 ∨ mv = 1 ∨ mv = -1 := by
      rw [← hs a (Int.le_refl a) hu]
      rcases sg_three (evalR r (a + 1) - evalR r a) with ⟨z, _⟩ | ⟨z, _⟩ | ⟨z, _⟩ <;> rw [z] <;> decide
    by_cases h0 : mv = 0
    · rw [decide_eq_true h0]
      refine iteT ⟨_, rfl, _, rfl, _, rfl, by show 3 ≤ sizeLine; decide, fun t ht => one H1 (a, e, sg (evalR r a)) s1 (cv_still (fun n h1 h2 => (hs n h1 h2).trans h0) hu) (inb _) t ht⟩
    rw [decide_eq_false h0]
    have hm2 : mv = 1 ∨ mv = -1 := three.resolve_left h0
    have hM : Mv (evalR r) mv a e := mv_of hs h0
    refine iteF ⟨_, rfl, _, rfl, rfl, _, rfl, ?_⟩
    rw [dint]
    by_cases h1 : sg (evalR r a) = mv
    · rw [decide_eq_true h1]
      refine iteT ⟨_, rfl, _, rfl, _, rfl, by show 3 ≤ sizeLine; decide, fun t ht => ?_⟩
      rw [h1]
      exact one H1 (a, e, mv) s1 (cv_away hm2 hM hu h1) (inb _) t ht
    rw [decide_eq_false h1]
    refine iteF ?_
    have hopp : sg (evalR r a) ≠ 0 → mv * evalR r a < 0 := fun z => by
      rcases sg_three (evalR r a) with ⟨k, y⟩ | ⟨k, y⟩ | ⟨k, y⟩
      · exact absurd k z
      · rcases hm2 with e | e
        · exact absurd (k.trans e.symm) h1
        · rw [e]; omega
      · rcases hm2 with e | e
        · rw [e]; omega
        · exact absurd (k.trans e.symm) h1
    have hfar : e = none → ∀ n, 2 ^ 850 ≤ n → 1 ≤ mv * evalR r n := fun z n hn => by
      subst z
      exact out_far (by have := pw_pos 850; omega) (fun c hc => (hR.b c hc).lt) hM hm2 hn
    have q850 := pw_le (show 850 ≤ 855 by decide)
    have way : (∀ y, e = some y → 0 ≤ mv * evalR r y) → mv * evalR r a < 0 → Way r mv a e := fun hen hst => by
      refine ⟨hm2, hM, hu, hst, fun y hy => ⟨hen y hy, by have := he y hy; omega⟩, fun n hn => ?_, ha1, by omega⟩
      cases hE : e with
      | none => exact .inr (by have := hfar hE n (by omega); omega)
      | some y => exact .inl ⟨y, rfl, by have := he y hE; omega⟩
    have cbd : ∀ c, Cross (evalR r) mv a e c → (a < c ∨ evalR r a = 0 ∧ c = a) → c ≤ 2 ^ 855 := fun c hX hc => by
      cases hE : e with
      | none =>
        rcases hc with z | ⟨z, rfl⟩
        · rcases Int.lt_or_le (c - 1) (2 ^ 850) with y | y
          · omega
          · have h2 := hfar hE _ y
            have h3 := hX.ahead (c - 1) (by omega) (by omega)
            omega
        · rcases Int.lt_or_le c (2 ^ 850) with y | y
          · omega
          · have h2 := hfar hE _ y
            rw [z] at h2
            omega
      | some y =>
        have h2 := hX.hi
        rw [hE] at h2
        have h2 : c ≤ y := h2
        have := he y hE
        omega
    have fin : ∀ c d (ps : List Stt), Cross (evalR r) mv a e c → c ≤ 2 ^ 855 → d = (if evalR r c = 0 then c + 1 else c) → ps = stretchL mv a e c d → Cv (evalR r) a ps e ∧ (∀ x ∈ ps, InB a x) ∧ ps.length ≤ 3 := fun c d ps hX hc hd hps => by
      subst hps
      have hd2 : d = c ∨ d = c + 1 := by rw [hd]; split <;> omega
      refine ⟨by rw [hd]; exact cv_cross hm2 hM hX, fun x hx => ?_, ?_⟩
      · have hlo := hX.lo
        unfold stretchL at hx
        rcases List.mem_append.mp hx with k | k
        · rw [mem_opt k]
          exact ⟨Int.le_refl a, ha2, fun y hy => by cases hy; omega⟩
        · rcases List.mem_append.mp k with k | k
          · rw [mem_opt k]
            exact ⟨hlo, by show c ≤ _; omega, fun y hy => by cases hy; exact hc⟩
          · rw [mem_opt k]
            exact ⟨by show a ≤ d; omega, by show d ≤ _; omega, he⟩
      · unfold stretchL
        rw [List.length_append, List.length_append]
        exact Nat.add_le_add len_opt (Nat.add_le_add len_opt len_opt)
    unfold stretchL at fin
    have ex : e = none ∨ ∃ y, e = some y := by
      cases e with
      | none => exact .inl rfl
      | some y => exact .inr ⟨y, rfl⟩
    refine (fun (tail : ∀ (c : Int) (H' : Hp), Same H H' → Cross (evalR r) mv a e c → c ≤ 2 ^ 855 → strTail K { nx := fun _ H' => Q .non H', rt := Q } [some (.ref p), some (.int a), some (lv e), some (.int mv), some (.int (sg (evalR r a))), some (.int c), none, none] H') => ?main) ?tail
    case main =>
      refine (fun (body : ∀ (H' : Hp), Same H H' → (∀ y, e = some y → 0 ≤ mv * evalR r y) → strBody K { nx := fun _ H' => Q .non H', rt := Q } [some (.ref p), some (.int a), some (lv e), some (.int mv), some (.int (sg (evalR r a))), none, none, none] H') => ?main2) ?body
      case main2 =>
        rcases ex with hE | ⟨y, hE⟩
        · refine ⟨_, rfl, rfl, _, rfl, ?_⟩
          rw [show (!decide (lv e = V.non)) = false from by rw [hE]; rfl]
          exact iteF (iteF (body H1 s1 fun y hy => by rw [hE] at hy; cases hy))
        · refine ⟨_, rfl, rfl, _, rfl, ?_⟩
          rw [show (!decide (lv e = V.non)) = true from by rw [hE]; rfl]
          have hay : a ≤ y := by rw [hE] at hu; exact hu
          have hy2 := he y hE
          refine iteT ⟨_, rfl, _, rfl, _, rfl, p, r, y, by rw [hE]; rfl, (hR.same s1).s, l8, bc, bd_of (b := 3000) (by have := pw_le (show 861 ≤ 3000 by decide); omega) (by have := pw_le (show 861 ≤ 3000 by decide); omega), fun H3 s3 => ?_⟩
          refine ⟨_, _, rfl, rfl, .inl (m_small hm2), _, _, rfl, rfl, _, rfl, ?_⟩
          refine ite2 (fun hb => ?_) (fun hb => ?_)
          · refine ⟨_, rfl, _, rfl, _, rfl, _, rfl, by show 3 ≤ sizeLine; decide, fun t ht => ?_⟩
            refine one H3 (a, e, -mv) (s1.trans s3) ?_ (inb _) t ht
            rw [hE] at hM ⊢
            exact cv_short hm2 hM hay (of_decide_eq_true hb)
          · refine body H3 (s1.trans s3) fun y' hy' => ?_
            rw [hE] at hy'
            cases hy'
            rcases Int.lt_or_le (mv * evalR r y) 0 with z | z
            · exact absurd (decide_eq_true z) hb
            · exact z
      case body =>
        intro H2 s2 hen
        refine ⟨_, rfl, rfl, _, rfl, ?_⟩
        rw [dint]
        by_cases hz : sg (evalR r a) = 0
        · rw [decide_eq_true hz]
          have hX : Cross (evalR r) mv a e a := ⟨Int.le_refl a, hu, by rw [sg_zero.mp hz, Int.mul_zero]; exact Int.le_refl 0, fun n k1 k2 => by omega⟩
          exact iteT ⟨_, rfl, tail a H2 s2 hX (cbd a hX (.inr ⟨sg_zero.mp hz, rfl⟩))⟩
        · rw [decide_eq_false hz]
          exact iteF ⟨_, rfl, _, rfl, _, rfl, _, rfl, p, r, mv, a, e, rfl, hR.same s2, way hen (hopp hz), fun c H3 s3 hX hac => tail c H3 (s2.trans s3) hX (cbd c hX (.inl hac))⟩
    case tail =>
      intro c H2 s2 hX hc
      have hcl := hX.lo
      refine (fun (tail2 : ∀ (d : Int) (H' : Hp), Same H H' → d = (if evalR r c = 0 then c + 1 else c) → strTail2 K { nx := fun _ H' => Q .non H', rt := Q } [some (.ref p), some (.int a), some (lv e), some (.int mv), some (.int (sg (evalR r a))), some (.int c), some (.int d), none] H') => ?main) ?tail2
      case main =>
        refine ⟨_, rfl, _, rfl, p, r, c, rfl, (hR.same s2).s, l8, bc, bd_of (b := 3000) (by have := pw_le (show 861 ≤ 3000 by decide); omega) (by have := pw_le (show 861 ≤ 3000 by decide); omega), fun H3 s3 => ⟨rfl, _, rfl, ?_⟩⟩
        rw [dint]
        refine ite2 (fun hz => ?_) (fun hz => ?_)
        · exact ⟨_, rfl, _, _, rfl, rfl, tail2 _ H3 (s2.trans s3) (by rw [if_pos (of_decide_eq_true hz)])⟩
        · exact ⟨_, rfl, tail2 _ H3 (s2.trans s3) (by rw [if_neg (fun z => hz (decide_eq_true z))])⟩
      case tail2 =>
        intro d H3 s3 hd
        obtain ⟨f1, f2, f3⟩ := fin c d _ hX hc hd rfl
        refine ⟨by show 0 ≤ sizeLine; decide, fun l hl => ?_⟩
        have hl0 : H l = none := s3.free hl
        have s4 : Same H (upd H3 l (.lst [])) := same_mut s3 hl0
        have t4 : Trs (upd H3 l (.lst [])) l [] := ⟨[], upd_same, .nil⟩
        generalize upd H3 l (.lst []) = H4 at s4 t4 ⊢
        -- the last if
        have k3 : ∀ (H' : Hp) (ps : List Stt), Same H H' → Trs H' l ps → ps.length ≤ 10 → ps ++ (if upB d e = true then [(d, e, mv)] else []) = (if a < c then [((a, some (c - 1), -mv) : Stt)] else []) ++ ((if c < d then [(c, some c, 0)] else []) ++ (if upB d e = true then [(d, e, mv)] else [])) →
            tSeq (strIf3 K) (tRet (tVar 7)) { nx := fun _ H' => Q .non H', rt := Q } [some (.ref p), some (.int a), some (lv e), some (.int mv), some (.int (sg (evalR r a))), some (.int c), some (.int d), some (.ref l)] H' := by
          intro H5 ps s5 t5 h10 he2
          have yes : upB d e = true → tDrop (tBM K "list" rAppend (tVar 7) (tCons (tTup (tCons (tVar 6) (tCons (tVar 2) (tCons (tVar 3) tNil)))) tNil)) { nx := tRet (tVar 7) { nx := fun _ H' => Q .non H', rt := Q }, rt := Q } [some (.ref p), some (.int a), some (lv e), some (.int mv), some (.int (sg (evalR r a))), some (.int c), some (.int d), some (.ref l)] H5 := fun hz => by
            rw [if_pos hz] at he2 f1 f2 f3
            obtain ⟨ts, g1, g2⟩ := id t5
            refine ⟨_, rfl, .inl ⟨rfl, _, .inl (.inl g1)⟩, _, rfl, _, rfl, _, rfl, app_tr (K := K) (x := (d, e, mv)) s5 hl0 t5 (by omega) fun H6 s6 t6 => ⟨_, rfl, ?_⟩⟩
            rw [he2] at t6
            exact q l _ H6 hl0 s6 t6 f1 f2 f3
          have no : ¬ upB d e = true → tRet (tVar 7) { nx := fun _ H' => Q .non H', rt := Q } [some (.ref p), some (.int a), some (lv e), some (.int mv), some (.int (sg (evalR r a))), some (.int c), some (.int d), some (.ref l)] H5 := fun hz => by
            rw [if_neg hz] at he2 f1 f2 f3
            rw [List.append_nil] at he2
            rw [he2] at t5
            exact ⟨_, rfl, q l _ H5 hl0 s5 t5 f1 f2 f3⟩
          rcases ex with hE | ⟨y, hE⟩
          · refine ⟨_, rfl, rfl, _, rfl, ?_⟩
            rw [show decide (lv e = V.non) = true from by rw [hE]; rfl]
            exact iteT (iteT (yes (by rw [hE]; rfl)))
          · refine ⟨_, rfl, rfl, _, rfl, ?_⟩
            rw [show decide (lv e = V.non) = false from by rw [hE]; rfl]
            refine iteF ⟨_, rfl, lv e, rfl, d, y, rfl, by rw [hE]; rfl, _, rfl, ?_⟩
            refine ite2 (fun hb => yes (by rw [hE]; exact hb)) (fun hb => no (by rw [hE]; exact hb))
        have k2 : ∀ (H' : Hp) (ps : List Stt), Same H H' → Trs H' l ps → ps.length ≤ 5 → ps = (if a < c then [((a, some (c - 1), -mv) : Stt)] else []) →
            tSeq (strIf2 K) (tSeq (strIf3 K) (tRet (tVar 7))) { nx := fun _ H' => Q .non H', rt := Q } [some (.ref p), some (.int a), some (lv e), some (.int mv), some (.int (sg (evalR r a))), some (.int c), some (.int d), some (.ref l)] H' := by
          intro H5 ps s5 t5 h5 he2
          refine ⟨_, rfl, _, rfl, _, _, rfl, rfl, _, rfl, ite2 (fun hb => ?_) (fun hb => ?_)⟩
          · have hb := of_decide_eq_true hb
            obtain ⟨ts, g1, g2⟩ := id t5
            exact ⟨_, rfl, .inl ⟨rfl, _, .inl (.inl g1)⟩, _, rfl, _, rfl, app_tr (K := K) (x := (c, some c, 0)) s5 hl0 t5 (by omega) fun H6 s6 t6 => k3 H6 _ s6 t6 (by rw [List.length_append]; show _ + 1 ≤ 10; omega) (by rw [he2, if_pos hb, List.append_assoc])⟩
          · exact k3 H5 ps s5 t5 (by omega) (by rw [he2, if_neg (fun z => hb (decide_eq_true z)), List.nil_append])
        refine ⟨_, rfl, _, rfl, _, _, rfl, rfl, _, rfl, ite2 (fun hb => ?_) (fun hb => ?_)⟩
        · have hb := of_decide_eq_true hb
          obtain ⟨ts, g1, g2⟩ := id t4
          exact ⟨_, rfl, .inl ⟨rfl, _, .inl (.inl g1)⟩, _, rfl, _, rfl, _, _, rfl, rfl, _, rfl, _, rfl, app_tr (K := K) (x := (a, some (c - 1), -mv)) s4 hl0 t4 (by decide) fun H6 s6 t6 => k2 H6 _ s6 t6 (by show 0 + 1 ≤ 5; decide) (by rw [if_pos hb]; rfl)⟩
        · exact k2 H4 [] s4 t4 (by decide) (by rw [if_neg (fun z => hb (decide_eq_true z))])
end
end Ef
set_option Elab.async false
set_option linter.all false
set_option maxRecDepth 100000
set_option maxHeartbeats 4000000
set_option exponentiation.threshold 20
namespace Ef
open PySem PySem.Spec PyProof.Rows L2
abbrev sMov : Stmt := top 25
theorem prd_concat {H : Hp} {z : Stt} : ∀ {ts : List Addr} {xs : List Stt}, Paired (Tr H) ts (xs ++ [z]) → ∃ ts0 tz, ts = ts0 ++ [tz] ∧ Paired (Tr H) ts0 xs ∧ Tr H tz z
  | _, [], .cons h .nil => ⟨[], _, rfl, .nil, h⟩
  | _, _ :: _, .cons h h2 => by
    obtain ⟨ts0, tz, e, p0, hz⟩ := prd_concat h2
    exact ⟨_ :: ts0, tz, by rw [e]; rfl, .cons h p0, hz⟩
theorem at_neg1 {xs : List V} {k : Nat} {v : V} (h : xs[k]? = some v) (hk : xs.length = k + 1 := by simp) : atI xs (-1) = some v := by
  unfold atI ixN
  rw [if_neg (by decide), if_pos (by omega)]
  show xs[((-1 : Int) + (xs.length : Int)).toNat]? = _
  rw [show ((-1 : Int) + (xs.length : Int)).toNat = k by omega, h]
theorem prd_get {H : Hp} : ∀ {ts : List Addr} {xs : List Stt}, Paired (Tr H) ts xs → ∀ {i : Nat} {t : Addr}, ts[i]? = some t → ∃ x, xs[i]? = some x ∧ Tr H t x
  | _, _, .nil, i, t, h => by cases h
  | _, _, .cons h1 h2, 0, t, h => by cases h; exact ⟨_, rfl, h1⟩
  | _, _, .cons h1 h2, i + 1, t, h => prd_get h2 (i := i) h
section
variable {P : Program} {w : World} {K : PySem.W.Frag} {mg : Str → Option Value} {base : Heap}
def spMov (K : PySem.W.Frag) : Sp := fun vs H Q _ => ∃ (q lm : Addr) (r : List Int) (a : Int) (ms : List Stt), vs = [.ref q, .ref lm] ∧ RowAt K H q r ∧ Trs H lm ms ∧ ms.length ≤ 1000 ∧ -(2 ^ 860) ≤ a ∧ Cv (fun n => evalR r (n + 1) - evalR r n) a ms none ∧ (∀ x ∈ ms, InB a x) ∧
  ∀ (l : Addr) (ps : List Stt) (H' : Hp), H l = none → Same H H' → Trs H' l ps → Cv (evalR r) a ps none → (∀ x ∈ ps, InB a x) → ps.length ≤ 3 * ms.length → Q (.ref l) H'
theorem scMov : FnScope ["row", "moves", "found", "first", "last", "move", "start", "stop", "sign", "begin"] ["row", "moves"] (defScope sMov) := ⟨rfl, rfl, rfl, by decide +kernel, rfl, by decide +kernel, by decide +kernel⟩
theorem df_mov (A : At K mg "_signs_by_moves" sMov) (T : TxtR mg) (Dsignsofstretch : Df P w K mg base 6 "_signs_of_stretch" ["row", "first", "last", "move"] (spStrt K)) : Df P w K mg base 7 "_signs_by_moves" ["row", "moves"] (spMov K) := by
  obtain ⟨f, fd, hm, F⟩ := A.ex
  refine ⟨f, fd, hm, F.kp, F.binds (fun _ _ _ _ _ _ us hl => match us, hl with | [_, _], _ => rfl), F.ok scMov (fun vs H Q E h => ?_) (fun cdv A outer s H vs Q E hr h => ?_)⟩
  · obtain ⟨q, lm, r, a, ms, rfl, _⟩ := h
    rfl
  · obtain ⟨p, lm, r, a, ms, rfl, hR, hT, hn, ha, hC, hB, q⟩ := h
    refine ⟨_, (pss_cons (ps_set (i := 2) scMov.nd rfl (.inl rfl) (pe_lst pa_nil))
      (pss_cons (ps_for PassesOwn.never rfl (pi_list (pv 1)) (pg_tup (by rfl) (pgs_cons (pg_name (i := 3) scMov.nd rfl (.inl rfl)) (pgs_cons (pg_name (i := 4) scMov.nd rfl (.inl rfl)) (pgs_cons (pg_name (i := 5) scMov.nd rfl (.inl rfl)) pgs_nil))))
      (pss_one (ps_for PassesOwn.never rfl (pi_list (Dsignsofstretch.call (hr.mono (by decide)) (pa_cons (pv 0) (pa_cons (pv 3) (pa_cons (pv 4) (pa_cons (pv 5) pa_nil)))))) (pg_tup (by rfl) (pgs_cons (pg_name (i := 6) scMov.nd rfl (.inl rfl)) (pgs_cons (pg_name (i := 7) scMov.nd rfl (.inl rfl)) (pgs_cons (pg_name (i := 8) scMov.nd rfl (.inl rfl)) pgs_nil))))
      (pss_cons (ps_set (i := 9) scMov.nd rfl (.inl rfl) (pe_ifExp (pw_and (pt_cmpR op_gt (pe_callB call_len_seq (by rfl) T.len PySem.boot_len (pa_cons (pv 2) pa_nil)) pe_int (nomark _)) (pw_and1 (pt_cmpR op_eq (pe_ix ix_tup (pe_ix ix_list (pv 2) (pe_un un_neg pe_int) (fun _ _ => rfl)) pe_int (fun _ _ => rfl)) (pv 8) (nomark _)))).pt (pe_ix ix_tup (pe_bm0 PySem.F.plainAttrs_list PySem.F.slot_list_pop PySem.F.type_list_pop mt_pop (pv 2)) pe_int (fun _ _ => rfl)) (pv 6)))
      (pss_one (ps_expr (pe_bm PySem.F.plainAttrs_list PySem.F.slot_list_append PySem.F.type_list_append mt_append (pv 2) (pa_cons (pe_tup (pa_cons (pv 9) (pa_cons (pv 7) (pa_cons (pv 8) pa_nil)))) pa_nil))))))))
      (pss_one (ps_ret (pv 2))))), ?_⟩
    obtain ⟨tm, hlm, hpm⟩ := hT
    have hlen := prd_len hpm
    refine ⟨by show 0 ≤ sizeLine; decide, fun l hl => ?_⟩
    have s0 : Same H (upd H l (.lst [])) := same_new hl
    have t0 : Trs (upd H l (.lst [])) l [] := ⟨[], upd_same, .nil⟩
    generalize upd H l (.lst []) = H0 at s0 t0 ⊢
    refine ⟨_, rfl, lm, rfl, ⟨_, .inl (.inl (s0 _ _ hlm))⟩, for_list (K := K) (a := lm) (xs := tm.map V.ref) (fun i σ H' => ∃ (ps : List Stt) (y3 y4 y5 y6 y7 y8 y9 : Option V), Same H H' ∧ Trs H' l ps ∧ Cv (evalR r) a ps (endOf a (ms.take i)) ∧ (∀ x ∈ ps, InB a x) ∧ ps.length ≤ 3 * i ∧ σ = [some (.ref p), some (.ref lm), some (.ref l), y3, y4, y5, y6, y7, y8, y9])
      ⟨[], none, none, none, none, none, none, none, s0, t0, .nil, fun x hx => (by cases hx), by decide, rfl⟩ (fun i σ H' _ ⟨_, _, _, _, _, _, _, _, s, _⟩ => .inl (.inl (s _ _ hlm))) ?_ ?_⟩
    · rintro i v σ H1 hi ⟨ps, y3, y4, y5, y6, y7, y8, y9, s1, t1, c1, b1, n1, rfl⟩
      rw [List.getElem?_map] at hi
      obtain ⟨t, ht, rfl⟩ := Option.map_eq_some_iff.mp hi
      obtain ⟨x, hx, htr⟩ := prd_get hpm ht
      obtain ⟨k1, k2, k3⟩ := hC.split hx
      have hxB := hB x (List.mem_of_getElem? hx)
      have hi100 : i < ms.length := (List.getElem?_eq_some_iff.mp hx).1
      rw [← k3.end_] at c1
      refine ⟨t, _, rfl, .inl (.inl (s1 _ _ htr)), rfl, _, _, rfl, _, _, rfl, _, _, rfl, rfl, ?_⟩
      -- the inner loop
      refine ⟨_, rfl, _, rfl, _, rfl, _, rfl, p, r, x.1, x.2.2, x.2.1, rfl, hR.same s1, k1, by have := hxB.1; omega, hxB.2.1, hxB.2.2, k2, fun lq qs H2 hq0 s2 t2 c2 b2 n2 => ?_⟩
      obtain ⟨tq, hlq, hpq⟩ := t2
      have hqlen := prd_len hpq
      have hlq0 : lq ≠ l := fun z => by
        obtain ⟨_, g, _⟩ := t1
        rw [z, g] at hq0
        cases hq0
      refine ⟨lq, rfl, ⟨_, .inl (.inl hlq)⟩, for_list (K := K) (a := lq) (xs := tq.map V.ref) (fun j σ H' => ∃ (y6 y7 y8 y9 : Option V), Same H H' ∧ H' lq = some (.lst (tq.map V.ref)) ∧ Paired (Tr H') tq qs ∧ Trs H' l (pushAll ps (qs.take j)) ∧ σ = [some (.ref p), some (.ref lm), some (.ref l), some (.int x.1), some (lv x.2.1), some (.int x.2.2), y6, y7, y8, y9])
        ⟨_, _, _, _, s1.trans s2, hlq, hpq, t1.same s2, rfl⟩ (fun j σ H' _ ⟨_, _, _, _, _, h, _⟩ => .inl (.inl h)) ?_ ?_⟩
      · rintro j v σ H3 hj ⟨y6, y7, y8, y9, s3, hlq3, hpq3, t3, rfl⟩
        rw [List.getElem?_map] at hj
        obtain ⟨u, hu, rfl⟩ := Option.map_eq_some_iff.mp hj
        obtain ⟨y, hy, hur⟩ := prd_get hpq3 hu
        have hj3 : j < qs.length := (List.getElem?_eq_some_iff.mp hy).1
        refine ⟨u, _, rfl, .inl (.inl hur), rfl, _, _, rfl, _, _, rfl, _, _, rfl, rfl, ?_⟩
        have hFl := pushAll_len (qs.take j) ps
        rw [List.length_take] at hFl
        have hnext := pushAll_take (l := ps) hy
        generalize hF : pushAll ps (qs.take j) = F at t3 hFl hnext
        -- what is appended in the end
        have fin : ∀ (bg : Int) (G : List Stt) (H4 : Hp), Same (del H3 l) H4 → Trs H4 l G → G.length ≤ 10000 → G ++ [(bg, y.2)] = push F y →
            tDrop (tBM K "list" rAppend (tVar 2) (tCons (tTup (tCons (tVar 9) (tCons (tVar 7) (tCons (tVar 8) tNil)))) tNil)) { nx := fun σ H' => ∃ (y6 y7 y8 y9 : Option V), Same H H' ∧ H' lq = some (.lst (tq.map V.ref)) ∧ Paired (Tr H') tq qs ∧ Trs H' l (pushAll ps (qs.take (j + 1))) ∧ σ = [some (.ref p), some (.ref lm), some (.ref l), some (.int x.1), some (lv x.2.1), some (.int x.2.2), y6, y7, y8, y9], rt := fun v H' => Q v H' } [some (.ref p), some (.ref lm), some (.ref l), some (.int x.1), some (lv x.2.1), some (.int x.2.2), some (.int y.1), some (lv y.2.1), some (.int y.2.2), some (.int bg)] H4 := by
          intro bg G H4 s4 t4 h10 hG
          obtain ⟨ts, g1, g2⟩ := id t4
          refine ⟨_, rfl, .inl ⟨rfl, _, .inl (.inl g1)⟩, _, rfl, _, rfl, _, rfl, app_tr (K := K) (x := (bg, y.2)) s4 (del_same) t4 h10 fun H5 s5 t5 => ?_⟩
          have keep : ∀ b o, b ≠ l → H3 b = some o → H5 b = some o := fun b o nb e => s5 b o (by rw [del_ne nb]; exact e)
          refine ⟨_, _, _, _, fun b o e => keep b o (ne_of_none e hl) (s3 b o e), keep _ _ hlq0 hlq3, L2.Paired.mapP hpq3 fun t z hz => ?_, ?_, rfl⟩
          · obtain ⟨ts3, g3, _⟩ := t3
            exact keep t _ (ne_of hz g3 (by intro q; cases q)) hz
          · rw [hG] at t5
            rw [hnext]
            exact t5
        have sd : Same (del H3 l) H3 := fun b o e => by
          by_cases z : b = l
          · rw [z, del_same] at e; cases e
          · rw [del_ne z] at e; exact e
        obtain ⟨ts3, g3, p3⟩ := id t3
        refine ⟨_, rfl, l, _, rfl, .inl (.inl (.inl g3)), _, _, rfl, rfl, _, rfl, ?_⟩
        rw [List.length_map, prd_len p3]
        rcases List.eq_nil_or_concat F with eF | ⟨F0, z, eF⟩
        · subst eF
          refine iteF (iteF ⟨_, rfl, ?_⟩)
          exact fin y.1 [] H3 sd t3 (by decide) rfl
        · rw [List.concat_eq_append] at eF
          subst eF
          rw [decide_eq_true (show (0 : Int) < (((F0 ++ [z]).length : Nat) : Int) by rw [List.length_append]; show (0 : Int) < ((F0.length + 1 : Nat) : Int); omega)]
          obtain ⟨ts0, tz, rfl, p0, hz⟩ := prd_concat p3
          have hlen0 : ((ts0 ++ [tz]).map V.ref)[ts0.length]? = some (.ref tz) := by
            rw [List.map_append, List.getElem?_append_right (by rw [List.length_map]; exact Nat.le_refl _), List.length_map, Nat.sub_self]
            rfl
          refine iteT ⟨_, rfl, _, rfl, l, _, _, .ref tz, rfl, rfl, .inl (.inl g3), at_neg1 hlen0, tz, _, _, .int z.2.2, rfl, rfl, .inl (.inl hz), rfl, _, rfl, rfl, _, rfl, ?_⟩
          rw [dint]
          have hpush : push (F0 ++ [z]) y = if z.2.2 = y.2.2 then F0 ++ [(z.1, y.2)] else (F0 ++ [z]) ++ [y] := by
            unfold push
            rw [List.getLast?_concat]
            dsimp only
            rw [List.dropLast_concat]
          rw [List.length_append] at hFl
          have hF1 : [z].length = 1 := rfl
          by_cases he : z.2.2 = y.2.2
          · rw [decide_eq_true he]
            rw [if_pos he] at hpush
            refine iteT ⟨_, rfl, .inl ⟨rfl, _, .inl (.inl g3)⟩, l, _, .ref tz, rfl, rfl, g3, ?_, tz, [.int z.1, lv z.2.1, .int z.2.2], _, .int z.1, rfl, rfl, .inl (.inl ?_), rfl, ?_⟩
            · rw [List.length_map, List.length_append]
              exact hlen0
            · rw [upd_ne (ne_of hz g3 (by intro q; cases q))]
              exact hz
            · refine fin z.1 F0 _ (fun b o e => ?_) ⟨ts0, by rw [upd_same, List.map_append]; show some (HO.lst ((ts0.map V.ref ++ [V.ref tz]).dropLast)) = _; rw [List.dropLast_concat], prd_lst p0 g3⟩ (by omega) hpush.symm
              have nb : b ≠ l := fun z => by rw [z, del_same] at e; cases e
              rw [upd_ne nb]
              rw [del_ne nb] at e
              exact e
          · rw [decide_eq_false he]
            rw [if_neg he] at hpush
            refine iteF ⟨_, rfl, ?_⟩
            exact fin y.1 (F0 ++ [z]) H3 sd t3 (by rw [List.length_append]; omega) hpush.symm
      · rintro σ H3 ⟨y6, y7, y8, y9, s3, hlq3, hpq3, t3, rfl⟩
        rw [List.length_map, hqlen, List.take_length] at t3
        refine ⟨pushAll ps qs, _, _, _, _, _, _, _, s3, t3, ?_, pushAll_all (fun t x h1 h2 => ⟨h1.1, h1.2.1, h2.2.2⟩) b1 (fun y hy => ?_), ?_, rfl⟩
        · have := c1.pushAll c2
          rw [List.take_succ, hx, Option.toList_some]
          unfold endOf
          rw [List.getLast?_concat]
          exact this
        · have h1 := b2 y hy
          exact ⟨Int.le_trans hxB.1 h1.1, h1.2⟩
        · have := pushAll_len qs ps
          omega
    · rintro σ H3 ⟨ps, y3, y4, y5, y6, y7, y8, y9, s3, t3, c3, b3, n3, rfl⟩
      rw [List.length_map, hlen, List.take_length, ← hC.end_] at c3
      rw [List.length_map, hlen] at n3
      exact ⟨_, rfl, q l ps H3 hl s3 t3 c3 b3 n3⟩
end
end Ef
set_option Elab.async false
set_option linter.all false
set_option maxRecDepth 100000
set_option maxHeartbeats 4000000
set_option exponentiation.threshold 20
namespace Ef
open PySem PySem.Spec PyProof.Rows L2
abbrev sSig : Stmt := top 23
abbrev sRow : Stmt := top 24
/-- a row and the rows of its steps, the last one first -/
inductive Stk (K : PySem.W.Frag) (H : Hp) (r0 : List Int) : List Addr → List (List Int) → Prop
  | one {a : Addr} : Seqs K H a (r0.map V.int) → Stk K H r0 [a] [r0]
  | push {a : Addr} {as : List Addr} {r s : List Int} {rs : List (List Int)} : Stk K H r0 as (s :: rs) → SqL K H a (r.map V.int) → 2 ≤ s.length → r.length = s.length - 1 → (∀ j, cf r j = stp s j) → (∀ c ∈ r, Bd (750 + 9 * as.length) c) → Stk K H r0 (a :: as) (r :: s :: rs)
theorem Stk.same {K : PySem.W.Frag} {H H' : Hp} {r0 : List Int} {as : List Addr} {rs : List (List Int)} (h : Stk K H r0 as rs) (e : Same H H') : Stk K H' r0 as rs := by
  induction h with
  | one h1 => exact .one (h1.same e)
  | push h1 h2 h3 h4 h5 h6 ih => exact .push ih (e.seq h2) h3 h4 h5 h6
theorem Stk.facts {K : PySem.W.Frag} {H : Hp} {r0 : List Int} {as : List Addr} {rs : List (List Int)} (h7 : r0.length ≤ 7) (hb : ∀ c ∈ r0, Bd 750 c) (h : Stk K H r0 as rs) :
    (∃ a as' s rs', as = a :: as' ∧ rs = s :: rs' ∧ Seqs K H a (s.map V.int) ∧ s.length + as'.length = r0.length ∧ ∀ c ∈ s, Bd (750 + 9 * as'.length) c) ∧ as.length = rs.length ∧ rs.getLast? = some r0 ∧ ∀ r ∈ rs, r.length ≤ 7 ∧ ∀ c ∈ r, Bd 850 c := by
  induction h with
  | one h1 => exact ⟨⟨_, _, _, _, rfl, rfl, h1, rfl, hb⟩, rfl, rfl, fun r hr => by rw [List.mem_singleton.mp hr]; exact ⟨h7, fun c hc => (hb c hc).up (by decide)⟩⟩
  | @push a as r s rs h1 h2 h3 h4 h5 h6 ih =>
    obtain ⟨⟨a', as', s', rs', rfl, e2, k1, k2, k3⟩, e3, e4, e5⟩ := ih
    cases e2
    rw [List.length_cons] at h6
    refine ⟨⟨_, _, _, _, rfl, rfl, .inl h2, by rw [List.length_cons]; omega, by rw [List.length_cons]; exact h6⟩, by rw [List.length_cons, e3]; rfl, ?_, fun x hx => ?_⟩
    · rw [List.getLast?_cons_cons]; exact e4
    · rcases List.mem_cons.mp hx with rfl | hx
      · exact ⟨by omega, fun c hc => (h6 c hc).up (by omega)⟩
      · exact e5 x hx
theorem Stk.next {K : PySem.W.Frag} {H : Hp} {r0 : List Int} {as : List Addr} {rs : List (List Int)} (h : Stk K H r0 as rs) : (∀ s, rs.head? = some s → ∀ a, as.head? = some a → Seqs K H a (s.map V.int)) ∧ ∀ {i : Nat} {a : Addr}, as[i + 1]? = some a → ∃ r s, rs[i]? = some s ∧ rs[i + 1]? = some r ∧ Seqs K H a (r.map V.int) ∧ ∀ n, evalR s n = evalR r (n + 1) - evalR r n := by
  induction h with
  | one h1 => exact ⟨fun s hs a ha => by cases hs; cases ha; exact h1, fun {i a} h => by cases h⟩
  | @push a as r s rs h1 h2 h3 h4 h5 h6 ih =>
    refine ⟨fun s hs a ha => by cases hs; cases ha; exact .inl h2, fun {i a'} h => ?_⟩
    cases i with
    | zero =>
      refine ⟨s, r, rfl, rfl, ih.1 s rfl a' ?_, fun n => eval_stp h5 n⟩
      rw [List.head?_eq_getElem?]
      exact h
    | succ i => exact ih.2 h
theorem eval_short {r : List Int} (h : r.length ≤ 1) (n m : Int) : evalR r n = evalR r m := by
  rcases r with _ | ⟨c, r⟩
  · rfl
  · rcases r with _ | ⟨d, r⟩
    · show 0 * n + c = 0 * m + c
      rw [Int.zero_mul, Int.zero_mul]
    · exact absurd h (by show ¬ r.length + 1 + 1 ≤ 1; omega)
section
variable {P : Program} {w : World} {K : PySem.W.Frag} {mg : Str → Option Value} {base : Heap}
def spRow (K : PySem.W.Frag) : Sp := fun vs H Q _ => ∃ (q : Addr) (r : List Int) (low : Int), vs = [.ref q, .int low] ∧ Seqs K H q (r.map V.int) ∧ r.length ≤ 7 ∧ (∀ c ∈ r, Bd 750 c) ∧ Bd 800 low ∧
  ∀ (l : Addr) (ps : List Stt) (H' : Hp), H l = none → Same H H' → Trs H' l ps → Cv (evalR r) low ps none → ps.length ≤ 3 ^ 7 → Q (.ref l) H'
theorem scRow : FnScope ["row", "low", "rows", "found", "higher"] ["row", "low"] (defScope sRow) := ⟨rfl, rfl, rfl, by decide +kernel, rfl, by decide +kernel, by decide +kernel⟩
theorem df_row (A : At K mg "signs_of_row" sRow) (T : TxtR mg) (Dsignof : Df P w K mg base 1 "sign_of" ["number"] spSign) (Dvalueat : Df P w K mg base 1 "value_at" ["row", "n"] (spVal K)) (Drowofsteps : Df P w K mg base 1 "row_of_steps" ["row"] (spStp K))
    (Dsignsbymoves : Df P w K mg base 7 "_signs_by_moves" ["row", "moves"] (spMov K)) : Df P w K mg base 8 "signs_of_row" ["row", "low"] (spRow K) := by
  obtain ⟨f, fd, hm, F⟩ := A.ex
  refine ⟨f, fd, hm, F.kp, F.binds (fun _ _ _ _ _ _ us hl => match us, hl with | [_, _], _ => rfl), F.ok scRow (fun vs H Q E h => ?_) (fun cdv A outer s H vs Q E hr h => ?_)⟩
  · obtain ⟨q, r, low, rfl, _⟩ := h
    rfl
  · obtain ⟨p, r, low, rfl, hS, h7, hb, hlow, q⟩ := h
    refine ⟨_, (pss_cons (ps_set (i := 2) scRow.nd rfl (.inl rfl) (pe_lst (pa_cons (pv 0) pa_nil)))
      (pss_cons (ps_while PassesOwn.never (pt_cmpR op_gt (pe_callB call_len_seq (by rfl) T.len PySem.boot_len (pa_cons (pe_ix ix_list (pv 2) (pe_un un_neg pe_int) (fun _ _ => rfl)) pa_nil)) pe_int (nomark _))
      (pss_one (ps_expr (pe_bm PySem.F.plainAttrs_list PySem.F.slot_list_append PySem.F.type_list_append mt_append (pv 2) (pa_cons (Drowofsteps.call (hr.mono (by decide)) (pa_cons (pe_ix ix_list (pv 2) (pe_un un_neg pe_int) (fun _ _ => rfl)) pa_nil)) pa_nil)))))
      (pss_cons (ps_set (i := 3) scRow.nd rfl (.inl rfl) (pe_lst (pa_cons (pe_tup (pa_cons (pv 1) (pa_cons pe_non (pa_cons (Dsignof.call (hr.mono (by decide)) (pa_cons (Dvalueat.call (hr.mono (by decide)) (pa_cons (pe_ix ix_list (pv 2) (pe_un un_neg pe_int) (fun _ _ => rfl)) (pa_cons (pv 1) pa_nil))) pa_nil)) pa_nil)))) pa_nil)))
      (pss_cons (ps_for PassesOwn.never rfl (pi_list (pe_back (pv 2) (po_some (pe_un un_neg pe_int)))) (pg_name (i := 4) scRow.nd rfl (.inl rfl))
      (pss_one (ps_set (i := 3) scRow.nd rfl (.inl rfl) (Dsignsbymoves.call (hr.mono (by decide)) (pa_cons (pv 4) (pa_cons (pv 3) pa_nil))))))
      (pss_one (ps_ret (pv 3))))))), ?_⟩
    refine ⟨_, rfl, by show 1 ≤ sizeLine; decide, fun L hL => ?_⟩
    have s0 : Same H (upd H L (.lst [.ref p])) := same_new hL
    have e0 : (upd H L (.lst [.ref p])) L = some (.lst [.ref p]) := upd_same
    generalize upd H L (.lst [.ref p]) = H0 at s0 e0 ⊢
    have sdel : ∀ (H' : Hp), Same (del H' L) H' := fun H' b o e => by
      by_cases z : b = L
      · rw [z, del_same] at e; cases e
      · rw [del_ne z] at e; exact e
    have sdel2 : ∀ {H1 H2 : Hp} {o : HO}, Same H1 H2 → Same (del H1 L) (del (upd H2 L o) L) := fun s b o e => by
      by_cases z : b = L
      · rw [z, del_same] at e; cases e
      · rw [del_ne z] at e
        rw [del_ne z, upd_ne z]
        exact s b o e
    have hl0 := hL
    refine ⟨fun n σ H' => ∃ (as : List Addr) (rs : List (List Int)), Same H H' ∧ H' L = some (.lst (as.reverse.map V.ref)) ∧ Stk K (del H' L) r as rs ∧ σ = [some (.ref p), some (.int low), some (.ref L), none, none] ∧ n = (rs.headD []).length,
      ⟨_, [p], [r], s0, e0, .one (hS.same (fun b o e => by
        have z : b ≠ L := fun z => by rw [z, hL] at e; cases e
        rw [del_ne z]; exact s0 _ _ e)), rfl, rfl⟩, fun n σ H1 hI => ?_⟩
    obtain ⟨as, rs, s1, e1, hK, rfl, rfl⟩ := hI
    obtain ⟨⟨a0, as', s0', rs', rfl, rfl, k1, k2, k3⟩, k4, k5, k6⟩ := hK.facts h7 hb
    have k7 := k6 s0' List.mem_cons_self
    have k1' := k1.same (sdel H1)
    have lst0 : (((a0 :: as').reverse).map V.ref)[as'.length]? = some (.ref a0) := by
      rw [List.reverse_cons, List.map_append, List.getElem?_append_right (by rw [List.length_map, List.length_reverse]; exact Nat.le_refl _), List.length_map, List.length_reverse, Nat.sub_self]
      rfl
    have at0 := at_neg1 lst0 (by rw [List.length_map, List.length_reverse]; rfl)
    refine ⟨_, rfl, _, rfl, L, _, _, .ref a0, rfl, rfl, .inl (.inl e1), at0, ?_⟩
    refine ⟨a0, _, rfl, k1', _, _, rfl, rfl, _, rfl, ?_⟩
    rw [List.length_map]
    refine ite2 (fun hb => ?_) (fun hb => ?_)
    · have hlt : 1 < s0'.length := by have := of_decide_eq_true hb; omega
      refine ⟨fun σ H' => ∃ (as : List Addr) (rs : List (List Int)), Same H H' ∧ H' L = some (.lst (as.reverse.map V.ref)) ∧ Stk K (del H' L) r as rs ∧ σ = [some (.ref p), some (.int low), some (.ref L), none, none] ∧ (rs.headD []).length < s0'.length, fun σ' H' ⟨as, rs, z1, z2, z3, z4, z5⟩ => ⟨_, z5, as, rs, z1, z2, z3, z4, rfl⟩, ?_⟩
      refine ⟨_, rfl, .inl ⟨rfl, _, .inl (.inl e1)⟩, _, rfl, _, rfl, L, _, _, .ref a0, rfl, rfl, .inl (.inl e1), at0, ?_⟩
      refine ⟨a0, s0', _, rfl, k1', by omega, k7.1, k3, by omega, fun l t H2 s2 hl2 e2 n2 c2 b2 => ?_⟩
      have hlL : l ≠ L := fun z => by rw [z, e1] at hl2; cases hl2
      refine ⟨L, _, _, rfl, rfl, s2 _ _ e1, ?_, ?_⟩
      · rw [List.length_map, List.length_reverse, List.length_cons]
        have : as'.length ≤ 7 := by omega
        exact Nat.lt_of_le_of_lt (Nat.succ_le_succ this) (by decide)
      · refine ⟨l :: a0 :: as', t :: s0' :: rs', fun b o e => ?_, ?_, ?_, rfl, ?_⟩
        · have z : b ≠ L := fun z => by rw [z, hl0] at e; cases e
          rw [upd_ne z]
          exact s2 _ _ (s1 _ _ e)
        · rw [upd_same, List.reverse_cons (a := l), List.map_append]
          rfl
        · refine .push (hK.same (sdel2 s2)) (.inl (.inl ?_)) (by omega) n2 c2 (fun c hc => (b2 c hc).up ?_)
          · rw [del_ne hlL, upd_ne hlL]; exact e2
          · rw [List.length_cons]; omega
        · show t.length < _
          omega
    · have hge : s0'.length ≤ 1 := by have := mt decide_eq_true hb; omega
      refine ⟨_, rfl, _, rfl, _, rfl, L, _, _, .ref a0, rfl, rfl, .inl (.inl e1), at0, ?_⟩
      have hlowI := hlow
      unfold Bd at hlowI
      have hlo1 : -(2 ^ 860) ≤ low := by
        have h1 : (2 : Nat) ^ 800 ≤ 2 ^ 860 := Nat.pow_le_pow_right (by decide) (by decide)
        have h2 : low.natAbs ≤ 2 ^ 860 := Nat.le_of_lt (Nat.lt_of_lt_of_le hlowI h1)
        have h3 : (((2 : Nat) ^ 860 : Nat) : Int) = (2 : Int) ^ 860 := by rw [Int.natCast_pow]; rfl
        generalize (2 : Nat) ^ 860 = N at h2 h3
        generalize (2 : Int) ^ 860 = M at h3 ⊢
        omega
      have hlo2 : low ≤ 2 ^ 855 + 1 := by
        have h1 : (2 : Nat) ^ 800 ≤ 2 ^ 855 := Nat.pow_le_pow_right (by decide) (by decide)
        have h2 : low.natAbs ≤ 2 ^ 855 := Nat.le_of_lt (Nat.lt_of_lt_of_le hlowI h1)
        have h3 : (((2 : Nat) ^ 855 : Nat) : Int) = (2 : Int) ^ 855 := by rw [Int.natCast_pow]; rfl
        generalize (2 : Nat) ^ 855 = N at h2 h3
        generalize (2 : Int) ^ 855 = M at h3 ⊢
        omega
      refine ⟨_, rfl, a0, s0', low, rfl, k1', by omega, fun c hc => (k7.2 c hc).up (by decide), hlow.up (by decide), fun H2 s2 => ⟨_, rfl, by show 3 ≤ sizeLine; decide, fun t ht => ⟨by show 1 ≤ sizeLine; decide, fun l hl => ?_⟩⟩⟩
      have htl : t ≠ l := fun z => by rw [z, upd_same] at hl; cases hl
      have ht2 : (upd (upd H2 t (.tup [.int low, .non, .int (sg (evalR s0' low))])) l (.lst [.ref t])) t = some (.tup [.int low, lv none, .int (sg (evalR s0' low))]) := by rw [upd_ne htl, upd_same]; rfl
      have hl2 : (upd (upd H2 t (.tup [.int low, .non, .int (sg (evalR s0' low))])) l (.lst [.ref t])) l = some (.lst [.ref t]) := upd_same
      have s3 : Same H2 (upd (upd H2 t (.tup [.int low, .non, .int (sg (evalR s0' low))])) l (.lst [.ref t])) := (same_new ht).trans (same_new hl)
      generalize upd (upd H2 t (.tup [.int low, .non, .int (sg (evalR s0' low))])) l (.lst [.ref t]) = H3 at ht2 hl2 s3 ⊢
      have s13 := s2.trans s3
      have hxs : ((List.map V.ref (a0 :: as').reverse).take as'.length).reverse = as'.map V.ref := by
        rw [List.reverse_cons, List.map_append, List.take_append_of_le_length (by rw [List.length_map, List.length_reverse]; exact Nat.le_refl _), List.take_of_length_le (by rw [List.length_map, List.length_reverse]; exact Nat.le_refl _), ← List.map_reverse, List.reverse_reverse]
      refine ⟨_, rfl, 2, rfl, -2, rfl, L, _, as'.length, rfl, .inl (.inl (s13 _ _ e1)), ?_, fun B hB => ?_⟩
      · unfold backOf
        rw [if_neg (by decide), if_pos rfl, if_pos (by rw [List.length_map, List.length_reverse]; exact Nat.succ_pos _), List.length_map, List.length_reverse]
        rfl
      rw [hxs]
      have s4 : Same H3 (upd H3 B (.lst (as'.map V.ref))) := same_new hB
      have e4 : (upd H3 B (.lst (as'.map V.ref))) B = some (.lst (as'.map V.ref)) := upd_same
      generalize upd H3 B (.lst (as'.map V.ref)) = H4 at s4 e4 ⊢
      have s14 := s13.trans s4
      have hst := hK.same ((sdel H1).trans s14)
      refine ⟨B, rfl, ⟨_, .inl (.inl e4)⟩, for_list (K := K) (a := B) (xs := as'.map V.ref) (fun i σ H' => ∃ (lf : Addr) (F : List Stt) (s' : List Int) (y4 : Option V), H lf = none ∧ Same H4 H' ∧ Trs H' lf F ∧ (s0' :: rs')[i]? = some s' ∧ Cv (evalR s') low F none ∧ (∀ x ∈ F, InB low x) ∧ F.length ≤ 3 ^ i ∧ σ = [some (.ref p), some (.int low), some (.ref L), some (.ref lf), y4])
        ⟨l, [(low, none, sg (evalR s0' low))], s0', none, (s1.trans (s2.trans (same_new ht))).free hl, Same.refl _, ⟨[t], s4 _ _ hl2, .cons (s4 _ _ ht2) .nil⟩, rfl, ?_, fun x hx => ?_, Nat.le_refl 1, rfl⟩ (fun i σ H' _ ⟨_, _, _, _, _, s, _⟩ => .inl (.inl (s _ _ e4))) ?_ ?_⟩
      · refine Cv.snoc (f := evalR s0') (a := low) (l := []) (b := low) (e := none) (s := sg (evalR s0' low)) .nil (fun t ht => by cases ht) trivial fun n _ _ => ?_
        rw [eval_short hge n low]
      · rw [List.mem_singleton.mp hx]
        exact ⟨Int.le_refl _, hlo2, fun y hy => by cases hy⟩
      · rintro i v σ H5 hi ⟨lf, F, s', y4, n0, s5, t5, g5, c5, b5, n5, rfl⟩
        rw [List.getElem?_map] at hi
        obtain ⟨a, ha, rfl⟩ := Option.map_eq_some_iff.mp hi
        have hi7 : i < as'.length := (List.getElem?_eq_some_iff.mp ha).1
        obtain ⟨_, hnx⟩ := hst.next
        obtain ⟨r2, s2', q1, q2, q3, q4⟩ := hnx (i := i) (a := a) ha
        rw [q1] at g5
        cases g5
        have r7 := k6 r2 (List.mem_of_getElem? q2)
        have hi6 : 3 ^ i ≤ 1000 := Nat.le_trans (Nat.pow_le_pow_right (by decide) (show i ≤ 6 by omega)) (by decide)
        refine ⟨_, rfl, _, rfl, a, lf, r2, low, F, rfl, ⟨q3.same s5, r7.1, r7.2⟩, t5, by omega, hlo1, c5.congr fun n => by rw [q4], b5, fun lg G H6 ng s6 t6 c6 b6 n6 => ?_⟩
        exact ⟨lg, G, r2, _, (s1.trans (s14.trans s5)).free ng, s5.trans s6, t6, q2, c6, b6, by rw [Nat.pow_succ]; omega, rfl⟩
      · rintro σ H5 ⟨lf, F, s', y4, n0, s5, t5, g5, c5, b5, n5, rfl⟩
        rw [List.length_map] at g5 n5
        have e9 : (s0' :: rs')[as'.length]? = some r := by
          rw [← k5, List.getLast?_eq_getElem?]
          rw [List.length_cons, List.length_cons] at k4
          rw [List.length_cons]
          congr 1
          omega
        rw [e9] at g5
        cases g5
        exact ⟨_, rfl, q lf F H5 n0 (s1.trans (s14.trans s5)) t5 c5 (Nat.le_trans n5 (Nat.pow_le_pow_right (by decide) (by omega)))⟩
end
end Ef
set_option Elab.async false
set_option linter.all false
set_option maxRecDepth 100000
set_option maxHeartbeats 4000000
set_option exponentiation.threshold 20
namespace Ef
open PySem PySem.Spec PyProof.Rows L2
abbrev sErrP : Stmt := inClass (top 6) 0
theorem passF {X : Cx} : Passes (CX X.prog X.w) X (fun _ _ _ => False) := fun pins σ H s e s' I h => by
  obtain ⟨a, B, H', cls, d, _, _, _, _, _, _, _, hE⟩ := h
  exact hE.elim
/-- an error comes with one field -/
def Errs (H : Hp) (C : Addr) (fl : Str) (v : V) (E : XK) : Prop := ∀ d H', Same H H' → H d = none → H' d = some (.xd [(fl, v)]) → E (.ref C) (some d) H'
theorem mk_pc {K : PySem.W.Frag} {C CR CU a : Addr} {H : Hp} {r : List Int} {un : Nat} {Q : VK} {E : XK} (hS : Seqs K H a (r.map V.int)) (hl : r.length ≤ 100) (hu : 0 < un) (hb : Bd 8000 (un : Int))
    (q : ∀ p s z H', Low r un s z → Same H H' → PAt K C H' p s z → Q (.ref p) H') : ∀ x dx, H x = none → H dx = none → dx ≠ x → spInit K C CR CU (V.ref x :: [V.ref a, V.int (un : Int)]) (upd (upd H dx (.own x)) x (.ins C dx [])) (fun v H' => v = .non ∧ Q (.ref x) H') E := by
  intro x dx nx ndx nex
  exact ⟨H, x, dx, a, _, _, rfl, fun b o e => by
    rw [upd_ne (ne_of_none e nx), upd_ne (ne_of_none e ndx)]
    exact e, nx, upd_same, hS, by rw [List.length_map]; exact hl, .inr ⟨r, rfl, .inl ⟨un, rfl, hu, hb, fun pr u H' hL s hP => ⟨rfl, q x pr u H' hL s hP⟩⟩⟩⟩
section
variable {P : Program} {w : World} {K : PySem.W.Frag} {mg : Str → Option Value} {base : Heap}
theorem scErrP : FnScope ["self", "n"] ["self", "n"] (defScope sErrP) := ⟨rfl, rfl, rfl, by decide +kernel, rfl, by decide +kernel, by decide +kernel⟩
theorem ok_errP {f C fI : Addr} {fd : FuncData} (F : Fun K "__init__" "BadPlace.__init__" sErrP f fd) (T : ErrF K mg "BadPlace" "n" C fI) : FnOk P w K mg base CX0 1 f fd ["self", "n"] (spErr K C "n") := by
  refine F.ok scErrP (fun vs H Q E h => ?_) (fun cdv A outer s H vs Q E hr h => ?_)
  · obtain ⟨a, v, rfl, _⟩ := h
    rfl
  · obtain ⟨a, v, rfl, ha, q⟩ := h
    refine ⟨_, (pss_one (ps_ost (pv 0) (pv 1))), ?_⟩
    exact ⟨_, rfl, _, rfl, a, C, rfl, T.oex, T.nN, .inl ⟨ha, fun dx h1 h2 => q dx h1 h2⟩⟩
/-! ### signs_of -/
/-- a piece whose signs can be told -/
structure Sgd (r : List Int) : Prop where
  l : r.length ≤ 7
  b : ∀ c ∈ r, Bd 750 c
/-- a list that tells the signs of r from low on -/
def Told (H H' : Hp) (l : Addr) (r : List Int) (low : Int) : Prop := H l = none ∧ Same H H' ∧ ∃ ps, Trs H' l ps ∧ Cv (evalR r) low ps none ∧ ps.length ≤ 3 ^ 7
def spSig (K : PySem.W.Frag) (C CB : Addr) : Sp := fun vs H Q E => ∃ (p : Addr) (v : V) (r : List Int) (u : Nat), vs = [.ref p, v] ∧ PAt K C H p r u ∧ Sgd r ∧
  ((∃ low : Int, v = .int low ∧ Bd 800 low ∧ ∀ l H', Told H H' l r low → Q (.ref l) H') ∨ (NotInt K H v ∧ Errs H CB "n" v E))
theorem scSig : FnScope ["p", "low"] ["p", "low"] (defScope sSig) := ⟨rfl, rfl, rfl, by decide +kernel, rfl, by decide +kernel, by decide +kernel⟩
/-- where signs_of stands: with one argument and with two -/
structure SigD (P : Program) (w : World) (K : PySem.W.Frag) (mg : Str → Option Value) (base : Heap) (C CB : Addr) : Prop where
  ex : ∃ f fd ds, mg "signs_of" = some (.ref f) ∧ PySem.W.keepIn K (.ref f) = true ∧ Vals [.int 0] ds ∧ Binds K fd ["p", "low"] ds ∧ Binds K fd ["p", "low"] [] ∧ FnOk P w K mg base (CX P w) 10 f fd ["p", "low"] (spSig K C CB)
theorem binds_sig {f : Addr} {fd : FuncData} (F : FunD K "signs_of" "signs_of" (defArgs sSig) (defBody sSig) (defScope sSig) [V.int 0] [] f fd) : Binds K fd ["p", "low"] [] := by
  have z : ∃ ds, Vals (List.drop 1 [V.int 0]) ds ∧ Binds K fd ["p", "low"] ds := by
    refine F.binds1 (ps := ["p", "low"]) 2 1 (fun z => by cases z) rfl (fun T kV doc pm an cdv ct us its hu hi => ?_)
    match us, hu, its, hi with
    | [_, _], _, [_], _ => exact ⟨_, rfl, rfl⟩
  obtain ⟨ds, hv, hb⟩ := z
  cases hv
  exact hb
theorem binds_sig1 {f : Addr} {fd : FuncData} (F : FunD K "signs_of" "signs_of" (defArgs sSig) (defBody sSig) (defScope sSig) [V.int 0] [] f fd) : ∃ ds, Vals [.int 0] ds ∧ Binds K fd ["p", "low"] ds := by
  refine F.binds1 (ps := ["p", "low"]) 1 0 (fun z => by cases z) rfl (fun T kV doc pm an cdv ct us its hu hi => ?_)
  match us, hu, its, hi with
  | [_], _, [_], _ => exact ⟨_, rfl, rfl⟩
theorem sig_d {C CB f fB : Addr} {fd fdB : FuncData} (hm : mg "signs_of" = some (.ref f)) (F : FunD K "signs_of" "signs_of" (defArgs sSig) (defBody sSig) (defScope sSig) [V.int 0] [] f fd) (CW : ClsP K mg C)
    (EB : ErrF K mg "BadPlace" "n" CB fB) (FB : FnOk P w K mg base CX0 1 fB fdB ["self", "n"] (spErr K CB "n")) (bB : Binds K fdB ["self", "n"] [])
    (Disint : Df P w K mg base 1 "is_int" ["value"] (spIsInt K)) (Dsignsofrow : Df P w K mg base 8 "signs_of_row" ["row", "low"] (spRow K)) : SigD P w K mg base C CB := by
  obtain ⟨ds, hds, b1⟩ := binds_sig1 F
  refine ⟨f, fd, ds, hm, F.kp, hds, b1, binds_sig F, FunD.ok F scSig (fun vs H Q E h => ?_) (fun cdv A outer s H vs Q E hr h => ?_)⟩
  · obtain ⟨p, v, r, u, rfl, _⟩ := h
    rfl
  · obtain ⟨p, v, r, u, rfl, ⟨dx, ra, g1, g2⟩, hr1, q⟩ := h
    refine ⟨_, (pss_cons (ps_if (pt_not (pt_val (Disint.call (hr.mono (by decide)) (pa_cons (pv 1) pa_nil)))) (pss_one (ps_raise rfl (takes_of rfl rfl rfl rfl) (pmk_oex EB.oex EB.iC EB.tI FB (hr.mono (by decide)) bB .nil pass0 (by rfl) EB.mgC (pa_cons (pv 1) pa_nil)))) pss_nil)
      (pss_one (ps_ret (Dsignsofrow.call (hr.mono (by decide)) (pa_cons (pe_fld (pv 0) rfl) (pa_cons (pv 1) pa_nil)))))), ?_⟩
    rcases q with ⟨low, rfl, hlow, q⟩ | ⟨⟨n, b1, b2, ht, h1, h2, hb⟩, q⟩
    · refine ⟨_, rfl, _, "int", true, false, rfl, .base (.int low), by decide +kernel, by decide +kernel, _, rfl, ?_⟩
      refine iteF ⟨_, rfl, p, C, dx, _, _, rfl, g1, CW.cl, CW.nR, pf_row, _, rfl, ra, r, low, rfl, .inr g2, hr1.l, hr1.b, hlow, fun l ps H' n0 s t c n => q l H' ⟨n0, s, ps, t, c, n⟩⟩
    · refine ⟨_, rfl, _, n, b1, b2, rfl, ht, h1, h2, _, rfl, ?_⟩
      rw [hb]
      refine iteT ⟨_, rfl, mk_err (v := v) (R := E) q⟩
/-! ### the opposite -/
def spNeg (K : PySem.W.Frag) (C : Addr) : Sp := fun vs H Q _ => ∃ (a : Addr) (r : List Int) (u : Nat), vs = [.ref a] ∧ PAt K C H a r u ∧ r.length ≤ 7 ∧ (∀ c ∈ r, Bd 750 c) ∧ 0 < u ∧ Bd 8000 (u : Int) ∧ ∀ x t z H', Same H H' → PAt K C H' x t z → Low (r.map fun c => c * -1) u t z → Q (.ref x) H'
theorem scNeg : FnScope ["self"] ["self"] (defScope sNeg) := ⟨rfl, rfl, rfl, by decide +kernel, rfl, by decide +kernel, by decide +kernel⟩
theorem ok_neg {C CR CU fI f : Addr} {fd fdI : FuncData} (F : Fun K "__neg__" "Piece.__neg__" sNeg f fd) (CW : ClsQ K mg C) (M : Mk K C fI) (FI : FnOk P w K mg base (CX P w) 4 fI fdI ["self", "row", "under"] (spInit K C CR CU)) (bI : Binds K fdI ["self", "row", "under"] [])
    (Drowtimes : Df P w K mg base 1 "row_times" ["row", "factor"] (spTm K)) : FnOk P w K mg base CX0 6 f fd ["self"] (spNeg K C) := by
  refine F.ok scNeg (fun vs H Q E h => ?_) (fun cdv A outer s H vs Q E hr h => ?_)
  · obtain ⟨a, r, u, rfl, _⟩ := h
    rfl
  · obtain ⟨a, r, u, rfl, ⟨dx, ra, g1, g2⟩, hl, hb, hu, hub, q⟩ := h
    refine ⟨_, (pss_one (ps_ret (pe_make M FI (hr.mono (by decide)) (by rfl) CW.mgC bI .nil passF (pa_cons (Drowtimes.call (hr.mono (by decide)) (pa_cons (pe_fld (pv 0) rfl) (pa_cons (pe_un un_neg pe_int) pa_nil))) (pa_cons (pe_fld (pv 0) rfl) pa_nil))))), ?_⟩
    refine ⟨_, rfl, a, C, dx, _, _, rfl, g1, CW.cl, CW.nR, pf_row, _, rfl, ra, r, -1, rfl, .inr g2, by omega, fun c hc => (hb c hc).up (by decide), Bd.up (a := 1) (by unfold Bd; decide) (by decide), fun l H1 n1 s1 e1 => ?_⟩
    refine ⟨_, rfl, a, C, dx, _, _, rfl, s1 _ _ g1, CW.cl, CW.nU, pf_under, ?_⟩
    refine mk_pc (.inl (.inl (.inl e1))) (by rw [List.length_map]; omega) hu hub fun x t z H2 hL s2 hX => ?_
    exact q x t z H2 (s1.trans s2) hX hL
end
end Ef
set_option Elab.async false
set_option linter.all false
set_option maxRecDepth 100000
set_option maxHeartbeats 2000000
set_option exponentiation.threshold 20
/-! the signs of a product of factors -/
namespace Ef
theorem sg_times (x y : Int) : sg (x * y) = sg x * sg y := by
  rcases sg_three x with ⟨e, h⟩ | ⟨e, h⟩ | ⟨e, h⟩
  · rw [e, h, Int.zero_mul, Int.zero_mul]; rfl
  · rw [e, sg_mul h, Int.one_mul]
  · have h2 : sg (x * y) = -sg (-x * y) := by rw [← sg_opp, Int.neg_mul, Int.neg_neg]
    rw [h2, sg_mul (show 0 < -x by omega), e]
    omega
/-- a factor a * n - b -/
abbrev Fac := Int × Int
def valF (num : Int) : List Fac → Int → Int
  | [], _ => num
  | f :: fs, n => (f.1 * n - f.2) * valF num fs n
def sgnF (s : Int) : List Fac → Int → Int
  | [], _ => s
  | f :: fs, n => sgnF (s * sg (f.1 * n - f.2)) fs n
theorem sgnF_mul (s : Int) : ∀ (fs : List Fac) (t n : Int), sgnF (s * t) fs n = s * sgnF t fs n
  | [], _, _ => rfl
  | f :: fs, t, n => by
    show sgnF (s * t * sg (f.1 * n - f.2)) fs n = s * sgnF (t * sg (f.1 * n - f.2)) fs n
    rw [Int.mul_assoc, sgnF_mul s fs]
theorem sgnF_val (num : Int) : ∀ (fs : List Fac) (n : Int), sgnF (sg num) fs n = sg (valF num fs n)
  | [], _ => rfl
  | f :: fs, n => by
    show sgnF (sg num * sg (f.1 * n - f.2)) fs n = sg ((f.1 * n - f.2) * valF num fs n)
    rw [Int.mul_comm, sgnF_mul, sgnF_val num fs n, sg_times]
theorem sgnF_snoc (s : Int) : ∀ (fs : List Fac) (f : Fac) (n : Int), sgnF s (fs ++ [f]) n = sgnF s fs n * sg (f.1 * n - f.2)
  | [], _, _ => rfl
  | g :: fs, f, n => sgnF_snoc _ fs f n
/-- the row of a product -/
def rowF (num : Int) (fs : List Fac) : List Int := fs.foldl (fun r f => mulL r [-f.2, f.1]) [num]
theorem rowF_snoc (num : Int) (fs : List Fac) (f : Fac) : rowF num (fs ++ [f]) = mulL (rowF num fs) [-f.2, f.1] := by
  unfold rowF; rw [List.foldl_append]; rfl
theorem valF_snoc (num : Int) : ∀ (fs : List Fac) (f : Fac) (n : Int), valF num (fs ++ [f]) n = (f.1 * n - f.2) * valF num fs n
  | [], _, _ => rfl
  | g :: fs, f, n => by
    show (g.1 * n - g.2) * valF num (fs ++ [f]) n = (f.1 * n - f.2) * ((g.1 * n - g.2) * valF num fs n)
    rw [valF_snoc num fs f n, Int.mul_left_comm]
theorem cf_two (r : List Int) (f : Fac) (j : Nat) : cf (mulL r [-f.2, f.1]) j = -f.2 * cf r j + if j = 0 then 0 else f.1 * cf r (j - 1) := by
  rw [cf_mulL, cv_comm, two_cv]
/-- a factor of the law -/
def FOk (f : Fac) : Prop := 0 < f.1 ∧ Bd 104 f.1 ∧ Bd 104 f.2
theorem bd_neg {b : Nat} {x : Int} (h : Bd b x) : Bd b (-x) := by unfold Bd at *; rw [Int.natAbs_neg]; exact h
theorem two_bd {r : List Int} {f : Fac} {b : Nat} (h : ∀ c ∈ r, Bd b c) (hf : FOk f) : ∀ c ∈ mulL r [-f.2, f.1], Bd (b + 105) c := fun c hc => by
  obtain ⟨j, hj, rfl⟩ := List.getElem_of_mem hc
  rw [← cf_lt hj, cf_two]
  refine Bd.add' (a := b + 104) (Bd.mul (bd_neg hf.2.2) (cf_bd h j) (by omega)) ?_ (by omega)
  by_cases z : j = 0
  · rw [if_pos z]; exact Bd.zero _
  · rw [if_neg z]; exact Bd.mul hf.2.1 (cf_bd h _) (by omega)
structure RowF (num : Int) (fs : List Fac) (r : List Int) : Prop where
  l : r.length = 1 + 2 * fs.length
  z : ∀ j, fs.length < j → cf r j = 0
  b : ∀ c ∈ r, Bd (100 + 105 * fs.length) c
  e : ∀ n, evalR r n = valF num fs n
theorem RowF.nil {num : Int} (h : Bd 100 num) : RowF num [] [num] where
  l := rfl
  z := fun j hj => cf_ge hj
  b := fun c hc => by rw [List.mem_singleton.mp hc]; exact h
  e := fun n => by show 0 * n + num = num; rw [Int.zero_mul, Int.zero_add]
theorem RowF.snoc {num : Int} {fs : List Fac} {r : List Int} {f : Fac} (h : RowF num fs r) (hf : FOk f) : RowF num (fs ++ [f]) (mulL r [-f.2, f.1]) where
  l := by rw [mulL_len, h.l, List.length_append]; show _ + 2 = 1 + 2 * (_ + 1); omega
  z := fun j hj => by
    rw [List.length_append] at hj
    have hj : fs.length + 1 < j := hj
    rw [cf_two, h.z j (by omega), h.z (j - 1) (by omega), Int.mul_zero, Int.mul_zero]
    split <;> rfl
  b := fun c hc => (two_bd h.b hf c hc).up (by rw [List.length_append]; show _ ≤ 100 + 105 * (_ + 1); omega)
  e := fun n => by
    rw [valF_snoc, ← h.e, ev_two (a := -f.2) (b := f.1) (s := r) (fun j => by rw [cf_mulL, cv_comm])]
    congr 1
    omega
theorem rowF_ok {num : Int} (h : Bd 100 num) (fs : List Fac) : (∀ f ∈ fs, FOk f) → RowF num fs (rowF num fs) := by
  generalize hk : fs.length = k
  induction k generalizing fs with
  | zero =>
    rw [List.length_eq_zero_iff.mp hk]
    exact fun _ => .nil h
  | succ k ih =>
    intro hf
    rcases List.eq_nil_or_concat fs with e | ⟨gs, f, e⟩
    · rw [e] at hk; cases hk
    · rw [List.concat_eq_append] at e
      subst e
      rw [rowF_snoc]
      rw [List.length_append] at hk
      exact (ih gs (by have : [f].length = 1 := rfl; omega) fun g hg => hf g (List.mem_append_left _ hg)).snoc (hf f (List.mem_append_right _ List.mem_cons_self))
/-- what a piece of such a row is -/
theorem RowF.low {num : Int} {fs : List Fac} {r p : List Int} {un u : Nat} (h : RowF num fs r) (hl : Low r un p u) (h6 : fs.length ≤ 6) : p.length ≤ 7 ∧ ∀ c ∈ p, Bd 750 c := by
  obtain ⟨k, g, hg, hk, rfl, hd, hu, _, hz, hn⟩ := hl.ex
  refine ⟨?_, fun c hc => ?_⟩
  · rw [List.length_map, List.length_take]
    rcases hn with rfl | ⟨c, hc, h0⟩
    · omega
    · refine Nat.le_trans (Nat.min_le_left ..) (Nat.le_of_not_lt fun h8 => h0 ?_)
      rw [← cf_of hc]
      exact h.z _ (by omega)
  · obtain ⟨x, hx, rfl⟩ := List.mem_map.mp hc
    exact ((h.b x (List.mem_of_mem_take hx)).up (by omega)).div (Int.ofNat_lt.mpr hg)
/-- where the sign of a factor changes -/
theorem fac_same {f : Fac} (ha : 0 < f.1) {n : Int} (h1 : n ≠ f.2 / f.1) (h2 : n ≠ f.2 / f.1 + 1) : sg (f.1 * n - f.2) = sg (f.1 * (n - 1) - f.2) := by
  have e1 := Int.mul_ediv_add_emod f.2 f.1
  have e2 := Int.emod_nonneg f.2 (show f.1 ≠ 0 by omega)
  have e3 := Int.emod_lt_of_pos f.2 ha
  generalize f.2 / f.1 = q at *
  generalize f.2 % f.1 = m at *
  rcases Int.lt_or_le n q with z | z
  · have h3 : f.1 * n ≤ f.1 * (q - 1) := Int.mul_le_mul_of_nonneg_left (by omega) (Int.le_of_lt ha)
    have h4 : f.1 * (n - 1) ≤ f.1 * (q - 1) := Int.mul_le_mul_of_nonneg_left (by omega) (Int.le_of_lt ha)
    rw [Int.mul_sub, Int.mul_one] at h3
    rw [Int.mul_sub f.1 q, Int.mul_one] at h4
    rw [sg_neg (by omega), sg_neg (by omega)]
  · have h3 : f.1 * (q + 1) ≤ f.1 * n := Int.mul_le_mul_of_nonneg_left (by omega) (Int.le_of_lt ha)
    have h4 : f.1 * (q + 1) ≤ f.1 * (n - 1) := Int.mul_le_mul_of_nonneg_left (by omega) (Int.le_of_lt ha)
    rw [Int.mul_add, Int.mul_one] at h3 h4
    rw [sg_pos (by omega), sg_pos (by omega)]
theorem val_same (num : Int) {n : Int} : ∀ (fs : List Fac), (∀ f ∈ fs, 0 < f.1) → (∀ f ∈ fs, n ≠ f.2 / f.1 ∧ n ≠ f.2 / f.1 + 1) → sg (valF num fs n) = sg (valF num fs (n - 1))
  | [], _, _ => rfl
  | f :: fs, ha, h => by
    show sg ((f.1 * n - f.2) * valF num fs n) = sg ((f.1 * (n - 1) - f.2) * valF num fs (n - 1))
    have h1 := h f List.mem_cons_self
    rw [sg_times, sg_times, fac_same (ha f List.mem_cons_self) h1.1 h1.2, val_same num fs (fun g hg => ha g (List.mem_cons_of_mem _ hg)) fun g hg => h g (List.mem_cons_of_mem _ hg)]
/-- between two places where nothing changes -/
theorem stay {f : Int → Int} {a : Int} : ∀ (k : Nat), (∀ n, a < n → n ≤ a + (k : Int) → sg (f n) = sg (f (n - 1))) → sg (f (a + (k : Int))) = sg (f a)
  | 0, _ => by rw [show a + ((0 : Nat) : Int) = a by omega]
  | k + 1, h => by
    rw [h (a + ((k + 1 : Nat) : Int)) (by omega) (by omega), show a + ((k + 1 : Nat) : Int) - 1 = a + (k : Int) by omega]
    exact stay k fun n h1 h2 => h n h1 (by omega)
/-! ### the list of the law -/
def ofF (e : Option Int) : List (Int × Int) → List Stt
  | [] => []
  | [x] => [(x.1, e, x.2)]
  | x :: y :: r => (x.1, some (y.1 - 1), x.2) :: ofF e (y :: r)
theorem ofF_snoc (e : Option Int) (b s : Int) : ∀ (fs : List (Int × Int)), ofF e (fs ++ [(b, s)]) = ofF (some (b - 1)) fs ++ [(b, e, s)]
  | [] => rfl
  | [x] => rfl
  | x :: y :: r => by
    show (x.1, some (y.1 - 1), x.2) :: ofF e ((y :: r) ++ [(b, s)]) = _
    rw [ofF_snoc e b s (y :: r)]
    rfl
theorem ofF_len (e : Option Int) : ∀ (fs : List (Int × Int)), (ofF e fs).length = fs.length
  | [] => rfl
  | [x] => rfl
  | x :: y :: r => by
    show (ofF e (y :: r)).length + 1 = (y :: r).length + 1
    rw [ofF_len e (y :: r)]
/-- one more place of the law's list -/
def addF (fs : List (Int × Int)) (b s : Int) : List (Int × Int) := match fs.getLast? with
  | none => [(b, s)]
  | some t => if t.2 = s then fs else fs ++ [(b, s)]
theorem addF_cv {f : Int → Int} {a b : Int} {e : Option Int} {fs : List (Int × Int)} (h : Cv f a (ofF (some (b - 1)) fs) (some (b - 1))) (hb : Upto b e) (hs : ∀ n, b ≤ n → Upto n e → sg (f n) = sg (f b)) : Cv f a (ofF e (addF fs b (sg (f b)))) e := by
  unfold addF
  rcases List.eq_nil_or_concat fs with rfl | ⟨gs, t, rfl⟩
  · exact .snoc (l := []) h (fun t ht => by cases ht) hb hs
  · rw [List.concat_eq_append, List.getLast?_concat]
    obtain ⟨c, s⟩ := t
    dsimp only
    rw [List.concat_eq_append] at h
    by_cases z : s = sg (f b)
    · rw [if_pos z, ofF_snoc]
      rw [ofF_snoc] at h
      rcases h.inv with ⟨y, _⟩ | ⟨l', b', s', y, h1, h2, h3, h4⟩
      · exact absurd y (by intro q; have := congrArg List.length q; rw [List.length_append] at this; exact absurd this (by show ¬ _ + 1 = 0; omega))
      · obtain ⟨y1, y2⟩ := List.append_inj' y rfl
        cases y2
        rw [← y1] at h1 h2
        have h3 : c ≤ b - 1 := h3
        refine .snoc h1 h2 (hb.le (by omega)) fun n h5 h6 => ?_
        rcases Int.lt_or_le n b with y | y
        · exact h4 n h5 (show n ≤ b - 1 by omega)
        · rw [z]; exact hs n y h6
    · rw [if_neg z, ofF_snoc]
      refine .snoc h (fun t ht => ?_) hb hs
      rw [ofF_snoc, List.getLast?_concat] at ht
      cases ht
      exact z
end Ef
set_option Elab.async false
set_option linter.all false
set_option maxRecDepth 100000
set_option maxHeartbeats 4000000
set_option exponentiation.threshold 20
namespace Ef
open PySem PySem.Spec PyProof.Rows L2
abbrev sTimes : Stmt := top 44
abbrev sFar : Stmt := top 45
abbrev sFacs : Stmt := top 46
abbrev sFrow : Stmt := top 47
abbrev sLsign : Stmt := top 48
abbrev sFsgn : Stmt := top 49
theorem cf_set {r : List Int} {k : Nat} (h : k < r.length) (x : Int) (j : Nat) : cf (r.set k x) j = if j = k then x else cf r j := by
  unfold cf
  rw [List.getD_eq_getElem?_getD, List.getD_eq_getElem?_getD, List.getElem?_set]
  by_cases e : k = j
  · subst e
    rw [if_pos rfl, if_pos rfl, if_pos h]; rfl
  · rw [if_neg e, if_neg (Ne.symm e)]
theorem list_of_cf {r s : List Int} (hl : r.length = s.length) (h : ∀ j, cf r j = cf s j) : r = s :=
  List.ext_getElem hl fun j h1 h2 => by rw [← cf_lt h1, ← cf_lt h2, h]
theorem Bd.add {a b w : Nat} {x y : Int} (hx : Bd a x) (hy : Bd b y) (h1 : a + 1 ≤ w) (h2 : b + 1 ≤ w) : Bd w (x + y) := by
  unfold Bd at *
  have e1 := Int.natAbs_add_le x y
  have e3 : 2 ^ a ≤ 2 ^ (w - 1) := Nat.pow_le_pow_right (by decide) (by omega)
  have e4 : 2 ^ b ≤ 2 ^ (w - 1) := Nat.pow_le_pow_right (by decide) (by omega)
  have e5 : 2 ^ w = 2 ^ (w - 1) + 2 ^ (w - 1) := by
    rw [← Nat.two_mul, ← Nat.pow_succ', Nat.succ_eq_add_one, Nat.sub_add_cancel (by omega)]
  omega
theorem bd_small {x : Int} {b : Nat} (h1 : -(2 ^ 20) < x) (h2 : x < 2 ^ 20) (hb : 20 ≤ b) : Bd b x := Bd.up (a := 20) (by unfold Bd; omega) hb
theorem Pen.newlst {H : Hp} {p l : Addr} {ns : List Int} {a b : Int} (h : Pen H p l ns a b) {q : Addr} {o : HO} (hq : H q = none) : Pen (upd H q o) p l ns a b := h.kp (Kp.new _ hq) (upd_ne (ne_of_none h.hd hq))
theorem flat_rep (k : Nat) : (List.replicate k [V.int 0]).flatten = (List.replicate k (0 : Int)).map V.int := by
  induction k with
  | zero => rfl
  | succ k ih => rw [List.replicate_succ, List.flatten_cons, ih, List.replicate_succ]; rfl
theorem sg_small (x : Int) : -(2 ^ 64) < sg x ∧ sg x < 2 ^ 64 := by
  rcases sg_three x with ⟨e, _⟩ | ⟨e, _⟩ | ⟨e, _⟩ <;> rw [e] <;> decide
theorem bd104 {x : Int} (h : x.natAbs < 20282409603651670423947251286016) : Bd 104 x := Nat.lt_of_lt_of_le h (by decide +kernel)
theorem flat_one {α : Type} (x : α) (k : Nat) : (List.replicate k [x]).flatten = List.replicate k x := by
  induction k with
  | zero => rfl
  | succ k ih => rw [List.replicate_succ, List.flatten_cons, ih, List.replicate_succ]; rfl
theorem prd_app {α β : Type} {R : α → β → Prop} : ∀ {as cs : List α} {bs ds : List β}, Paired R as bs → Paired R cs ds → Paired R (as ++ cs) (bs ++ ds)
  | _, _, _, _, .nil, h => h
  | _, _, _, _, .cons h1 h2, h => .cons h1 (prd_app h2 h)
theorem prd_rep {α β : Type} {R : α → β → Prop} {x : α} {y : β} (h : R x y) : ∀ k : Nat, Paired R (List.replicate k x) (List.replicate k y)
  | 0 => .nil
  | k + 1 => .cons h (prd_rep h k)
theorem prd_at {α β : Type} {R : α → β → Prop} : ∀ {ts : List α} {xs : List β}, Paired R ts xs → ∀ {i : Nat} {t : α}, ts[i]? = some t → ∃ x, xs[i]? = some x ∧ R t x
  | _, _, .nil, i, t, h => by cases h
  | _, _, .cons h1 h2, 0, t, h => by cases h; exact ⟨_, rfl, h1⟩
  | _, _, .cons h1 h2, i + 1, t, h => prd_at h2 (i := i) h
/-- a factor, as a pair -/
def Ft (H : Hp) (t : Addr) (f : Fac) : Prop := H t = some (.tup [.int f.1, .int f.2])
def Fl (H : Hp) (lf : Addr) (fs : List Fac) : Prop := ∃ ts : List Addr, H lf = some (.lst (ts.map V.ref)) ∧ Paired (Ft H) ts fs
def Facs (H : Hp) (F : Addr) (num : Int) (fs : List Fac) : Prop := ∃ lf : Addr, H F = some (.tup [.int num, .ref lf]) ∧ Fl H lf fs
structure FacOk (num : Int) (fs : List Fac) : Prop where
  n : Bd 100 num
  f : ∀ f ∈ fs, FOk f
  l : fs.length ≤ 6
theorem Fl.same {H H' : Hp} {lf : Addr} {fs : List Fac} (h : Fl H lf fs) (s : Same H H') : Fl H' lf fs := by
  obtain ⟨ts, h1, h2⟩ := h
  exact ⟨ts, s _ _ h1, L2.Paired.mapP h2 fun t f h => s _ _ h⟩
theorem Facs.same {H H' : Hp} {F : Addr} {num : Int} {fs : List Fac} (h : Facs H F num fs) (s : Same H H') : Facs H' F num fs := by
  obtain ⟨lf, h1, h2⟩ := h
  exact ⟨lf, s _ _ h1, h2.same s⟩
theorem Fl.kp {H H' : Hp} {p lf : Addr} {fs : List Fac} {d : HO} (h : Fl H lf fs) (k : Kp p H H') (hp : H p = some d) (hd : (∀ xs, d ≠ .lst xs) ∧ ∀ xs, d ≠ .tup xs) : Fl H' lf fs := by
  obtain ⟨ts, h1, h2⟩ := h
  exact ⟨ts, k _ _ (fun z => by rw [z, hp] at h1; exact hd.1 _ (Option.some.inj h1)) h1, L2.Paired.mapP h2 fun t f h => k _ _ (fun z => by
    have h : H t = _ := h
    rw [z, hp] at h; exact hd.2 _ (Option.some.inj h)) h⟩
theorem Facs.kp {H H' : Hp} {p F : Addr} {num : Int} {fs : List Fac} {d : HO} (h : Facs H F num fs) (k : Kp p H H') (hp : H p = some d) (hd : (∀ xs, d ≠ .lst xs) ∧ ∀ xs, d ≠ .tup xs) : Facs H' F num fs := by
  obtain ⟨lf, h1, h2⟩ := h
  exact ⟨lf, k _ _ (fun z => by rw [z, hp] at h1; exact hd.2 _ (Option.some.inj h1)) h1, h2.kp k hp hd⟩
section
variable {P : Program} {w : World} {K : PySem.W.Frag} {mg : Str → Option Value} {base : Heap}
def spTimes (K : PySem.W.Frag) : Sp := fun vs H Q _ => ∃ (a b : Addr) (r1 r2 : List Int), vs = [.ref a, .ref b] ∧ SqL K H a (r1.map V.int) ∧ SqL K H b (r2.map V.int) ∧ r1.length ≤ 60 ∧ r2.length ≤ 60 ∧ (∀ c ∈ r1, Bd 9000 c) ∧ (∀ c ∈ r2, Bd 9000 c) ∧
  ∀ (l : Addr) H', H l = none → H' l = some (.lst ((mulL r1 r2).map V.int)) → Same H H' → Q (.ref l) H'
theorem scTimes : FnScope ["one", "other", "found", "k", "j"] ["one", "other"] (defScope sTimes) := ⟨rfl, rfl, rfl, by decide +kernel, rfl, by decide +kernel, by decide +kernel⟩
theorem df_times (A : At K mg "_law_times" sTimes) (T : TxtR mg) : Df P w K mg base 1 "_law_times" ["one", "other"] (spTimes K) := by
  obtain ⟨f, fd, hm, F⟩ := A.ex
  refine ⟨f, fd, hm, F.kp, F.binds (fun _ _ _ _ _ _ us hl => match us, hl with | [_, _], _ => rfl), F.ok scTimes (fun vs H Q E h => ?_) (fun cdv A outer s H vs Q E hr h => ?_)⟩
  · obtain ⟨a, b, r1, r2, rfl, _⟩ := h
    rfl
  · obtain ⟨a, b, r1, r2, rfl, hA, hB, l1, l2, hb1, hb2, q⟩ := h
    refine ⟨_, (pss_cons (ps_set (i := 2) scTimes.nd rfl (.inl rfl) (pe_op op_rep (pe_lst (pa_cons pe_int pa_nil)) (pe_op op_add (pe_callB call_len_seq (by rfl) T.len PySem.boot_len (pa_cons (pv 0) pa_nil)) (pe_callB call_len_seq (by rfl) T.len PySem.boot_len (pa_cons (pv 1) pa_nil)))))
      (pss_cons (ps_for PassesOwn.never rfl (pi_range1 (by rfl) T.range (pa_cons (pe_callB call_len_seq (by rfl) T.len PySem.boot_len (pa_cons (pv 0) pa_nil)) pa_nil)) (pg_name (i := 3) scTimes.nd rfl (.inl rfl))
      (pss_one (ps_for PassesOwn.never rfl (pi_range1 (by rfl) T.range (pa_cons (pe_callB call_len_seq (by rfl) T.len PySem.boot_len (pa_cons (pv 1) pa_nil)) pa_nil)) (pg_name (i := 4) scTimes.nd rfl (.inl rfl))
      (pss_one (ps_asg (pe_op op_add (pe_ix ix_seq (pv 2) (pe_op op_add (pv 3) (pv 4)) (fun _ _ => rfl)) (pe_op op_mulW (pe_ix ix_seq (pv 0) (pv 3) (fun _ _ => rfl)) (pe_ix ix_seq (pv 1) (pv 4) (fun _ _ => rfl)))) (pg_sub (pv 2) (pe_op op_add (pv 3) (pv 4)) set_list))))))
      (pss_one (ps_ret (pv 2))))), ?_⟩
    refine ⟨by show 1 ≤ sizeLine; decide, fun l0 hl0 => ?_⟩
    have s0 : Same H (upd H l0 (.lst [.int 0])) := same_new hl0
    refine ⟨_, rfl, a, _, rfl, .inl (s0.seq hA), _, rfl, b, _, rfl, .inl (s0.seq hB), _, _, rfl, rfl, ?_⟩
    rw [List.length_map, List.length_map]
    refine ⟨l0, _, _, rfl, rfl, upd_same, by omega, by omega, by show 1 * _ ≤ _; exact Nat.le_trans (show _ ≤ 100000 by omega) (by decide), fun l hl => ?_⟩
    have nl : H l = none := s0.free hl
    have s1 := s0.trans (same_new (o := .lst (List.replicate (((r1.length : Nat) : Int) + ((r2.length : Nat) : Int)).toNat [V.int 0]).flatten) hl)
    have e1 : (upd (upd H l0 (.lst [.int 0])) l (.lst (List.replicate (((r1.length : Nat) : Int) + ((r2.length : Nat) : Int)).toNat [V.int 0]).flatten)) l = some (.lst ((List.replicate (r1.length + r2.length) (0 : Int)).map V.int)) := by
      rw [upd_same, ← flat_rep]; rfl
    generalize upd (upd H l0 (.lst [.int 0])) l (.lst (List.replicate (((r1.length : Nat) : Int) + ((r2.length : Nat) : Int)).toNat [V.int 0]).flatten) = H1 at s1 e1 ⊢
    refine ⟨_, rfl, a, _, rfl, .inl (s1.seq hA), _, rfl, by rw [List.length_map]; omega, by rw [List.length_map]; omega, ?_⟩
    rw [List.length_map]
    refine for_range (lo := 0) (n := r1.length) (fun i σ H' => Same H H' ∧ ∃ (r : List Int) (y3 y4 : Option V), H' l = some (.lst (r.map V.int)) ∧ r.length = r1.length + r2.length ∧ (∀ t, cf r t = cvk i (cf r1) (cf r2) t) ∧ σ = [some (.ref a), some (.ref b), some (.ref l), y3, y4])
      ⟨s1, _, none, none, e1, List.length_replicate, fun t => by rw [cf_rep]; rfl, rfl⟩ ?_ ?_
    · rintro i σ H2 hi ⟨s2, r, y3, y4, e2, hl2, hle, rfl⟩
      refine ⟨_, rfl, b, _, rfl, .inl (s2.seq hB), _, rfl, by rw [List.length_map]; omega, by rw [List.length_map]; omega, ?_⟩
      rw [List.length_map]
      refine for_range (lo := 0) (n := r2.length) (fun j σ H' => Same H H' ∧ ∃ (r : List Int) (y4 : Option V), H' l = some (.lst (r.map V.int)) ∧ r.length = r1.length + r2.length ∧ (∀ t, cf r t = cvk i (cf r1) (cf r2) t + (if i ≤ t ∧ t < i + j then cf r1 i * cf r2 (t - i) else 0)) ∧ σ = [some (.ref a), some (.ref b), some (.ref l), some (.int (0 + (i : Nat))), y4])
        ⟨s2, r, y4, e2, hl2, fun t => by rw [hle, if_neg (by omega), Int.add_zero], rfl⟩ ?_ ?_
      · rintro j σ H3 hj ⟨s3, r3, y4, e3, hl3, hle3, rfl⟩
        obtain ⟨c, hc, gc⟩ := get_int (r := r3) (k := i + j) (by omega)
        obtain ⟨x, hx, gx⟩ := get_int (r := r1) (k := i) hi
        obtain ⟨y, hy, gy⟩ := get_int (r := r2) (k := j) hj
        have bx := hb1 x (List.mem_of_getElem? hx)
        have bY := hb2 y (List.mem_of_getElem? hy)
        have ei : (0 + (i : Nat) : Int) = ((i : Nat) : Int) := Int.zero_add _
        have ej : (0 + (j : Nat) : Int) = ((j : Nat) : Int) := Int.zero_add _
        have eij : ((0 + (i : Nat) : Int) + (0 + (j : Nat) : Int)) = ((i + j : Nat) : Int) := by omega
        refine ⟨_, rfl, _, rfl, _, rfl, _, _, rfl, rfl, .inl ⟨l, _, _, _, rfl, rfl, .inl (.inl e3), atI_of eij gc, ?_⟩⟩
        refine ⟨_, rfl, _, rfl, .inl ⟨a, _, _, _, rfl, rfl, s3.seq hA, atI_of ei gx, ?_⟩⟩
        refine ⟨_, rfl, _, rfl, .inl ⟨b, _, _, _, rfl, rfl, s3.seq hB, atI_of ej gy, ?_⟩⟩
        refine ⟨_, _, rfl, rfl, wide_mul bx bY (by decide) (by decide) (by decide), _, _, rfl, rfl, ?_⟩
        refine ⟨_, rfl, _, rfl, _, rfl, _, _, rfl, rfl, l, _, _, i + j, rfl, rfl, e3, ?_, same_mut s3 nl, r3.set (i + j) (c + x * y), _, by rw [upd_same, List.map_set], by rw [List.length_set]; exact hl3, fun t => ?_, rfl⟩
        · unfold ixN
          rw [if_pos (by omega), if_pos (by rw [List.length_map]; omega)]
          congr 1
          omega
        · rw [cf_set (by omega)]
          by_cases et : t = i + j
          · subst et
            have ec := hle3 (i + j)
            rw [cf_of hc, if_neg (by omega), Int.add_zero] at ec
            rw [if_pos rfl, if_pos (by omega), ← ec, cf_of hx, show i + j - i = j by omega, cf_of hy]
          · rw [if_neg et, hle3]
            by_cases h2 : i ≤ t ∧ t < i + j
            · rw [if_pos h2, if_pos (by omega)]
            · rw [if_neg h2, if_neg (by omega)]
      · rintro σ H3 ⟨s3, r3, y4, e3, hl3, hle3, rfl⟩
        refine ⟨s3, r3, _, y4, e3, hl3, fun t => ?_, rfl⟩
        rw [hle3, cvk_succ]
        by_cases h1 : i ≤ t
        · rw [if_pos h1]
          by_cases h2 : t < i + r2.length
          · rw [if_pos ⟨h1, h2⟩]
          · rw [if_neg (fun z => h2 z.2), cf_ge (r := r2) (by omega), Int.mul_zero]
        · rw [if_neg h1, if_neg (fun z => h1 z.1)]
    · rintro σ H2 ⟨s2, r, y3, y4, e2, hl2, hle, rfl⟩
      have er : r = mulL r1 r2 := list_of_cf (by rw [hl2, mulL_len]) fun j => by rw [hle, cf_mulL, cvk_all fun i hi => cf_ge hi]
      subst er
      exact ⟨_, rfl, q l H2 nl e2 s2⟩
def spFar : Sp := fun vs H Q _ => ∃ (p l : Addr) (ns : List Int) (a b : Int), vs = [.ref p] ∧ Pen H p l ns a b ∧ a ≤ 1000000000 ∧ ∀ (c a' b' : Int) (H' : Hp), Bd 201 c → a' ≤ a + 3 → Pen H' p l ns a' b' → Kp p H H' → Q (.int c) H'
theorem scFar : FnScope ["pen", "some"] ["pen"] (defScope sFar) := ⟨rfl, rfl, rfl, by decide +kernel, rfl, by decide +kernel, by decide +kernel⟩
theorem df_far (A : At K mg "_law_far" sFar) (Ddraw : Df P w K mg base 1 "_law_draw" ["pen", "many"] spDraw) (Dpick : Df P w K mg base 2 "_law_pick" ["pen", "some"] (spPick K)) : Df P w K mg base 3 "_law_far" ["pen"] spFar := by
  obtain ⟨f, fd, hm, F⟩ := A.ex
  refine ⟨f, fd, hm, F.kp, F.binds (fun _ _ _ _ _ _ us hl => match us, hl with | [_], _ => rfl), F.ok scFar (fun vs H Q E h => ?_) (fun cdv A outer s H vs Q E hr h => ?_)⟩
  · obtain ⟨p, l, ns, a, b, rfl, _⟩ := h
    rfl
  · obtain ⟨p, l, ns, a, b, rfl, hP, ha, q⟩ := h
    refine ⟨_, (pss_cons (ps_set (i := 1) scFar.nd rfl (.inl rfl) (pe_lst (pa_cons (pe_op op_add (pe_op op_pow pe_int pe_int) pe_int) (pa_cons (pe_un un_neg (pe_op op_pow pe_int pe_int)) (pa_cons (pe_op op_pow pe_int pe_int) (pa_cons (pe_un un_neg pe_int) (pa_cons pe_int (pa_cons (pe_op op_pow pe_int pe_int) pa_nil))))))))
      (pss_one (ps_ret (pe_op op_sub (pe_op op_add (Dpick.call (hr.mono (by decide)) (pa_cons (pv 0) (pa_cons (pv 1) pa_nil))) (Ddraw.call (hr.mono (by decide)) (pa_cons (pv 0) (pa_cons pe_int pa_nil)))) pe_int)))), ?_⟩
    refine ⟨_, _, rfl, rfl, ⟨by decide, by decide, by decide⟩, _, _, rfl, rfl, ?_⟩
    refine ⟨_, _, rfl, rfl, ⟨by decide, by decide, by decide⟩, _, rfl, ?_⟩
    refine ⟨_, _, rfl, rfl, ⟨by decide, by decide, by decide⟩, _, rfl, ?_⟩
    refine ⟨_, _, rfl, rfl, ⟨by decide, by decide, by decide⟩, ?_⟩
    refine ⟨by show 6 ≤ sizeLine; decide, fun t ht => ?_⟩
    refine ⟨_, rfl, _, rfl, p, l, t, ns, a, b, _, rfl, hP.newlst ht, by omega, .inl (.inl upd_same), fun z => ?_, by show 1 ≤ 6; decide, by show 6 ≤ 100000; decide, ?_⟩
    · rw [z, hP.hd] at ht; cases ht
    · intro j v a2 b2 H2 hj ha2 hP2 hK2
      have hx : ∃ x : Int, v = .int x ∧ Bd 200 x := by
        have hm := List.mem_of_getElem? hj
        simp only [List.mem_cons, List.not_mem_nil, or_false] at hm
        rcases hm with rfl | rfl | rfl | rfl | rfl | rfl
        all_goals exact ⟨_, rfl, by unfold Bd; decide +kernel⟩
      obtain ⟨x, rfl, hx⟩ := hx
      refine ⟨_, rfl, p, l, ns, a2, b2, _, rfl, hP2, by omega, by decide, by decide, fun d3 a3 b3 H3 d30 d31 ha3 hP3 hK3 => ?_⟩
      refine ⟨_, _, rfl, rfl, _, _, rfl, rfl, ?_⟩
      have e : x + d3 - 10 = x + (d3 - 10) := by omega
      exact q _ _ _ _ (e ▸ Bd.add hx (bd_small (b := 20) (by omega) (by omega) (by decide)) (by decide) (by decide)) (by omega) hP3 ((Kp.new _ ht).trans (hK2.trans hK3))
theorem scLsign : FnScope ["value"] ["value"] (defScope sLsign) := ⟨rfl, rfl, rfl, by decide +kernel, rfl, by decide +kernel, by decide +kernel⟩
theorem df_lsign (A : At K mg "_law_sign" sLsign) (T : TxtR mg) : Df P w K mg base 1 "_law_sign" ["value"] spSign := by
  obtain ⟨f, fd, hm, F⟩ := A.ex
  refine ⟨f, fd, hm, F.kp, F.binds (fun _ _ _ _ _ _ us hl => match us, hl with | [_], _ => rfl), F.ok scLsign (fun vs H Q E h => ?_) (fun cdv A outer s H vs Q E hr h => ?_)⟩
  · obtain ⟨n, rfl, _⟩ := h
    rfl
  · obtain ⟨n, rfl, q⟩ := h
    refine ⟨_, (pss_one (ps_ret (pe_op op_sub (pe_callTy call_int1 (by rfl) T.int (by decide +kernel) (pa_cons (pe_cmpR op_gt (pv 0) pe_int (nomark _)) pa_nil)) (pe_callTy call_int1 (by rfl) T.int (by decide +kernel) (pa_cons (pe_cmpR op_lt (pv 0) pe_int (nomark _)) pa_nil))))), ?_⟩
    refine ⟨_, rfl, _, _, rfl, rfl, .inr ⟨_, rfl, ?_⟩⟩
    refine ⟨_, rfl, _, _, rfl, rfl, .inr ⟨_, rfl, _, _, rfl, rfl, ?_⟩⟩
    have e : ((if decide (0 < n) = true then (1 : Int) else 0) - (if decide (n < 0) = true then (1 : Int) else 0)) = sg n := by
      unfold sg
      rcases Int.lt_trichotomy n 0 with z | z | z
      · simp [z, show ¬ (0 < n) by omega, show ¬ n = 0 by omega]
      · simp [z]
      · simp [z, show ¬ (n < 0) by omega, show ¬ n = 0 by omega]
    rw [← e] at q
    exact q
/-! ### _law_factor_sign -/
def spFsgn : Sp := fun vs H Q _ => ∃ (F : Addr) (num n : Int) (fs : List Fac), vs = [.ref F, .int n] ∧ Facs H F num fs ∧ FacOk num fs ∧ Bd 900 n ∧ Q (.int (sg (valF num fs n))) H
theorem scFsgn : FnScope ["factors", "n", "number", "found", "sign", "a", "b"] ["factors", "n"] (defScope sFsgn) := ⟨rfl, rfl, rfl, by decide +kernel, rfl, by decide +kernel, by decide +kernel⟩
theorem df_fsgn (A : At K mg "_law_factor_sign" sFsgn) (Dsign : Df P w K mg base 1 "_law_sign" ["value"] spSign) : Df P w K mg base 2 "_law_factor_sign" ["factors", "n"] spFsgn := by
  obtain ⟨f, fd, hm, F⟩ := A.ex
  refine ⟨f, fd, hm, F.kp, F.binds (fun _ _ _ _ _ _ us hl => match us, hl with | [_, _], _ => rfl), F.ok scFsgn (fun vs H Q E h => ?_) (fun cdv A outer s H vs Q E hr h => ?_)⟩
  · obtain ⟨F, num, n, fs, rfl, _⟩ := h
    rfl
  · obtain ⟨F, num, n, fs, rfl, ⟨lf, hF, ts, hlf, hts⟩, hok, hn, q⟩ := h
    refine ⟨_, (pss_cons (ps_asg (pv 0) (pg_tup (by rfl) (pgs_cons (pg_name (i := 2) scFsgn.nd rfl (.inl rfl)) (pgs_cons (pg_name (i := 3) scFsgn.nd rfl (.inl rfl)) pgs_nil))))
      (pss_cons (ps_set (i := 4) scFsgn.nd rfl (.inl rfl) (Dsign.call (hr.mono (by decide)) (pa_cons (pv 2) pa_nil)))
      (pss_cons (ps_for PassesOwn.never rfl (pi_list (pv 3)) (pg_tup (by rfl) (pgs_cons (pg_name (i := 5) scFsgn.nd rfl (.inl rfl)) (pgs_cons (pg_name (i := 6) scFsgn.nd rfl (.inl rfl)) pgs_nil)))
      (pss_one (ps_set (i := 4) scFsgn.nd rfl (.inl rfl) (pe_op op_mul (pv 4) (Dsign.call (hr.mono (by decide)) (pa_cons (pe_op op_sub (pe_op op_mulW (pv 5) (pv 1)) (pv 6)) pa_nil))))))
      (pss_one (ps_ret (pv 4)))))), ?_⟩
    refine ⟨_, rfl, F, _, rfl, .inl (.inl hF), rfl, _, _, rfl, _, _, rfl, rfl, ?_⟩
    refine ⟨_, rfl, num, rfl, _, rfl, lf, rfl, ⟨_, .inl (.inl hlf)⟩, for_list (K := K) (a := lf) (xs := ts.map V.ref) (fun i σ H' => H' = H ∧ ∃ (y5 y6 : Option V), σ = [some (.ref F), some (.int n), some (.int num), some (.ref lf), some (.int (sgnF (sg num) (fs.take i) n)), y5, y6])
      ⟨rfl, none, none, rfl⟩ (fun i σ H' _ ⟨e, _⟩ => .inl (.inl (e ▸ hlf))) ?_ ?_⟩
    · rintro i v σ H1 hi ⟨rfl, y5, y6, rfl⟩
      rw [List.getElem?_map] at hi
      obtain ⟨t, ht, rfl⟩ := Option.map_eq_some_iff.mp hi
      obtain ⟨x, hx, hxt⟩ := prd_at hts ht
      have hxo := hok.f x (List.mem_of_getElem? hx)
      refine ⟨t, _, rfl, .inl (.inl hxt), rfl, _, _, rfl, _, _, rfl, rfl, ?_⟩
      refine ⟨_, rfl, _, rfl, _, rfl, _, _, rfl, rfl, wide_mul hxo.2.1 hn (by decide) (by decide) (by decide), _, rfl, _, _, rfl, rfl, _, rfl, _, _, rfl, rfl, .inr (sg_small _), rfl, some (.int x.1), some (.int x.2), ?_⟩
      have e : (fs.take (i + 1)) = fs.take i ++ [x] := by rw [List.take_succ, hx]; rfl
      rw [e, sgnF_snoc]
      rfl
    · rintro σ H1 ⟨rfl, y5, y6, rfl⟩
      rw [List.length_map, Paired.length hts, List.take_length, sgnF_val]
      exact ⟨_, rfl, q⟩
/-! ### _law_factor_row -/
def spFrow : Sp := fun vs H Q _ => ∃ (F : Addr) (num : Int) (fs : List Fac), vs = [.ref F] ∧ Facs H F num fs ∧ FacOk num fs ∧ ∀ (l : Addr) (r : List Int) (H' : Hp), Same H H' → H' l = some (.lst (r.map V.int)) → RowF num fs r → Q (.ref l) H'
theorem scFrow : FnScope ["factors", "number", "found", "row", "a", "b"] ["factors"] (defScope sFrow) := ⟨rfl, rfl, rfl, by decide +kernel, rfl, by decide +kernel, by decide +kernel⟩
theorem df_frow (A : At K mg "_law_factor_row" sFrow) (Dtimes : Df P w K mg base 1 "_law_times" ["one", "other"] (spTimes K)) : Df P w K mg base 2 "_law_factor_row" ["factors"] spFrow := by
  obtain ⟨f, fd, hm, F⟩ := A.ex
  refine ⟨f, fd, hm, F.kp, F.binds (fun _ _ _ _ _ _ us hl => match us, hl with | [_], _ => rfl), F.ok scFrow (fun vs H Q E h => ?_) (fun cdv A outer s H vs Q E hr h => ?_)⟩
  · obtain ⟨F, num, fs, rfl, _⟩ := h
    rfl
  · obtain ⟨F, num, fs, rfl, ⟨lf, hF, ts, hlf, hts⟩, hok, q⟩ := h
    refine ⟨_, (pss_cons (ps_asg (pv 0) (pg_tup (by rfl) (pgs_cons (pg_name (i := 1) scFrow.nd rfl (.inl rfl)) (pgs_cons (pg_name (i := 2) scFrow.nd rfl (.inl rfl)) pgs_nil))))
      (pss_cons (ps_set (i := 3) scFrow.nd rfl (.inl rfl) (pe_lst (pa_cons (pv 1) pa_nil)))
      (pss_cons (ps_for PassesOwn.never rfl (pi_list (pv 2)) (pg_tup (by rfl) (pgs_cons (pg_name (i := 4) scFrow.nd rfl (.inl rfl)) (pgs_cons (pg_name (i := 5) scFrow.nd rfl (.inl rfl)) pgs_nil)))
      (pss_one (ps_set (i := 3) scFrow.nd rfl (.inl rfl) (Dtimes.call (hr.mono (by decide)) (pa_cons (pv 3) (pa_cons (pe_lst (pa_cons (pe_un un_neg (pv 5)) (pa_cons (pv 4) pa_nil))) pa_nil))))))
      (pss_one (ps_ret (pv 3)))))), ?_⟩
    refine ⟨_, rfl, F, _, rfl, .inl (.inl hF), rfl, _, _, rfl, _, _, rfl, rfl, ?_⟩
    refine ⟨_, rfl, by show 1 ≤ sizeLine; decide, fun l0 hl0 => ?_⟩
    refine ⟨_, rfl, lf, rfl, ⟨_, .inl (.inl (same_new hl0 _ _ hlf))⟩, for_list (K := K) (a := lf) (xs := ts.map V.ref) (fun i σ H' => ∃ (l : Addr) (r : List Int) (y5 y6 : Option V), Same H H' ∧ H' l = some (.lst (r.map V.int)) ∧ RowF num (fs.take i) r ∧ σ = [some (.ref F), some (.int num), some (.ref lf), some (.ref l), y5, y6])
      ⟨l0, [num], none, none, same_new hl0, upd_same, .nil hok.n, rfl⟩ (fun i σ H' _ ⟨_, _, _, _, e, _⟩ => .inl (.inl (e _ _ hlf))) ?_ ?_⟩
    · rintro i v σ H1 hi ⟨l, r, y5, y6, s1, e1, hr1, rfl⟩
      rw [List.getElem?_map] at hi
      obtain ⟨t, ht, rfl⟩ := Option.map_eq_some_iff.mp hi
      obtain ⟨x, hx, hxt⟩ := prd_at hts ht
      have hxo := hok.f x (List.mem_of_getElem? hx)
      have hi6 : i < fs.length := (List.getElem?_eq_some_iff.mp hx).1
      have hlen := hok.l
      have htk : (fs.take i).length = i := by rw [List.length_take]; omega
      refine ⟨t, _, rfl, .inl (.inl (s1 _ _ hxt)), rfl, _, _, rfl, _, _, rfl, rfl, ?_⟩
      refine ⟨_, rfl, _, rfl, _, rfl, _, rfl, by show 2 ≤ sizeLine; decide, fun l2 hl2 => ?_⟩
      have s2 := same_new (o := .lst [.int (-x.2), .int x.1]) hl2
      refine ⟨l, l2, r, [-x.2, x.1], rfl, .inl (.inl (s2 _ _ e1)), .inl (.inl upd_same), by rw [hr1.l, htk]; omega, by show 2 ≤ 60; decide, fun c hc => (hr1.b c hc).up (by rw [htk]; omega), fun c hc => ?_, fun l3 H3 n3 e3 s3 => ?_⟩
      · rcases List.mem_cons.mp hc with rfl | hc
        · exact (bd_neg hxo.2.2).up (by decide)
        · rw [List.mem_singleton.mp hc]
          exact hxo.2.1.up (by decide)
      · refine ⟨l3, _, _, _, s1.trans (s2.trans s3), e3, ?_, rfl⟩
        rw [List.take_succ, hx]
        exact hr1.snoc hxo
    · rintro σ H1 ⟨l, r, y5, y6, s1, e1, hr1, rfl⟩
      rw [List.length_map, Paired.length hts, List.take_length] at hr1
      exact ⟨_, rfl, q l r H1 s1 e1 hr1⟩
/-! ### _law_factors -/
def spFacs : Sp := fun vs H Q _ => ∃ (p l : Addr) (ns : List Int) (a b : Int), vs = [.ref p] ∧ Pen H p l ns a b ∧ a ≤ 900000000 ∧ ∀ (F : Addr) (num : Int) (fs : List Fac) (a' b' : Int) (H' : Hp), FacOk num fs → a' ≤ a + 20 → Pen H' p l ns a' b' → Kp p H H' → Facs H' F num fs → Q (.ref F) H'
theorem scFacs : FnScope ["pen", "number", "found", "middle", "turn", "a", "root"] ["pen"] (defScope sFacs) := ⟨rfl, rfl, rfl, by decide +kernel, rfl, by decide +kernel, by decide +kernel⟩
theorem df_facs (A : At K mg "_law_factors" sFacs) (T : TxtR mg) (Ddraw : Df P w K mg base 1 "_law_draw" ["pen", "many"] spDraw) (Dpick : Df P w K mg base 2 "_law_pick" ["pen", "some"] (spPick K)) : Df P w K mg base 3 "_law_factors" ["pen"] spFacs := by
  obtain ⟨f, fd, hm, F⟩ := A.ex
  refine ⟨f, fd, hm, F.kp, F.binds (fun _ _ _ _ _ _ us hl => match us, hl with | [_], _ => rfl), F.ok scFacs (fun vs H Q E h => ?_) (fun cdv A outer s H vs Q E hr h => ?_)⟩
  · obtain ⟨p, l, ns, a, b, rfl, _⟩ := h
    rfl
  · obtain ⟨p, l, ns, a, b, rfl, hP, ha, q⟩ := h
    refine ⟨_, (pss_cons (ps_par (i := 1) (j := 2) (by rfl) scFacs.nd rfl rfl (by decide) rfl rfl (pa_cons (Dpick.call (hr.mono (by decide)) (pa_cons (pv 0) (pa_cons (pe_lst (pa_cons pe_int (pa_cons pe_int (pa_cons (pe_un un_neg pe_int) (pa_cons pe_int (pa_cons (pe_un un_neg (pe_op op_pow pe_int pe_int)) pa_nil)))))) pa_nil))) (pa_cons (pe_lst pa_nil) pa_nil)) (by rfl))
      (pss_cons (ps_set (i := 3) scFacs.nd rfl (.inl rfl) (Dpick.call (hr.mono (by decide)) (pa_cons (pv 0) (pa_cons (pe_lst (pa_cons pe_int (pa_cons pe_int (pa_cons pe_int (pa_cons pe_int (pa_cons (pe_op op_add (pe_op op_pow pe_int pe_int) pe_int) pa_nil)))))) pa_nil))))
      (pss_cons (ps_for PassesOwn.never rfl (pi_range1 (by rfl) T.range (pa_cons (Ddraw.call (hr.mono (by decide)) (pa_cons (pv 0) (pa_cons pe_int pa_nil))) pa_nil)) (pg_name (i := 4) scFacs.nd rfl (.inl rfl))
      (pss_cons (ps_set (i := 5) scFacs.nd rfl (.inl rfl) (Dpick.call (hr.mono (by decide)) (pa_cons (pv 0) (pa_cons (pe_lst (pa_cons pe_int (pa_cons pe_int (pa_cons pe_int (pa_cons pe_int (pa_cons pe_int (pa_cons pe_int pa_nil))))))) pa_nil))))
      (pss_cons (ps_set (i := 6) scFacs.nd rfl (.inl rfl) (pe_tup (pa_cons (pv 5) (pa_cons (pe_op op_sub (pe_op op_add (pe_op op_mulW (pv 5) (pv 3)) (Ddraw.call (hr.mono (by decide)) (pa_cons (pv 0) (pa_cons pe_int pa_nil)))) pe_int) pa_nil))))
      (pss_one (ps_set (i := 2) scFacs.nd rfl (.inl rfl) (pe_op op_cat (pv 2) (pe_op op_rep (pe_lst (pa_cons (pv 6) pa_nil)) (Dpick.call (hr.mono (by decide)) (pa_cons (pv 0) (pa_cons (pe_lst (pa_cons pe_int (pa_cons pe_int (pa_cons pe_int (pa_cons pe_int pa_nil))))) pa_nil))))))))))
      (pss_one (ps_ret (pe_tup (pa_cons (pv 1) (pa_cons (pv 2) pa_nil)))))))), ?_⟩
    refine ⟨_, rfl, _, rfl, ⟨_, _, rfl, rfl, ⟨by decide, by decide, by decide⟩, ?_⟩⟩
    refine ⟨_, rfl, by show 5 ≤ sizeLine; decide, fun t ht => ?_⟩
    refine ⟨p, l, t, ns, a, b, _, rfl, hP.newlst ht, by omega, .inl (.inl upd_same), (fun z => by rw [z, hP.hd] at ht; cases ht), by show 1 ≤ 5; decide, by show 5 ≤ 100000; decide, ?_⟩
    intro j v a1 b1 H1 hj ha1 hP1 hK1
    have hx : ∃ x : Int, v = .int x ∧ Bd 100 x := by
      have hm := List.mem_of_getElem? hj
      simp only [List.mem_cons, List.not_mem_nil, or_false] at hm
      rcases hm with rfl | rfl | rfl | rfl | rfl
      all_goals exact ⟨_, rfl, by unfold Bd; decide +kernel⟩
    obtain ⟨num, rfl, hnum⟩ := hx
    refine ⟨by show 0 ≤ sizeLine; decide, fun lf0 hlf0 => ?_⟩
    have hKa := (Kp.new _ ht).trans (hK1.trans (Kp.new (p := p) (.lst []) hlf0))
    have hPa := hP1.newlst (o := .lst []) hlf0
    have ea : (upd H1 lf0 (.lst [])) lf0 = some (.lst []) := upd_same
    generalize upd H1 lf0 (.lst []) = Ha at hKa hPa ea ⊢
    have nK : ∀ {H' : Hp} {q : Addr} (o : HO), Kp p H H' → H' q = none → Kp p H (upd H' q o) := fun o k h => k.trans (Kp.new o h)
    have np : ∀ {H' : Hp} {q : Addr} {a b : Int}, Pen H' p l ns a b → H' q = none → q ≠ p := fun hp h z => by rw [z, hp.hd] at h; cases h
    refine ⟨_, _, rfl, _, rfl, _, _, rfl, rfl, ⟨by decide, by decide, by decide⟩, _, _, rfl, rfl, by show 5 ≤ sizeLine; decide, fun t2 ht2 => ?_⟩
    refine ⟨p, l, t2, ns, a1, b1, _, rfl, hPa.newlst ht2, by omega, .inl (.inl upd_same), np hPa ht2, by show 1 ≤ 5; decide, by show 5 ≤ 100000; decide, ?_⟩
    intro j v a2 b2 H2 hj ha2 hP2 hK2
    have hx : ∃ x : Int, v = .int x ∧ 0 ≤ x ∧ x ≤ 1000000000000000000000000000011 := by
      have hm := List.mem_of_getElem? hj
      simp only [List.mem_cons, List.not_mem_nil, or_false] at hm
      rcases hm with rfl | rfl | rfl | rfl | rfl
      all_goals exact ⟨_, rfl, by decide +kernel, by decide +kernel⟩
    obtain ⟨mid, rfl, hm0, hm1⟩ := hx
    have hKb := (hKa.trans (Kp.new _ ht2)).trans hK2
    have eb : H2 lf0 = some (.lst []) := hK2 _ _ (np hP1 hlf0) (by rw [upd_ne (ne_of_none ea ht2)]; exact ea)
    refine ⟨_, rfl, p, l, ns, a2, b2, _, rfl, hP2, by omega, by decide, by decide, fun d a3 b3 H3 d0 d4 ha3 hP3 hK3 => ?_⟩
    have hKc := hKb.trans hK3
    have ec : Fl H3 lf0 [] := ⟨[], hK3 _ _ (np hP1 hlf0) eb, .nil⟩
    obtain ⟨D, rfl⟩ : ∃ D : Nat, d = (D : Int) := ⟨d.toNat, by omega⟩
    refine ⟨_, rfl, by omega, by omega, ?_⟩
    refine for_range (lo := 0) (n := D) (fun i σ H' => ∃ (lf : Addr) (fs : List Fac) (a4 b4 : Int) (y4 y5 y6 : Option V), Kp p H H' ∧ Pen H' p l ns a4 b4 ∧ a4 ≤ a + 3 + 3 * (i : Int) ∧ Fl H' lf fs ∧ (∀ f ∈ fs, FOk f) ∧ fs.length ≤ 2 * i ∧ σ = [some (.ref p), some (.int num), some (.ref lf), some (.int mid), y4, y5, y6])
      ⟨lf0, [], a3, b3, none, none, none, hKc, hP3, by omega, ec, fun f hf => (by cases hf), Nat.zero_le _, rfl⟩ ?_ ?_
    · rintro i σ H4 hi ⟨lf, fs, a4, b4, y4, y5, y6, hK4, hP4, ha4, hF4, hO4, hl4, rfl⟩
      refine ⟨_, rfl, by show 6 ≤ sizeLine; decide, fun t3 ht3 => ?_⟩
      refine ⟨p, l, t3, ns, a4, b4, _, rfl, hP4.newlst ht3, by omega, .inl (.inl upd_same), np hP4 ht3, by show 1 ≤ 6; decide, by show 6 ≤ 100000; decide, ?_⟩
      intro j v a5 b5 H5 hj ha5 hP5 hK5
      have hx : ∃ x : Int, v = .int x ∧ 0 < x ∧ x ≤ 10 := by
        have hm := List.mem_of_getElem? hj
        simp only [List.mem_cons, List.not_mem_nil, or_false] at hm
        rcases hm with rfl | rfl | rfl | rfl | rfl | rfl
        all_goals exact ⟨_, rfl, by decide, by decide⟩
      obtain ⟨x, rfl, hx0, hx1⟩ := hx
      have hKd := (Kp.new (p := p) (.lst [V.int 1, V.int 1, V.int 1, V.int 2, V.int 3, V.int 10]) ht3).trans hK5
      refine ⟨_, rfl, _, rfl, _, rfl, _, _, rfl, rfl, wide_mul (a := 104) (b := 104) (bd104 (by omega)) (bd104 (by omega)) (by decide) (by decide) (by decide), ?_⟩
      refine ⟨_, rfl, p, l, ns, a5, b5, _, rfl, hP5, by omega, by decide, by decide, fun d a6 b6 H6 d0 d25 ha6 hP6 hK6 => ?_⟩
      refine ⟨_, _, rfl, rfl, _, _, rfl, rfl, by show 2 ≤ sizeLine; decide, fun t5 ht5 => ?_⟩
      have hKe := (hKd.trans hK6).trans (Kp.new (p := p) (.tup [.int x, .int (x * mid + d - 8)]) ht5)
      have hP7 := hP6.newlst (o := .tup [.int x, .int (x * mid + d - 8)]) ht5
      have ht5e : (upd H6 t5 (.tup [.int x, .int (x * mid + d - 8)])) t5 = some (.tup [.int x, .int (x * mid + d - 8)]) := upd_same
      generalize hH7 : upd H6 t5 (.tup [.int x, .int (x * mid + d - 8)]) = H7 at hKe hP7 ht5e
      have hft : Ft H7 t5 (x, x * mid + d - 8) := ht5e
      have hfo : FOk (x, x * mid + d - 8) := by
        have z1 := Int.mul_le_mul_of_nonneg_right hx1 hm0
        have z2 := Int.mul_nonneg (Int.le_of_lt hx0) hm0
        exact ⟨hx0, bd104 (by show x.natAbs < _; omega), bd104 (by show (x * mid + d - 8).natAbs < _; omega)⟩
      refine ⟨_, rfl, _, rfl, by show 1 ≤ sizeLine; decide, fun t6 ht6 => ?_⟩
      have e6 : (upd H7 t6 (.lst [.ref t5])) t6 = some (.lst [.ref t5]) := upd_same
      have hKf := hKe.trans (Kp.new (p := p) (.lst [V.ref t5]) ht6)
      have hP8 := hP7.newlst (o := .lst [.ref t5]) ht6
      have hft8 : Ft (upd H7 t6 (.lst [.ref t5])) t5 (x, x * mid + d - 8) := same_new ht6 _ _ hft
      have n6 := np hP7 ht6
      generalize upd H7 t6 (.lst [.ref t5]) = H8 at e6 hKf hP8 hft8 ⊢
      refine ⟨_, rfl, by show 4 ≤ sizeLine; decide, fun t7 ht7 => ?_⟩
      refine ⟨p, l, t7, ns, a6, b6, _, rfl, hP8.newlst ht7, by omega, .inl (.inl upd_same), np hP8 ht7, by show 1 ≤ 4; decide, by show 4 ≤ 100000; decide, ?_⟩
      intro j v a7 b7 H9 hj ha7 hP9 hK9
      have hx : ∃ x : Nat, v = .int (x : Int) ∧ x ≤ 2 := by
        have hm := List.mem_of_getElem? hj
        simp only [List.mem_cons, List.not_mem_nil, or_false] at hm
        rcases hm with rfl | rfl | rfl | rfl
        · exact ⟨1, rfl, by decide⟩
        · exact ⟨1, rfl, by decide⟩
        · exact ⟨1, rfl, by decide⟩
        · exact ⟨2, rfl, by decide⟩
      obtain ⟨k, rfl, hk2⟩ := hx
      have hKg := (Kp.new (p := p) (.lst [V.int 1, V.int 1, V.int 1, V.int 2]) ht7).trans hK9
      have e9 := hKg _ _ n6 e6
      have n5 : t5 ≠ p := fun z => by
        have := hP7.hd
        rw [← z, ht5e] at this
        cases this
      have hft9 : Ft H9 t5 (x, x * mid + d - 8) := hKg _ _ n5 hft8
      have hF9 := hF4.kp (hKf.trans hKg) hP4.hd ⟨fun xs z => (by cases z), fun xs z => (by cases z)⟩
      have hKh := hK4.trans (hKf.trans hKg)
      obtain ⟨ts, g1, g2⟩ := id hF9
      have htl := Paired.length g2
      have hD3 : i < 3 := by omega
      refine ⟨t6, _, _, rfl, rfl, e9, by omega, by omega, by show 1 * _ ≤ _; exact Nat.le_trans (show _ ≤ 2 by omega) (by decide), fun l8 hl8 => ?_⟩
      have s8 := same_new (o := .lst (List.replicate ((k : Int)).toNat [V.ref t5]).flatten) hl8
      have e8 : (upd H9 l8 (.lst (List.replicate ((k : Int)).toNat [V.ref t5]).flatten)) l8 = some (.lst ((List.replicate k t5).map V.ref)) := by
        rw [upd_same, flat_one, List.map_replicate]; rfl
      have hKi := nK (.lst (List.replicate ((k : Int)).toNat [V.ref t5]).flatten) hKh hl8
      have hPi := hP9.newlst (o := .lst (List.replicate ((k : Int)).toNat [V.ref t5]).flatten) hl8
      generalize upd H9 l8 (.lst (List.replicate ((k : Int)).toNat [V.ref t5]).flatten) = Hi at s8 e8 hKi hPi ⊢
      refine ⟨lf, l8, _, _, rfl, rfl, s8 _ _ g1, e8, ?_, fun l9 hl9 => ?_⟩
      · rw [List.length_map, List.length_map, htl, List.length_replicate]
        exact Nat.le_trans (show _ ≤ 10 by omega) (by decide)
      · refine ⟨l9, fs ++ List.replicate k (x, x * mid + d - 8), a7, b7, _, _, _, nK _ hKi hl9, hPi.newlst hl9, by omega, ⟨ts ++ List.replicate k t5, by rw [upd_same, List.map_append], ?_⟩, fun g hg => ?_, ?_, rfl⟩
        · exact prd_app (L2.Paired.mapP g2 fun t f h => same_new hl9 _ _ (s8 _ _ h)) (prd_rep (R := Ft _) (show Ft _ t5 (x, x * mid + d - 8) from same_new hl9 _ _ (s8 _ _ hft9)) k)
        · rcases List.mem_append.mp hg with hg | hg
          · exact hO4 g hg
          · rw [(List.mem_replicate.mp hg).2]; exact hfo
        · rw [List.length_append, List.length_replicate]; omega
    · rintro σ H4 ⟨lf, fs, a4, b4, y4, y5, y6, hK4, hP4, ha4, hF4, hO4, hl4, rfl⟩
      refine ⟨_, rfl, _, rfl, by show 2 ≤ sizeLine; decide, fun F hF => ?_⟩
      refine q F num fs a4 b4 _ ⟨hnum, hO4, by omega⟩ (by omega) (hP4.newlst hF) (nK _ hK4 hF) ⟨lf, upd_same, hF4.same (same_new hF)⟩
end
end Ef
set_option Elab.async false
set_option linter.all false
set_option maxRecDepth 100000
set_option maxHeartbeats 3200000
/-! set(l) of a list of whole numbers -/
namespace Ef
open PySem PySem.Spec PyProof.Rows L2
/-- the empty set that is made first -/
abbrev set0 (w : World) : Obj := { cls := .type "set", dict := none, data := .set #[] 0 (.fresh 0 0 (!w.params.followText "set-order")) }
section
variable {P : Program} {w : World} {A : Around} {E : Value → Shared → Prop} {s : Shared}
/-- the filling of it by a list -/
theorem set_fill {l : Addr} {items : Array Value} {ns : List Int} {A2 : Around} {R : Result → Shared → Prop} (hh : A2.handled = none) (hl : s.heap.IsList l items) (hit : IntsAre items.toList ns) (hb : ns.length + 1 < scanBound)
    (hR : ∀ (h' : Heap) (tk c : Nat), SetR w h' s.heap.objs.size (fun j => decide (j ∈ ns)) c → c ≤ ns.length → (∀ b o, s.heap.get? b = some o → h'.get? b = some o) → R (.ok (.ret .none)) { s with heap := h', toks := tk }) :
    codeAny (model P w) A2 (.builtin "set.update.loop" ⟨[.ref s.heap.objs.size, .ref (s.heap.objs.size + 1)], []⟩) R { s with heap := (s.heap.push (set0 w)).push { cls := .type "list_iterator", data := .fields #[.ref l, .int 0 0] } } := by
  have same : items.size = ns.length := by rw [← Array.length_toList]; exact IntsAre.length hit
  obtain ⟨ol, hol, _⟩ := id hl
  have hlS : l < s.heap.objs.size := Heap.lt_size hol
  have sz : (s.heap.push (set0 w)).objs.size = s.heap.objs.size + 1 := Heap.size_push ..
  have out : s.heap.objs.size ∉ [s.heap.objs.size + 1, l] := by
    simp only [List.mem_cons, List.not_mem_nil, or_false, not_or]
    exact ⟨Nat.ne_of_lt (Nat.lt_succ_self _), Nat.ne_of_gt hlS⟩
  have hS : ((s.heap.push (set0 w)).push { cls := .type "list_iterator", data := .fields #[.ref l, .int 0 0] }).get? s.heap.objs.size = some (set0 w) := Heap.get?_push_of_some _ (Heap.get?_push_size _ rfl)
  have hL1 : (s.heap.push (set0 w)).IsList l items := hl.push _
  have hI : ((s.heap.push (set0 w)).push { cls := .type "list_iterator", data := .fields #[.ref l, .int 0 0] }).IsListIter (s.heap.objs.size + 1) l 0 := by
    rw [← sz]
    exact ⟨_, Heap.get?_push_size _ rfl, rfl, rfl⟩
  refine set_update_ints ((Walks.list (w := w) (show A2.in1.handled = none from hh) (s.heap.objs.size + 1) l (Nat.ne_of_lt (Nat.lt_succ_of_lt hlS)) items).toS) s.heap.objs.size out ns same hb (fun i v hv => ?_) (items.size - 0) 0 _ (by omega) (Nat.zero_le _) ⟨hI, hL1.push _⟩ ⟨0, Nat.le_refl 0, setR_new_at hS⟩ fun s' c hm hc hS' => ?_
  · have hi : i < ns.length := by rw [← same]; exact (Array.getElem?_eq_some_iff.mp hv).1
    obtain ⟨t, e⟩ := IntsAre.int_at hit i v (by rw [Array.getElem?_toList]; exact hv)
    refine ⟨ns[i], t, List.getElem?_eq_getElem hi, ?_⟩
    rw [e, List.getD_eq_getElem?_getD, List.getElem?_eq_getElem hi] <;> rfl
  · obtain ⟨h', g2, d', tk', os'⟩ := s'
    cases (show g2 = s.gens from hm.gens)
    cases (show d' = s.drawn from hm.drawn)
    cases (show os' = s.os from hm.os)
    rw [same] at hc
    refine hR h' tk' c hS' hc fun b o e => hm.heap b o ?_ (Heap.get?_push_of_some _ (Heap.get?_push_of_some _ e))
    have hb0 := Heap.lt_size e
    simp only [List.mem_cons, List.not_mem_nil, or_false, not_or]
    exact ⟨Nat.ne_of_lt hb0, Nat.ne_of_lt (Nat.lt_succ_of_lt hb0)⟩
/-- set(l) -/
theorem set_list {l : Addr} {items : Array Value} {ns : List Int} {Q : Value → Shared → Prop} (hh : A.handled = none) (hl : s.heap.IsList l items) (hit : IntsAre items.toList ns) (hb : ns.length + 1 < scanBound)
    (h : ∀ (h' : Heap) (tk c : Nat), SetR w h' s.heap.objs.size (fun j => decide (j ∈ ns)) c → c ≤ ns.length → (∀ b o, s.heap.get? b = some o → h'.get? b = some o) → Q (.ref s.heap.objs.size) { s with heap := h', toks := tk }) :
    wpAny (model P w) A (call (.type "set") [.ref l]) Q E s := by
  obtain ⟨c, tl, hmro⟩ := F.called_set.mro
  have m1 := F.called_set.made
  have m2 := F.called_set.sub
  have m3 := F.called_set.notType
  have m4 := F.called_set.canCreate
  have m5 := F.typeCall_set_1 (.ref l)
  refine wpAny_call (codeAny_of_tree ?_)
  show wpAny _ _ (callAny (Value.type "set") _) _ _ _
  refine wpAny_pure ⟨Code.quiet_builtin _ (by decide +kernel), codeAny_builtin F.entry_type_call ?_⟩
  rw [Around.under_plain (weight_type_call_type "set" [Value.ref l] []) rfl]
  repeat any_goals first | assumption | wp_step
  refine codeAny_mono (code_set_led1 (Value.ref l) (E := E) (Q₁ := fun v t => v = .ref s.heap.objs.size ∧ t = { s with heap := s.heap.push (set0 w) }) ⟨rfl, rfl⟩) fun r s1 hr => ?made
  case made =>
    match r, hr with
    | .ok (.ret v), ⟨e1, e2⟩ =>
      subst e1 e2
      have hS : (s.heap.push (set0 w)).get? s.heap.objs.size = some (set0 w) := Heap.get?_push_size _ rfl
      have ty : Shared.TypeIs { s with heap := s.heap.push (set0 w) } (Value.ref s.heap.objs.size) "set" := ⟨_, hS, rfl⟩
      have n1 := F.called_set.init.lookup
      have n2 := F.called_set.init.bind (Value.ref s.heap.objs.size)
      repeat any_goals first | assumption | wp_step
      refine codeAny_mono (codeAny_call_builtin (R := wants (fun r t => r = .none ∧ ∃ h' tk c, t = { s with heap := h', toks := tk } ∧ SetR w h' s.heap.objs.size (fun j => decide (j ∈ ns)) c ∧ c ≤ ns.length ∧ ∀ b o, s.heap.get? b = some o → h'.get? b = some o) E) F.called_set.init.plain F.entry_set_init (check_set_init_1 ty ?fill)) fun r2 s2 hr2 => ?filled
      case fill =>
        obtain ⟨ol, hol, hcl, nl, hdl⟩ := id hl
        obtain ⟨oc, od, odt, osl⟩ := ol
        simp only at hcl hdl
        subst hcl hdl
        have hol2 : (s.heap.push (set0 w)).get? l = some { cls := .type "list", dict := od, data := .seq items nl, slots := osl } := Heap.get?_push_of_some _ hol
        have k1 := F.sub_list_set
        have k2 := F.sub_list_frozenset
        have k3 : (Value.type "list" == Value.type "dict") = false := by decide
        have hL1 : (s.heap.push (set0 w)).IsList l items := hl.push _
        unfold Builtin.«set.__init__» noKeywords Builtin.Frozenset.updateFrom
        generalize hPI : pyIter = PI
        wp_walk
        subst hPI
        refine wpAny_pyIter_list hL1 (wpAny_bind (wpAny_runValue ?_))
        have sz : (s.heap.push (set0 w)).objs.size = s.heap.objs.size + 1 := Heap.size_push ..
        rw [sz]
        refine set_fill (A2 := A.in1.in1) (by simp [hh]) hl hit hb fun h' tk c e1 e2 e3 => ?_
        show wpAny _ _ _ _ _ _
        refine wpAny_pure ?_
        show wpAny _ _ (ret Value.none) _ _ _
        exact wpAny_pure ⟨rfl, h', tk, c, rfl, e1, e2, e3⟩
      case filled =>
        match r2, hr2 with
        | .ok (.ret v), ⟨e0, h', tk, c, e1, e2, e3, e4⟩ =>
          subst e0 e1
          repeat any_goals first | assumption | wp_step
          exact h _ _ _ e2 e3 e4
        | .ok .next, z => exact z.elim
        | .ok .brk, z => exact z.elim
        | .ok .cont, z => exact z.elim
        | .error _, z => exact z
    | .ok .next, z => exact z.elim
    | .ok .brk, z => exact z.elim
    | .ok .cont, z => exact z.elim
    | .error _, z => exact z
end
/-- set(l) -/
def rSetL (K : PySem.W.Frag) (w : World) : List V → Hp → VK → Prop := fun vs H Q => ∃ (a : Addr) (ns : List Int), vs = [V.ref a] ∧ SqL K H a (ns.map V.int) ∧ ns.length ≤ 60 ∧ ∀ (p : Addr) (n : Nat), H p = none → n ≤ ns.length → Q (.ref p) (upd H p (SetO w p (fun j => decide (j ∈ ns)) n))
theorem cr_setL {X : Cx} (hc : X.calm = true) : CallR X (.type "set") (rSetL X.K X.w) := by
  intro pins s σ H vs us Q I r h
  obtain ⟨a, ns, rfl, hS, hl, q⟩ := h
  rw [Vals.ref1 r]
  obtain ⟨its, rv, ht, hz⟩ := I.list hS
  have hi : IntsAre its.toArray.toList ns := by rw [List.toList_toArray]; exact ints_vals rv
  refine set_list (I.ok.hd hc) ht.isList hi (Nat.lt_of_le_of_lt (show ns.length + 1 ≤ 61 by omega) (by decide)) fun h' tk c R hcn k => ?_
  exact ⟨.ref s.heap.objs.size, _, I.laid k (Nat.le_refl _) (setO_new R), rfl, q _ c (I.hok.fresh (Nat.le_refl _)) hcn⟩
end Ef
set_option Elab.async false
set_option linter.all false
set_option maxRecDepth 100000
set_option maxHeartbeats 2000000
set_option exponentiation.threshold 20
/-! the places of the law's list -/
namespace Ef
def spQ (f : Fac) : List Int := [f.2 / f.1 + -1, f.2 / f.1 + 0, f.2 / f.1 + 1, f.2 / f.1 + 2]
def spL (low : Int) (fs : List Fac) : List Int := low :: fs.flatMap spQ
theorem spL_snoc (low : Int) (fs : List Fac) (f : Fac) : spL low (fs ++ [f]) = spL low fs ++ spQ f := by
  unfold spL
  rw [List.flatMap_append, List.flatMap_cons, List.flatMap_nil, List.append_nil, List.cons_append]
theorem spL_len (low : Int) : ∀ fs : List Fac, (spL low fs).length = 1 + 4 * fs.length := by
  intro fs
  unfold spL
  rw [List.length_cons]
  have : (fs.flatMap spQ).length = 4 * fs.length := by
    induction fs with
    | nil => rfl
    | cons f fs ih => rw [List.flatMap_cons, List.length_append, ih, List.length_cons]; show 4 + _ = _; omega
  omega
theorem spL_mem {low : Int} {fs : List Fac} {f : Fac} (h : f ∈ fs) : f.2 / f.1 ∈ spL low fs ∧ f.2 / f.1 + 1 ∈ spL low fs := by
  unfold spL
  refine ⟨List.mem_cons_of_mem _ (List.mem_flatMap.mpr ⟨f, h, ?_⟩), List.mem_cons_of_mem _ (List.mem_flatMap.mpr ⟨f, h, ?_⟩)⟩
  · unfold spQ
    rw [Int.add_zero]
    exact List.mem_cons_of_mem _ List.mem_cons_self
  · unfold spQ
    exact List.mem_cons_of_mem _ (List.mem_cons_of_mem _ List.mem_cons_self)
theorem fdiv_bd {x d : Int} (h : Bd 104 x) (hd : 0 < d) : (x / d).natAbs < 2 ^ 104 := Bd.div h hd
theorem spL_bd {low : Int} {fs : List Fac} (hl : Bd 800 low) (hf : ∀ f ∈ fs, FOk f) : ∀ c ∈ spL low fs, Bd 900 c := fun c hc => by
  unfold spL at hc
  rcases List.mem_cons.mp hc with rfl | hc
  · exact hl.up (by decide)
  · obtain ⟨f, h1, h2⟩ := List.mem_flatMap.mp hc
    have hq := fdiv_bd (hf f h1).2.2 (hf f h1).1
    have big : ∀ k : Int, Bd 2 k → Bd 900 (f.2 / f.1 + k) := fun k hk => (Bd.add' (a := 104) (w := 105) hq (hk.up (by decide)) (by decide)).up (by decide)
    unfold spQ at h2
    simp only [List.mem_cons, List.not_mem_nil, or_false] at h2
    rcases h2 with rfl | rfl | rfl | rfl
    all_goals exact big _ (by unfold Bd; decide)
theorem spL_stay {num low x n : Int} {fs : List Fac} (hf : ∀ f ∈ fs, FOk f) (hx : low ≤ x) (hn : x ≤ n) (h : ∀ m, x < m → m ≤ n → m ∉ (spL low fs).filter fun c => decide (low ≤ c)) : sg (valF num fs n) = sg (valF num fs x) := by
  obtain ⟨k, rfl⟩ : ∃ k : Nat, n = x + (k : Int) := ⟨(n - x).toNat, by omega⟩
  refine stay (f := valF num fs) k fun m h1 h2 => val_same num fs (fun f hf1 => (hf f hf1).1) fun f hf1 => ?_
  have hm := h m h1 h2
  refine ⟨fun z => hm (List.mem_filter.mpr ⟨z ▸ (spL_mem hf1).1, decide_eq_true (by omega)⟩), fun z => hm (List.mem_filter.mpr ⟨z ▸ (spL_mem hf1).2, decide_eq_true (by omega)⟩)⟩
/-- nothing stands between neighbours -/
theorem asc_next {ns : List Int} (h : ns.Pairwise (· < ·)) {i : Nat} {x m : Int} (hx : ns[i]? = some x) (hm : m ∈ ns) (h1 : x < m) : ∃ y, ns[i + 1]? = some y ∧ y ≤ m := by
  obtain ⟨hi, rfl⟩ := List.getElem?_eq_some_iff.mp hx
  obtain ⟨j, hj, rfl⟩ := List.getElem_of_mem hm
  have hp := List.pairwise_iff_getElem.mp h
  have hij : i < j := by
    rcases Nat.lt_trichotomy i j with z | z | z
    · exact z
    · subst z; omega
    · have := hp j i hj hi z; omega
  refine ⟨ns[i + 1], List.getElem?_eq_getElem (by omega), ?_⟩
  rcases Nat.eq_or_lt_of_le (show i + 1 ≤ j from hij) with z | z
  · subst z; exact Int.le_refl _
  · exact Int.le_of_lt (hp (i + 1) j (by omega) hj z)
theorem asc_step {ns : List Int} (h : ns.Pairwise (· < ·)) {i : Nat} {x y : Int} (hx : ns[i]? = some x) (hy : ns[i + 1]? = some y) : x < y := by
  obtain ⟨hi, rfl⟩ := List.getElem?_eq_some_iff.mp hx
  obtain ⟨hj, rfl⟩ := List.getElem?_eq_some_iff.mp hy
  exact List.pairwise_iff_getElem.mp h i (i + 1) hi hj (Nat.lt_succ_self i)
theorem asc_head {ns : List Int} {low : Int} (h : ns.Pairwise (· < ·)) (h1 : low ∈ ns) (h2 : ∀ m ∈ ns, low ≤ m) : ns[0]? = some low := by
  cases ns with
  | nil => cases h1
  | cons z r =>
    have := h2 z List.mem_cons_self
    rcases List.mem_cons.mp h1 with e | e
    · rw [e]; rfl
    · have := (List.pairwise_cons.mp h).1 low e
      omega
/-- one more place -/
theorem fss_step {num low x : Int} {fs : List Fac} {ns : List Int} {found : List (Int × Int)} {i : Nat} (hf : ∀ f ∈ fs, FOk f) (ha : ns.Pairwise (· < ·)) (hm : ∀ k, k ∈ ns ↔ k ∈ (spL low fs).filter fun c => decide (low ≤ c))
    (hx : ns[i]? = some x) (h : Cv (valF num fs) low (ofF ((ns[i]?).map fun x => x - 1) found) ((ns[i]?).map fun x => x - 1)) :
    Cv (valF num fs) low (ofF ((ns[i + 1]?).map fun x => x - 1) (addF found x (sg (valF num fs x)))) ((ns[i + 1]?).map fun x => x - 1) := by
  rw [hx] at h
  have hlx : low ≤ x := by
    have := (List.mem_filter.mp ((hm x).mp (List.mem_of_getElem? hx))).2
    exact of_decide_eq_true this
  refine addF_cv h ?_ fun n h1 h2 => spL_stay hf hlx h1 fun m h3 h4 h5 => ?_
  · cases hy : ns[i + 1]? with
    | none => trivial
    | some y =>
      have := asc_step ha hx hy
      show x ≤ y - 1
      omega
  · obtain ⟨y, hy, hle⟩ := asc_next ha hx ((hm m).mpr h5) h3
    rw [hy] at h2
    have h2 : n ≤ y - 1 := h2
    omega
theorem ofF_get : ∀ (fs : List (Int × Int)) (k : Nat), (ofF none fs)[k]? = (fs[k]?).map fun x => (x.1, (fs[k + 1]?).map fun y => y.1 - 1, x.2)
  | [], _ => rfl
  | [x], 0 => rfl
  | [x], k + 1 => by
    show ([] : List Stt)[k]? = ([] : List (Int × Int))[k]?.map _
    rfl
  | x :: y :: r, 0 => rfl
  | x :: y :: r, k + 1 => by
    show (ofF none (y :: r))[k]? = _
    rw [ofF_get (y :: r) k]
    rfl
theorem addF_len (fs : List (Int × Int)) (b s : Int) : (addF fs b s).length ≤ fs.length + 1 := by
  unfold addF
  split
  · exact Nat.succ_le_succ (Nat.zero_le _)
  · split
    · exact Nat.le_succ _
    · rw [List.length_append]; exact Nat.le_refl _
end Ef
set_option Elab.async false
set_option linter.all false
set_option maxRecDepth 100000
set_option maxHeartbeats 4000000
set_option exponentiation.threshold 20
namespace Ef
open PySem PySem.Spec PyProof.Rows L2
abbrev sFss : Stmt := top 50
structure TxtS (mg : Str → Option Value) : Prop extends TxtR mg where
  set : mg "set" = none
  sorted : mg "sorted" = none
/-! ### data -/
def dF (x : Int × Int) : PyData := .tuple [.int x.1, .int x.2]
def oD : Option Int → PyData
  | none => .none
  | some y => .int y
def dT (x : Stt) : PyData := .tuple [.int x.1, oD x.2.1, .int x.2.2]
theorem can_map {α : Type} {f : α → PyData} (h : ∀ x, PyData.canLay0 (f x) = true ∧ PyData.depth (f x) ≤ 1) : ∀ xs : List α, PyData.canLayAll0 (xs.map f) = true ∧ PyData.depthAll (xs.map f) ≤ 1
  | [] => ⟨rfl, Nat.zero_le _⟩
  | x :: xs => by
    obtain ⟨h1, h2⟩ := can_map h xs
    constructor
    · show (PyData.canLay0 (f x) && PyData.canLayAll0 (xs.map f)) = true
      rw [h1, (h x).1]; rfl
    · show max (PyData.depth (f x)) (PyData.depthAll (xs.map f)) ≤ 1
      exact Nat.max_le.mpr ⟨(h x).2, h2⟩
theorem sh_list1 {ds : List PyData} (h : PyData.canLayAll0 ds = true ∧ PyData.depthAll ds ≤ 1) : SeqAt.shaped (.list ds) = true := by
  show (PyData.canLayAll0 ds && decide (PyData.depthAll ds + 1 ≤ 64)) = true
  rw [h.1, decide_eq_true (by have := h.2; omega)]; rfl
theorem can_dF (x : Int × Int) : PyData.canLay0 (dF x) = true ∧ PyData.depth (dF x) ≤ 1 := ⟨rfl, Nat.le_of_eq rfl⟩
theorem can_dT (x : Stt) : PyData.canLay0 (dT x) = true ∧ PyData.depth (dT x) ≤ 1 := by
  obtain ⟨b, e, s⟩ := x
  cases e with
  | none => exact ⟨rfl, Nat.le_of_eq rfl⟩
  | some y => exact ⟨rfl, Nat.le_of_eq rfl⟩
theorem dp_lv {K : PySem.W.Frag} {H : Hp} (e : Option Int) : Dp K H (lv e) (oD e) := by
  cases e with
  | none => exact .non
  | some y => exact .int y
theorem dp_fl {K : PySem.W.Frag} {H : Hp} : ∀ {ts : List Addr} {fs : List Fac}, Paired (Ft H) ts fs → DpAll K H (ts.map V.ref) (fs.map dF)
  | _, _, .nil => .nil
  | _, _, .cons h1 h2 => .cons (.tup (.inl (.inl h1)) (.cons (.int _) (.cons (.int _) .nil))) (dp_fl h2)
theorem dp_trs {K : PySem.W.Frag} {H : Hp} : ∀ {ts : List Addr} {fs : List Stt}, Paired (Tr H) ts fs → DpAll K H (ts.map V.ref) (fs.map dT)
  | _, _, .nil => .nil
  | _, _, .cons h1 h2 => .cons (.tup (.inl (.inl h1)) (.cons (.int _) (.cons (dp_lv _) (.cons (.int _) .nil)))) (dp_trs h2)
theorem eqv_dT (x : Stt) : PyData.eqv (dT x) (dT x) = true := by
  obtain ⟨b, e, s⟩ := x
  cases e with
  | none => simp [dT, oD, PyData.eqv, PyData.eqvAll]
  | some y => simp [dT, oD, PyData.eqv, PyData.eqvAll]
theorem eqv_trs : ∀ xs : List Stt, PyData.eqvAll (xs.map dT) (xs.map dT) = true
  | [] => rfl
  | x :: xs => by
    show (PyData.eqv (dT x) (dT x) && PyData.eqvAll (xs.map dT) (xs.map dT)) = true
    rw [eqv_dT, eqv_trs xs]; rfl
theorem eqv_mt (fs : List Fac) : PyData.eqv (.list (fs.map dF)) (.list []) = fs.isEmpty := by
  cases fs with
  | nil => rfl
  | cons n ns => rfl
theorem prd_last {α β : Type} {R : α → β → Prop} {z : β} : ∀ {ts : List α} {xs : List β}, Paired R ts (xs ++ [z]) → ∃ ts0 tz, ts = ts0 ++ [tz] ∧ Paired R ts0 xs ∧ R tz z
  | _, [], .cons h .nil => ⟨[], _, rfl, .nil, h⟩
  | _, _ :: _, .cons h h2 => by
    obtain ⟨ts0, tz, e, p0, hz⟩ := prd_last h2
    exact ⟨_ :: ts0, tz, by rw [e]; rfl, .cons h p0, hz⟩
theorem cut_lo1 (xs : List V) : cutV xs (some 1) none = xs.drop 1 := by
  unfold cutV
  rw [HT.sIx_none, show (1 : Int) = ((1 : Nat) : Int) from rfl, HT.sIx_nat]
  cases xs with
  | nil => rfl
  | cons x r =>
    rw [Nat.min_eq_left (by rw [List.length_cons]; omega), List.take_of_length_le (by rw [List.length_drop]; exact Nat.le_refl _)]
def endsL (found : List (Int × Int)) : List V := ((found.drop 1).map fun y => V.int (y.1 - 1)) ++ [V.non]
theorem ends_get {found : List (Int × Int)} {j : Nat} (h : j < found.length) : (endsL found)[j]? = some (lv ((found[j + 1]?).map fun y => y.1 - 1)) := by
  unfold endsL
  have e1 : ((found.drop 1).map fun y => V.int (y.1 - 1)).length = found.length - 1 := by rw [List.length_map, List.length_drop]
  rcases Nat.lt_or_ge j (found.length - 1) with z | z
  · rw [List.getElem?_append_left (by rw [e1]; exact z), List.getElem?_map, List.getElem?_drop, Nat.add_comm 1 j, List.getElem?_eq_getElem (by omega)]
    rfl
  · have ej : j = found.length - 1 := by omega
    rw [List.getElem?_append_right (by rw [e1]; exact z), e1, ej, Nat.sub_self, List.getElem?_eq_none (l := found) (by omega)]
    rfl
theorem prd_drop {α β : Type} {R : α → β → Prop} : ∀ (k : Nat) {ts : List α} {xs : List β}, Paired R ts xs → Paired R (ts.drop k) (xs.drop k)
  | 0, _, _, h => h
  | k + 1, _, _, .nil => .nil
  | k + 1, _, _, .cons _ h => prd_drop k h
theorem prd_of {α β : Type} {R : α → β → Prop} : ∀ {ts : List α} {xs : List β}, Paired R ts xs → ∀ {i : Nat} {x : β}, xs[i]? = some x → ∃ t, ts[i]? = some t ∧ R t x
  | _, _, .nil, i, t, h => by cases h
  | _, _, .cons h1 h2, 0, t, h => by cases h; exact ⟨_, rfl, h1⟩
  | _, _, .cons h1 h2, i + 1, t, h => prd_of h2 (i := i) h
/-- one more pair -/
theorem fl_push {H0 H1 : Hp} {l t : Addr} {ts : List Addr} {fs : List Fac} {x : Fac} (h1 : H1 l = some (.lst (ts.map V.ref))) (h2 : Paired (Ft H1) ts fs) (ht : H1 t = none) (s : Same H0 H1) (hl : H0 l = none) :
    Fl (upd (upd H1 t (.tup [.int x.1, .int x.2])) l (.lst (ts.map V.ref ++ [.ref t]))) l (fs ++ [x]) ∧ Same H0 (upd (upd H1 t (.tup [.int x.1, .int x.2])) l (.lst (ts.map V.ref ++ [.ref t]))) := by
  have htl : t ≠ l := fun z => by rw [z, h1] at ht; cases ht
  have keep : ∀ {u : Addr} {y : Fac}, Ft (upd H1 t (.tup [.int x.1, .int x.2])) u y → Ft (upd (upd H1 t (.tup [.int x.1, .int x.2])) l (.lst (ts.map V.ref ++ [.ref t]))) u y := fun {u y} h => by
    have h : upd H1 t (.tup [.int x.1, .int x.2]) u = some (.tup [.int y.1, .int y.2]) := h
    show upd _ l _ u = _
    rw [upd_ne (ne_of h (show upd H1 t (.tup [.int x.1, .int x.2]) l = some (.lst (ts.map V.ref)) by rw [upd_ne (Ne.symm htl)]; exact h1) (by intro z; cases z))]
    exact h
  refine ⟨⟨ts ++ [t], by rw [upd_same, List.map_append]; rfl, prd_app (L2.Paired.mapP h2 fun u y h => keep (same_new ht _ _ h)) (.cons (keep upd_same) .nil)⟩, same_mut (s.trans (same_new ht)) hl⟩
section
variable {P : Program} {w : World} {K : PySem.W.Frag} {mg : Str → Option Value} {base : Heap}
def spFss : Sp := fun vs H Q _ => ∃ (F : Addr) (num low : Int) (fs : List Fac), vs = [.ref F, .int low] ∧ Facs H F num fs ∧ FacOk num fs ∧ Bd 800 low ∧ ∀ (l : Addr) (ps : List Stt) (H' : Hp), Same H H' → Trs H' l ps → Cv (valF num fs) low ps none → ps.length ≤ 60 → Q (.ref l) H'
theorem scFss : FnScope ["factors", "low", "spots", "a", "b", "k", "spot", "found", "sign", "ends", "row"] ["factors", "low"] (defScope sFss) := ⟨rfl, rfl, rfl, by decide +kernel, rfl, by decide +kernel, by decide +kernel⟩
theorem df_fss (A : At K mg "_law_factor_signs" sFss) (T : TxtS mg) (Dfactorsign : Df P w K mg base 2 "_law_factor_sign" ["factors", "n"] spFsgn) : Df P w K mg base 3 "_law_factor_signs" ["factors", "low"] spFss := by
  obtain ⟨f, fd, hm, F⟩ := A.ex
  refine ⟨f, fd, hm, F.kp, F.binds (fun _ _ _ _ _ _ us hl => match us, hl with | [_, _], _ => rfl), F.ok scFss (fun vs H Q E h => ?_) (fun cdv A outer s H vs Q E hr h => ?_)⟩
  · obtain ⟨F, num, low, fs, rfl, _⟩ := h
    rfl
  · obtain ⟨F, num, low, fs, rfl, hF0, hok, hlow, q⟩ := h
    refine ⟨_, (pss_cons (ps_set (i := 2) scFss.nd rfl (.inl rfl) (pe_lst (pa_cons (pv 1) pa_nil)))
      (pss_cons (ps_for PassesOwn.never rfl (pi_list (pe_ix ix_tup (pv 0) pe_int (fun _ _ => rfl))) (pg_tup (by rfl) (pgs_cons (pg_name (i := 3) scFss.nd rfl (.inr rfl)) (pgs_cons (pg_name (i := 4) scFss.nd rfl (.inr rfl)) pgs_nil)))
      (pss_one (ps_set (i := 2) scFss.nd rfl (.inl rfl) (pe_op op_cat (pv 2) (pe_lc (own := [("k", 5)]) (g := gName 5) (by rfl) scFss.nd (pi_tup (pe_tup (pa_cons (pe_un un_neg pe_int) (pa_cons pe_int (pa_cons pe_int (pa_cons pe_int pa_nil)))))) (blkOk_by (own := [("k", 5)]) (N := ["factors", "low", "spots", "a", "b", "k", "spot", "found", "sign", "ends", "row"]) (sc := defScope sFss) (by decide +kernel)) (fun _ _ _ _ _ => pg_name (i := 5) scFss.nd rfl (Or.inl rfl)) (fun _ _ _ _ _ => pts_nil) (fun _ _ _ _ _ => (pe_op op_add (pe_op op_fdivW (pv 4) (pv 3)) (pv 5))))))))
      (pss_cons (ps_set (i := 2) scFss.nd rfl (.inl rfl) (pe_callB (cr_sortedSet rfl) (by rfl) T.sorted (by decide +kernel) (pa_cons (pe_callTy (cr_setL rfl) (by rfl) T.set (by decide +kernel) (pa_cons (pe_lc (own := [("spot", 6)]) (g := gName 6) (by rfl) scFss.nd (pi_list (pv 2)) (blkOk_by (own := [("spot", 6)]) (N := ["factors", "low", "spots", "a", "b", "k", "spot", "found", "sign", "ends", "row"]) (sc := defScope sFss) (by decide +kernel)) (fun _ _ _ _ _ => pg_name (i := 6) scFss.nd rfl (Or.inl rfl)) (fun _ _ _ _ _ => (pts_one (pt_cmpR op_ge (pv 6) (pv 1) (nomark _)))) (fun _ _ _ _ _ => (pe_callTy call_int1 (by rfl) T.int (by decide +kernel) (pa_cons (pv 6) pa_nil)))) pa_nil)) pa_nil)))
      (pss_cons (ps_set (i := 7) scFss.nd rfl (.inr rfl) (pe_lst pa_nil))
      (pss_cons (ps_for PassesOwn.never rfl (pi_list (pv 2)) (pg_name (i := 6) scFss.nd rfl (.inl rfl))
      (pss_cons (ps_set (i := 8) scFss.nd rfl (.inl rfl) (Dfactorsign.call (hr.mono (by decide)) (pa_cons (pv 0) (pa_cons (pv 6) pa_nil))))
      (pss_one (ps_if (pw_or (pt_cmpR (op_eqD hr.units) (pv 7) (pe_lst pa_nil) (nomark _)) (pw_or1 (pt_cmpR op_ne (pe_ix ix_tup (pe_ix ix_list (pv 7) (pe_un un_neg pe_int) (fun _ _ => rfl)) pe_int (fun _ _ => rfl)) (pv 8) (nomark _)))).pt (pss_one (ps_expr (pe_bm PySem.F.plainAttrs_list PySem.F.slot_list_append PySem.F.type_list_append mt_append (pv 7) (pa_cons (pe_tup (pa_cons (pv 6) (pa_cons (pv 8) pa_nil))) pa_nil)))) pss_nil))))
      (pss_cons (ps_set (i := 9) scFss.nd rfl (.inr rfl) (pe_op op_cat (pe_lc (own := [("row", 10)]) (g := gName 10) (by rfl) scFss.nd (pi_list (pe_slice sl_list (pv 7) (po_some pe_int) po_none)) (blkOk_by (own := [("row", 10)]) (N := ["factors", "low", "spots", "a", "b", "k", "spot", "found", "sign", "ends", "row"]) (sc := defScope sFss) (by decide +kernel)) (fun _ _ _ _ _ => pg_name (i := 10) scFss.nd rfl (Or.inl rfl)) (fun _ _ _ _ _ => pts_nil) (fun _ _ _ _ _ => (pe_op op_sub (pe_ix (show IxR _ (rIxT K) from ix_tup) (pv 10) pe_int (fun _ _ => rfl)) pe_int))) (pe_lst (pa_cons pe_non pa_nil))))
      (pss_one (ps_ret (pe_lc (own := [("k", 5)]) (g := gName 5) (by rfl) scFss.nd (pi_range1 (by rfl) T.range (pa_cons (pe_callB call_len_seq (by rfl) T.len PySem.boot_len (pa_cons (pv 7) pa_nil)) pa_nil)) (blkOk_by (own := [("k", 5)]) (N := ["factors", "low", "spots", "a", "b", "k", "spot", "found", "sign", "ends", "row"]) (sc := defScope sFss) (by decide +kernel)) (fun _ _ _ _ _ => pg_name (i := 5) scFss.nd rfl (Or.inl rfl)) (fun _ _ _ _ _ => pts_nil) (fun _ _ _ _ _ => (pe_tup (pa_cons (pe_ix (show IxR _ (rIxT K) from ix_tup) (pe_ix (show IxR _ (rIxL K) from ix_list) (pv 7) (pv 5) (fun _ _ => rfl)) pe_int (fun _ _ => rfl)) (pa_cons (pe_ix (show IxR _ (rIxL K) from ix_list) (pv 9) (pv 5) (fun _ _ => rfl)) (pa_cons (pe_ix (show IxR _ (rIxT K) from ix_tup) (pe_ix (show IxR _ (rIxL K) from ix_list) (pv 7) (pv 5) (fun _ _ => rfl)) pe_int (fun _ _ => rfl)) pa_nil)))))))))))))), ?_⟩
    obtain ⟨lf, hF, ts, hlf, hts⟩ := id hF0
    have hlen := hok.l
    refine ⟨_, rfl, by show 1 ≤ sizeLine; decide, fun l0 hl0 => ?_⟩
    have s0 := same_new (o := .lst [.int low]) hl0
    have e0 : (upd H l0 (.lst [.int low])) l0 = some (.lst ((spL low []).map V.int)) := upd_same
    generalize upd H l0 (.lst [.int low]) = H0 at s0 e0 ⊢
    refine ⟨_, rfl, F, _, _, .ref lf, rfl, rfl, .inl (.inl (s0 _ _ hF)), rfl, lf, rfl, ⟨_, .inl (.inl (s0 _ _ hlf))⟩, for_list (K := K) (a := lf) (xs := ts.map V.ref)
      (fun i σ H' => ∃ (l : Addr) (y3 y4 : Option V), Same H H' ∧ H' l = some (.lst ((spL low (fs.take i)).map V.int)) ∧ σ = [some (.ref F), some (.int low), some (.ref l), y3, y4, none, none, none, none, none, none])
      ⟨l0, none, none, s0, e0, rfl⟩ (fun i σ H' _ ⟨_, _, _, s, _⟩ => .inl (.inl (s _ _ hlf))) ?_ ?_⟩
    · rintro i v σ H1 hi ⟨l, y3, y4, s1, e1, rfl⟩
      rw [List.getElem?_map] at hi
      obtain ⟨t, ht, rfl⟩ := Option.map_eq_some_iff.mp hi
      obtain ⟨x, hx, hxt⟩ := prd_at hts ht
      have hxo := hok.f x (List.mem_of_getElem? hx)
      have hi6 : i < fs.length := (List.getElem?_eq_some_iff.mp hx).1
      refine ⟨t, _, rfl, .inl (.inl (s1 _ _ hxt)), rfl, _, _, rfl, _, _, rfl, rfl, ?_⟩
      refine ⟨_, rfl, _, rfl, by show 4 ≤ sizeLine; decide, fun t4 ht4 => ?_⟩
      have s4 := same_new (o := .tup [V.int (-1), .int 0, .int 1, .int 2]) ht4
      have e4 : (upd H1 t4 (.tup [V.int (-1), .int 0, .int 1, .int 2])) t4 = some (.tup (([-1, 0, 1, 2] : List Int).map V.int)) := upd_same
      generalize upd H1 t4 (.tup [V.int (-1), .int 0, .int 1, .int 2]) = H2 at s4 e4 ⊢
      have s14 := s1.trans s4
      refine ⟨t4, rfl, ⟨_, .inl (.inl e4)⟩, fun D hD => lc_tup (K := K) (a := t4) (xs := ([-1, 0, 1, 2] : List Int).map V.int) (tt := tYes) (fun j H' => Same H2 H' ∧ H' D = some (.lst (((spQ x).take j).map V.int))) ⟨same_new hD, upd_same⟩ (fun j H' _ hh => .inl (.inl (hh.1 _ _ e4))) (fun j y H' hj ⟨sx, hx'⟩ => ?_) ?_⟩
      · obtain ⟨k, hk, rfl⟩ : ∃ k : Int, (spQ x)[j]? = some (x.2 / x.1 + k) ∧ y = .int k := by
          match j, hj with
          | 0, hj => cases hj; exact ⟨_, rfl, rfl⟩
          | 1, hj => cases hj; exact ⟨_, rfl, rfl⟩
          | 2, hj => cases hj; exact ⟨_, rfl, rfl⟩
          | 3, hj => cases hj; exact ⟨_, rfl, rfl⟩
          | n + 4, hj => cases hj
        refine ⟨rfl, _, rfl, _, rfl, _, _, rfl, rfl, wide_div (b := 104) hxo.1 hxo.2.1 (by decide) (by decide), _, rfl, _, _, rfl, rfl, _, hx', ?_, same_mut sx hD, ?_⟩
        · rw [List.length_map]
          exact Nat.lt_of_le_of_lt (List.length_take_le _ _) (Nat.lt_of_le_of_lt (show j ≤ 100 from by
            have := (List.getElem?_eq_some_iff.mp hj).1
            have e : (([-1, 0, 1, 2] : List Int).map V.int).length = 4 := rfl
            omega) (by decide))
        · rw [upd_same, List.take_succ, hk, Option.toList_some, List.map_append]
          rfl
      · rintro H3 ⟨s3, h3⟩
        have e5 : H3 D = some (.lst ((spQ x).map V.int)) := h3
        refine ⟨l, D, _, _, rfl, rfl, s3 _ _ (s4 _ _ e1), e5, ?_, fun l9 hl9 => ⟨l9, _, _, (s14.trans s3).trans (same_new hl9), ?_, rfl⟩⟩
        · rw [List.length_map, spL_len, List.length_map, List.length_take]
          exact Nat.le_trans (show _ ≤ 100 from by have e : (spQ x).length = 4 := rfl; omega) (by decide)
        · rw [upd_same, List.take_succ, hx, Option.toList_some, spL_snoc, List.map_append]
    · rintro σ H1 ⟨l, y3, y4, s1, e1, rfl⟩
      rw [List.length_map, Paired.length hts, List.take_length] at e1
      have hbd := spL_bd (low := low) (fs := fs) hlow hok.f
      refine ⟨_, rfl, l, rfl, ⟨_, .inl (.inl e1)⟩, fun D hD => lc_list (K := K) (a := l) (xs := (spL low fs).map V.int) (fun j H' => Same H1 H' ∧ H' D = some (.lst ((((spL low fs).take j).filter fun c => decide (low ≤ c)).map V.int))) ⟨same_new hD, upd_same⟩ (fun j H' _ hh => .inl (.inl (hh.1 _ _ e1))) (fun j y H' hj ⟨sx, hx'⟩ => ?_) ?_⟩
      · rw [List.getElem?_map] at hj
        obtain ⟨c, hc, rfl⟩ := Option.map_eq_some_iff.mp hj
        have htk : ((spL low fs).take (j + 1)).filter (fun c => decide (low ≤ c)) = ((spL low fs).take j).filter (fun c => decide (low ≤ c)) ++ if low ≤ c then [c] else [] := by
          rw [List.take_succ, hc, Option.toList_some, List.filter_append, List.filter_cons, List.filter_nil]
          by_cases z : low ≤ c
          · rw [if_pos z, decide_eq_true z]; rfl
          · rw [if_neg z, decide_eq_false z]; rfl
        refine ⟨rfl, _, rfl, _, rfl, _, _, rfl, rfl, _, rfl, ite2 (fun hb => ?_) (fun hb => ?_)⟩
        · have hb := of_decide_eq_true hb
          rw [if_pos hb] at htk
          refine ⟨_, rfl, .inl ⟨c, rfl, _, hx', ?_, same_mut sx hD, ?_⟩⟩
          · rw [List.length_map]
            refine Nat.lt_of_le_of_lt (Nat.le_trans (List.length_filter_le _ _) (List.length_take_le _ _)) (Nat.lt_of_le_of_lt (show j ≤ 100 from ?_) (by decide))
            have := (List.getElem?_eq_some_iff.mp hc).1
            rw [spL_len] at this
            omega
          · rw [upd_same, htk, List.map_append]
            rfl
        · have hb := mt decide_eq_true hb
          rw [if_neg hb, List.append_nil] at htk
          refine ⟨sx, ?_⟩
          rw [htk]
          exact hx'
      · rintro H3 ⟨s3, h3⟩
        rw [List.length_map, List.take_length] at h3
        have hlS : ((spL low fs).filter fun c => decide (low ≤ c)).length ≤ 25 := by
          have := List.length_filter_le (fun c => decide (low ≤ c)) (spL low fs)
          rw [spL_len] at this
          omega
        refine ⟨D, _, rfl, .inl (.inl h3), by omega, fun ps n hps hn => ⟨ps, _, n, rfl, upd_same, by omega, fun nl p2 hasc hmem hnl hp2 => ?_⟩⟩
        have s6' := ((s1.trans s3).trans (same_new hps)).trans (same_new (o := .lst (nl.map V.int)) hp2)
        generalize hH6 : upd (upd H3 ps _) p2 _ = H6 at s6' ⊢
        have ep : H6 p2 = some (.lst (nl.map V.int)) := by rw [← hH6]; exact upd_same
        have s6 : Same H H6 := s6'
        have hmem2 : ∀ k, k ∈ nl ↔ k ∈ (spL low fs).filter fun c => decide (low ≤ c) := fun k => (hmem k).trans ⟨of_decide_eq_true, decide_eq_true⟩
        have hn25 : nl.length ≤ 25 := by omega
        have hge : ∀ m ∈ nl, low ≤ m := fun m hm => of_decide_eq_true (List.mem_filter.mp ((hmem2 m).mp hm)).2
        have hhead := asc_head hasc ((hmem2 low).mpr (List.mem_filter.mpr ⟨List.mem_cons_self, decide_eq_true (Int.le_refl _)⟩)) hge
        have hnb : ∀ m ∈ nl, Bd 900 m := fun m hm => hbd m (List.mem_filter.mp ((hmem2 m).mp hm)).1
        refine ⟨by show 0 ≤ sizeLine; decide, fun l7 hl7 => ?_⟩
        have hl70 := s6.free hl7
        have np2 : p2 ≠ l7 := fun z => by rw [← z, ep] at hl7; cases hl7
        have s7 := s6.trans (same_new (o := .lst []) hl7)
        have ep7 : (upd H6 l7 (.lst [])) p2 = some (.lst (nl.map V.int)) := by rw [upd_ne np2]; exact ep
        have ef7 : Fl (upd H6 l7 (.lst [])) l7 [] := ⟨[], upd_same, .nil⟩
        generalize upd H6 l7 (.lst []) = H7 at s7 ep7 ef7 ⊢
        refine ⟨_, rfl, p2, rfl, ⟨_, .inl (.inl ep7)⟩, for_list (K := K) (a := p2) (xs := nl.map V.int)
          (fun i σ H' => ∃ (found : List (Int × Int)) (y6 y8 : Option V), Same H H' ∧ H' p2 = some (.lst (nl.map V.int)) ∧ Fl H' l7 found ∧ Cv (valF num fs) low (ofF ((nl[i]?).map fun x => x - 1) found) ((nl[i]?).map fun x => x - 1) ∧ found.length ≤ i ∧ σ = [some (.ref F), some (.int low), some (.ref p2), y3, y4, none, y6, some (.ref l7), y8, none, none])
          ⟨[], none, none, s7, ep7, ef7, by rw [hhead]; exact .nil, Nat.zero_le _, rfl⟩ (fun i σ H' _ ⟨_, _, _, _, e, _⟩ => .inl (.inl e)) ?_ ?_⟩
        · rintro i v σ H8 hi ⟨found, y6, y8, s8, e8, f8, c8, n8, rfl⟩
          rw [List.getElem?_map] at hi
          obtain ⟨x, hx, rfl⟩ := Option.map_eq_some_iff.mp hi
          have hi25 := (List.getElem?_eq_some_iff.mp hx).1
          have hstep := fss_step hok.f hasc hmem2 hx c8
          have hal := addF_len found x (sg (valF num fs x))
          refine ⟨_, rfl, _, rfl, F, num, x, fs, rfl, hF0.same s8, hok, hnb x (List.mem_of_getElem? hx), ?_⟩
          obtain ⟨tf, g1, g2⟩ := id f8
          have eqn := eqv_mt found
          refine ⟨_, rfl, by show 0 ≤ sizeLine; decide, fun le hle => ?_⟩
          have s9 := s8.trans (same_new (o := .lst []) hle)
          have e9 := same_new (o := .lst []) hle _ _ e8
          have g19 := same_new (o := .lst []) hle _ _ g1
          have g29 : Paired (Ft (upd H8 le (.lst []))) tf found := L2.Paired.mapP g2 fun t f h => same_new hle _ _ h
          have ele : (upd H8 le (.lst [])) le = some (.lst []) := upd_same
          generalize upd H8 le (.lst []) = H9 at s9 e9 g19 g29 ele ⊢
          have fin : ∀ (R : Hp → Prop), (∀ H', Same H H' → H' p2 = some (.lst (nl.map V.int)) → Fl H' l7 (found ++ [(x, sg (valF num fs x))]) → R H') → [V.int x, V.int (sg (valF num fs x))].length ≤ sizeLine ∧ ∀ t, H9 t = none → rAppend (.ref l7) [.ref t] (upd H9 t (.tup [V.int x, V.int (sg (valF num fs x))])) fun _ H' => R H' := fun R hR => by
            refine ⟨by show 2 ≤ sizeLine; decide, fun t ht => ⟨l7, _, _, rfl, rfl, same_new ht _ _ g19, ?_, ?_⟩⟩
            · rw [List.length_map, Paired.length g29]
              exact Nat.lt_of_le_of_lt (show found.length ≤ 100 by omega) (by decide)
            · obtain ⟨z1, z2⟩ := fl_push (x := (x, sg (valF num fs x))) g19 g29 ht s9 hl70
              exact hR _ z2 (by rw [upd_ne np2, upd_ne (fun z => by rw [← z, e9] at ht; cases ht)]; exact e9) z1
          refine ⟨_, _, .lst (.inl (.inl g19)) (dp_fl g29), .lst (.inl (.inl ele)) .nil, sh_list1 (can_map can_dF found), (sh_list rfl rfl).1, _, rfl, ?_⟩
          rw [eqn]
          rcases List.eq_nil_or_concat found with e0 | ⟨fd0, y, e0⟩
          · subst e0
            refine iteT ⟨_, rfl, .inl ⟨rfl, _, .inl (.inl g19)⟩, _, rfl, _, rfl, fin _ fun H' s' e' f' => ⟨_, some (.int x), some (.int (sg (valF num fs x))), s', e', f', hstep, Nat.succ_le_succ n8, rfl⟩⟩
          · rw [List.concat_eq_append] at e0
            have hne : found.isEmpty = false := by rw [e0]; cases fd0 <;> rfl
            have hadd : addF found x (sg (valF num fs x)) = if y.2 = sg (valF num fs x) then found else found ++ [(x, sg (valF num fs x))] := by
              unfold addF
              rw [e0, List.getLast?_concat]
            obtain ⟨tf0, ty, etf, _, hty⟩ := prd_last (e0 ▸ g29)
            have hlast : (tf.map V.ref)[tf0.length]? = some (.ref ty) := by
              rw [etf, List.map_append, List.getElem?_append_right (by rw [List.length_map]; exact Nat.le_refl _), List.length_map, Nat.sub_self]
              rfl
            have hat := at_neg1 hlast (by rw [etf, List.map_append, List.length_append, List.length_map]; rfl)
            rw [hne]
            refine iteF ⟨_, rfl, _, rfl, l7, _, _, .ref ty, rfl, rfl, .inl (.inl g19), hat, ty, _, _, .int y.2, rfl, rfl, .inl (.inl hty), rfl, _, rfl, rfl, _, rfl, ?_⟩
            refine ite2 (fun hb => ?_) (fun hb => ?_)
            · have hb : ¬ y.2 = sg (valF num fs x) := fun z => by rw [z] at hb; simp at hb
              rw [if_neg hb] at hadd
              rw [hadd] at hstep hal
              exact ⟨_, rfl, .inl ⟨rfl, _, .inl (.inl g19)⟩, _, rfl, _, rfl, fin _ fun H' s' e' f' => ⟨_, some (.int x), some (.int (sg (valF num fs x))), s', e', f', hstep, Nat.le_trans hal (Nat.succ_le_succ n8), rfl⟩⟩
            · have hb : y.2 = sg (valF num fs x) := by
                refine Classical.byContradiction fun z => hb ?_
                simp [z]
              rw [if_pos hb] at hadd
              rw [hadd] at hstep
              exact ⟨_, some (.int x), some (.int (sg (valF num fs x))), s9, e9, ⟨tf, g19, g29⟩, hstep, Nat.le_succ_of_le n8, rfl⟩
        · rintro σ H8 ⟨found, y6, y8, s8, e8, f8, c8, n8, rfl⟩
          rw [List.length_map] at c8 n8
          rw [List.getElem?_eq_none (Nat.le_refl _)] at c8
          have c8 : Cv (valF num fs) low (ofF none found) none := c8
          obtain ⟨tf, g1, g2⟩ := id f8
          refine ⟨_, rfl, 1, rfl, l7, _, rfl, .inl (.inl g1), fun d1 hd1 => ?_⟩
          rw [cut_lo1, ← List.map_drop]
          have s9 := s8.trans (same_new (o := .lst ((tf.drop 1).map V.ref)) hd1)
          have g19 := same_new (o := .lst ((tf.drop 1).map V.ref)) hd1 _ _ g1
          have g29 : Paired (Ft (upd H8 d1 (.lst ((tf.drop 1).map V.ref)))) tf found := L2.Paired.mapP g2 fun t f h => same_new hd1 _ _ h
          have e9 : (upd H8 d1 (.lst ((tf.drop 1).map V.ref))) d1 = some (.lst ((tf.drop 1).map V.ref)) := upd_same
          generalize upd H8 d1 (.lst ((tf.drop 1).map V.ref)) = H9 at s9 g19 g29 e9 ⊢
          have g3 := prd_drop 1 g29
          refine ⟨d1, rfl, ⟨_, .inl (.inl e9)⟩, fun D2 hD2 => lc_list (K := K) (a := d1) (xs := (tf.drop 1).map V.ref) (fun j H' => Same H9 H' ∧ H' D2 = some (.lst (((found.drop 1).take j).map fun y => V.int (y.1 - 1)))) ⟨same_new hD2, upd_same⟩ (fun j H' _ hh => .inl (.inl (hh.1 _ _ e9))) (fun j y H' hj ⟨sx, hx'⟩ => ?_) ?_⟩
          · rw [List.getElem?_map] at hj
            obtain ⟨t, ht, rfl⟩ := Option.map_eq_some_iff.mp hj
            obtain ⟨x, hx, hxt⟩ := prd_at g3 ht
            have hj9 := (List.getElem?_eq_some_iff.mp hx).1
            rw [List.length_drop] at hj9
            refine ⟨rfl, _, rfl, t, _, _, .int x.1, rfl, rfl, .inl (.inl (sx _ _ hxt)), rfl, _, _, rfl, rfl, _, hx', ?_, same_mut sx hD2, ?_⟩
            · rw [List.length_map]
              exact Nat.lt_of_le_of_lt (List.length_take_le _ _) (Nat.lt_of_le_of_lt (show j ≤ 100 by omega) (by decide))
            · rw [upd_same, List.take_succ, hx, Option.toList_some, List.map_append]
              rfl
          · rintro Ha ⟨sa, ea⟩
            rw [List.length_map, List.length_drop, Paired.length g29] at ea
            rw [List.take_of_length_le (by rw [List.length_drop]; exact Nat.le_refl _)] at ea
            refine ⟨by show 1 ≤ sizeLine; decide, fun ln hln => ?_⟩
            refine ⟨D2, ln, _, _, rfl, rfl, same_new hln _ _ ea, upd_same, ?_, fun le hle => ?_⟩
            · rw [List.length_map, List.length_drop]
              exact Nat.le_trans (show found.length - 1 + 1 ≤ 100 by omega) (by decide)
            have sb := (s9.trans sa).trans ((same_new (o := .lst [V.non]) hln).trans (same_new (o := .lst (((found.drop 1).map fun y => V.int (y.1 - 1)) ++ [V.non])) hle))
            have sab := sa.trans ((same_new (o := .lst [V.non]) hln).trans (same_new (o := .lst (((found.drop 1).map fun y => V.int (y.1 - 1)) ++ [V.non])) hle))
            have eb : (upd (upd Ha ln (.lst [V.non])) le (.lst (((found.drop 1).map fun y => V.int (y.1 - 1)) ++ [V.non]))) le = some (.lst (endsL found)) := upd_same
            generalize upd (upd Ha ln (.lst [V.non])) le (.lst (((found.drop 1).map fun y => V.int (y.1 - 1)) ++ [V.non])) = Hb at sb sab eb ⊢
            have g1b := sab _ _ g19
            have g2b : Paired (Ft Hb) tf found := L2.Paired.mapP g29 fun t f h => sab _ _ h
            refine ⟨_, rfl, l7, _, rfl, .inl (.inl (.inl g1b)), ?_⟩
            rw [List.length_map, Paired.length g2b]
            refine ⟨_, rfl, by omega, by omega, fun D3 hD3 => ?_⟩
            refine lc_range (lo := 0) (n := found.length) (fun j H' => Same Hb H' ∧ Trs H' D3 ((ofF none found).take j)) ⟨same_new hD3, [], upd_same, .nil⟩ (fun j H' hj ⟨sx, tx⟩ => ?_) ?_
            · obtain ⟨x, hx⟩ : ∃ x, found[j]? = some x := ⟨_, List.getElem?_eq_getElem hj⟩
              obtain ⟨t, ht, hxt⟩ := prd_of g2b hx
              have ej : (0 + (j : Nat) : Int) = ((j : Nat) : Int) := Int.zero_add _
              have htv : (tf.map V.ref)[j]? = some (.ref t) := by rw [List.getElem?_map, ht]; rfl
              have hget := ofF_get found j
              rw [hx] at hget
              obtain ⟨tr, r1, r2⟩ := id tx
              have hrl := Paired.length r2
              refine ⟨rfl, _, rfl, _, rfl, l7, _, _, .ref t, rfl, rfl, .inl (.inl (sx _ _ g1b)), atI_of ej htv, t, _, _, .int x.1, rfl, rfl, .inl (.inl (sx _ _ hxt)), rfl, ?_⟩
              refine ⟨_, rfl, _, rfl, le, _, _, lv ((found[j + 1]?).map fun y => y.1 - 1), rfl, rfl, .inl (.inl (sx _ _ eb)), atI_of ej (ends_get hj), ?_⟩
              refine ⟨_, rfl, _, rfl, l7, _, _, .ref t, rfl, rfl, .inl (.inl (sx _ _ g1b)), atI_of ej htv, t, _, _, .int x.2, rfl, rfl, .inl (.inl (sx _ _ hxt)), rfl, ?_⟩
              refine ⟨by show 3 ≤ sizeLine; decide, fun tn htn => ?_⟩
              have sn := same_new (o := .tup [V.int x.1, lv ((found[j + 1]?).map fun y => y.1 - 1), .int x.2]) htn
              refine ⟨_, sn _ _ r1, ?_, same_mut (sx.trans sn) hD3, ?_⟩
              · rw [List.length_map, hrl]
                exact Nat.lt_of_le_of_lt (List.length_take_le _ _) (Nat.lt_of_le_of_lt (show j ≤ 100 by omega) (by decide))
              · rw [List.take_succ, hget]
                exact trs_push (x := (x.1, (found[j + 1]?).map fun y => y.1 - 1, x.2)) (sn _ _ r1) (prd_same r2 sn) upd_same
            · rintro Hc ⟨sc, tc⟩
              rw [List.take_of_length_le (by rw [ofF_len]; exact Nat.le_refl _)] at tc
              exact q D3 _ Hc (sb.trans sc) tc c8 (by rw [ofF_len]; omega)
end
end Ef
set_option Elab.async false
set_option linter.all false
set_option maxRecDepth 100000
set_option maxHeartbeats 4000000
set_option exponentiation.threshold 20
namespace Ef
open PySem PySem.Spec PyProof.Rows L2
abbrev sRef : Stmt := top 51
def SelfAt (K : PySem.W.Frag) (H : Hp) (v : V) : Prop := ∃ d, Dp K H v d ∧ SeqAt.shaped d = true ∧ PyData.eqv d d = true
section
variable {P : Program} {w : World} {K : PySem.W.Frag} {mg : Str → Option Value} {base : Heap}
theorem SigD.call2 {X : Cx} {C CB : Addr} {e1 e2 : Expr} {t : TA} {p pos : Pos} (D : SigD X.prog X.w X.K X.mg X.base C CB) (hr : Room 10 X.A) (ha : PA X [e1, e2] t) (hg : Gl X "signs_of" := by rfl)
    (he : starEach [e1, e2] X.env = (false, eval e1 X.env) :: starEach [e2] X.env := by rfl) (hpl : (backTo pos (starEach [e2] X.env)).any (·.1) = false := by rfl) :
    PE X (.Call (.Name "signs_of" p) [e1, e2] [] pos) (tCall (spSig X.K C CB) [] E0 t) := by
  obtain ⟨f, fd, ds, hm, hk, hds, b1, b2, F⟩ := D.ex
  exact pe_call F hr hg hm hk b2 .nil passF ha (by decide) he hpl
theorem SigD.call1 {X : Cx} {C CB : Addr} {e1 : Expr} {t : TA} {p pos : Pos} (D : SigD X.prog X.w X.K X.mg X.base C CB) (hr : Room 10 X.A) (ha : PA X [e1] t) (hg : Gl X "signs_of" := by rfl)
    (he : starEach [e1] X.env = (false, eval e1 X.env) :: starEach [] X.env := by rfl) (hpl : (backTo pos (starEach [] X.env)).any (·.1) = false := by rfl) :
    PE X (.Call (.Name "signs_of" p) [e1] [] pos) (tCall (spSig X.K C CB) [.int 0] E0 t) := by
  obtain ⟨f, fd, ds, hm, hk, hds, b1, b2, F⟩ := D.ex
  exact pe_call F hr hg hm hk b1 hds passF ha (by decide) he hpl
def spRef (K : PySem.W.Frag) (C : Addr) : Sp := fun vs H Q _ => ∃ (p : Addr) (v : V) (r : List Int) (u : Nat), vs = [.ref p, v] ∧ PAt K C H p r u ∧ Sgd r ∧ NotInt K H v ∧ (∀ H', Same H H' → SelfAt K H' v) ∧ ∀ H', Same H H' → Q (.bl true) H'
theorem scRef : FnScope ["piece", "low", "e"] ["piece", "low"] (defScope sRef) := ⟨rfl, rfl, rfl, by decide +kernel, rfl, by decide +kernel, by decide +kernel⟩
theorem df_ref {C CB fB : Addr} (A : At K mg "_law_is_refused" sRef) (EB : ErrF K mg "BadPlace" "n" CB fB) (bb : PySem.W.exmOne K (.ref CB) (.ref CB) = some true) (D : SigD P w K mg base C CB) : Df P w K mg base 11 "_law_is_refused" ["piece", "low"] (spRef K C) := by
  obtain ⟨f, fd, hm, F⟩ := A.ex
  obtain ⟨fs, fds, ds, Sm, Sk, hds, b1, Sb, SF⟩ := D.ex
  refine ⟨f, fd, hm, F.kp, F.binds (fun _ _ _ _ _ _ us hl => match us, hl with | [_, _], _ => rfl), F.ok scRef (fun vs H Q E h => ?_) (fun cdv A outer s H vs Q E hr h => ?_)⟩
  · obtain ⟨p, v, r, u, rfl, _⟩ := h
    rfl
  · obtain ⟨p, v, r, u, rfl, hp, hsg, hN, hself, q⟩ := h
    refine ⟨_, (pss_cons (ps_try_asL rfl rfl scRef.nd takes0 (fun W pn xe tk _ => pss_one (ps_expr (pe_callS SF (hr.mono (by decide)) (by rfl) Sm Sk Sb (fun σ => passAt tk σ) (pa_cons (pv 0) (pa_cons (pv 1) pa_nil)))))
      (.cons (i := 2) rfl rfl ⟨rfl, by decide, .inl EB.mgC⟩ (fun a oe cls d pn hz hf => pss_one (ps_ret (pe_cmpR (show OpR ((cxOf CX0 P w K mg base ["piece", "low", "e"] "_law_is_refused" (defScope sRef) f cdv A outer s H E).nox.suite a ((a, oe) :: pn)) (compareOp .Eq) (rEqD K) from op_eqD hr.units) (pe_xf EB.xf EB.nN hz hf (pv 2)) (pv 1) (nomark _))))
      .nil))
      (pss_one (ps_ret pe_bl))), ?_⟩
    refine ⟨_, rfl, _, rfl, p, v, r, u, rfl, hp, hsg, .inr ⟨hN, fun d H' s1 hd hx => ⟨true, bb, fun _ a ha => ?_, fun z => Bool.noConfusion z⟩⟩⟩
    obtain ⟨dd, z1, z2, z3⟩ := hself H' s1
    refine ⟨_, rfl, rfl, rfl, d, _, v, rfl, hx, rfl, _, rfl, dd, dd, z1, z1, z2, z2, ?_⟩
    rw [z3]
    exact q H' s1
end
end Ef
set_option Elab.async false
set_option linter.all false
set_option maxRecDepth 100000
set_option maxHeartbeats 8000000
set_option exponentiation.threshold 20
namespace Ef
open PySem PySem.Spec PyProof.Rows L2
abbrev sLaw : Stmt := top 52
/-! ### lists of stretches compared -/
theorem eqv_list {ps : List Stt} : PyData.eqv (.list (ps.map dT)) (.list (ps.map dT)) = true := eqv_trs ps
theorem rd_neT {K : PySem.W.Frag} {H : Hp} {l1 l2 : Addr} {ps : List Stt} {Q : VK} (h1 : Trs H l1 ps) (h2 : Trs H l2 ps) (q : Q (.bl false) H) : rNeD K (.ref l1) (.ref l2) H Q := by
  obtain ⟨t1, e1, p1⟩ := h1
  obtain ⟨t2, e2, p2⟩ := h2
  refine ⟨_, _, .lst (.inl (.inl e1)) (dp_trs p1), .lst (.inl (.inl e2)) (dp_trs p2), sh_list1 (can_map can_dT ps), sh_list1 (can_map can_dT ps), ?_⟩
  rw [eqv_list]
  exact q
theorem rd_eqT {K : PySem.W.Frag} {H : Hp} {l1 l2 : Addr} {ps : List Stt} {Q : VK} (h1 : Trs H l1 ps) (h2 : Trs H l2 ps) (q : Q (.bl true) H) : rEqD K (.ref l1) (.ref l2) H Q := by
  obtain ⟨t1, e1, p1⟩ := h1
  obtain ⟨t2, e2, p2⟩ := h2
  refine ⟨_, _, .lst (.inl (.inl e1)) (dp_trs p1), .lst (.inl (.inl e2)) (dp_trs p2), sh_list1 (can_map can_dT ps), sh_list1 (can_map can_dT ps), ?_⟩
  rw [eqv_list]
  exact q
def negS (x : Stt) : Stt := (x.1, x.2.1, -x.2.2)
theorem Cv.neg {f : Int → Int} {a : Int} {l : List Stt} {e : Option Int} (h : Cv f a l e) : Cv (fun n => -f n) a (l.map negS) e := by
  induction h with
  | nil => exact .nil
  | snoc h1 h2 h3 h4 ih =>
    rw [List.map_append]
    refine .snoc ih (fun t ht => ?_) h3 fun n h5 h6 => by rw [sg_opp, h4 n h5 h6]
    rw [List.getLast?_map] at ht
    obtain ⟨x, hx, rfl⟩ := Option.map_eq_some_iff.mp ht
    have := h2 x hx
    exact fun z => this (Int.neg_inj.mp z)
theorem Low.sgd {r p : List Int} {un u : Nat} (h : Low r un p u) (hl : r.length ≤ 7) (hb : ∀ c ∈ r, Bd 750 c) : Sgd p := by
  obtain ⟨k, g, hg, hk, rfl, _⟩ := h.ex
  refine ⟨by rw [List.length_map, List.length_take]; omega, fun c hc => ?_⟩
  obtain ⟨x, hx, rfl⟩ := List.mem_map.mp hc
  exact (hb x (List.mem_of_mem_take hx)).div (Int.ofNat_lt.mpr hg)
theorem Low.le {r p : List Int} {un u : Nat} (h : Low r un p u) : u ≤ un := by
  obtain ⟨k, g, hg, _, _, _, e, _⟩ := h.ex
  rw [e]
  exact Nat.le_mul_of_pos_left u hg
/-- the signs of a piece of a product -/
theorem low_sg {num : Int} {fs : List Fac} {r p : List Int} {un u : Nat} (h : RowF num fs r) (hl : Low r un p u) (n : Int) : sg (evalR p n) = sg (valF num fs n) := by
  obtain ⟨g, hg, _, e⟩ := hl.eval n
  rw [← h.e, e, sg_mul hg]
theorem neg_sg {num : Int} {fs : List Fac} {r p t : List Int} {un u z : Nat} (h : RowF num fs r) (hl : Low r un p u) (hn : Low (p.map fun c => c * -1) u t z) (n : Int) : sg (evalR t n) = sg (-valF num fs n) := by
  obtain ⟨g, hg, _, e⟩ := hn.eval n
  have e2 := ev_by (t := p.map fun c => c * -1) (r := p) (c := -1) (fun j => cf_map (by decide) j) n
  rw [sg_opp, ← low_sg h hl, ← sg_opp, show -evalR p n = g * evalR t n by rw [← e, e2]; omega, sg_mul hg]
theorem cut_take (xs : List V) (k : Nat) : cutV xs none (some (k : Int)) = xs.take k := by
  unfold cutV
  rw [HT.sIx_none, HT.sIx_nat, List.drop_zero, Nat.sub_zero]
  rcases Nat.lt_or_ge k xs.length with z | z
  · rw [Nat.min_eq_left (by omega)]
  · rw [Nat.min_eq_right z, List.take_length, List.take_of_length_le z]
theorem Pen.same {H H' : Hp} {p l : Addr} {ns : List Int} {a b : Int} (h : Pen H p l ns a b) (e : Same H H') : Pen H' p l ns a b := ⟨e _ _ h.hd, e _ _ h.hl, h.len, h.a0, h.b0⟩
theorem mk_pcR {K : PySem.W.Frag} {C CR CU a : Addr} {H : Hp} {r : List Int} {un : Nat} {R : Addr → Hp → Prop} {E : XK} (hS : Seqs K H a (r.map V.int)) (hl : r.length ≤ 100) (hu : 0 < un) (hb : Bd 8000 (un : Int))
    (q : ∀ p s z H', Low r un s z → Same H H' → PAt K C H' p s z → R p H') : ∀ x dx, H x = none → H dx = none → dx ≠ x → spInit K C CR CU (V.ref x :: [V.ref a, V.int (un : Int)]) (upd (upd H dx (.own x)) x (.ins C dx [])) (fun v H' => v = .non ∧ R x H') E := by
  intro x dx nx ndx nex
  exact ⟨H, x, dx, a, _, _, rfl, fun b o e => by
    rw [upd_ne (ne_of_none e nx), upd_ne (ne_of_none e ndx)]
    exact e, nx, upd_same, hS, by rw [List.length_map]; exact hl, .inr ⟨r, rfl, .inl ⟨un, rfl, hu, hb, fun pr u H' hL s hP => ⟨rfl, q x pr u H' hL s hP⟩⟩⟩⟩
theorem sqt_kp {K : PySem.W.Frag} {H H' : Hp} {a p : Addr} {xs : List V} {d : List (Key × V)} (h : SqT K H a xs) (k : Kp p H H') (hp : H p = some (.dK d)) : SqT K H' a xs := by
  rcases h with (h | ⟨z, h⟩) | h
  · exact .inl (.inl (k _ _ (ne_of h hp (by intro q; cases q)) h))
  · exact .inl (.inr ⟨z, k _ _ (ne_of h hp (by intro q; cases q)) h⟩)
  · exact .inr h
theorem PAt.kp {K : PySem.W.Frag} {C : Addr} {H H' : Hp} {p q : Addr} {r : List Int} {u : Nat} {d : List (Key × V)} (h : PAt K C H q r u) (k : Kp p H H') (hp : H p = some (.dK d)) : PAt K C H' q r u := by
  obtain ⟨dx, ra, h1, h2⟩ := h
  exact ⟨dx, ra, k _ _ (ne_of h1 hp (by intro q; cases q)) h1, sqt_kp h2 k hp⟩
/-- two lists that tell the same signs -/
theorem told_same {f g : Int → Int} {low : Int} {ps qs : List Stt} (h1 : Cv f low ps none) (h2 : Cv g low qs none) (e : ∀ n, sg (f n) = sg (g n)) : ps = qs := (h1.congr e).unique h2
section
variable {P : Program} {w : World} {K : PySem.W.Frag} {mg : Str → Option Value} {base : Heap}
def spLaw (K : PySem.W.Frag) : Sp := fun vs H Q _ => ∃ (a : Addr) (ns : List Int), vs = [.ref a] ∧ SqL K H a (ns.map V.int) ∧ ns.length ≤ 63 ∧ ∀ H', Q (.bl true) H'
theorem scLaw : FnScope ["script", "pen", "turn", "factors", "piece", "told", "lows", "low", "a", "b", "first", "last", "sign"] ["script"] (defScope sLaw) := ⟨rfl, rfl, rfl, by decide +kernel, rfl, by decide +kernel, by decide +kernel⟩
theorem ok_law {f C CR CU CB fI : Addr} {fd fdI : FuncData} {ds : List Value} (F : Fun K "law" "law" sLaw f fd)
    (T : TxtS mg) (CW : ClsQ K mg C) (M : Mk K C fI) (FI : FnOk P w K mg base (CX P w) 4 fI fdI ["self", "row", "under"] (spInit K C CR CU)) (bI : Binds K fdI ["self", "row", "under"] []) (bI1 : Binds K fdI ["self", "row", "under"] ds) (hd1 : Vals [.int 1] ds)
    (ON : OwnG P w K mg base CX0 6 C "__neg__" ["self"] (spNeg K C)) (SD : SigD P w K mg base C CB)
    (Dpen : Df P w K mg base 1 "_law_pen" ["script"] (spPen K)) (Ddraw : Df P w K mg base 1 "_law_draw" ["pen", "many"] spDraw) (Dpick : Df P w K mg base 2 "_law_pick" ["pen", "some"] (spPick K)) (Dfar : Df P w K mg base 3 "_law_far" ["pen"] spFar)
    (Dfactors : Df P w K mg base 3 "_law_factors" ["pen"] spFacs) (Dfactorrow : Df P w K mg base 2 "_law_factor_row" ["factors"] spFrow) (Dfactorsigns : Df P w K mg base 3 "_law_factor_signs" ["factors", "low"] spFss) (Disrefused : Df P w K mg base 11 "_law_is_refused" ["piece", "low"] (spRef K C)) :
    FnOk P w K mg base CX0 12 f fd ["script"] (spLaw K) := by
  refine F.ok scLaw (fun vs H Q E h => ?_) (fun cdv A outer s H vs Q E hr h => ?_)
  · obtain ⟨a, ns, rfl, _⟩ := h
    rfl
  · obtain ⟨a, ns, rfl, hS, hlen, q⟩ := h
    refine ⟨_, (pss_cons (ps_set (i := 1) scLaw.nd rfl (.inr rfl) (Dpen.call (hr.mono (by decide)) (pa_cons (pv 0) pa_nil)))
      (pss_cons (ps_for PassesOwn.never rfl (pi_range1 (by rfl) T.range (pa_cons (pe_op op_add pe_int (pe_callB (call_min2 rfl) (by rfl) T.min (by decide +kernel) (pa_cons pe_int (pa_cons (pe_callB call_len_seq (by rfl) T.len PySem.boot_len (pa_cons (pv 0) pa_nil)) pa_nil)))) pa_nil)) (pg_name (i := 2) scLaw.nd rfl (.inl rfl))
      (pss_cons (ps_set (i := 3) scLaw.nd rfl (.inl rfl) (Dfactors.call (hr.mono (by decide)) (pa_cons (pv 1) pa_nil)))
      (pss_cons (ps_set (i := 4) scLaw.nd rfl (.inl rfl) (pe_make M FI (hr.mono (by decide)) (by rfl) CW.mgC bI .nil passF (pa_cons (Dfactorrow.call (hr.mono (by decide)) (pa_cons (pv 3) pa_nil)) (pa_cons (Dpick.call (hr.mono (by decide)) (pa_cons (pv 1) (pa_cons (pe_lst (pa_cons pe_int (pa_cons pe_int (pa_cons pe_int (pa_cons (pe_op op_pow pe_int pe_int) pa_nil))))) pa_nil))) pa_nil))))
      (pss_cons (ps_set (i := 5) scLaw.nd rfl (.inl rfl) (SD.call1 (hr.mono (by decide)) (pa_cons (pv 4) pa_nil)))
      (pss_cons (ps_if (pw_or (pt_cmpR (op_neD hr.units) (pv 5) (Dfactorsigns.call (hr.mono (by decide)) (pa_cons (pv 3) (pa_cons pe_int pa_nil))) (nomark _)) (pw_or1 (pt_not (pt_val (pe_callB call_isi (by rfl) T.isinstance (by decide +kernel) (pa_cons (pv 5) (pa_cons (pe_bltn (v := .ty "list") (by rfl) T.list (by decide +kernel) rfl) pa_nil))))))).pt (pss_one (ps_ret pe_bl)) pss_nil)
      (pss_cons (ps_expr (pe_bm0 PySem.F.plainAttrs_list PySem.F.slot_list_clear PySem.F.type_list_clear mt_clear (pv 5)))
      (pss_cons (ps_if (pt_cmpR (op_neD hr.units) (SD.call1 (hr.mono (by decide)) (pa_cons (pv 4) pa_nil)) (Dfactorsigns.call (hr.mono (by decide)) (pa_cons (pv 3) (pa_cons pe_int pa_nil))) (nomark _)) (pss_one (ps_ret pe_bl)) pss_nil)
      (pss_cons (ps_set (i := 6) scLaw.nd rfl (.inl rfl) (pe_op op_cat (pe_lst (pa_cons (Dfar.call (hr.mono (by decide)) (pa_cons (pv 1) pa_nil)) (pa_cons (pe_un un_neg pe_int) (pa_cons pe_int pa_nil)))) (pe_lc (own := [("a", 8), ("b", 9)]) (g := gTup K 2 (gCons (gName 8) (gCons (gName 9) gNil))) (by rfl) scLaw.nd (pi_list (pe_slice sl_list (pe_ix ix_tup (pv 3) pe_int (fun _ _ => rfl)) po_none (po_some pe_int))) (blkOk_by (own := [("a", 8), ("b", 9)]) (N := ["script", "pen", "turn", "factors", "piece", "told", "lows", "low", "a", "b", "first", "last", "sign"]) (sc := defScope sLaw) (by decide +kernel)) (fun _ _ _ _ _ => pg_tup (by rfl) (pgs_cons (pg_name (i := 8) scLaw.nd rfl (Or.inl rfl)) (pgs_cons (pg_name (i := 9) scLaw.nd rfl (Or.inl rfl)) pgs_nil))) (fun _ _ _ _ _ => pts_nil) (fun _ _ _ _ _ => (pe_op op_sub (pe_op op_add (pe_op op_fdivW (pv 9) (pv 8)) (Ddraw.call (hr.mono (by decide)) (pa_cons (pv 1) (pa_cons pe_int pa_nil)))) pe_int)))))
      (pss_cons (ps_for PassesOwn.never rfl (pi_list (pv 6)) (pg_name (i := 7) scLaw.nd rfl (.inl rfl))
      (pss_one (ps_if (pt_cmpR (op_neD hr.units) (SD.call2 (hr.mono (by decide)) (pa_cons (pv 4) (pa_cons (pv 7) pa_nil))) (Dfactorsigns.call (hr.mono (by decide)) (pa_cons (pv 3) (pa_cons (pv 7) pa_nil))) (nomark _)) (pss_one (ps_ret pe_bl)) pss_nil)))
      (pss_cons (ps_if (pt_cmpR (op_neD hr.units) (SD.call2 (hr.mono (by decide)) (pa_cons (pe_un (un_neg_own ON (hr.mono (by decide)) pass0) (pv 4)) (pa_cons (pe_un un_neg pe_int) pa_nil))) (pe_lc (own := [("first", 10), ("last", 11), ("sign", 12)]) (g := gTup K 3 (gCons (gName 10) (gCons (gName 11) (gCons (gName 12) gNil)))) (by rfl) scLaw.nd (pi_list (Dfactorsigns.call (hr.mono (by decide)) (pa_cons (pv 3) (pa_cons (pe_un un_neg pe_int) pa_nil)))) (blkOk_by (own := [("first", 10), ("last", 11), ("sign", 12)]) (N := ["script", "pen", "turn", "factors", "piece", "told", "lows", "low", "a", "b", "first", "last", "sign"]) (sc := defScope sLaw) (by decide +kernel)) (fun _ _ _ _ _ => pg_tup (by rfl) (pgs_cons (pg_name (i := 10) scLaw.nd rfl (Or.inl rfl)) (pgs_cons (pg_name (i := 11) scLaw.nd rfl (Or.inl rfl)) (pgs_cons (pg_name (i := 12) scLaw.nd rfl (Or.inl rfl)) pgs_nil)))) (fun _ _ _ _ _ => pts_nil) (fun _ _ _ _ _ => (pe_tup (pa_cons (pv 10) (pa_cons (pv 11) (pa_cons (pe_un un_neg (pv 12)) pa_nil)))))) (nomark _)) (pss_one (ps_ret pe_bl)) pss_nil)
      (pss_one (ps_if (pt_not (pt_val (Disrefused.call (hr.mono (by decide)) (pa_cons (pv 4) (pa_cons (Dpick.call (hr.mono (by decide)) (pa_cons (pv 1) (pa_cons (pe_lst (pa_cons pe_non (pa_cons pe_bl (pa_cons pe_str (pa_cons (pe_tup (pa_cons pe_int pa_nil)) pa_nil))))) pa_nil))) pa_nil))))) (pss_one (ps_ret pe_bl)) pss_nil))))))))))))
      (pss_one (ps_ret (pe_and (pe_cmpR (op_eqD hr.units) (SD.call1 (hr.mono (by decide)) (pa_cons (pe_make M FI (hr.mono (by decide)) (by rfl) CW.mgC bI1 hd1 passF (pa_cons (pe_lst pa_nil) pa_nil)) pa_nil)) (pe_lst (pa_cons (pe_tup (pa_cons pe_int (pa_cons pe_non (pa_cons pe_int pa_nil)))) pa_nil)) (nomark _)) (pe_one (pe_cmpR (op_eqD hr.units) (SD.call2 (hr.mono (by decide)) (pa_cons (pe_make M FI (hr.mono (by decide)) (by rfl) CW.mgC bI1 hd1 passF (pa_cons (pe_lst pa_nil) pa_nil)) (pa_cons (pe_un un_neg pe_int) pa_nil))) (pe_lst (pa_cons (pe_tup (pa_cons (pe_un un_neg pe_int) (pa_cons pe_non (pa_cons pe_int pa_nil)))) pa_nil)) (nomark _)))))))), ?_⟩
    refine ⟨_, rfl, a, ns, rfl, hS, hlen, fun p l H0 hp0 s0 hP0 => ?_⟩
    refine ⟨_, rfl, a, _, rfl, .inl (s0.seq hS), _, _, rfl, _, _, rfl, rfl, ?_⟩
    have hz : ∃ z : Int, (if (((ns.map V.int).length : Nat) : Int) < 4 then (((ns.map V.int).length : Nat) : Int) else 4) = z ∧ 0 ≤ z ∧ z ≤ 4 := by
      refine ⟨_, rfl, ?_, ?_⟩ <;> split <;> omega
    obtain ⟨z, ez, z0, z4⟩ := hz
    rw [ez]
    refine ⟨_, rfl, by omega, by omega, ?_⟩
    refine for_range (lo := 0) (n := (3 + z).toNat) (fun i σ H' => ∃ (a' b' : Int) (y2 y3 y4 y5 y6 y7 : Option V), Pen H' p l ns a' b' ∧ a' ≤ 1000 * i ∧ σ = [some (.ref a), some (.ref p), y2, y3, y4, y5, y6, y7, none, none, none, none, none])
      ⟨0, 0, none, none, none, none, none, none, hP0, by omega, rfl⟩ ?_ ?_
    · rintro i σ H1 hi ⟨a1, b1, y2, y3, y4, y5, y6, y7, hP1, ha1, rfl⟩
      have hi9 : i < 8 := by omega
      refine ⟨_, rfl, p, l, ns, a1, b1, rfl, hP1, by omega, fun Fa num fs a2 b2 H2 hok ha2 hP2 hK2 hF2 => ?_⟩
      refine ⟨_, rfl, Fa, num, fs, rfl, hF2, hok, fun rl r H3 s3 e3 hR => ?_⟩
      have hP3 := hP2.same s3
      have hF3 := hF2.same s3
      refine ⟨_, rfl, _, _, rfl, rfl, ⟨by decide, by decide, by decide⟩, by show 4 ≤ sizeLine; decide, fun t4 ht4 => ?_⟩
      refine ⟨p, l, t4, ns, a2, b2, _, rfl, hP3.same (same_new ht4), by omega, .inl (.inl upd_same), (fun z => by rw [z, hP3.hd] at ht4; cases ht4), by show 1 ≤ 4; decide, by show 4 ≤ 100000; decide, ?_⟩
      intro j4 v4 a5 b5 H5 hj4 ha5 hP5 hK5
      have hx : ∃ un : Nat, v4 = .int (un : Int) ∧ 0 < un ∧ un ≤ 100000000000000000000 := by
        have hm := List.mem_of_getElem? hj4
        simp only [List.mem_cons, List.not_mem_nil, or_false] at hm
        rcases hm with rfl | rfl | rfl | rfl
        · exact ⟨1, rfl, by decide, by decide⟩
        · exact ⟨1, rfl, by decide, by decide⟩
        · exact ⟨6, rfl, by decide, by decide⟩
        · exact ⟨100000000000000000000, by decide +kernel, by decide, by decide⟩
      obtain ⟨un, rfl, hu0, hu1⟩ := hx
      have np3 : rl ≠ p := fun z => by rw [z, hP3.hd] at e3; cases e3
      have hKx := (Kp.new (p := p) (.lst [V.int 1, .int 1, .int 6, .int (10 ^ Int.toNat 20)]) ht4).trans hK5
      have e5 := hKx _ _ np3 e3
      have hF5 := hF3.kp hKx hP3.hd ⟨fun xs z => (by cases z), fun xs z => (by cases z)⟩
      have hfs6 := hok.l
      refine mk_pcR (un := un) (.inl (.inl (.inl e5))) (by rw [hR.l]; omega) hu0 (show (un : Int).natAbs < 2 ^ 8000 from by
        rw [Int.natAbs_natCast]
        exact Nat.lt_of_le_of_lt hu1 (Nat.lt_of_lt_of_le (show _ < 2 ^ 80 by decide +kernel) (Nat.pow_le_pow_right (by decide) (by decide)))) fun x pr u H6 hL s6 hX => ?_
      have hlow := hR.low hL hfs6
      have hsgd : Sgd pr := ⟨hlow.1, hlow.2⟩
      have hU0 := hL.u1
      have hub : Bd 8000 (u : Int) := by
        unfold Bd
        rw [Int.natAbs_natCast]
        exact Nat.lt_of_le_of_lt (Nat.le_trans hL.le hu1) (Nat.lt_of_lt_of_le (show _ < 2 ^ 80 by decide +kernel) (Nat.pow_le_pow_right (by decide) (by decide)))
      have hsg := low_sg hR hL
      have b0 : Bd 800 0 := Bd.zero _
      have hF6 := hF5.same s6
      have hP6 := hP5.same s6
      refine ⟨_, rfl, x, .int 0, pr, u, rfl, hX, hsgd, .inl ⟨0, rfl, b0, fun lt H7 hT7 => ?_⟩⟩
      obtain ⟨n7, s7, ps, t7, c7, _⟩ := hT7
      refine ⟨_, rfl, _, rfl, Fa, num, 0, fs, rfl, hF6.same s7, hok, b0, fun l8 qs H8 s8 t8 c8 _ => ?_⟩
      obtain rfl := told_same c7 c8 hsg
      refine rd_neT (t7.same s8) t8 ⟨_, rfl, iteF ?_⟩
      obtain ⟨tt, elt, _⟩ := id (t7.same s8)
      refine ⟨_, rfl, _, _, _, _, _, rfl, .ty "list", .base (.lst elt), kit_ty (show kitB "list" "list" = some true by decide +kernel), true, rfl, ?_⟩
      refine iteF ?_
      refine ⟨_, rfl, .inl ⟨rfl, _, .inl (.inl elt)⟩, lt, _, rfl, rfl, elt, ?_⟩
      have s9 : Same H6 (upd H8 lt (.lst [])) := same_mut (s7.trans s8) n7
      generalize upd H8 lt (.lst []) = H9 at s9 ⊢
      refine ⟨_, rfl, x, .int 0, pr, u, rfl, hX.same s9, hsgd, .inl ⟨0, rfl, b0, fun l10 H10 hT10 => ?_⟩⟩
      obtain ⟨_, s10, ps2, t10, c10, _⟩ := hT10
      have s610 := s9.trans s10
      refine ⟨_, rfl, Fa, num, 0, fs, rfl, hF6.same s610, hok, b0, fun l11 qs2 H11 s11 t11 c11 _ => ?_⟩
      obtain rfl := told_same c10 c11 hsg
      refine rd_neT (t10.same s11) t11 ⟨_, rfl, iteF ?_⟩
      have s611 := s610.trans s11
      have hP11 := hP6.same s611
      have hF11 := hF6.same s611
      have hX11 := hX.same s611
      refine ⟨_, rfl, p, l, ns, a5, b5, rfl, hP11, by omega, fun fr a12 b12 H12 hfr ha12 hP12 hK12 => ?_⟩
      have hF12 := hF11.kp hK12 hP11.hd ⟨fun xs z => (by cases z), fun xs z => (by cases z)⟩
      have hX12 := hX11.kp hK12 hP11.hd
      refine ⟨_, rfl, by show 3 ≤ sizeLine; decide, fun tA htA => ?_⟩
      have sA := same_new (o := .lst [V.int fr, .int (-20), .int 3]) htA
      have eA : (upd H12 tA (.lst [V.int fr, .int (-20), .int 3])) tA = some (.lst (([fr, -20, 3] : List Int).map V.int)) := upd_same
      have nA : tA ≠ p := fun z => by rw [z, hP12.hd] at htA; cases htA
      have hPA := hP12.same sA
      have hFA := hF12.same sA
      have hXA := hX12.same sA
      generalize upd H12 tA (.lst [V.int fr, .int (-20), .int 3]) = HA at sA eA hPA hFA hXA ⊢
      obtain ⟨lf, hFa, ts, hlf, hts⟩ := id hFA
      refine ⟨_, rfl, Fa, _, _, .ref lf, rfl, rfl, .inl (.inl hFa), rfl, 2, rfl, lf, _, rfl, .inl (.inl hlf), fun d hd => ?_⟩
      rw [show ((2 : Int)) = ((2 : Nat) : Int) from rfl, cut_take, ← List.map_take]
      have sB := same_new (o := .lst ((ts.take 2).map V.ref)) hd
      have eB : (upd HA d (.lst ((ts.take 2).map V.ref))) d = some (.lst ((ts.take 2).map V.ref)) := upd_same
      have nB : d ≠ p := fun z => by rw [z, hPA.hd] at hd; cases hd
      have hPB := hPA.same sB
      have hFB := hFA.same sB
      have hXB := hXA.same sB
      have eAB := sB _ _ eA
      have htsB : Paired (Ft (upd HA d (.lst ((ts.take 2).map V.ref)))) ts fs := L2.Paired.mapP hts fun t f h => sB _ _ h
      generalize upd HA d (.lst ((ts.take 2).map V.ref)) = HB at sB eB hPB hFB hXB eAB htsB ⊢
      refine ⟨d, rfl, ⟨_, .inl (.inl eB)⟩, fun D hD => lc_list (K := K) (a := d) (xs := (ts.take 2).map V.ref) (fun j H' => ∃ (xs : List Int) (a' b' : Int), Kp p HB H' ∧ Pen H' p l ns a' b' ∧ a' ≤ a12 + j ∧ j ≤ 2 ∧ H' D = some (.lst (xs.map V.int)) ∧ (∀ c ∈ xs, Bd 800 c) ∧ xs.length = j) ⟨[], a12, b12, Kp.new _ hD, (hPB.kp (Kp.new _ hD) (upd_ne (ne_of_none hPB.hd hD))), by omega, by omega, upd_same, fun c hc => (by cases hc), rfl⟩ (fun j H' _ ⟨_, _, _, k, _⟩ => .inl (.inl (k _ _ nB eB))) (fun j y H' hj ⟨xs, a', b', kD, pD, aD, jD, eD, bD, lD⟩ => ?_) ?_⟩
      · rw [List.getElem?_map] at hj
        obtain ⟨t, ht, rfl⟩ := Option.map_eq_some_iff.mp hj
        have hj2 := (List.getElem?_eq_some_iff.mp ht).1
        rw [List.length_take] at hj2
        rw [List.getElem?_take_of_lt (by omega)] at ht
        obtain ⟨fa, hfa, hft⟩ := prd_at htsB ht
        have hfo := hok.f fa (List.mem_of_getElem? hfa)
        have hft' : H' t = some (.tup [.int fa.1, .int fa.2]) := kD _ _ (ne_of (show HB t = _ from hft) hPB.hd (by intro q; cases q)) hft
        have nDp : D ≠ p := fun z => by rw [z, hPB.hd] at hD; cases hD
        have nDl : D ≠ l := fun z => by rw [z, hPB.hl] at hD; cases hD
        refine ⟨t, _, rfl, .inl (.inl hft'), rfl, _, _, rfl, _, _, rfl, rfl, rfl, ?_⟩
        refine ⟨_, rfl, _, rfl, _, _, rfl, rfl, wide_div (b := 104) hfo.1 hfo.2.1 (by decide) (by decide), ?_⟩
        refine ⟨_, rfl, p, l, ns, a', b', _, rfl, pD, by omega, by decide, by decide, fun dd a13 b13 H13 d0 d3 ha13 hP13 hK13 => ?_⟩
        have hq : Bd 104 (fa.2 / fa.1) := fdiv_bd hfo.2.2 hfo.1
        refine ⟨_, _, rfl, rfl, _, _, rfl, rfl, _, hK13 _ _ nDp eD, ?_, xs ++ [fa.2 / fa.1 + dd - 1], a13, b13, (kD.trans hK13).mut hD, ⟨by rw [upd_ne (Ne.symm nDp)]; exact hP13.hd, by rw [upd_ne (Ne.symm nDl)]; exact hP13.hl, hP13.len, hP13.a0, hP13.b0⟩, by omega, by omega, ?_, fun c hc => ?_, ?_⟩
        · rw [List.length_map, lD]
          exact Nat.lt_of_le_of_lt jD (by decide)
        · rw [upd_same, List.map_append]
          rfl
        · rcases List.mem_append.mp hc with hc | hc
          · exact bD c hc
          · rw [List.mem_singleton.mp hc, show fa.2 / fa.1 + dd - 1 = fa.2 / fa.1 + (dd - 1) by omega]
            exact (Bd.add' (a := 104) (w := 105) hq (bd_small (by omega) (by omega) (by decide)) (by decide)).up (by decide)
        · rw [List.length_append, lD]; rfl
      · rintro H14 ⟨xs, a14, b14, kD, hP14, ha14, jD, eD, bD, lD⟩
        have eA14 := kD _ _ nA eAB
        have hF14 := hFB.kp kD hPB.hd ⟨fun xs z => (by cases z), fun xs z => (by cases z)⟩
        have hX14 := hXB.kp kD hPB.hd
        refine ⟨tA, D, _, _, rfl, rfl, eA14, eD, ?_, fun lw hlw => ?_⟩
        · rw [List.length_map, List.length_map, lD]
          exact Nat.le_trans (show 3 + _ ≤ 10 by omega) (by decide)
        have s15 := same_new (o := .lst (([fr, -20, 3] : List Int).map V.int ++ xs.map V.int)) hlw
        have e15 : (upd H14 lw (.lst (([fr, -20, 3] : List Int).map V.int ++ xs.map V.int))) lw = some (.lst (([fr, -20, 3] ++ xs).map V.int)) := by rw [upd_same, List.map_append]
        have hP15 := hP14.same s15
        have hF15 := hF14.same s15
        have hX15 := hX14.same s15
        generalize upd H14 lw (.lst (([fr, -20, 3] : List Int).map V.int ++ xs.map V.int)) = H15 at s15 e15 hP15 hF15 hX15 ⊢
        have hlows : ∀ c ∈ [fr, -20, 3] ++ xs, Bd 800 c := fun c hc => by
          rcases List.mem_append.mp hc with hc | hc
          · simp only [List.mem_cons, List.not_mem_nil, or_false] at hc
            rcases hc with rfl | rfl | rfl
            · exact hfr.up (by decide)
            · exact bd_small (by decide) (by decide) (by decide)
            · exact bd_small (by decide) (by decide) (by decide)
          · exact bD c hc
        generalize [fr, -20, 3] ++ xs = lows at e15 hlows
        refine ⟨_, rfl, lw, rfl, ⟨_, .inl (.inl e15)⟩, for_list (K := K) (a := lw) (xs := lows.map V.int)
          (fun j σ H' => ∃ y : Option V, Same H15 H' ∧ σ = [some (.ref a), some (.ref p), some (.int (0 + (i : Nat))), some (.ref Fa), some (.ref x), some (.ref lt), some (.ref lw), y, none, none, none, none, none])
          ⟨_, Same.refl _, rfl⟩ (fun j σ H' _ ⟨_, k, _⟩ => .inl (.inl (k _ _ e15))) ?_ ?_⟩
        · rintro j v σ H16 hj ⟨y, s16, rfl⟩
          rw [List.getElem?_map] at hj
          obtain ⟨c, hc, rfl⟩ := Option.map_eq_some_iff.mp hj
          have hcb := hlows c (List.mem_of_getElem? hc)
          refine ⟨_, rfl, _, rfl, x, .int c, pr, u, rfl, hX15.same s16, hsgd, .inl ⟨c, rfl, hcb, fun l17 H17 hT17 => ?_⟩⟩
          obtain ⟨_, s17, ps3, t17, c17, _⟩ := hT17
          refine ⟨_, rfl, _, rfl, Fa, num, c, fs, rfl, (hF15.same s16).same s17, hok, hcb, fun l18 qs3 H18 s18 t18 c18 _ => ?_⟩
          obtain rfl := told_same c17 c18 hsg
          exact rd_neT (t17.same s18) t18 ⟨_, rfl, iteF ⟨_, s16.trans (s17.trans s18), rfl⟩⟩
        · rintro σ H16 ⟨y, s16, rfl⟩
          have hX16 := hX15.same s16
          have hF16 := hF15.same s16
          have hP16 := hP15.same s16
          have bm : Bd 800 (-20) := bd_small (by decide) (by decide) (by decide)
          obtain ⟨dx, ra, g1, g2⟩ := id hX16
          refine ⟨_, rfl, x, dx, _, rfl, g1, x, pr, u, rfl, hX16, hsgd.l, hsgd.b, hU0, hub, fun x2 t2 z2 H17 s17 hX17 hL17 => ?_⟩
          have hsg2 : Sgd t2 := hL17.sgd (by rw [List.length_map]; exact hsgd.l) fun c hc => by
            obtain ⟨e, he, rfl⟩ := List.mem_map.mp hc
            rw [Int.mul_neg_one]
            exact bd_neg (hsgd.b e he)
          refine ⟨_, rfl, x2, .int (-20), t2, z2, rfl, hX17, hsg2, .inl ⟨-20, rfl, bm, fun l18 H18 hT18 => ?_⟩⟩
          obtain ⟨_, s18, ps4, t18, c18, _⟩ := hT18
          have s168 := s17.trans s18
          refine ⟨_, rfl, _, rfl, Fa, num, -20, fs, rfl, hF16.same s168, hok, bm, fun l19 qs H19 s19 t19 c19 n19 => ?_⟩
          obtain ⟨tq, g19, p19⟩ := id t19
          refine ⟨l19, rfl, ⟨_, .inl (.inl g19)⟩, fun D2 hD2 => lc_list (K := K) (a := l19) (xs := tq.map V.ref) (fun j H' => Same H19 H' ∧ Trs H' D2 ((qs.take j).map negS)) ⟨same_new hD2, [], upd_same, .nil⟩ (fun j H' _ hh => .inl (.inl (hh.1 _ _ g19))) (fun j y H' hj ⟨sx, tx⟩ => ?_) ?_⟩
          · rw [List.getElem?_map] at hj
            obtain ⟨t, ht, rfl⟩ := Option.map_eq_some_iff.mp hj
            obtain ⟨w3, hw3, hwt⟩ := prd_get p19 ht
            have hjq := (List.getElem?_eq_some_iff.mp hw3).1
            obtain ⟨tr, r1, r2⟩ := id tx
            have hrl := Paired.length r2
            rw [List.length_map, List.length_take] at hrl
            refine ⟨t, _, rfl, .inl (.inl (sx _ _ hwt)), rfl, _, _, rfl, _, _, rfl, _, _, rfl, rfl, rfl, ?_⟩
            refine ⟨_, rfl, _, rfl, _, rfl, _, rfl, by show 3 ≤ sizeLine; decide, fun tn htn => ?_⟩
            have sn := same_new (o := .tup [V.int w3.1, lv w3.2.1, .int (-w3.2.2)]) htn
            refine ⟨_, sn _ _ r1, ?_, same_mut (sx.trans sn) hD2, ?_⟩
            · rw [List.length_map, hrl]
              exact Nat.lt_of_le_of_lt (show min j qs.length ≤ 100 by omega) (by decide)
            · rw [List.take_succ, hw3, Option.toList_some, List.map_append]
              exact trs_push (x := negS w3) (sn _ _ r1) (prd_same r2 sn) upd_same
          · rintro H20 ⟨s20, t20⟩
            rw [List.length_map, Paired.length p19, List.take_length] at t20
            obtain rfl := told_same c18 c19.neg (neg_sg hR hL hL17)
            refine rd_neT (t18.same (s19.trans s20)) t20 ⟨_, rfl, iteF ?_⟩
            have s1620 := s168.trans (s19.trans s20)
            have hX20 := hX16.same s1620
            have hP20 := hP16.same s1620
            refine ⟨_, rfl, _, rfl, by show 1 ≤ sizeLine; decide, fun tO htO => ?_⟩
            have sO := same_new (o := .tup [V.int 0]) htO
            have eO : (upd H20 tO (.tup [V.int 0])) tO = some (.tup [V.int 0]) := upd_same
            have hP21 := hP20.same sO
            have hX21 := hX20.same sO
            generalize upd H20 tO (.tup [V.int 0]) = H21 at sO eO hP21 hX21 ⊢
            refine ⟨by show 4 ≤ sizeLine; decide, fun tL htL => ?_⟩
            have sL := same_new (o := .lst [V.non, .bl true, .str "0", .ref tO]) htL
            have eL : (upd H21 tL (.lst [V.non, .bl true, .str "0", .ref tO])) tL = some (.lst [V.non, .bl true, .str "0", .ref tO]) := upd_same
            have hP22 := hP21.same sL
            have hX22 := hX21.same sL
            have eO22 := sL _ _ eO
            have nL : tL ≠ p := fun z => by rw [z, hP21.hd] at htL; cases htL
            generalize upd H21 tL (.lst [V.non, .bl true, .str "0", .ref tO]) = H22 at sL eL hP22 hX22 eO22 ⊢
            refine ⟨p, l, tL, ns, a14, b14, _, rfl, hP22, by omega, .inl (.inl eL), nL, by show 1 ≤ 4; decide, by show 4 ≤ 100000; decide, ?_⟩
            intro jo ov a23 b23 H23 hjo ha23 hP23 hK23
            have eO23 := hK23 _ _ (ne_of eO22 hP22.hd (by intro q; cases q)) eO22
            have hX23 := hX22.kp hK23 hP22.hd
            have hov : ∀ H' : Hp, H' tO = some (.tup [.int 0]) → NotInt K H' ov ∧ SelfAt K H' ov := fun H' k1 => by
              have hm := List.mem_of_getElem? hjo
              simp only [List.mem_cons, List.not_mem_nil, or_false] at hm
              rcases hm with rfl | rfl | rfl | rfl
              · exact ⟨⟨"NoneType", false, false, .base .non, by decide +kernel, by decide +kernel, rfl⟩, _, .non, by decide +kernel, by decide +kernel⟩
              · exact ⟨⟨"bool", true, true, .base (.bl _), by decide +kernel, by decide +kernel, rfl⟩, _, .bl _, by decide +kernel, by decide +kernel⟩
              · exact ⟨⟨"str", false, false, .base (.str _), by decide +kernel, by decide +kernel, rfl⟩, _, .str _, by decide +kernel, by decide +kernel⟩
              · exact ⟨⟨"tuple", false, false, .base (.tup k1), by decide +kernel, by decide +kernel, rfl⟩, _, .tup (.inl (.inl k1)) (.cons (.int _) .nil), by decide +kernel, by decide +kernel⟩
            refine ⟨x, ov, pr, u, rfl, hX23, hsgd, (hov H23 eO23).1, fun H' s' => (hov H' (s' _ _ eO23)).2, fun H24 s24 => ⟨_, rfl, ?_⟩⟩
            refine iteF ⟨a23, b23, _, _, _, _, _, _, hP23.same s24, ?_, rfl⟩
            omega
    · rintro σ H1 ⟨a1, b1, y2, y3, y4, y5, y6, y7, hP1, ha1, rfl⟩
      have b0 : Bd 800 0 := Bd.zero _
      have b5 : Bd 800 (-5) := bd_small (by decide) (by decide) (by decide)
      have zero : ∀ {pr : List Int} {u : Nat}, Low [] 1 pr u → Sgd pr ∧ ∀ (low : Int), Cv (evalR pr) low [(low, none, 0)] none := fun {pr u} hL => by
        refine ⟨hL.sgd (by decide) (fun c hc => by cases hc), fun low => ?_⟩
        refine Cv.snoc (f := evalR pr) (a := low) (l := []) (b := low) (e := none) (s := 0) .nil (fun t ht => by cases ht) trivial fun n _ _ => ?_
        obtain ⟨g, hg, _, e⟩ := hL.eval n
        have e : (0 : Int) = g * evalR pr n := e
        rw [← sg_mul hg, ← e]
        rfl
      refine ⟨by show 0 ≤ sizeLine; decide, fun e1 he1 => ?_⟩
      refine mk_pcR (un := 1) (r := []) (.inl (.inl (.inl upd_same))) (by decide) (by decide) (Bd.up (a := 1) (by unfold Bd; decide) (by decide)) fun x pr u H3 hL s3 hX => ?_
      obtain ⟨hsgd, hz1⟩ := zero hL
      refine ⟨x, .int 0, pr, u, rfl, hX, hsgd, .inl ⟨0, rfl, b0, fun l4 H4 hT4 => ?_⟩⟩
      obtain ⟨_, s4, ps, t4, c4, _⟩ := hT4
      obtain rfl := c4.unique (hz1 0)
      refine ⟨by show 3 ≤ sizeLine; decide, fun t5 ht5 => ⟨by show 1 ≤ sizeLine; decide, fun l6 hl6 => ?_⟩⟩
      have h56 : t5 ≠ l6 := fun z => by rw [z, upd_same] at hl6; cases hl6
      refine rd_eqT (t4.same ((same_new ht5).trans (same_new hl6))) ⟨[t5], upd_same, .cons (show upd _ l6 _ t5 = _ by rw [upd_ne h56, upd_same]; rfl) .nil⟩ ?_
      generalize upd (upd H4 t5 (.tup [V.int 0, .non, .int 0])) l6 (.lst [.ref t5]) = H7
      refine ⟨_, rfl, iteT ?_⟩
      refine ⟨by show 0 ≤ sizeLine; decide, fun e8 he8 => ?_⟩
      refine mk_pcR (un := 1) (r := []) (.inl (.inl (.inl upd_same))) (by decide) (by decide) (Bd.up (a := 1) (by unfold Bd; decide) (by decide)) fun x2 pr2 u2 H9 hL9 s9 hX9 => ?_
      obtain ⟨hsgd9, hz9⟩ := zero hL9
      refine ⟨_, rfl, x2, .int (-5), pr2, u2, rfl, hX9, hsgd9, .inl ⟨-5, rfl, b5, fun l10 H10 hT10 => ?_⟩⟩
      obtain ⟨_, s10, ps10, t10, c10, _⟩ := hT10
      obtain rfl := c10.unique (hz9 (-5))
      refine ⟨_, rfl, by show 3 ≤ sizeLine; decide, fun t11 ht11 => ⟨by show 1 ≤ sizeLine; decide, fun l12 hl12 => ?_⟩⟩
      have h112 : t11 ≠ l12 := fun z => by rw [z, upd_same] at hl12; cases hl12
      refine rd_eqT (t10.same ((same_new ht11).trans (same_new hl12))) ⟨[t11], upd_same, .cons (show upd _ l12 _ t11 = _ by rw [upd_ne h112, upd_same]; rfl) .nil⟩ ?_
      exact q _
end
end Ef
set_option Elab.async false
set_option linter.all false
set_option maxRecDepth 100000
set_option maxHeartbeats 8000000
namespace Ef
open PySem PySem.Spec PyProof.Rows L2
theorem at_mk {K : PySem.W.Frag} {h : Heap} {mg : Str → Option Value} {x : Str} {st : Stmt} {f : Addr} {oc kV doc pm cdv ct : Value} {od an : Option Addr} {osl : Array (Option Value)} (X : K.In h) (G : h.Ns mainGlobals mg) (a : PySem.W.nsIn K mainGlobals x = some (some (.ref f)))
    (l : K.lookup f = some ⟨oc, od, .func (PySem.W.fnOf x x (defArgs st) (defBody st) (defScope st) .none kV doc pm an cdv ct), osl⟩) (c : PySem.W.codeIn K cdv x = true) (k : PySem.W.keepIn K (.ref f) = true) : At K mg x st := ⟨f, _, PySem.W.mg_of X G a, fun_mk l c k⟩
theorem exm_by {K : PySem.W.Frag} {S : Addr} {c : Value} {b : Bool} (h1 : PySem.W.subIn K (.ref S) (.type "BaseException") = some true) (h2 : PySem.W.isClsIn K S = true) (h3 : PySem.W.typeIn K (.ref S) = some (.type "type")) (h4 : PySem.W.subIn K c (.ref S) = some b) :
    PySem.W.exmOne K c (.ref S) = some b := by
  unfold PySem.W.exmOne PySem.W.kitCls
  have h2' : (PySem.W.clsIn K S).isSome = true := h2
  rw [h1, if_pos (by rfl)]
  show (if ((PySem.W.clsIn K S).isSome && PySem.W.typeIn K (.ref S) == some (.type "type")) = true then PySem.W.subIn K c (.ref S) else none) = some b
  rw [h2', h3, if_pos (by rfl)]
  exact h4
theorem kit_by {K : PySem.W.Frag} {S : Addr} {c : Value} {b : Bool} (h2 : PySem.W.isClsIn K S = true) (h3 : PySem.W.typeIn K (.ref S) = some (.type "type")) (h4 : PySem.W.subIn K c (.ref S) = some b) (hc : (c == .ref S) = false := by rfl) :
    PySem.W.kitOne K c (.ref S) = some b := by
  unfold PySem.W.kitOne PySem.W.kitCls
  have h2' : (PySem.W.clsIn K S).isSome = true := h2
  rw [if_neg (by rw [hc]; exact Bool.false_ne_true)]
  show (if ((PySem.W.clsIn K S).isSome && PySem.W.typeIn K (.ref S) == some (.type "type")) = true then PySem.W.subIn K c (.ref S) else none) = some b
  rw [h2', h3, if_pos (by rfl)]
  exact h4
theorem all_mk {P : Program} {w : World} {K : PySem.W.Frag} {h : Heap} {mg : Str → Option Value} {fa C CR CU CB tD tS f0 f1 f2 f3 f4 f5 f6 f7 f8 f9 f10 f11 f12 f13 f14 f15 f16 f17 f18 f19 f20 f21 f22 f23 f24 f25 f26 f27 f28 f29 f30 f31 f32 f33 f34 f35  : Addr} (X : K.In h) (G : h.Ns mainGlobals mg) (hfa : mg "law" = some (.ref fa))
    {od0 an0 od1 an1 od2 an2 od3 an3 od4 an4 od5 an5 od6 an6 od7 an7 od8 an8 od9 an9 od10 an10 od11 an11 od12 an12 od13 an13 od14 an14 od15 an15 od16 an16 od17 an17 od18 an18 od19 an19 od20 an20 od21 an21 od22 an22 od23 an23 od24 an24 od25 an25 od26 an26 od27 an27 od28 an28 od29 an29 od30 an30 od31 an31 od32 an32 od33 an33 od34 an34 od35 an35 odD odS : Option Addr} {sl0 sl1 sl2 sl3 sl4 sl5 sl6 sl7 sl8 sl9 sl10 sl11 sl12 sl13 sl14 sl15 sl16 sl17 sl18 sl19 sl20 sl21 sl22 sl23 sl24 sl25 sl26 sl27 sl28 sl29 sl30 sl31 sl32 sl33 sl34 sl35 slD slS : Array (Option Value)} {oc0 kV0 dc0 pm0 cd0 ct0 oc1 kV1 dc1 pm1 cd1 ct1 oc2 kV2 dc2 pm2 cd2 ct2 oc3 kV3 dc3 pm3 cd3 ct3 oc4 kV4 dc4 pm4 cd4 ct4 oc5 kV5 dc5 pm5 cd5 ct5 oc6 kV6 dc6 pm6 cd6 ct6 oc7 kV7 dc7 pm7 cd7 ct7 oc8 kV8 dc8 pm8 cd8 ct8 oc9 kV9 dc9 pm9 cd9 ct9 oc10 kV10 dc10 pm10 cd10 ct10 oc11 kV11 dc11 pm11 cd11 ct11 oc12 kV12 dc12 pm12 cd12 ct12 oc13 kV13 dc13 pm13 cd13 ct13 oc14 kV14 dc14 pm14 cd14 ct14 oc15 kV15 dc15 pm15 cd15 ct15 oc16 kV16 dc16 pm16 cd16 ct16 oc17 kV17 dc17 pm17 cd17 ct17 oc18 kV18 dc18 pm18 cd18 ct18 oc19 kV19 dc19 pm19 cd19 ct19 oc20 kV20 dc20 pm20 cd20 ct20 oc21 kV21 dc21 pm21 cd21 ct21 oc22 kV22 dc22 pm22 cd22 ct22 oc23 kV23 dc23 pm23 cd23 ct23 oc24 kV24 dc24 pm24 cd24 ct24 oc25 kV25 dc25 pm25 cd25 ct25 oc26 kV26 dc26 pm26 cd26 ct26 oc27 kV27 dc27 pm27 cd27 ct27 oc28 kV28 dc28 pm28 cd28 ct28 oc29 kV29 dc29 pm29 cd29 ct29 oc30 kV30 dc30 pm30 cd30 ct30 oc31 kV31 dc31 pm31 cd31 ct31 oc32 kV32 dc32 pm32 cd32 ct32 oc33 kV33 dc33 pm33 cd33 ct33 oc34 kV34 dc34 pm34 cd34 ct34 oc35 kV35 dc35 pm35 cd35 ct35 ocD ocS : Value} {tkD tkS tW : Tok} {nD nS : Nat} {nmCR qCR : Str} {NCR : Addr} {bsCR bmCR : List Value} {snCR : List Str} {subCR : List Value} {abCR : Bool} {colCR : Option Bool} {ddCR : Option Addr} {e0CR e1CR e2CR e3CR e5CR : Option Value} {nmCU qCU : Str} {NCU : Addr} {bsCU bmCU : List Value} {snCU : List Str} {subCU : List Value} {abCU : Bool} {colCU : Option Bool} {ddCU : Option Addr} {e0CU e1CU e2CU e3CU e5CU : Option Value} {nmCB qCB : Str} {NCB : Addr} {bsCB bmCB : List Value} {snCB : List Str} {subCB : List Value} {abCB : Bool} {colCB : Option Bool} {ddCB : Option Addr} {e0CB e1CB e2CB e3CB e5CB : Option Value}
    (aC : PySem.W.nsIn K mainGlobals "Piece" = some (some (.ref C)))
    (a0 : PySem.W.nsIn K mainGlobals "is_int" = some (some (.ref f0)))
    (l0 : K.lookup f0 = some ⟨oc0, od0, .func (PySem.W.fnOf "is_int" "is_int" (defArgs sIsInt) (defBody sIsInt) (defScope sIsInt) .none kV0 dc0 pm0 an0 cd0 ct0), sl0⟩)
    (c0 : PySem.W.codeIn K cd0 "is_int" = true)
    (k0 : PySem.W.keepIn K (.ref f0) = true)
    (a1 : PySem.W.nsIn K mainGlobals "is_int_from" = some (some (.ref f1)))
    (l1 : K.lookup f1 = some ⟨oc1, od1, .func (PySem.W.fnOf "is_int_from" "is_int_from" (defArgs sFrom) (defBody sFrom) (defScope sFrom) .none kV1 dc1 pm1 an1 cd1 ct1), sl1⟩)
    (c1 : PySem.W.codeIn K cd1 "is_int_from" = true)
    (k1 : PySem.W.keepIn K (.ref f1) = true)
    (a2 : PySem.W.nsIn K mainGlobals "sign_of" = some (some (.ref f2)))
    (l2 : K.lookup f2 = some ⟨oc2, od2, .func (PySem.W.fnOf "sign_of" "sign_of" (defArgs sSign) (defBody sSign) (defScope sSign) .none kV2 dc2 pm2 an2 cd2 ct2), sl2⟩)
    (c2 : PySem.W.codeIn K cd2 "sign_of" = true)
    (k2 : PySem.W.keepIn K (.ref f2) = true)
    (a3 : PySem.W.nsIn K mainGlobals "value_at" = some (some (.ref f3)))
    (l3 : K.lookup f3 = some ⟨oc3, od3, .func (PySem.W.fnOf "value_at" "value_at" (defArgs sVal) (defBody sVal) (defScope sVal) .none kV3 dc3 pm3 an3 cd3 ct3), sl3⟩)
    (c3 : PySem.W.codeIn K cd3 "value_at" = true)
    (k3 : PySem.W.keepIn K (.ref f3) = true)
    (a4 : PySem.W.nsIn K mainGlobals "trimmed" = some (some (.ref f4)))
    (l4 : K.lookup f4 = some ⟨oc4, od4, .func (PySem.W.fnOf "trimmed" "trimmed" (defArgs sTrim) (defBody sTrim) (defScope sTrim) .none kV4 dc4 pm4 an4 cd4 ct4), sl4⟩)
    (c4 : PySem.W.codeIn K cd4 "trimmed" = true)
    (k4 : PySem.W.keepIn K (.ref f4) = true)
    (a5 : PySem.W.nsIn K mainGlobals "common_divisor" = some (some (.ref f5)))
    (l5 : K.lookup f5 = some ⟨oc5, od5, .func (PySem.W.fnOf "common_divisor" "common_divisor" (defArgs sCom) (defBody sCom) (defScope sCom) .none kV5 dc5 pm5 an5 cd5 ct5), sl5⟩)
    (c5 : PySem.W.codeIn K cd5 "common_divisor" = true)
    (k5 : PySem.W.keepIn K (.ref f5) = true)
    (a6 : PySem.W.nsIn K mainGlobals "row_times" = some (some (.ref f6)))
    (l6 : K.lookup f6 = some ⟨oc6, od6, .func (PySem.W.fnOf "row_times" "row_times" (defArgs sTm) (defBody sTm) (defScope sTm) .none kV6 dc6 pm6 an6 cd6 ct6), sl6⟩)
    (c6 : PySem.W.codeIn K cd6 "row_times" = true)
    (k6 : PySem.W.keepIn K (.ref f6) = true)
    (a7 : PySem.W.nsIn K mainGlobals "row_of_steps" = some (some (.ref f7)))
    (l7 : K.lookup f7 = some ⟨oc7, od7, .func (PySem.W.fnOf "row_of_steps" "row_of_steps" (defArgs sStp) (defBody sStp) (defScope sStp) .none kV7 dc7 pm7 an7 cd7 ct7), sl7⟩)
    (c7 : PySem.W.codeIn K cd7 "row_of_steps" = true)
    (k7 : PySem.W.keepIn K (.ref f7) = true)
    (a8 : PySem.W.nsIn K mainGlobals "signs_of_row" = some (some (.ref f8)))
    (l8 : K.lookup f8 = some ⟨oc8, od8, .func (PySem.W.fnOf "signs_of_row" "signs_of_row" (defArgs sRow) (defBody sRow) (defScope sRow) .none kV8 dc8 pm8 an8 cd8 ct8), sl8⟩)
    (c8 : PySem.W.codeIn K cd8 "signs_of_row" = true)
    (k8 : PySem.W.keepIn K (.ref f8) = true)
    (a9 : PySem.W.nsIn K mainGlobals "_signs_by_moves" = some (some (.ref f9)))
    (l9 : K.lookup f9 = some ⟨oc9, od9, .func (PySem.W.fnOf "_signs_by_moves" "_signs_by_moves" (defArgs sMov) (defBody sMov) (defScope sMov) .none kV9 dc9 pm9 an9 cd9 ct9), sl9⟩)
    (c9 : PySem.W.codeIn K cd9 "_signs_by_moves" = true)
    (k9 : PySem.W.keepIn K (.ref f9) = true)
    (a10 : PySem.W.nsIn K mainGlobals "_signs_of_stretch" = some (some (.ref f10)))
    (l10 : K.lookup f10 = some ⟨oc10, od10, .func (PySem.W.fnOf "_signs_of_stretch" "_signs_of_stretch" (defArgs sStrt) (defBody sStrt) (defScope sStrt) .none kV10 dc10 pm10 an10 cd10 ct10), sl10⟩)
    (c10 : PySem.W.codeIn K cd10 "_signs_of_stretch" = true)
    (k10 : PySem.W.keepIn K (.ref f10) = true)
    (a11 : PySem.W.nsIn K mainGlobals "_is_behind" = some (some (.ref f11)))
    (l11 : K.lookup f11 = some ⟨oc11, od11, .func (PySem.W.fnOf "_is_behind" "_is_behind" (defArgs sBeh) (defBody sBeh) (defScope sBeh) .none kV11 dc11 pm11 an11 cd11 ct11), sl11⟩)
    (c11 : PySem.W.codeIn K cd11 "_is_behind" = true)
    (k11 : PySem.W.keepIn K (.ref f11) = true)
    (a12 : PySem.W.nsIn K mainGlobals "_crossing" = some (some (.ref f12)))
    (l12 : K.lookup f12 = some ⟨oc12, od12, .func (PySem.W.fnOf "_crossing" "_crossing" (defArgs sCro) (defBody sCro) (defScope sCro) .none kV12 dc12 pm12 an12 cd12 ct12), sl12⟩)
    (c12 : PySem.W.codeIn K cd12 "_crossing" = true)
    (k12 : PySem.W.keepIn K (.ref f12) = true)
    (a13 : PySem.W.nsIn K mainGlobals "_bracket" = some (some (.ref f13)))
    (l13 : K.lookup f13 = some ⟨oc13, od13, .func (PySem.W.fnOf "_bracket" "_bracket" (defArgs sBra) (defBody sBra) (defScope sBra) .none kV13 dc13 pm13 an13 cd13 ct13), sl13⟩)
    (c13 : PySem.W.codeIn K cd13 "_bracket" = true)
    (k13 : PySem.W.keepIn K (.ref f13) = true)
    (a14 : PySem.W.nsIn K mainGlobals "_is_out" = some (some (.ref f14)))
    (l14 : K.lookup f14 = some ⟨oc14, od14, .func (PySem.W.fnOf "_is_out" "_is_out" (defArgs sOut) (defBody sOut) (defScope sOut) .none kV14 dc14 pm14 an14 cd14 ct14), sl14⟩)
    (c14 : PySem.W.codeIn K cd14 "_is_out" = true)
    (k14 : PySem.W.keepIn K (.ref f14) = true)
    (a15 : PySem.W.nsIn K mainGlobals "_narrowed" = some (some (.ref f15)))
    (l15 : K.lookup f15 = some ⟨oc15, od15, .func (PySem.W.fnOf "_narrowed" "_narrowed" (defArgs sNar) (defBody sNar) (defScope sNar) .none kV15 dc15 pm15 an15 cd15 ct15), sl15⟩)
    (c15 : PySem.W.codeIn K cd15 "_narrowed" = true)
    (k15 : PySem.W.keepIn K (.ref f15) = true)
    (a16 : PySem.W.nsIn K mainGlobals "_cut" = some (some (.ref f16)))
    (l16 : K.lookup f16 = some ⟨oc16, od16, .func (PySem.W.fnOf "_cut" "_cut" (defArgs sCut) (defBody sCut) (defScope sCut) .none kV16 dc16 pm16 an16 cd16 ct16), sl16⟩)
    (c16 : PySem.W.codeIn K cd16 "_cut" = true)
    (k16 : PySem.W.keepIn K (.ref f16) = true)
    (a17 : PySem.W.nsIn K mainGlobals "_check_row" = some (some (.ref f17)))
    (l17 : K.lookup f17 = some ⟨oc17, od17, .func (PySem.W.fnOf "_check_row" "_check_row" (defArgs sCheck) (defBody sCheck) (defScope sCheck) .none kV17 dc17 pm17 an17 cd17 ct17), sl17⟩)
    (c17 : PySem.W.codeIn K cd17 "_check_row" = true)
    (k17 : PySem.W.keepIn K (.ref f17) = true)
    (a18 : PySem.W.nsIn K mainGlobals "_law_pen" = some (some (.ref f18)))
    (l18 : K.lookup f18 = some ⟨oc18, od18, .func (PySem.W.fnOf "_law_pen" "_law_pen" (defArgs sPen) (defBody sPen) (defScope sPen) .none kV18 dc18 pm18 an18 cd18 ct18), sl18⟩)
    (c18 : PySem.W.codeIn K cd18 "_law_pen" = true)
    (k18 : PySem.W.keepIn K (.ref f18) = true)
    (a19 : PySem.W.nsIn K mainGlobals "_law_draw" = some (some (.ref f19)))
    (l19 : K.lookup f19 = some ⟨oc19, od19, .func (PySem.W.fnOf "_law_draw" "_law_draw" (defArgs sDraw) (defBody sDraw) (defScope sDraw) .none kV19 dc19 pm19 an19 cd19 ct19), sl19⟩)
    (c19 : PySem.W.codeIn K cd19 "_law_draw" = true)
    (k19 : PySem.W.keepIn K (.ref f19) = true)
    (a20 : PySem.W.nsIn K mainGlobals "_law_pick" = some (some (.ref f20)))
    (l20 : K.lookup f20 = some ⟨oc20, od20, .func (PySem.W.fnOf "_law_pick" "_law_pick" (defArgs sPick) (defBody sPick) (defScope sPick) .none kV20 dc20 pm20 an20 cd20 ct20), sl20⟩)
    (c20 : PySem.W.codeIn K cd20 "_law_pick" = true)
    (k20 : PySem.W.keepIn K (.ref f20) = true)
    (a21 : PySem.W.nsIn K mainGlobals "_law_times" = some (some (.ref f21)))
    (l21 : K.lookup f21 = some ⟨oc21, od21, .func (PySem.W.fnOf "_law_times" "_law_times" (defArgs sTimes) (defBody sTimes) (defScope sTimes) .none kV21 dc21 pm21 an21 cd21 ct21), sl21⟩)
    (c21 : PySem.W.codeIn K cd21 "_law_times" = true)
    (k21 : PySem.W.keepIn K (.ref f21) = true)
    (a22 : PySem.W.nsIn K mainGlobals "_law_far" = some (some (.ref f22)))
    (l22 : K.lookup f22 = some ⟨oc22, od22, .func (PySem.W.fnOf "_law_far" "_law_far" (defArgs sFar) (defBody sFar) (defScope sFar) .none kV22 dc22 pm22 an22 cd22 ct22), sl22⟩)
    (c22 : PySem.W.codeIn K cd22 "_law_far" = true)
    (k22 : PySem.W.keepIn K (.ref f22) = true)
    (a23 : PySem.W.nsIn K mainGlobals "_law_factors" = some (some (.ref f23)))
    (l23 : K.lookup f23 = some ⟨oc23, od23, .func (PySem.W.fnOf "_law_factors" "_law_factors" (defArgs sFacs) (defBody sFacs) (defScope sFacs) .none kV23 dc23 pm23 an23 cd23 ct23), sl23⟩)
    (c23 : PySem.W.codeIn K cd23 "_law_factors" = true)
    (k23 : PySem.W.keepIn K (.ref f23) = true)
    (a24 : PySem.W.nsIn K mainGlobals "_law_factor_row" = some (some (.ref f24)))
    (l24 : K.lookup f24 = some ⟨oc24, od24, .func (PySem.W.fnOf "_law_factor_row" "_law_factor_row" (defArgs sFrow) (defBody sFrow) (defScope sFrow) .none kV24 dc24 pm24 an24 cd24 ct24), sl24⟩)
    (c24 : PySem.W.codeIn K cd24 "_law_factor_row" = true)
    (k24 : PySem.W.keepIn K (.ref f24) = true)
    (a25 : PySem.W.nsIn K mainGlobals "_law_sign" = some (some (.ref f25)))
    (l25 : K.lookup f25 = some ⟨oc25, od25, .func (PySem.W.fnOf "_law_sign" "_law_sign" (defArgs sLsign) (defBody sLsign) (defScope sLsign) .none kV25 dc25 pm25 an25 cd25 ct25), sl25⟩)
    (c25 : PySem.W.codeIn K cd25 "_law_sign" = true)
    (k25 : PySem.W.keepIn K (.ref f25) = true)
    (a26 : PySem.W.nsIn K mainGlobals "_law_factor_sign" = some (some (.ref f26)))
    (l26 : K.lookup f26 = some ⟨oc26, od26, .func (PySem.W.fnOf "_law_factor_sign" "_law_factor_sign" (defArgs sFsgn) (defBody sFsgn) (defScope sFsgn) .none kV26 dc26 pm26 an26 cd26 ct26), sl26⟩)
    (c26 : PySem.W.codeIn K cd26 "_law_factor_sign" = true)
    (k26 : PySem.W.keepIn K (.ref f26) = true)
    (a27 : PySem.W.nsIn K mainGlobals "_law_factor_signs" = some (some (.ref f27)))
    (l27 : K.lookup f27 = some ⟨oc27, od27, .func (PySem.W.fnOf "_law_factor_signs" "_law_factor_signs" (defArgs sFss) (defBody sFss) (defScope sFss) .none kV27 dc27 pm27 an27 cd27 ct27), sl27⟩)
    (c27 : PySem.W.codeIn K cd27 "_law_factor_signs" = true)
    (k27 : PySem.W.keepIn K (.ref f27) = true)
    (a28 : PySem.W.nsIn K mainGlobals "_law_is_refused" = some (some (.ref f28)))
    (l28 : K.lookup f28 = some ⟨oc28, od28, .func (PySem.W.fnOf "_law_is_refused" "_law_is_refused" (defArgs sRef) (defBody sRef) (defScope sRef) .none kV28 dc28 pm28 an28 cd28 ct28), sl28⟩)
    (c28 : PySem.W.codeIn K cd28 "_law_is_refused" = true)
    (k28 : PySem.W.keepIn K (.ref f28) = true)
    (a29 : PySem.W.nsIn K mainGlobals "law" = some (some (.ref f29)))
    (l29 : K.lookup f29 = some ⟨oc29, od29, .func (PySem.W.fnOf "law" "law" (defArgs sLaw) (defBody sLaw) (defScope sLaw) .none kV29 dc29 pm29 an29 cd29 ct29), sl29⟩)
    (c29 : PySem.W.codeIn K cd29 "law" = true)
    (k29 : PySem.W.keepIn K (.ref f29) = true)
    (a30 : PySem.W.findIn K (.ref C) "__init__" = some (some (.ref f30)))
    (i30 : PySem.W.isFn K (.ref f30) = true)
    (l30 : K.lookup f30 = some ⟨oc30, od30, .func (PySem.W.fnOf "__init__" "Piece.__init__" (defArgs sInit) (defBody sInit) (defScope sInit) (.ref tD) kV30 dc30 pm30 an30 cd30 ct30), sl30⟩)
    (c30 : PySem.W.codeIn K cd30 "Piece.__init__" = true)
    (k30 : PySem.W.keepIn K (.ref f30) = true)
    (lD : K.lookup tD = some ⟨ocD, odD, .seq #[.int 1 tkD] nD, slD⟩)
    (a31 : PySem.W.nsIn K mainGlobals "signs_of" = some (some (.ref f31)))
    (l31 : K.lookup f31 = some ⟨oc31, od31, .func (PySem.W.fnOf "signs_of" "signs_of" (defArgs sSig) (defBody sSig) (defScope sSig) (.ref tS) kV31 dc31 pm31 an31 cd31 ct31), sl31⟩)
    (c31 : PySem.W.codeIn K cd31 "signs_of" = true)
    (k31 : PySem.W.keepIn K (.ref f31) = true)
    (lS : K.lookup tS = some ⟨ocS, odS, .seq #[.int 0 tkS] nS, slS⟩)
    (a32 : PySem.W.findIn K (.ref C) "__neg__" = some (some (.ref f32)))
    (t32 : PySem.W.typeIn K (.ref f32) = some (.type "function"))
    (l32 : K.lookup f32 = some ⟨oc32, od32, .func (PySem.W.fnOf "__neg__" "Piece.__neg__" (defArgs sNeg) (defBody sNeg) (defScope sNeg) .none kV32 dc32 pm32 an32 cd32 ct32), sl32⟩)
    (c32 : PySem.W.codeIn K cd32 "Piece.__neg__" = true)
    (k32 : PySem.W.keepIn K (.ref f32) = true)
    (sli : PySem.W.subIn K (.type "list") (.ref C) = some false)
    (jC : PySem.W.isClsIn K C = true)
    (tC : PySem.W.typeIn K (.ref C) = some (.type "type"))
    (mCR : PySem.W.nsIn K mainGlobals "BadRow" = some (some (.ref CR)))
    (oCR : K.lookup CR = some (excClassObj nmCR qCR CR NCR bsCR bmCR true snCR subCR abCR colCR ddCR e0CR e1CR e2CR e3CR e5CR "ValueError.__new__"))
    (vCR : PySem.HandSPX.refsVE bmCR = true)
    (sCR : PySem.W.findIn K (.ref CR) "__setattr__" = some (some (.builtin "object.__setattr__")))
    (xCR : PySem.W.subIn K (.ref CR) (.type "BaseException") = some true)
    (tCR : PySem.W.typeIn K (.ref CR) = some (.type "type"))
    (kCR : PySem.W.keepIn K (.ref CR) = true)
    (iCR : PySem.W.findIn K (.ref CR) "__init__" = some (some (.ref f33)))
    (uCR : PySem.W.typeIn K (.ref f33) = some (.type "function"))
    (nCR : PySem.W.findIn K (.ref CR) "index" = some none)
    (gaCR : PySem.W.findIn K (.ref CR) "__getattribute__" = some (some (.builtin "BaseException.__getattribute__")))
    (ggCR : PySem.W.findIn K (.ref CR) "__getattr__" = some none)
    (hdCR : PySem.W.hasDictIn K CR = true)
    (l33 : K.lookup f33 = some ⟨oc33, od33, .func (PySem.W.fnOf "__init__" "BadRow.__init__" (defArgs sErrR) (defBody sErrR) (defScope sErrR) .none kV33 dc33 pm33 an33 cd33 ct33), sl33⟩)
    (c33 : PySem.W.codeIn K cd33 "BadRow.__init__" = true)
    (k33 : PySem.W.keepIn K (.ref f33) = true)
    (mCU : PySem.W.nsIn K mainGlobals "BadUnder" = some (some (.ref CU)))
    (oCU : K.lookup CU = some (excClassObj nmCU qCU CU NCU bsCU bmCU true snCU subCU abCU colCU ddCU e0CU e1CU e2CU e3CU e5CU "ValueError.__new__"))
    (vCU : PySem.HandSPX.refsVE bmCU = true)
    (sCU : PySem.W.findIn K (.ref CU) "__setattr__" = some (some (.builtin "object.__setattr__")))
    (xCU : PySem.W.subIn K (.ref CU) (.type "BaseException") = some true)
    (tCU : PySem.W.typeIn K (.ref CU) = some (.type "type"))
    (kCU : PySem.W.keepIn K (.ref CU) = true)
    (iCU : PySem.W.findIn K (.ref CU) "__init__" = some (some (.ref f34)))
    (uCU : PySem.W.typeIn K (.ref f34) = some (.type "function"))
    (nCU : PySem.W.findIn K (.ref CU) "under" = some none)
    (gaCU : PySem.W.findIn K (.ref CU) "__getattribute__" = some (some (.builtin "BaseException.__getattribute__")))
    (ggCU : PySem.W.findIn K (.ref CU) "__getattr__" = some none)
    (hdCU : PySem.W.hasDictIn K CU = true)
    (l34 : K.lookup f34 = some ⟨oc34, od34, .func (PySem.W.fnOf "__init__" "BadUnder.__init__" (defArgs sErrU) (defBody sErrU) (defScope sErrU) .none kV34 dc34 pm34 an34 cd34 ct34), sl34⟩)
    (c34 : PySem.W.codeIn K cd34 "BadUnder.__init__" = true)
    (k34 : PySem.W.keepIn K (.ref f34) = true)
    (mCB : PySem.W.nsIn K mainGlobals "BadPlace" = some (some (.ref CB)))
    (oCB : K.lookup CB = some (excClassObj nmCB qCB CB NCB bsCB bmCB true snCB subCB abCB colCB ddCB e0CB e1CB e2CB e3CB e5CB "ValueError.__new__"))
    (vCB : PySem.HandSPX.refsVE bmCB = true)
    (sCB : PySem.W.findIn K (.ref CB) "__setattr__" = some (some (.builtin "object.__setattr__")))
    (xCB : PySem.W.subIn K (.ref CB) (.type "BaseException") = some true)
    (tCB : PySem.W.typeIn K (.ref CB) = some (.type "type"))
    (kCB : PySem.W.keepIn K (.ref CB) = true)
    (iCB : PySem.W.findIn K (.ref CB) "__init__" = some (some (.ref f35)))
    (uCB : PySem.W.typeIn K (.ref f35) = some (.type "function"))
    (nCB : PySem.W.findIn K (.ref CB) "n" = some none)
    (gaCB : PySem.W.findIn K (.ref CB) "__getattribute__" = some (some (.builtin "BaseException.__getattribute__")))
    (ggCB : PySem.W.findIn K (.ref CB) "__getattr__" = some none)
    (hdCB : PySem.W.hasDictIn K CB = true)
    (l35 : K.lookup f35 = some ⟨oc35, od35, .func (PySem.W.fnOf "__init__" "BadPlace.__init__" (defArgs sErrP) (defBody sErrP) (defScope sErrP) .none kV35 dc35 pm35 an35 cd35 ct35), sl35⟩)
    (c35 : PySem.W.codeIn K cd35 "BadPlace.__init__" = true)
    (k35 : PySem.W.keepIn K (.ref f35) = true)
    (jB : PySem.W.isClsIn K CB = true)
    (xBB : PySem.W.subIn K (.ref CB) (.ref CB) = some true)
    (pg : PySem.W.plainGet K C Str.empty = true)
    (hd : PySem.W.hasDictIn K C = true)
    (po : PySem.W.plainOver K C = true)
    (sa : PySem.W.findIn K (.ref C) "__setattr__" = some (some (.builtin "object.__setattr__")))
    (mk : PySem.W.makesIn K C = true)
    (kc : PySem.W.keepIn K (.ref C) = true)
    (cc : PySem.W.findIn K (.ref C) "__class__" = some (some (.builtin "object.__class__")))
    (cg : PySem.W.specialIn K (.builtin "object.__class__") "__get__" = some (some (.builtin "getset_descriptor.__get__")))
    (ctk : PySem.W.takesIn K (.builtin "object.__class__") = some true)
    (co : PySem.W.mroIn K C (.type "object") = some true)
    (nr : PySem.W.findIn K (.ref C) "row" = some none)
    (nu : PySem.W.findIn K (.ref C) "under" = some none)
    (zg : PySem.W.nsIn K mainGlobals "gcd" = some (some (.builtin "math.gcd")))
    (zc : PySem.W.nsIn K mainGlobals "comb" = some (some (.builtin "math.comb")))
    (zw : PySem.W.nsIn K mainGlobals "WIDE" = some (some (.int 64 tW)))
    (z0 : PySem.W.nsIn K mainGlobals "int" = some none)
    (z1 : PySem.W.nsIn K mainGlobals "len" = some none)
    (z2 : PySem.W.nsIn K mainGlobals "list" = some none)
    (z3 : PySem.W.nsIn K mainGlobals "isinstance" = some none)
    (z4 : PySem.W.nsIn K mainGlobals "bool" = some none)
    (z5 : PySem.W.nsIn K mainGlobals "enumerate" = some none)
    (z6 : PySem.W.nsIn K mainGlobals "reversed" = some none)
    (z7 : PySem.W.nsIn K mainGlobals "range" = some none)
    (z8 : PySem.W.nsIn K mainGlobals "tuple" = some none)
    (z9 : PySem.W.nsIn K mainGlobals "sum" = some none)
    (z10 : PySem.W.nsIn K mainGlobals "min" = some none)
    (z11 : PySem.W.nsIn K mainGlobals "set" = some none)
    (z12 : PySem.W.nsIn K mainGlobals "sorted" = some none)
    : ∃ fd : FuncData, (∀ (s : Shared) (v : Value), BindsTo s fd ⟨[v], []⟩ [("script", v)]) ∧ ∀ base : Heap, K.In base → base.Ns mainGlobals mg → FnOk P w K mg base CX0 12 fa fd ["script"] (spLaw K) := by
  have e := hfa.symm.trans (PySem.W.mg_of X G a29)
  cases e
  have T : TxtS mg := { int := PySem.W.mg_none_of X G z0, len := PySem.W.mg_none_of X G z1, list := PySem.W.mg_none_of X G z2, isinstance := PySem.W.mg_none_of X G z3, bool := PySem.W.mg_none_of X G z4, enumerate := PySem.W.mg_none_of X G z5, reversed := PySem.W.mg_none_of X G z6, range := PySem.W.mg_none_of X G z7, tuple := PySem.W.mg_none_of X G z8, sum := PySem.W.mg_none_of X G z9, min := PySem.W.mg_none_of X G z10, set := PySem.W.mg_none_of X G z11, sorted := PySem.W.mg_none_of X G z12, gcd := PySem.W.mg_of X G zg, comb := PySem.W.mg_of X G zc, wide := ⟨_, PySem.W.mg_of X G zw⟩ }
  have CP : ClsP K mg C := ⟨⟨pg, hd, po, sa⟩, PySem.W.mg_of X G aC, nr, nu⟩
  have CW : ClsQ K mg C := { toClsP := CP, cc := cc, cg := cg, ct := ctk, co := co, sl := sli }
  have FD : FunD K "__init__" "Piece.__init__" (defArgs sInit) (defBody sInit) (defScope sInit) [V.int 1] [] f30 _ := ⟨⟨_, _, _, _, _, _, _, _, _, _, rfl, l30, c30, .inr ⟨fun z => (by cases z), tD, _, _, _, rfl, lD, rfl, .cons ⟨_, rfl⟩ .nil⟩, .inl rfl⟩, k30⟩
  have bI := binds_init FD
  obtain ⟨ds1, hd1, bI1⟩ := binds_init1 FD
  have M : Mk K C f30 := ⟨mk, a30, i30, kc⟩
  have FCR := fun_mk (st := sErrR) l33 c33 k33
  have bCR := FCR.binds (ps := ["self", "index"]) fun _ _ _ _ _ _ us hl => match us, hl with | [_, _], _ => rfl
  have ECR : ErrF K mg "BadRow" "index" CR f33 := ⟨⟨⟨_, _, _, _, _, _, _, _, _, _, _, _, _, _, _, oCR, vCR⟩, sCR, xCR, tCR, kCR⟩, PySem.W.mg_of X G mCR, iCR, uCR, nCR, ⟨gaCR, ggCR, xCR, hdCR⟩⟩
  have FCU := fun_mk (st := sErrU) l34 c34 k34
  have bCU := FCU.binds (ps := ["self", "under"]) fun _ _ _ _ _ _ us hl => match us, hl with | [_, _], _ => rfl
  have ECU : ErrF K mg "BadUnder" "under" CU f34 := ⟨⟨⟨_, _, _, _, _, _, _, _, _, _, _, _, _, _, _, oCU, vCU⟩, sCU, xCU, tCU, kCU⟩, PySem.W.mg_of X G mCU, iCU, uCU, nCU, ⟨gaCU, ggCU, xCU, hdCU⟩⟩
  have FCB := fun_mk (st := sErrP) l35 c35 k35
  have bCB := FCB.binds (ps := ["self", "n"]) fun _ _ _ _ _ _ us hl => match us, hl with | [_, _], _ => rfl
  have ECB : ErrF K mg "BadPlace" "n" CB f35 := ⟨⟨⟨_, _, _, _, _, _, _, _, _, _, _, _, _, _, _, oCB, vCB⟩, sCB, xCB, tCB, kCB⟩, PySem.W.mg_of X G mCB, iCB, uCB, nCB, ⟨gaCB, ggCB, xCB, hdCB⟩⟩
  refine ⟨PySem.W.fnOf "law" "law" (defArgs sLaw) (defBody sLaw) (defScope sLaw) .none kV29 dc29 pm29 an29 cd29 ct29, fun s v => .of_eq rfl, fun base _ _ => ?_⟩
  have dIsInt := df_isint (P := P) (w := w) (base := base) (at_mk X G a0 l0 c0 k0) T.toTxtW
  have dFrom := df_from (P := P) (w := w) (base := base) (at_mk X G a1 l1 c1 k1) dIsInt
  have dSgn := df_sign (P := P) (w := w) (base := base) (at_mk X G a2 l2 c2 k2) 
  have dVal := df_val (P := P) (w := w) (base := base) (at_mk X G a3 l3 c3 k3) 
  have dTrim := df_trim (P := P) (w := w) (base := base) (at_mk X G a4 l4 c4 k4) T.toTxtW
  have dCom := df_com (P := P) (w := w) (base := base) (at_mk X G a5 l5 c5 k5) T.toTxtQ
  have dTm := df_tm (P := P) (w := w) (base := base) (at_mk X G a6 l6 c6 k6) 
  have dStp := df_stp (P := P) (w := w) (base := base) (at_mk X G a7 l7 c7 k7) T.toTxtR
  have dBeh := df_beh (P := P) (w := w) (base := base) (at_mk X G a11 l11 c11 k11) dVal
  have dOut := df_out (P := P) (w := w) (base := base) (at_mk X G a14 l14 c14 k14) dBeh
  have dCut := df_cut (P := P) (w := w) (base := base) (at_mk X G a16 l16 c16 k16) dBeh
  have dNar := df_nar (P := P) (w := w) (base := base) (at_mk X G a15 l15 c15 k15) dVal dCut
  have dBra := df_bra (P := P) (w := w) (base := base) (at_mk X G a13 l13 c13 k13) dOut
  have dCro := df_cro (P := P) (w := w) (base := base) (at_mk X G a12 l12 c12 k12) T.toTxtR dBra dNar dCut
  have dStrt := df_strt (P := P) (w := w) (base := base) (at_mk X G a10 l10 c10 k10) dSgn dVal dCro
  have dMov := df_mov (P := P) (w := w) (base := base) (at_mk X G a9 l9 c9 k9) T.toTxtR dStrt
  have dRow := df_row (P := P) (w := w) (base := base) (at_mk X G a8 l8 c8 k8) T.toTxtR dSgn dVal dStp dMov
  have dPen := df_pen (P := P) (w := w) (base := base) (at_mk X G a18 l18 c18 k18) T.toTxtP
  have dDraw := df_draw (P := P) (w := w) (base := base) (at_mk X G a19 l19 c19 k19) T.toTxtP
  have dPick := df_pick (P := P) (w := w) (base := base) (at_mk X G a20 l20 c20 k20) T.toTxtP dDraw
  have dTimes := df_times (P := P) (w := w) (base := base) (at_mk X G a21 l21 c21 k21) T.toTxtR
  have dFar := df_far (P := P) (w := w) (base := base) (at_mk X G a22 l22 c22 k22) dDraw dPick
  have dLsgn := df_lsign (P := P) (w := w) (base := base) (at_mk X G a25 l25 c25 k25) T.toTxtR
  have dFsgn := df_fsgn (P := P) (w := w) (base := base) (at_mk X G a26 l26 c26 k26) dLsgn
  have dFrow := df_frow (P := P) (w := w) (base := base) (at_mk X G a24 l24 c24 k24) dTimes
  have dFacs := df_facs (P := P) (w := w) (base := base) (at_mk X G a23 l23 c23 k23) T.toTxtR dDraw dPick
  have dFss := df_fss (P := P) (w := w) (base := base) (at_mk X G a27 l27 c27 k27) T dFsgn
  have gR := ok_errR (P := P) (w := w) (base := base) FCR ECR
  have gU := ok_errU (P := P) (w := w) (base := base) FCU ECU
  have gB := ok_errP (P := P) (w := w) (base := base) FCB ECB
  have dCk := dx_check (P := P) (w := w) (base := base) (PySem.W.mg_of X G a17) (fun_mk (st := sCheck) l17 c17 k17) T.toTxtW ECR gR bCR dIsInt
  have FI := ok_init (P := P) (w := w) (base := base) FD T.toTxtQ CP ECU gU bCU dCk dFrom dTrim dCom
  have FS : FunD K "signs_of" "signs_of" (defArgs sSig) (defBody sSig) (defScope sSig) [V.int 0] [] f31 _ := ⟨⟨_, _, _, _, _, _, _, _, _, _, rfl, l31, c31, .inr ⟨fun z => (by cases z), tS, _, _, _, rfl, lS, rfl, .cons ⟨_, rfl⟩ .nil⟩, .inl rfl⟩, k31⟩
  have SD := sig_d (P := P) (w := w) (base := base) (PySem.W.mg_of X G a31) FS CP ECB gB bCB dIsInt dRow
  have F32 := fun_mk (st := sNeg) l32 c32 k32
  have b32 := F32.binds (ps := ["self"]) fun _ _ _ _ _ _ us hl => match us, hl with | [_], _ => rfl
  have ON : OwnG P w K mg base CX0 6 C "__neg__" ["self"] (spNeg K C) := ⟨f32, _, a32, t32, b32, ok_neg F32 CW M FI bI dTm⟩
  have dRef := df_ref (P := P) (w := w) (base := base) (at_mk X G a28 l28 c28 k28) ECB (exm_by xCB jB tCB xBB) SD
  exact ok_law (fun_mk (st := sLaw) l29 c29 k29) T CW M FI bI bI1 hd1 ON SD dPen dDraw dPick dFar dFacs dFrow dFss dRef
theorem walk {l : PySem.W.OpenLaw} {q : Program} {loose : List Str} {XP : (Str → Option Value) → Heap → Prop} {YP : World → Heap → Prop} {d : DefRec} {K : Params → PySem.W.Frag} (hn : l.most = some 63) (hdf : d.params.defaults = [])
    (hY : ∀ (w : World) (h : Heap), YP w h → (K w.params).In h)
    (F : ∀ (w : World) (mg : Str → Option Value) (fa : Addr) (h : Heap), (K w.params).In h → h.Ns mainGlobals mg → mg d.name = some (.ref fa) →
      ∃ fd : FuncData, (∀ (s : Shared) (u : Value), BindsTo s fd ⟨[u], []⟩ [("script", u)]) ∧ ∀ base : Heap, (K w.params).In base → base.Ns mainGlobals mg → FnOk l.prog w (K w.params) mg base CX0 12 fa fd ["script"] (spLaw (K w.params))) :
    PySem.W.WalkO q loose XP YP l.row.toRowW d [] (fun f vs => PySem.call f vs) :=
  L2.walk_of (n := 63) (k := 12) (x := "script") (CX := fun _ => CX0) (sp := fun w => spLaw (K w.params)) hn (by decide) hdf ⟨rfl, by decide, by decide⟩ hY F (fun _ _ a ns hl _ hS => ⟨a, ns, rfl, hS, hl, fun _ => rfl⟩) fun _ _ _ _ _ z => z
end Ef
set_option Elab.async false
set_option linter.all false
open PySem PySem.W PyProof.Rows in
set_option maxRecDepth 100000 in
set_option maxHeartbeats 0 in
theorem PySem.Challenge.cw_everyfloor_k06_whole_signs_by_known_root_holds : PySem.Challenge.rw_everyfloor_k06_whole_signs_by_known_root.Holds := by
  w_on; o_law; k_headL; (case hw => w_witness2)
  k_fill
  refine Ef.walk (l := PySem.Challenge.rw_everyfloor_k06_whole_signs_by_known_root) rfl rfl (fun w h Y => PySem.W.kIn_of Y) ?F
  case F =>
    intro w mg fa h KX G hmg
    refine' Ef.all_mk KX G hmg ?aC ?a0 ?l0 ?c0 ?k0 ?a1 ?l1 ?c1 ?k1 ?a2 ?l2 ?c2 ?k2 ?a3 ?l3 ?c3 ?k3 ?a4 ?l4 ?c4 ?k4 ?a5 ?l5 ?c5 ?k5 ?a6 ?l6 ?c6 ?k6 ?a7 ?l7 ?c7 ?k7 ?a8 ?l8 ?c8 ?k8 ?a9 ?l9 ?c9 ?k9 ?a10 ?l10 ?c10 ?k10 ?a11 ?l11 ?c11 ?k11 ?a12 ?l12 ?c12 ?k12 ?a13 ?l13 ?c13 ?k13 ?a14 ?l14 ?c14 ?k14 ?a15 ?l15 ?c15 ?k15 ?a16 ?l16 ?c16 ?k16 ?a17 ?l17 ?c17 ?k17 ?a18 ?l18 ?c18 ?k18 ?a19 ?l19 ?c19 ?k19 ?a20 ?l20 ?c20 ?k20 ?a21 ?l21 ?c21 ?k21 ?a22 ?l22 ?c22 ?k22 ?a23 ?l23 ?c23 ?k23 ?a24 ?l24 ?c24 ?k24 ?a25 ?l25 ?c25 ?k25 ?a26 ?l26 ?c26 ?k26 ?a27 ?l27 ?c27 ?k27 ?a28 ?l28 ?c28 ?k28 ?a29 ?l29 ?c29 ?k29 ?a30 ?i30 ?l30 ?c30 ?k30 ?lD ?a31 ?l31 ?c31 ?k31 ?lS ?a32 ?t32 ?l32 ?c32 ?k32 ?sli ?jC ?tC ?mCR ?oCR ?vCR ?sCR ?xCR ?tCR ?kCR ?iCR ?uCR ?nCR ?gaCR ?ggCR ?hdCR ?l33 ?c33 ?k33 ?mCU ?oCU ?vCU ?sCU ?xCU ?tCU ?kCU ?iCU ?uCU ?nCU ?gaCU ?ggCU ?hdCU ?l34 ?c34 ?k34 ?mCB ?oCB ?vCB ?sCB ?xCB ?tCB ?kCB ?iCB ?uCB ?nCB ?gaCB ?ggCB ?hdCB ?l35 ?c35 ?k35 ?jB ?xBB ?pg ?hd ?po ?sa ?mk ?kc ?cc ?cg ?ctk ?co ?nr ?nu ?zg ?zc ?zw ?z0 ?z1 ?z2 ?z3 ?z4 ?z5 ?z6 ?z7 ?z8 ?z9 ?z10 ?z11 ?z12
    (case aC => k_is)
    (case a0 => k_is)
    (case l0 => k_is)
    (case c0 => k_is)
    (case k0 => k_is)
    (case a1 => k_is)
    (case l1 => k_is)
    (case c1 => k_is)
    (case k1 => k_is)
    (case a2 => k_is)
    (case l2 => k_is)
    (case c2 => k_is)
    (case k2 => k_is)
    (case a3 => k_is)
    (case l3 => k_is)
    (case c3 => k_is)
    (case k3 => k_is)
    (case a4 => k_is)
    (case l4 => k_is)
    (case c4 => k_is)
    (case k4 => k_is)
    (case a5 => k_is)
    (case l5 => k_is)
    (case c5 => k_is)
    (case k5 => k_is)
    (case a6 => k_is)
    (case l6 => k_is)
    (case c6 => k_is)
    (case k6 => k_is)
    (case a7 => k_is)
    (case l7 => k_is)
    (case c7 => k_is)
    (case k7 => k_is)
    (case a8 => k_is)
    (case l8 => k_is)
    (case c8 => k_is)
    (case k8 => k_is)
    (case a9 => k_is)
    (case l9 => k_is)
    (case c9 => k_is)
    (case k9 => k_is)
    (case a10 => k_is)
    (case l10 => k_is)
    (case c10 => k_is)
    (case k10 => k_is)
    (case a11 => k_is)
    (case l11 => k_is)
    (case c11 => k_is)
    (case k11 => k_is)
    (case a12 => k_is)
    (case l12 => k_is)
    (case c12 => k_is)
    (case k12 => k_is)
    (case a13 => k_is)
    (case l13 => k_is)
    (case c13 => k_is)
    (case k13 => k_is)
    (case a14 => k_is)
    (case l14 => k_is)
    (case c14 => k_is)
    (case k14 => k_is)
    (case a15 => k_is)
    (case l15 => k_is)
    (case c15 => k_is)
    (case k15 => k_is)
    (case a16 => k_is)
    (case l16 => k_is)
    (case c16 => k_is)
    (case k16 => k_is)
    (case a17 => k_is)
    (case l17 => k_is)
    (case c17 => k_is)
    (case k17 => k_is)
    (case a18 => k_is)
    (case l18 => k_is)
    (case c18 => k_is)
    (case k18 => k_is)
    (case a19 => k_is)
    (case l19 => k_is)
    (case c19 => k_is)
    (case k19 => k_is)
    (case a20 => k_is)
    (case l20 => k_is)
    (case c20 => k_is)
    (case k20 => k_is)
    (case a21 => k_is)
    (case l21 => k_is)
    (case c21 => k_is)
    (case k21 => k_is)
    (case a22 => k_is)
    (case l22 => k_is)
    (case c22 => k_is)
    (case k22 => k_is)
    (case a23 => k_is)
    (case l23 => k_is)
    (case c23 => k_is)
    (case k23 => k_is)
    (case a24 => k_is)
    (case l24 => k_is)
    (case c24 => k_is)
    (case k24 => k_is)
    (case a25 => k_is)
    (case l25 => k_is)
    (case c25 => k_is)
    (case k25 => k_is)
    (case a26 => k_is)
    (case l26 => k_is)
    (case c26 => k_is)
    (case k26 => k_is)
    (case a27 => k_is)
    (case l27 => k_is)
    (case c27 => k_is)
    (case k27 => k_is)
    (case a28 => k_is)
    (case l28 => k_is)
    (case c28 => k_is)
    (case k28 => k_is)
    (case a29 => k_is)
    (case l29 => k_is)
    (case c29 => k_is)
    (case k29 => k_is)
    (case a30 => k_is)
    (case i30 => k_is)
    (case l30 => k_is)
    (case c30 => k_is)
    (case k30 => k_is)
    (case lD => k_is)
    (case a31 => k_is)
    (case l31 => k_is)
    (case c31 => k_is)
    (case k31 => k_is)
    (case lS => k_is)
    (case a32 => k_is)
    (case t32 => k_is)
    (case l32 => k_is)
    (case c32 => k_is)
    (case k32 => k_is)
    (case sli => k_is)
    (case jC => k_is)
    (case tC => k_is)
    (case mCR => k_is)
    (case oCR => k_is)
    (case vCR => decide +kernel)
    (case sCR => k_is)
    (case xCR => k_is)
    (case tCR => k_is)
    (case kCR => k_is)
    (case iCR => k_is)
    (case uCR => k_is)
    (case nCR => k_is)
    (case gaCR => k_is)
    (case ggCR => k_is)
    (case hdCR => k_is)
    (case l33 => k_is)
    (case c33 => k_is)
    (case k33 => k_is)
    (case mCU => k_is)
    (case oCU => k_is)
    (case vCU => decide +kernel)
    (case sCU => k_is)
    (case xCU => k_is)
    (case tCU => k_is)
    (case kCU => k_is)
    (case iCU => k_is)
    (case uCU => k_is)
    (case nCU => k_is)
    (case gaCU => k_is)
    (case ggCU => k_is)
    (case hdCU => k_is)
    (case l34 => k_is)
    (case c34 => k_is)
    (case k34 => k_is)
    (case mCB => k_is)
    (case oCB => k_is)
    (case vCB => decide +kernel)
    (case sCB => k_is)
    (case xCB => k_is)
    (case tCB => k_is)
    (case kCB => k_is)
    (case iCB => k_is)
    (case uCB => k_is)
    (case nCB => k_is)
    (case gaCB => k_is)
    (case ggCB => k_is)
    (case hdCB => k_is)
    (case l35 => k_is)
    (case c35 => k_is)
    (case k35 => k_is)
    (case jB => first | k_is | k_exc | decide +kernel | rfl)
    (case xBB => first | k_is | k_exc | decide +kernel | rfl)
    (case pg => k_is)
    (case hd => k_is)
    (case po => k_is)
    (case sa => k_is)
    (case mk => k_is)
    (case kc => k_is)
    (case cc => k_is)
    (case cg => k_is)
    (case ctk => k_is)
    (case co => k_is)
    (case nr => k_is)
    (case nu => k_is)
    (case zg => k_is)
    (case zc => k_is)
    (case zw => k_is)
    (case z0 => k_is)
    (case z1 => k_is)
    (case z2 => k_is)
    (case z3 => k_is)
    (case z4 => k_is)
    (case z5 => k_is)
    (case z6 => k_is)
    (case z7 => k_is)
    (case z8 => k_is)
    (case z9 => k_is)
    (case z10 => k_is)
    (case z11 => k_is)
    (case z12 => k_is)
#print axioms PySem.Challenge.cw_everyfloor_k06_whole_signs_by_known_root_holds
