import PyProof.Rows.All
import Wide.All
import OpenK.AllK
import Wide.FinOn
import HandS.ForMost
import HandS.Wide
import HandS.Codes
import HandS.Gcd
import HandS.IsInst
import HandS.ExcInit
import HandS.ExcField
import HandS.WordsExc
import HandS.Style
import HandS.DeepEq
import HandS.CallLocal
import HandS.Lambda
import HandS.EndOwn
import HandS.Walk
import HandS.ExcIs
import PySem.Challenge.RW_keptqubits_k04_ratios
set_option Elab.async false
set_option linter.all false
set_option maxRecDepth 100000
set_option maxHeartbeats 4000000
namespace KQ
open PySem PySem.Spec PyProof.Rows L2
/-! ### the text -/
def topS (i : Nat) : Stmt := PySem.Challenge.pw_keptqubits_k04_ratios.main.body.getD i (.Pass ⟨0, 0, 0, 0⟩)
abbrev sPen : Stmt := topS 16
abbrev sDraw : Stmt := topS 17
abbrev sPick : Stmt := topS 18
theorem scPen : FnScope ["_law_script", "_law_fold", "_law_cell"] ["_law_script"] (defScope sPen) := ⟨rfl, rfl, rfl, by decide +kernel, rfl, by decide +kernel, by decide +kernel⟩
theorem scDraw : FnScope ["_law_pen_here", "_law_many", "_law_cell", "_law_digit", "_law_mixed"] ["_law_pen_here", "_law_many"] (defScope sDraw) := ⟨rfl, rfl, rfl, by decide +kernel, rfl, by decide +kernel, by decide +kernel⟩
theorem scPick : FnScope ["_law_pen_here", "_law_some"] ["_law_pen_here", "_law_some"] (defScope sPick) := ⟨rfl, rfl, rfl, by decide +kernel, rfl, by decide +kernel, by decide +kernel⟩
/-! ### the pen -/
theorem k12 : ¬ ("cells" : Str) = "at" := by decide +kernel
theorem k13 : ¬ ("cells" : Str) = "digits" := by decide +kernel
theorem k14 : ¬ ("cells" : Str) = "count" := by decide +kernel
theorem k15 : ¬ ("cells" : Str) = "fold" := by decide +kernel
theorem k21 : ¬ ("at" : Str) = "cells" := by decide +kernel
theorem k23 : ¬ ("at" : Str) = "digits" := by decide +kernel
theorem k24 : ¬ ("at" : Str) = "count" := by decide +kernel
theorem k25 : ¬ ("at" : Str) = "fold" := by decide +kernel
theorem k31 : ¬ ("digits" : Str) = "cells" := by decide +kernel
theorem k32 : ¬ ("digits" : Str) = "at" := by decide +kernel
theorem k34 : ¬ ("digits" : Str) = "count" := by decide +kernel
theorem k35 : ¬ ("digits" : Str) = "fold" := by decide +kernel
theorem k41 : ¬ ("count" : Str) = "cells" := by decide +kernel
theorem k42 : ¬ ("count" : Str) = "at" := by decide +kernel
theorem k43 : ¬ ("count" : Str) = "digits" := by decide +kernel
theorem k45 : ¬ ("count" : Str) = "fold" := by decide +kernel
theorem k51 : ¬ ("fold" : Str) = "cells" := by decide +kernel
theorem k52 : ¬ ("fold" : Str) = "at" := by decide +kernel
theorem k53 : ¬ ("fold" : Str) = "digits" := by decide +kernel
theorem k54 : ¬ ("fold" : Str) = "count" := by decide +kernel
def kvsP (c : Addr) (a d n f : Int) : List (Key × V) := [(.inr "cells", .ref c), (.inr "at", .int a), (.inr "digits", .int d), (.inr "count", .int n), (.inr "fold", .int f)]
section
variable (c : Addr) (a d n f z : Int)
theorem vCells : valV (kvsP c a d n f) (.inr "cells" : Key) = some (.ref c) := by simp [kvsP, valV, List.find?]
theorem vAt : valV (kvsP c a d n f) (.inr "at" : Key) = some (.int a) := by simp [kvsP, valV, List.find?, k12]
theorem vDigits : valV (kvsP c a d n f) (.inr "digits" : Key) = some (.int d) := by simp [kvsP, valV, List.find?, k13, k23]
theorem vCount : valV (kvsP c a d n f) (.inr "count" : Key) = some (.int n) := by simp [kvsP, valV, List.find?, k14, k24, k34]
theorem vFold : valV (kvsP c a d n f) (.inr "fold" : Key) = some (.int f) := by simp [kvsP, valV, List.find?, k15, k25, k35, k45]
theorem pAt : putK (kvsP c a d n f) (.inr "at" : Key) (.int z) = kvsP c z d n f := by simp [kvsP, putK, k12, k32, k42, k52]
theorem pDigits : putK (kvsP c a d n f) (.inr "digits" : Key) (.int z) = kvsP c a z n f := by simp [kvsP, putK, k13, k23, k43, k53]
theorem pCount : putK (kvsP c a d n f) (.inr "count" : Key) (.int z) = kvsP c a d z f := by simp [kvsP, putK, k14, k24, k34, k54]
theorem pFold : putK (kvsP c a d n f) (.inr "fold" : Key) (.int z) = kvsP c a d n z := by simp [kvsP, putK, k15, k25, k35, k45]
theorem mPen : mergeK [] [((.inr "cells" : Key), V.ref c), (.inr "at", .int a), (.inr "digits", .int d), (.inr "count", .int n), (.inr "fold", .int f)] = kvsP c a d n f := by
  simp [mergeK, kvsP, putK, k12, k13, k14, k15, k23, k24, k25, k34, k35, k45]
end
theorem getS {H : Hp} {a : Addr} {kvs : List (Key × V)} {x : Str} {v : V} (e : H a = some (.dK kvs)) (h : valV kvs (.inr x : Key) = some v) : DGet H a (.str x) (some v) := .inl ⟨kvs, .inr x, .inl e, rfl, h.symm⟩
theorem putS {H : Hp} {a : Addr} {kvs kvs' : List (Key × V)} {x : Str} {v : V} (e : H a = some (.dK kvs)) (hl : kvs.length < sizeLine) (h : putK kvs (.inr x : Key) v = kvs') : DPut H a (.str x) v (upd H a (.dK kvs')) := .inl ⟨kvs, .inr x, e, rfl, hl, by rw [h]⟩
theorem lenP {c : Addr} {a d n f : Int} : (kvsP c a d n f).length < sizeLine := small1000 (by show 5 ≤ 1000; decide)
/-- a pen stands at p, its cells at c, n draws so far -/
def PenAt (H : Hp) (p c : Addr) (n : Nat) : Prop := ∃ (ns : List Int) (a d f : Int), H p = some (.dK (kvsP c a d n f)) ∧ H c = some (.lst (ns.map V.int)) ∧ ns.length ≤ 63 ∧ 0 ≤ a ∧ 0 ≤ d ∧ 0 ≤ f ∧ f < 2147483587
theorem PenAt.ne {H : Hp} {p c : Addr} {n : Nat} (h : PenAt H p c n) : p ≠ c := by
  obtain ⟨ns, a, d, f, hp, hc, _⟩ := h
  exact ne_of hp hc (by intro z; cases z)
theorem PenAt.same {H H' : Hp} {p c : Addr} {n : Nat} (h : PenAt H p c n) (hp : H' p = H p) (hc : H' c = H c) : PenAt H' p c n := by
  obtain ⟨ns, a, d, f, e1, e2, r⟩ := h
  exact ⟨ns, a, d, f, hp.trans e1, hc.trans e2, r⟩
theorem PenAt.some {H : Hp} {p c : Addr} {n : Nat} (h : PenAt H p c n) : (∃ o, H p = some o) ∧ ∃ o, H c = some o := by
  obtain ⟨ns, a, d, f, e1, e2, r⟩ := h
  exact ⟨⟨_, e1⟩, ⟨_, e2⟩⟩
theorem PenAt.ext {H H' : Hp} {p c : Addr} {n : Nat} (h : PenAt H p c n) (s : Same H H') : PenAt H' p c n := by
  obtain ⟨⟨o, e1⟩, o', e2⟩ := h.some
  exact h.same ((s _ _ e1).trans e1.symm) ((s _ _ e2).trans e2.symm)
theorem sqL_pen {K : PySem.W.Frag} {H H' : Hp} {p y : Addr} {xs : List V} {kv : List (Key × V)} (hk : ∀ b, b ≠ p → H' b = H b) (hp : H p = some (.dK kv)) (h : SqL K H y xs) : SqL K H' y xs := by
  rcases h with (h | ⟨ob, h⟩) | h
  · exact .inl (.inl ((hk y (ne_of h hp (by intro z; cases z))).trans h))
  · exact .inl (.inr ⟨ob, (hk y (ne_of h hp (by intro z; cases z))).trans h⟩)
  · exact .inr h
theorem sqT_pen {K : PySem.W.Frag} {H H' : Hp} {p y : Addr} {xs : List V} {kv : List (Key × V)} (hk : ∀ b, b ≠ p → H' b = H b) (hp : H p = some (.dK kv)) (h : SqT K H y xs) : SqT K H' y xs := by
  rcases h with (h | ⟨ob, h⟩) | h
  · exact .inl (.inl ((hk y (ne_of h hp (by intro z; cases z))).trans h))
  · exact .inl (.inr ⟨ob, (hk y (ne_of h hp (by intro z; cases z))).trans h⟩)
  · exact .inr h
theorem ix_or {X : Cx} {r1 r2 : R2} (h1 : IxR X r1) (h2 : IxR X r2) : IxR X (fun x y H Q => r1 x y H Q ∨ r2 x y H Q) := by
  intro val sl pins st σ G x y v u Q J rx ry h hs
  rcases h with h | h
  · exact h1 val sl pins st σ G x y v u Q J rx ry h hs
  · exact h2 val sl pins st σ G x y v u Q J rx ry h hs
def spPen (K : PySem.W.Frag) : Sp := fun vs H Q _ => ∃ (a : Addr) (ns : List Int), vs = [.ref a] ∧ SqL K H a (ns.map V.int) ∧ ns.length ≤ 63 ∧
  ∀ H' p c, Same H H' → H p = none → H c = none → PenAt H' p c 0 → Q (.ref p) H'
def spDraw : Sp := fun vs H Q _ => ∃ (p c : Addr) (n : Nat) (m : Int), vs = [.ref p, .int m] ∧ PenAt H p c n ∧ n < 1000000 ∧ 0 < m ∧ m.natAbs < 2 ^ 200 ∧
  ∀ (r : Int) H', 0 ≤ r → r < m → PenAt H' p c (n + 1) → (∀ b, b ≠ p → H' b = H b) → Q (.int r) H'
def spPick (K : PySem.W.Frag) : Sp := fun vs H Q _ => ∃ (p c q : Addr) (n : Nat) (xs : List V), vs = [.ref p, .ref q] ∧ PenAt H p c n ∧ n < 1000000 ∧ (SqL K H q xs ∨ SqT K H q xs) ∧ xs ≠ [] ∧ xs.length ≤ 1000 ∧
  ∀ (i : Nat) (v : V) H', xs[i]? = some v → PenAt H' p c (n + 1) → (∀ b, b ≠ p → H' b = H b) → Q v H'
section
variable {P : Program} {w : World} {K : PySem.W.Frag} {mg : Str → Option Value} {base : Heap}
theorem ok_pen {f : Addr} {fd : FuncData} {k : Nat} (F : Fun K "_law_pen" "_law_pen" sPen f fd) (mi : mg "int" = none) (ml : mg "list" = none) : FnOk P w K mg base CX0 (k + 1) f fd ["_law_script"] (spPen K) := by
  refine F.ok scPen (fun vs H Q E h => ?_) (fun cdv A outer s H vs Q E hr h => ?_)
  · obtain ⟨a, ns, rfl, _⟩ := h
    rfl
  · obtain ⟨a, ns, rfl, hS, hlen, q⟩ := h
    refine ⟨_, pss_cons (ps_set (i := 1) scPen.nd rfl (.inl rfl) pe_int)
      (pss_cons (ps_for PassesOwn.never rfl (pi_list (pv 0)) (pg_name (i := 2) scPen.nd rfl (.inl rfl))
        (pss_one (ps_set (i := 1) scPen.nd rfl (.inl rfl) (pe_op op_mod (pe_callTy call_int1 (by rfl) mi (by decide +kernel) (pa_cons (pe_op op_add (pe_op op_mul (pv 1) pe_int) (pv 2)) pa_nil)) pe_int))))
      (pss_one (ps_ret (pe_disp (pps_cons pe_str (pe_callTy call_list_of (by rfl) ml (by decide +kernel) (pa_cons (pv 0) pa_nil)) (pps_cons pe_str pe_int (pps_cons pe_str pe_int (pps_cons pe_str pe_int (pps_cons pe_str (pv 1) pps_nil))))) (by rfl) (by rfl) (fun z => by cases z) (by decide))))), ?_⟩
    refine ⟨_, rfl, a, rfl, ⟨_, hS⟩, for_list (K := K) (a := a) (xs := ns.map V.int) (fun i σ H2 => ∃ (g : Int) (v : Option V), σ = [some (.ref a), some (.int g), v] ∧ H2 = H ∧ 0 ≤ g ∧ g < 1000000007)
      ⟨0, none, rfl, rfl, by decide, by decide⟩ (fun i σ H2 _ ⟨_, _, _, e, _⟩ => by rw [e]; exact hS) ?_ ?_⟩
    · rintro i y σ H2 hi ⟨g, v, rfl, rfl, h0, h1⟩
      obtain ⟨z, rfl⟩ : ∃ z, y = V.int z := by
        rw [List.getElem?_map] at hi
        cases e : ns[i]? with
        | none => rw [e] at hi; cases hi
        | some z => rw [e] at hi; exact ⟨z, (Option.some.inj hi).symm⟩
      refine ⟨_, rfl, _, _, rfl, rfl, .inr ⟨by decide, by decide⟩, _, rfl, _, _, rfl, rfl, .inl ⟨_, rfl, _, _, rfl, rfl, (by show (0 : Int) < 1000000007; decide), ?_⟩⟩
      exact ⟨_, _, rfl, rfl, Int.emod_nonneg _ (by decide), Int.emod_lt_of_pos _ (by decide)⟩
    · rintro σ H2 ⟨g, v, rfl, rfl, h0, h1⟩
      intro p np
      refine ⟨.ref a, rfl, a, ns.map V.int, rfl, .inl ?_, fun c nc => ?_⟩
      · exact Same.seq (H := H2) (fun b o e => by rw [upd_ne (ne_of_none e np)]; exact e) hS
      have ncp : c ≠ p := fun e => by rw [e, upd_same] at nc; cases nc
      have nc2 : H2 c = none := by rw [upd_ne ncp] at nc; exact nc
      refine ⟨_, rfl, ?_⟩
      refine ⟨by rw [upd_ne ncp.symm, upd_same], [((.inr "cells" : Key), V.ref c), (.inr "at", .int 0), (.inr "digits", .int 0), (.inr "count", .int 0), (.inr "fold", .int g)], rfl, (by show 5 ≤ 15; decide), ?_⟩
      rw [mPen]
      refine q _ p c (fun b o e => ?_) np nc2 ⟨ns, 0, 0, g, upd_same, ?_, hlen, by decide, by decide, h0, by omega⟩
      · rw [upd_ne (ne_of_none e np), upd_ne (ne_of_none e nc2), upd_ne (ne_of_none e np)]
        exact e
      · rw [upd_ne ncp, upd_same]
theorem ok_draw {f : Addr} {fd : FuncData} {k : Nat} (F : Fun K "_law_draw" "_law_draw" sDraw f fd) (mi : mg "int" = none) (ml : mg "len" = none) : FnOk P w K mg base CX0 (k + 1) f fd ["_law_pen_here", "_law_many"] spDraw := by
  refine F.ok scDraw (fun vs H Q E h => ?_) (fun cdv A outer s H vs Q E hr h => ?_)
  · obtain ⟨p, c, n, m, rfl, _⟩ := h
    rfl
  · obtain ⟨p, c, n, m, rfl, hP, hn, hm, hm9, q⟩ := h
    have hu := hu_of hr
    have hpc := hP.ne
    obtain ⟨ns, a0, d0, f0, hp, hc, hlen, ha, hd, hf0, hf1⟩ := hP
    refine ⟨_, pss_cons (ps_dput hu (pv 0) pe_str (pe_op op_add (pe_dget hu (pv 0) pe_str (fun _ _ => rfl)) pe_int) rfl)
      (C8.pss_cut (ps_if (pw_and (pt_cmpR op_eq (pe_dget hu (pv 0) pe_str (fun _ _ => rfl)) pe_int (nomark _))
            (pw_and1 (pt_cmpR op_lt (pe_dget hu (pv 0) pe_str (fun _ _ => rfl)) (pe_callB call_len_seq (by rfl) ml PySem.boot_len (pa_cons (pe_dget hu (pv 0) pe_str (fun _ _ => rfl)) pa_nil)) (nomark _)))).pt
          (pss_cons (ps_set (i := 2) scDraw.nd rfl (.inl rfl) (pe_ix ix_list (pe_dget hu (pv 0) pe_str (fun _ _ => rfl)) (pe_dget hu (pv 0) pe_str (fun _ _ => rfl)) (fun _ _ => rfl)))
          (pss_cons (ps_dput hu (pv 0) pe_str (pe_op op_add (pe_dget hu (pv 0) pe_str (fun _ _ => rfl)) pe_int) rfl)
          (pss_one (ps_if (pt_cmpR op_ge (pv 2) (pe_op op_pow pe_int pe_int) (nomark _))
            (pss_one (ps_dput hu (pv 0) pe_str (pe_op op_sub (pv 2) (pe_op op_pow pe_int pe_int)) rfl))
            (pss_one (ps_dput hu (pv 0) pe_str (pe_op op_mod (pe_callTy call_int1 (by rfl) mi (by decide +kernel) (pa_cons (pe_op op_add (pe_op op_mul (pe_dget hu (pv 0) pe_str (fun _ _ => rfl)) pe_int) (pv 2)) pa_nil)) pe_int) rfl))))))
          pss_nil)
      (pss_cons (ps_if (pt_cmpR op_gt (pe_dget hu (pv 0) pe_str (fun _ _ => rfl)) pe_int (nomark _))
          (pss_cons (ps_set (i := 3) scDraw.nd rfl (.inl rfl) (pe_op op_mod (pe_callTy call_int1 (by rfl) mi (by decide +kernel) (pa_cons (pe_dget hu (pv 0) pe_str (fun _ _ => rfl)) pa_nil)) (pv 1)))
          (pss_cons (ps_dput hu (pv 0) pe_str (pe_op op_fdivW (pe_dget hu (pv 0) pe_str (fun _ _ => rfl)) (pv 1)) rfl)
          (pss_one (ps_ret (pv 3)))))
          pss_nil)
      (pss_cons (ps_set (i := 4) scDraw.nd rfl (.inl rfl) (pe_op op_add (pe_op op_add (pe_dget hu (pv 0) pe_str (fun _ _ => rfl)) (pe_op op_mul (pe_dget hu (pv 0) pe_str (fun _ _ => rfl)) pe_int)) pe_int))
      (pss_one (ps_ret (pe_op op_mod (pe_op op_fdivW (pe_callTy call_int1 (by rfl) mi (by decide +kernel) (pa_cons (pe_op op_mod (pe_op op_pow (pv 4) pe_int) pe_int) pa_nil)) pe_int) (pv 1))))))), ?_⟩
    -- count
    refine ⟨_, rfl, p, _, rfl, getS hp (vCount ..), _, _, rfl, rfl, _, rfl, p, _, rfl, putS hp lenP (pCount ..), ?_⟩
    have up : ∀ {o : HO}, (upd H p o) p = some o := fun {o} => upd_same
    have uc : ∀ {o : HO}, (upd H p o) c = some (.lst (ns.map V.int)) := fun {o} => by rw [upd_ne hpc.symm]; exact hc
    -- the cell
    refine ⟨fun σ' H' => ∃ (a d g : Int) (v2 : Option V), σ' = [some (.ref p), some (.int m), v2, none, none] ∧ H' = upd H p (.dK (kvsP c a d ((n : Int) + 1) g)) ∧ 0 ≤ a ∧ 0 ≤ d ∧ 0 ≤ g ∧ g < 2147483587, ?_, ?_⟩
    · refine ⟨_, rfl, p, _, rfl, getS up (vDigits ..), rfl, _, rfl, ite2 (fun e1 => ?_) (fun e1 => ?_)⟩
      · refine ⟨_, rfl, p, _, rfl, getS up (vAt ..), _, rfl, p, _, rfl, getS up (vCells ..), c, _, rfl, .inl (SqL.of uc), _, _, rfl, rfl, _, rfl, ite2 (fun e2 => ?_) (fun e2 => ?_)⟩
        · have e2' : a0 < (ns.length : Int) := by
            have z := of_decide_eq_true e2
            rw [List.length_map] at z
            exact z
          have hat : (ns.map V.int)[a0.toNat]? = some (V.int (ns[a0.toNat]'(by omega))) := by
            rw [List.getElem?_map, List.getElem?_eq_getElem (by omega)]
            rfl
          refine ⟨_, rfl, p, _, rfl, getS up (vCells ..), _, rfl, p, _, rfl, getS up (vAt ..), c, _, _, _, rfl, rfl, SqL.of uc, at_of (by omega) hat, ?_⟩
          refine ⟨_, rfl, p, _, rfl, getS up (vAt ..), _, _, rfl, rfl, _, rfl, p, _, rfl, putS up lenP (pAt ..), ?_⟩
          rw [upd_upd]
          refine ⟨_, rfl, _, _, rfl, rfl, ⟨by decide, by decide, by decide⟩, _, _, rfl, rfl, _, rfl, ite2 (fun e3 => ?_) (fun e3 => ?_)⟩
          · refine ⟨_, rfl, _, _, rfl, rfl, ⟨by decide, by decide, by decide⟩, _, _, rfl, rfl, _, rfl, p, _, rfl, putS up lenP (pDigits ..), ?_⟩
            rw [upd_upd]
            have e3' := of_decide_eq_true e3
            exact ⟨_, _, _, _, rfl, rfl, by omega, by omega, hf0, hf1⟩
          · refine ⟨_, rfl, p, _, rfl, getS up (vFold ..), _, _, rfl, rfl, .inr ⟨by decide, by decide⟩, _, rfl, _, _, rfl, rfl, .inl ⟨_, rfl, _, _, rfl, rfl, (by show (0 : Int) < 2147483587; decide), _, rfl, p, _, rfl, putS up lenP (pFold ..), ?_⟩⟩
            rw [upd_upd]
            exact ⟨_, _, _, _, rfl, rfl, by omega, hd, Int.emod_nonneg _ (by decide), Int.emod_lt_of_pos _ (by decide)⟩
        · exact ⟨_, _, _, _, rfl, rfl, ha, hd, hf0, hf1⟩
      · refine iteF ?_
        exact ⟨_, _, _, _, rfl, rfl, ha, hd, hf0, hf1⟩
    · rintro σ' H' ⟨a, d, g, v2, rfl, rfl, ha', hd', hg0, hg1⟩
      have fin : ∀ (r a d g : Int), 0 ≤ r → r < m → 0 ≤ a → 0 ≤ d → 0 ≤ g → g < 2147483587 → Q (.int r) (upd H p (.dK (kvsP c a d ((n : Int) + 1) g))) := fun r a d g r0 r1 a0 d0 g0 g1 =>
        q r _ r0 r1 ⟨ns, a, d, g, up, uc, hlen, a0, d0, g0, g1⟩ fun b hb => upd_ne hb
      refine ⟨_, rfl, p, _, rfl, getS up (vDigits ..), _, _, rfl, rfl, _, rfl, ite2 (fun e1 => ?_) (fun e1 => ?_)⟩
      · refine ⟨_, rfl, p, _, rfl, getS up (vDigits ..), .inl ⟨_, rfl, _, rfl, _, _, rfl, rfl, hm, ?_⟩⟩
        refine ⟨_, rfl, p, _, rfl, getS up (vDigits ..), _, rfl, _, _, rfl, rfl, wide_div hm hm9 (by decide) (by decide), _, rfl, p, _, rfl, putS up lenP (pDigits ..), ?_⟩
        rw [upd_upd]
        refine ⟨_, rfl, ?_⟩
        exact fin _ _ _ _ (Int.emod_nonneg _ (by omega)) (Int.emod_lt_of_pos _ hm) ha' (Int.ediv_nonneg hd' (by omega)) hg0 hg1
      · refine ⟨_, rfl, p, _, rfl, getS up (vFold ..), _, rfl, p, _, rfl, getS up (vCount ..), _, _, rfl, rfl, .inr ⟨by decide, by decide⟩, _, _, rfl, rfl, _, _, rfl, rfl, ?_⟩
        refine ⟨_, rfl, _, _, rfl, rfl, ⟨by decide, by decide, ?_⟩, _, _, rfl, rfl, (by show (0 : Int) < 2305843009213693951; decide), .inl ⟨_, rfl, _, _, rfl, rfl, wide_div (b := 200) (by decide) (by decide) (by decide) (by decide), _, rfl, _, _, rfl, rfl, hm, ?_⟩⟩
        · omega
        · exact fin _ _ _ _ (Int.emod_nonneg _ (by omega)) (Int.emod_lt_of_pos _ hm) ha' hd' hg0 hg1
theorem ok_pick {f fD : Addr} {fd fdD : FuncData} {k : Nat} (F : Fun K "_law_pick" "_law_pick" sPick f fd) (FD : Fun K "_law_draw" "_law_draw" sDraw fD fdD) (bD : Binds K fdD ["_law_pen_here", "_law_many"] []) (gD : mg "_law_draw" = some (.ref fD)) (mi : mg "int" = none) (ml : mg "len" = none) :
    FnOk P w K mg base CX0 (k + 2) f fd ["_law_pen_here", "_law_some"] (spPick K) := by
  have GD : FnOk P w K mg base CX0 (k + 1) fD fdD ["_law_pen_here", "_law_many"] spDraw := ok_draw FD mi ml
  refine F.ok scPick (fun vs H Q E h => ?_) (fun cdv A outer s H vs Q E hr h => ?_)
  · obtain ⟨p, c, y, n, xs, rfl, _⟩ := h
    rfl
  · obtain ⟨p, c, y, n, xs, rfl, hP, hn, hS, h0, hl, q⟩ := h
    refine ⟨_, pss_one (ps_ret (pe_ix (ix_or ix_list ix_tup) (pv 1) (pe_call GD hr (by rfl) gD FD.kp bD .nil pass0 (pa_cons (pv 0) (pa_cons (pe_callB call_len_seq (by rfl) ml PySem.boot_len (pa_cons (pv 1) pa_nil)) pa_nil))) (fun _ _ => rfl))), ?_⟩
    have hpos : 0 < xs.length := List.length_pos_iff.mpr h0
    refine ⟨_, rfl, _, rfl, _, rfl, y, xs, rfl, hS, p, c, n, _, rfl, hP, hn, by omega, ?_, fun r H' r0 r1 hP' hk => ?_⟩
    · have e : (xs.length : Int).natAbs = xs.length := by omega
      rw [e]
      exact Nat.lt_of_le_of_lt hl (by decide)
    · obtain ⟨j, rfl⟩ : ∃ j : Nat, r = (j : Int) := ⟨r.toNat, by omega⟩
      have hj : j < xs.length := by omega
      have hx : xs[j]? = some xs[j] := List.getElem?_eq_getElem hj
      obtain ⟨ns, a0, d0, f0, ep, _⟩ := hP
      rcases hS with hS | hS
      · exact .inl ⟨y, xs, _, _, rfl, rfl, sqL_pen hk ep hS, atI_nat hx, q j _ H' hx hP' hk⟩
      · exact .inr ⟨y, xs, _, _, rfl, rfl, sqT_pen hk ep hS, atI_nat hx, q j _ H' hx hP' hk⟩
end
end KQ

namespace KQ
open PySem PySem.Spec PyProof.Rows L2
/-! ### the mathematics of lowest terms -/
def cm (t b : Int) : Int := if b < 0 then -((Nat.gcd t.natAbs b.natAbs : Nat) : Int) else ((Nat.gcd t.natAbs b.natAbs : Nat) : Int)
def Lw (t b : Int) : Int × Int := (t.fdiv (cm t b), b.fdiv (cm t b))
theorem gcd_pos {t b : Int} (h : b ≠ 0) : 0 < Nat.gcd t.natAbs b.natAbs := Nat.gcd_pos_of_pos_right _ (by omega)
theorem cm_ne {t b : Int} (h : b ≠ 0) : cm t b ≠ 0 := by
  have g := gcd_pos (t := t) h
  unfold cm
  split <;> omega
theorem cm_abs (t b : Int) : (cm t b).natAbs = Nat.gcd t.natAbs b.natAbs := by
  unfold cm
  split <;> simp
theorem cm_dvd_l (t b : Int) : cm t b ∣ t := Int.natAbs_dvd_natAbs.mp (by rw [cm_abs]; exact Nat.gcd_dvd_left _ _)
theorem cm_dvd_r (t b : Int) : cm t b ∣ b := Int.natAbs_dvd_natAbs.mp (by rw [cm_abs]; exact Nat.gcd_dvd_right _ _)
theorem fdiv_abs {a c : Int} (hc : c ≠ 0) (h : c ∣ a) : (a.fdiv c).natAbs = a.natAbs / c.natAbs := by
  obtain ⟨k, rfl⟩ := h
  rw [Int.mul_fdiv_cancel_left _ hc, Int.natAbs_mul, Nat.mul_div_cancel_left _ (by omega)]
theorem Lw_abs {t b : Int} (h : b ≠ 0) : (Lw t b).1.natAbs ≤ t.natAbs ∧ (Lw t b).2.natAbs ≤ b.natAbs := by
  unfold Lw
  constructor
  · show (t.fdiv (cm t b)).natAbs ≤ _
    rw [fdiv_abs (cm_ne h) (cm_dvd_l t b)]
    exact Nat.div_le_self _ _
  · show (b.fdiv (cm t b)).natAbs ≤ _
    rw [fdiv_abs (cm_ne h) (cm_dvd_r t b)]
    exact Nat.div_le_self _ _
theorem Lw_pos {t b : Int} (h : b ≠ 0) : 0 < (Lw t b).2 := by
  show 0 < b.fdiv (cm t b)
  have g := gcd_pos (t := t) h
  have d := cm_dvd_r t b
  obtain ⟨k, hk⟩ := d
  have e : b.fdiv (cm t b) = k := by
    have z := Int.mul_fdiv_cancel_left k (cm_ne (t := t) h)
    rw [← hk] at z
    exact z
  rw [e]
  have hc : (b < 0 ∧ cm t b < 0) ∨ (0 < b ∧ 0 < cm t b) := by
    unfold cm
    split <;> omega
  rcases hc with ⟨h1, h2⟩ | ⟨h1, h2⟩
  · by_cases hk0 : 0 < k
    · exact hk0
    · have : 0 ≤ cm t b * k := Int.mul_nonneg_of_nonpos_of_nonpos (by omega) (by omega)
      omega
  · by_cases hk0 : 0 < k
    · exact hk0
    · have : cm t b * k ≤ 0 := Int.mul_nonpos_of_nonneg_of_nonpos (by omega) (by omega)
      omega
theorem Lw_again {t b : Int} (h : b ≠ 0) : Lw (Lw t b).1 (Lw t b).2 = Lw t b := by
  have hp := Lw_pos (t := t) h
  have h1 : (Lw t b).1.natAbs = t.natAbs / Nat.gcd t.natAbs b.natAbs := by
    show (t.fdiv (cm t b)).natAbs = _
    rw [fdiv_abs (cm_ne h) (cm_dvd_l t b), cm_abs]
  have h2 : (Lw t b).2.natAbs = b.natAbs / Nat.gcd t.natAbs b.natAbs := by
    show (b.fdiv (cm t b)).natAbs = _
    rw [fdiv_abs (cm_ne h) (cm_dvd_r t b), cm_abs]
  have hg : Nat.gcd (Lw t b).1.natAbs (Lw t b).2.natAbs = 1 := by
    rw [h1, h2, Nat.gcd_div (Nat.gcd_dvd_left _ _) (Nat.gcd_dvd_right _ _), Nat.div_self (gcd_pos h)]
  have hcm : cm (Lw t b).1 (Lw t b).2 = 1 := by
    unfold cm
    rw [hg, if_neg (by omega)]
    rfl
  show ((Lw t b).1.fdiv (cm (Lw t b).1 (Lw t b).2), (Lw t b).2.fdiv (cm (Lw t b).1 (Lw t b).2)) = Lw t b
  rw [hcm, Int.fdiv_one, Int.fdiv_one]
/-! ### kinds of values -/
inductive Kn (H : Hp) : V → Prop where
  | non : Kn H .non
  | bl (b : Bool) : Kn H (.bl b)
  | int (i : Int) : Kn H (.int i)
  | str (x : Str) : Kn H (.str x)
  | lst {p : Addr} {xs : List V} (e : H p = some (.lst xs)) : Kn H (.ref p)
  | tup {p : Addr} {xs : List V} (e : H p = some (.tup xs)) : Kn H (.ref p)
def isI : V → Bool
  | .int _ => true
  | _ => false
def Num (H : Hp) (v : V) (t b : Int) : Prop := (v = .int t ∧ b = 1) ∨ ∃ p, v = .ref p ∧ H p = some (.tup [.int t, .int b]) ∧ 0 < b
theorem Num.pos {H : Hp} {v : V} {t b : Int} (h : Num H v t b) : 0 < b := by
  rcases h with ⟨_, h⟩ | ⟨p, _, _, h⟩ <;> omega
theorem Num.same {H H' : Hp} {v : V} {t b : Int} (s : Same H H') (h : Num H v t b) : Num H' v t b := by
  rcases h with h | ⟨p, e, h, z⟩
  · exact .inl h
  · exact .inr ⟨p, e, s _ _ h, z⟩
/-- items of the tuples that are no pairs -/
def Sc (v : V) : Prop := v = .non ∨ (∃ b, v = .bl b) ∨ ∃ i, v = .int i
def NoPair (xs : List V) : Prop := xs.length ≠ 2 ∨ ∃ x y, xs = [x, y] ∧ Sc x ∧ Sc y ∧ ∀ t b : Int, x = .int t → y = .int b → b ≤ 0
def Bad (H : Hp) (v : V) : Prop := v = .non ∨ (∃ b, v = .bl b) ∨ (∃ x : Str, v = .str x) ∨ (∃ p xs, v = .ref p ∧ H p = some (.lst xs)) ∨ ∃ p xs, v = .ref p ∧ H p = some (.tup xs) ∧ xs.length ≤ 1000 ∧ NoPair xs
theorem Bad.same {H H' : Hp} {v : V} (s : Same H H') (h : Bad H v) : Bad H' v := by
  rcases h with h | h | h | ⟨p, xs, e, h⟩ | ⟨p, xs, e, h, z⟩
  · exact .inl h
  · exact .inr (.inl h)
  · exact .inr (.inr (.inl h))
  · exact .inr (.inr (.inr (.inl ⟨p, xs, e, s _ _ h⟩)))
  · exact .inr (.inr (.inr (.inr ⟨p, xs, e, s _ _ h, z⟩)))
theorem Bad.kn {H : Hp} {v : V} (h : Bad H v) : Kn H v ∧ isI v = false := by
  rcases h with h | ⟨b, h⟩ | ⟨x, h⟩ | ⟨p, xs, h, e⟩ | ⟨p, xs, h, e, z⟩ <;> subst h
  · exact ⟨.non, rfl⟩
  · exact ⟨.bl b, rfl⟩
  · exact ⟨.str x, rfl⟩
  · exact ⟨.lst e, rfl⟩
  · exact ⟨.tup e, rfl⟩
/-- the type of a value, by its kind -/
def tyN (H : Hp) : V → String → Prop := fun v n => ∀ K, TyX K H v (.type n)
theorem Kn.ty {H : Hp} {v : V} (h : Kn H v) : ∃ n : String, (∀ K, TyX K H v (.type n)) ∧ ((isI v = true ∧ n = "int") ∨ (isI v = false ∧ (n = "NoneType" ∨ n = "bool" ∨ n = "str" ∨ n = "list" ∨ n = "tuple"))) := by
  cases h with
  | non => exact ⟨_, fun K => .base .non, .inr ⟨rfl, .inl rfl⟩⟩
  | bl b => exact ⟨_, fun K => .base (.bl b), .inr ⟨rfl, .inr (.inl rfl)⟩⟩
  | int i => exact ⟨_, fun K => .base (.int i), .inl ⟨rfl, rfl⟩⟩
  | str x => exact ⟨_, fun K => .base (.str x), .inr ⟨rfl, .inr (.inr (.inl rfl))⟩⟩
  | lst e => exact ⟨_, fun K => .base (.lst e), .inr ⟨rfl, .inr (.inr (.inr (.inl rfl)))⟩⟩
  | tup e => exact ⟨_, fun K => .base (.tup e), .inr ⟨rfl, .inr (.inr (.inr (.inr rfl)))⟩⟩
/-! ### the program's defs -/
abbrev sIsI : Stmt := topS 5
abbrev sRat : Stmt := topS 8
abbrev sPair : Stmt := topS 6
abbrev sLow : Stmt := topS 14
abbrev sInitB : Stmt := inClass (topS 3) 0
theorem scIsI : FnScope ["value"] ["value"] (defScope sIsI) := ⟨rfl, rfl, rfl, by decide +kernel, rfl, by decide +kernel, by decide +kernel⟩
theorem scRat : FnScope ["number", "top", "bottom"] ["number"] (defScope sRat) := ⟨rfl, rfl, rfl, by decide +kernel, rfl, by decide +kernel, by decide +kernel⟩
theorem scPair : FnScope ["value", "top", "bottom"] ["value"] (defScope sPair) := ⟨rfl, rfl, rfl, by decide +kernel, rfl, by decide +kernel, by decide +kernel⟩
theorem scLow : FnScope ["top", "bottom", "common"] ["top", "bottom"] (defScope sLow) := ⟨rfl, rfl, rfl, by decide +kernel, rfl, by decide +kernel, by decide +kernel⟩
theorem scInitB : FnScope ["self", "what", "number"] ["self", "what", "number"] (defScope sInitB) := ⟨rfl, rfl, rfl, by decide +kernel, rfl, by decide +kernel, by decide +kernel⟩
/-- built-in names that the program asks -/
structure Bl (mg : Str → Option Value) : Prop where
  isi : mg "isinstance" = none
  int : mg "int" = none
  bool : mg "bool" = none
  tuple : mg "tuple" = none
  len : mg "len" = none
  abs : mg "abs" = none
  range : mg "range" = none
  repr : mg "repr" = none
  all : mg "all" = none
  list : mg "list" = none
  gcd : mg "gcd" = some (.builtin "math.gcd")
def spIsI : Sp := fun vs H Q _ => ∃ v, vs = [v] ∧ Kn H v ∧ Q (.bl (isI v)) H
def spPair : Sp := fun vs H Q _ => ∃ v, vs = [v] ∧ Kn H v ∧ ((∃ t b, Num H v t b ∧ Q (.bl true) H) ∨ (Bad H v ∧ Q (.bl false) H))
def big (i : Int) : Prop := i.natAbs < 2 ^ 2000
def spLow : Sp := fun vs H Q _ => ∃ t b : Int, vs = [.int t, .int b] ∧ b ≠ 0 ∧ big t ∧ big b ∧ ∀ H' p, Same H H' → H p = none → H' p = some (.tup [.int (Lw t b).1, .int (Lw t b).2]) → Q (.ref p) H'
def xdB (w v : V) : List (Str × V) := [("number", v), ("what", w)]
/-- BadNumber(w, v) leaves the call -/
def Rz (C : Addr) (w v : V) (H : Hp) (E : XK) : Prop := ∀ d H', Same H H' → H' d = some (.xd (xdB w v)) → E (.ref C) (some d) H'
theorem Rz.same {C : Addr} {w v : V} {H H1 : Hp} {E : XK} (s : Same H H1) (h : Rz C w v H E) : Rz C w v H1 E := fun d H' s' e => h d H' (s.trans s') e
def spInitB (C : Addr) : Sp := fun vs H Q _ => ∃ (a : Addr) (y0 y1 : V), vs = [.ref a, y0, y1] ∧ H a = some (exo a C none) ∧
  ∀ H' d, H d = none → d ≠ a → H' a = some (exo a C (some d)) → H' d = some (exd d (xdB y0 y1)) → (∀ b o, H b = some o → b ≠ a → H' b = some o) → Q .non H'
def spRat (C : Addr) : Sp := fun vs H Q E => ∃ v, vs = [v] ∧ ((∃ t b, Num H v t b ∧ big t ∧ big b ∧ ∀ H' p, Same H H' → H p = none → H' p = some (.tup [.int (Lw t b).1, .int (Lw t b).2]) → Q (.ref p) H') ∨ (Bad H v ∧ Rz C (.str "ratio") v H E))
theorem same_new {H : Hp} {r : Addr} {o : HO} (n : H r = none) : Same H (upd H r o) := fun b u e => by
  rw [upd_ne (ne_of_none e n)]
  exact e
section
variable {X : Cx}
/-- // by any divisor but 0 -/
theorem op_fdivZ : OpR X (binaryOp .FloorDiv) (rI (fun _ j => j ≠ 0 ∧ j.natAbs.log2 < 9000) fun i j => .int (i.fdiv j)) := opI fun i j _ _ _ _ _ hc q => floordiv_int hc.1 q (.inl (PyProof.noPylong_of_log2 hc.2))
end
theorem bootI : bootBuiltins "int" = some (.type "int") := by decide +kernel
theorem bootB : bootBuiltins "bool" = some (.type "bool") := by decide +kernel
theorem bootT : bootBuiltins "tuple" = some (.type "tuple") := by decide +kernel
section
variable {P : Program} {w : World} {K : PySem.W.Frag} {mg : Str → Option Value} {base : Heap}
theorem ok_isI {f : Addr} {fd : FuncData} {k : Nat} (F : Fun K "is_integer" "is_integer" sIsI f fd) (B : Bl mg) : FnOk P w K mg base CX0 (k + 1) f fd ["value"] spIsI := by
  refine F.ok scIsI (fun vs H Q E h => ?_) (fun cdv A outer s H vs Q E hr h => ?_)
  · obtain ⟨v, rfl, _⟩ := h
    rfl
  · obtain ⟨v, rfl, hk, q⟩ := h
    refine ⟨_, pss_one (ps_ret (pe_and (pe_callB call_isi (by rfl) B.isi PyProof.Rows.boot_isinstance (pa_cons (pv 0) (pa_cons (pe_bltn (v := .ty "int") (by rfl) B.int bootI rfl) pa_nil)))
      (pe_one (pe_not (pe_callB call_isi (by rfl) B.isi PyProof.Rows.boot_isinstance (pa_cons (pv 0) (pa_cons (pe_bltn (v := .ty "bool") (by rfl) B.bool bootB rfl) pa_nil))))))), ?_⟩
    obtain ⟨n, ty, h⟩ := hk.ty
    rcases h with ⟨hi, rfl⟩ | ⟨hi, rfl | rfl | rfl | rfl | rfl⟩ <;> rw [hi] at q
    · refine ⟨_, rfl, v, _, _, _, true, rfl, .ty "int", ty K, kit_ty (by decide +kernel), _, rfl, ?_⟩
      refine ⟨_, rfl, v, _, _, _, false, rfl, .ty "bool", ty K, kit_ty (by decide +kernel), _, rfl, q⟩
    · exact ⟨_, rfl, v, _, _, _, false, rfl, .ty "int", ty K, kit_ty (by decide +kernel), _, rfl, q⟩
    · refine ⟨_, rfl, v, _, _, _, true, rfl, .ty "int", ty K, kit_ty (by decide +kernel), _, rfl, ?_⟩
      refine ⟨_, rfl, v, _, _, _, true, rfl, .ty "bool", ty K, kit_ty (by decide +kernel), _, rfl, q⟩
    · exact ⟨_, rfl, v, _, _, _, false, rfl, .ty "int", ty K, kit_ty (by decide +kernel), _, rfl, q⟩
    · exact ⟨_, rfl, v, _, _, _, false, rfl, .ty "int", ty K, kit_ty (by decide +kernel), _, rfl, q⟩
    · exact ⟨_, rfl, v, _, _, _, false, rfl, .ty "int", ty K, kit_ty (by decide +kernel), _, rfl, q⟩
theorem ok_initB {f C : Addr} {fd : FuncData} {k : Nat} (F : Fun K "__init__" "BadNumber.__init__" sInitB f fd) (T : OexC K C) (n0 : PySem.W.findIn K (.ref C) "what" = some none) (n1 : PySem.W.findIn K (.ref C) "number" = some none) :
    FnOk P w K mg base CX0 (k + 1) f fd ["self", "what", "number"] (spInitB C) := by
  refine F.ok scInitB (fun vs H Q E h => ?_) (fun cdv A outer s H vs Q E hr h => ?_)
  · obtain ⟨a, y0, y1, rfl, _⟩ := h
    rfl
  · obtain ⟨a, y0, y1, rfl, ha, q⟩ := h
    refine ⟨_, pss_cons (ps_ost (pv 0) (pv 1) rfl) (pss_one (ps_ost (pv 0) (pv 2) rfl)), ?_⟩
    refine ⟨_, rfl, _, rfl, a, C, rfl, T, n0, .inl ⟨ha, fun dx nx dne => ?_⟩⟩
    refine ⟨_, rfl, _, rfl, a, C, rfl, T, n1, .inr ⟨dx, _, upd_same, by rw [upd_ne dne]; exact upd_same, by show _ ≤ 900; exact Nat.le_of_ble_eq_true rfl, ?_⟩⟩
    exact q _ dx nx dne (by rw [upd_ne dne.symm]; exact upd_same) upd_same (fun b o e hb => by rw [upd_ne (ne_of_none e nx), upd_ne hb, upd_ne (ne_of_none e nx)]; exact e)
theorem wide_big {i : Int} (h : big i) : i.natAbs.log2 < 9000 := Nat.lt_of_lt_of_le (PySem.Flt.log2_lt_of (by decide) h) (by decide)
theorem ok_low {f : Addr} {fd : FuncData} {k : Nat} (F : Fun K "_lowest" "_lowest" sLow f fd) (B : Bl mg) : FnOk P w K mg base CX0 (k + 1) f fd ["top", "bottom"] spLow := by
  refine F.ok scLow (fun vs H Q E h => ?_) (fun cdv A outer s H vs Q E hr h => ?_)
  · obtain ⟨t, b, rfl, _⟩ := h
    rfl
  · obtain ⟨t, b, rfl, hb, ht, hbb, q⟩ := h
    refine ⟨_, pss_cons (ps_set (i := 2) scLow.nd rfl (.inl rfl) (pe_callBfun cr_gcd (by rfl) B.gcd (pa_cons (pv 0) (pa_cons (pv 1) pa_nil))))
      (C8.pss_cut (ps_if (pt_cmpR op_lt (pv 1) pe_int (nomark _)) (pss_one (ps_set (i := 2) scLow.nd rfl (.inl rfl) (pe_un un_neg (pv 2)))) pss_nil)
      (pss_one (ps_ret (pe_tup (pa_cons (pe_op op_fdivZ (pv 0) (pv 2)) (pa_cons (pe_op op_fdivZ (pv 1) (pv 2)) pa_nil)))))), ?_⟩
    refine ⟨_, rfl, _, rfl, t, b, rfl, ?_⟩
    refine ⟨fun σ' H' => σ' = [some (.int t), some (.int b), some (.int (cm t b))] ∧ H' = H, ?_, ?_⟩
    · refine ⟨_, rfl, _, _, rfl, rfl, _, rfl, ite2 (fun e => ?_) (fun e => ?_)⟩
      · have e' := of_decide_eq_true e
        refine ⟨_, rfl, _, rfl, ?_⟩
        exact ⟨by unfold cm; rw [if_pos e']; rfl, rfl⟩
      · have e' : ¬ b < 0 := fun z => e (decide_eq_true z)
        exact ⟨by unfold cm; rw [if_neg e']; rfl, rfl⟩
    · rintro _ _ ⟨rfl, rfl⟩
      have hc : (cm t b).natAbs.log2 < 9000 := by
        rw [cm_abs]
        refine wide_big (i := ((Nat.gcd t.natAbs b.natAbs : Nat) : Int)) ?_
        show Nat.gcd _ _ < _
        exact Nat.lt_of_le_of_lt (Nat.gcd_le_right _ (by omega)) hbb
      refine ⟨_, rfl, _, rfl, _, _, rfl, rfl, ⟨cm_ne hb, hc⟩, _, rfl, _, rfl, _, _, rfl, rfl, ⟨cm_ne hb, hc⟩, by show 2 ≤ sizeLine; decide, fun p np => ?_⟩
      exact q _ p (same_new np) np upd_same
end
end KQ

namespace KQ
open PySem PySem.Spec PyProof.Rows L2
/-! ### numbers or not -/
section
variable {P : Program} {w : World} {K : PySem.W.Frag} {mg : Str → Option Value} {base : Heap}
theorem Sc.kn {H : Hp} {v : V} (h : Sc v) : Kn H v := by
  rcases h with h | ⟨b, h⟩ | ⟨i, h⟩ <;> subst h
  · exact .non
  · exact .bl b
  · exact .int i
theorem isI_int {v : V} (h : isI v = true) : ∃ i, v = .int i := by
  cases v <;> first | exact ⟨_, rfl⟩ | cases h
theorem ok_pair {f fI : Addr} {fd fdI : FuncData} {k : Nat} (F : Fun K "is_number" "is_number" sPair f fd) (FI : Fun K "is_integer" "is_integer" sIsI fI fdI) (bI : Binds K fdI ["value"] []) (gI : mg "is_integer" = some (.ref fI)) (B : Bl mg) : FnOk P w K mg base CX0 (k + 2) f fd ["value"] spPair := by
  have GI : FnOk P w K mg base CX0 (k + 1) fI fdI ["value"] spIsI := ok_isI FI B
  refine F.ok scPair (fun vs H Q E h => ?_) (fun cdv A outer s H vs Q E hr h => ?_)
  · obtain ⟨v, rfl, _⟩ := h
    rfl
  · obtain ⟨v, rfl, kn, h⟩ := h
    refine ⟨_, C8.pss_cut (ps_if (pt_val (pe_call GI hr (by rfl) gI FI.kp bI .nil pass0 (pa_cons (pv 0) pa_nil))) (pss_one (ps_ret pe_bl)) pss_nil)
      (C8.pss_cut (ps_if (pw_or (pt_not (pt_val (pe_callB call_isi (by rfl) B.isi PyProof.Rows.boot_isinstance (pa_cons (pv 0) (pa_cons (pe_bltn (v := .ty "tuple") (by rfl) B.tuple bootT rfl) pa_nil)))))
          (pw_or1 (pt_cmpR op_ne (pe_callB call_len_seq (by rfl) B.len PySem.boot_len (pa_cons (pv 0) pa_nil)) pe_int (nomark _)))).pt (pss_one (ps_ret pe_bl)) pss_nil)
      (C8.pss_cut (ps_asg (pv 0) (pg_tup rfl (pgs_cons (pg_name (i := 1) scPair.nd rfl (.inl rfl)) (pgs_cons (pg_name (i := 2) scPair.nd rfl (.inl rfl)) pgs_nil))))
      (pss_one (ps_ret (pe_and (pe_call GI hr (by rfl) gI FI.kp bI .nil pass0 (pa_cons (pv 1) pa_nil)) (pe_and (pe_call GI hr (by rfl) gI FI.kp bI .nil pass0 (pa_cons (pv 2) pa_nil)) (pe_one (pe_cmpR op_gt (pv 2) pe_int (nomark _))))))))), ?_⟩
    refine ⟨fun σ' H' => σ' = [some v, none, none] ∧ H' = H ∧ isI v = false, ?_, ?_⟩
    · refine ⟨_, rfl, v, rfl, kn, _, rfl, ?_⟩
      cases hi : isI v with
      | false => exact ⟨rfl, rfl, rfl⟩
      | true =>
        rcases h with ⟨t, b, hn, q⟩ | ⟨hb, _⟩
        · exact q
        · rw [hb.kn.2] at hi
          cases hi
    rintro _ H0 ⟨rfl, rfl, hi⟩
    let Pr : V → V → Prop := fun x y => Kn H0 x ∧ Kn H0 y ∧ (isI x = false → Q (.bl false) H0) ∧ (isI x = true → isI y = false → Q (.bl false) H0) ∧ (∀ t b, x = .int t → y = .int b → Q (.bl (decide (0 < b))) H0)
    -- what the value is
    have what : (∃ n : String, (∀ K, TyX K H0 v (.type n)) ∧ kitB n "tuple" = some false ∧ Q (.bl false) H0) ∨ (∃ p xs, v = .ref p ∧ H0 p = some (.tup xs) ∧ xs.length ≠ 2 ∧ Q (.bl false) H0) ∨ ∃ p x y, v = .ref p ∧ H0 p = some (.tup [x, y]) ∧ Pr x y := by
      rcases h with ⟨t, b, hn, q⟩ | ⟨hb, q⟩
      · rcases hn with ⟨rfl, _⟩ | ⟨p, rfl, e, hp⟩
        · cases hi
        · refine .inr (.inr ⟨p, _, _, rfl, e, .int t, .int b, fun z => by (cases z), fun _ z => by (cases z), fun t' b' h1 h2 => ?_⟩)
          cases h2
          rw [decide_eq_true hp]
          exact q
      · rcases hb with h | ⟨b, h⟩ | ⟨x, h⟩ | ⟨p, xs, h, e⟩ | ⟨p, xs, h, e, hl, z⟩ <;> subst h
        · exact .inl ⟨_, fun K => .base .non, by decide +kernel, q⟩
        · exact .inl ⟨_, fun K => .base (.bl b), by decide +kernel, q⟩
        · exact .inl ⟨_, fun K => .base (.str x), by decide +kernel, q⟩
        · exact .inl ⟨_, fun K => .base (.lst e), by decide +kernel, q⟩
        · rcases z with z | ⟨x, y, rfl, sx, sy, z⟩
          · exact .inr (.inl ⟨p, xs, rfl, e, z, q⟩)
          · refine .inr (.inr ⟨p, x, y, rfl, e, sx.kn, sy.kn, fun _ => q, fun _ _ => q, fun t b h1 h2 => ?_⟩)
            rw [decide_eq_false (by have := z t b h1 h2; omega)]
            exact q
    refine ⟨fun σ' H0' => σ' = [some v, none, none] ∧ H0' = H0 ∧ ∃ p x y, v = .ref p ∧ H0 p = some (.tup [x, y]) ∧ Pr x y, ?_, ?_⟩
    · rcases what with ⟨n, ty, kt, q⟩ | ⟨p, xs, rfl, e, hl, q⟩ | ⟨p, x, y, rfl, e, pr⟩
      · exact ⟨_, rfl, v, _, _, _, false, rfl, .ty "tuple", ty K, kit_ty kt, _, rfl, q⟩
      · refine ⟨_, rfl, .ref p, _, _, _, true, rfl, .ty "tuple", .base (.tup e), kit_ty (by decide +kernel), _, rfl, ?_⟩
        refine iteF ⟨_, rfl, p, xs, rfl, .inr (.inl (.inl e)), rfl, _, rfl, ?_⟩
        have : (!decide (V.int (xs.length : Nat) = V.int 2)) = true := by
          rw [decide_eq_false (fun z => hl (by have := V.int.inj z; omega))]; rfl
        rw [this]
        exact q
      · refine ⟨_, rfl, .ref p, _, _, _, true, rfl, .ty "tuple", .base (.tup e), kit_ty (by decide +kernel), _, rfl, ?_⟩
        refine iteF ⟨_, rfl, p, [x, y], rfl, .inr (.inl (.inl e)), rfl, _, rfl, ?_⟩
        exact ⟨rfl, rfl, p, x, y, rfl, e, pr⟩
    · rintro _ _ ⟨rfl, rfl, p, x, y, rfl, e, kx, ky, p1, p2, p3⟩
      refine ⟨fun σ' H0'' => σ' = [some (.ref p), some x, some y] ∧ H0'' = _, ⟨_, rfl, p, _, rfl, .inl (.inl e), rfl, _, _, rfl, _, _, rfl, rfl, rfl, rfl⟩, ?_⟩
      rintro _ _ ⟨rfl, rfl⟩
      refine ⟨_, rfl, x, rfl, kx, _, rfl, ?_⟩
      cases hx : isI x with
      | false => exact p1 hx
      | true =>
        refine ⟨_, rfl, y, rfl, ky, _, rfl, ?_⟩
        cases hy : isI y with
        | false => exact p2 hx hy
        | true =>
          obtain ⟨t, rfl⟩ := isI_int hx
          obtain ⟨b, rfl⟩ := isI_int hy
          exact ⟨_, rfl, _, _, rfl, rfl, p3 t b rfl rfl⟩
/-- what the top has written of BadNumber -/
structure BN (K : PySem.W.Frag) (mg : Str → Option Value) (C fB : Addr) (dB : FuncData) : Prop where
  ox : OexC K C
  ic : PySem.W.findIn K (.ref C) "__init__" = some (some (.ref fB))
  ti : PySem.W.typeIn K (.ref fB) = some (.type "function")
  n0 : PySem.W.findIn K (.ref C) "what" = some none
  n1 : PySem.W.findIn K (.ref C) "number" = some none
  g : mg "BadNumber" = some (.ref C)
  F : Fun K "__init__" "BadNumber.__init__" sInitB fB dB
  b : Binds K dB ["self", "what", "number"] []
/-- the reading of the raised call, from the promise of its __init__ -/
theorem raise_rd {C : Addr} {y0 y1 : V} {H : Hp} {W : XK} (h : Rz C y0 y1 H W) : ∀ a, H a = none → spInitB C (.ref a :: ([y0, y1] ++ [])) (upd H a (exo a C none))
    (fun v H2 => v = .non ∧ ∃ (d : Addr) (fs : List (Str × V)), H2 a = some (exo a C (some d)) ∧ H2 d = some (exd d fs) ∧ H d = none ∧ W (.ref C) (some d) (upd (del H2 a) d (.xd fs))) (fun _ _ _ => False) := by
  intro a na
  refine ⟨a, y0, y1, rfl, upd_same, fun H' d nd dne e1 e2 kp => ⟨rfl, d, _, e1, e2, ?_, ?_⟩⟩
  · rw [upd_ne dne] at nd
    exact nd
  · have nd' : H d = none := by
      rw [upd_ne dne] at nd
      exact nd
    refine h d _ (fun b o e => ?_) upd_same
    have hba : b ≠ a := ne_of_none e na
    rw [upd_ne (ne_of_none e nd'), del_ne hba]
    exact kp b o (by rw [upd_ne hba]; exact e) hba
theorem ok_rat {f fI fP fL C fB : Addr} {fd dI dP dL dB : FuncData} (F : Fun K "ratio_of" "ratio_of" sRat f fd) (FI : Fun K "is_integer" "is_integer" sIsI fI dI) (bI : Binds K dI ["value"] []) (gI : mg "is_integer" = some (.ref fI))
    (FP : Fun K "is_number" "is_number" sPair fP dP) (bP : Binds K dP ["value"] []) (gP : mg "is_number" = some (.ref fP)) (FL : Fun K "_lowest" "_lowest" sLow fL dL) (bL : Binds K dL ["top", "bottom"] []) (gL : mg "_lowest" = some (.ref fL))
    (N : BN K mg C fB dB) (B : Bl mg) : FnOk P w K mg base (L2.CX P w) 3 f fd ["number"] (spRat C) := by
  have GI : FnOk P w K mg base CX0 1 fI dI ["value"] spIsI := ok_isI FI B
  have GP : FnOk P w K mg base CX0 2 fP dP ["value"] spPair := ok_pair FP FI bI gI B
  have GL : FnOk P w K mg base CX0 1 fL dL ["top", "bottom"] spLow := ok_low FL B
  have GB : FnOk P w K mg base CX0 1 fB dB ["self", "what", "number"] (spInitB C) := ok_initB N.F N.ox N.n0 N.n1
  refine F.okX scRat (fun vs H Q E h => ?_) (fun cdv A outer s H vs Q E hr h => ?_)
  · obtain ⟨v, rfl, _⟩ := h
    rfl
  · obtain ⟨v, rfl, h⟩ := h
    have hr1 : Room 1 _ := hr.mono (by decide)
    refine ⟨_, C8.pss_cut (ps_if (pt_not (pt_val (pe_call GP hr (by rfl) gP FP.kp bP .nil pass0 (pa_cons (pv 0) pa_nil))))
        (pss_one (ps_raise rfl (takes_of rfl rfl rfl rfl) (pmk_oex N.ox N.ic N.ti GB hr N.b .nil pass0 (by rfl) N.g (pa_cons pe_str (pa_cons (pv 0) pa_nil))))) pss_nil)
      (C8.pss_cut (ps_if (pt_val (pe_call GI hr1 (by rfl) gI FI.kp bI .nil pass0 (pa_cons (pv 0) pa_nil))) (pss_one (ps_ret (pe_call GL hr1 (by rfl) gL FL.kp bL .nil pass0 (pa_cons (pv 0) (pa_cons pe_int pa_nil))))) pss_nil)
      (C8.pss_cut (ps_asg (pv 0) (pg_tup rfl (pgs_cons (pg_name (i := 1) scRat.nd rfl (.inl rfl)) (pgs_cons (pg_name (i := 2) scRat.nd rfl (.inl rfl)) pgs_nil))))
      (pss_one (ps_ret (pe_call GL hr1 (by rfl) gL FL.kp bL .nil pass0 (pa_cons (pv 1) (pa_cons (pv 2) pa_nil))))))), ?_⟩
    have kn : Kn H v := by
      rcases h with ⟨t, b, hn, _⟩ | ⟨hb, _⟩
      · rcases hn with ⟨rfl, _⟩ | ⟨p, rfl, e, _⟩
        · exact .int t
        · exact .tup e
      · exact hb.kn.1
    rcases h with ⟨t, b, hn, ht, hb, q⟩ | ⟨hb, q⟩
    · refine ⟨fun σ' H' => σ' = [some v, none, none] ∧ H' = H, ⟨_, rfl, v, rfl, kn, .inl ⟨t, b, hn, _, rfl, iteF ⟨rfl, rfl⟩⟩⟩, ?_⟩
      rintro _ H1 ⟨rfl, rfl⟩
      rcases hn with ⟨rfl, rfl⟩ | ⟨p, rfl, e, b0⟩
      · exact ⟨fun _ _ => False, ⟨_, rfl, .int t, rfl, kn, _, rfl, iteT ⟨_, rfl, t, 1, rfl, by decide, ht, hb, q⟩⟩, fun _ _ z => z.elim⟩
      · refine ⟨fun σ' H'' => σ' = [some (.ref p), none, none] ∧ H'' = H1, ⟨_, rfl, .ref p, rfl, kn, _, rfl, iteF ⟨rfl, rfl⟩⟩, ?_⟩
        rintro _ _ ⟨rfl, rfl⟩
        refine ⟨fun σ' H'' => σ' = [some (.ref p), some (.int t), some (.int b)] ∧ H'' = _, ⟨_, rfl, p, _, rfl, .inl (.inl e), rfl, _, _, rfl, _, _, rfl, rfl, rfl, rfl⟩, ?_⟩
        rintro _ _ ⟨rfl, rfl⟩
        exact ⟨_, rfl, _, rfl, t, b, rfl, by omega, ht, hb, q⟩
    · refine ⟨fun _ _ => False, ⟨_, rfl, v, rfl, kn, .inr ⟨hb, _, rfl, iteT ⟨_, rfl, ?_, ?_⟩⟩⟩, fun _ _ z => z.elim⟩
      · show 2 ≤ 1000
        decide
      · exact raise_rd q
end
end KQ

namespace KQ
open PySem PySem.Spec PyProof.Rows L2
/-! ### two numbers -/
def sm (i : Int) : Prop := i.natAbs < 2 ^ 300
theorem sm.big {i : Int} (h : sm i) : big i := Nat.lt_trans h (Nat.pow_lt_pow_right (by decide) (by decide))
theorem sm.Lw {t b : Int} (hb : b ≠ 0) (ht : sm t) (h : sm b) : sm (Lw t b).1 ∧ sm (Lw t b).2 := by
  obtain ⟨h1, h2⟩ := Lw_abs (t := t) hb
  exact ⟨Nat.lt_of_le_of_lt h1 ht, Nat.lt_of_le_of_lt h2 h⟩
theorem sm.mul {i j : Int} (h : sm i) (h' : sm j) : CMulW i j := wide_mul h h' (by decide) (by decide) (by decide)
theorem sm.mulB {i j : Int} (h : sm i) (h' : sm j) : (i * j).natAbs < 2 ^ 600 := wide_lt h h'
theorem big_of {i : Int} (h : i.natAbs < 2 ^ 601) : big i := Nat.lt_trans h (Nat.pow_lt_pow_right (by decide) (by decide))
theorem lt601 {i : Int} (h : i.natAbs < 2 ^ 600) : i.natAbs < 2 ^ 601 := Nat.lt_trans h (Nat.pow_lt_pow_right (by decide) (by decide))
theorem add601 {i j : Int} (h : i.natAbs < 2 ^ 600) (h' : j.natAbs < 2 ^ 600) : (i + j).natAbs < 2 ^ 601 := by
  have e : (2 : Nat) ^ 601 = 2 ^ 600 + 2 ^ 600 := by rw [Nat.pow_succ]; omega
  rw [e]
  generalize (2 : Nat) ^ 600 = M at *
  omega
theorem sub601 {i j : Int} (h : i.natAbs < 2 ^ 600) (h' : j.natAbs < 2 ^ 600) : (i - j).natAbs < 2 ^ 601 := by
  have e : (2 : Nat) ^ 601 = 2 ^ 600 + 2 ^ 600 := by rw [Nat.pow_succ]; omega
  rw [e]
  generalize (2 : Nat) ^ 600 = M at *
  omega
abbrev Good := Int → Int → Int → Int → Hp → VK → XK → V → Prop
def spBin (C : Addr) (good : Good) : Sp := fun vs H Q E => ∃ u v, vs = [u, v] ∧ ((∃ t b t' b', Num H u t b ∧ Num H v t' b' ∧ sm t ∧ sm b ∧ sm t' ∧ sm b' ∧ good (Lw t b).1 (Lw t b).2 (Lw t' b').1 (Lw t' b').2 H Q E v) ∨
  (Bad H u ∧ Rz C (.str "ratio") u H E) ∨ (∃ t b, Num H u t b ∧ sm t ∧ sm b ∧ Bad H v ∧ Rz C (.str "ratio") v H E))
/-- the answer is a new pair in lowest terms -/
def New (H : Hp) (Q : VK) (t b : Int) : Prop := ∀ H' p, Same H H' → H p = none → H' p = some (.tup [.int (Lw t b).1, .int (Lw t b).2]) → Q (.ref p) H'
def gSum : Good := fun x y x' y' H Q _ _ => New H Q (x * y' + x' * y) (y * y')
def gGap : Good := fun x y x' y' H Q _ _ => New H Q (x * y' - x' * y) (y * y')
def gProd : Good := fun x y x' y' H Q _ _ => New H Q (x * x') (y * y')
def gShare (C : Addr) : Good := fun x y x' y' H Q E v => (x' = 0 ∧ Rz C (.str "divisor") v H E) ∨ (x' ≠ 0 ∧ New H Q (x * y') (y * x'))
def gLess : Good := fun x y x' y' H Q _ _ => ∀ H', Same H H' → Q (.bl (decide (x * y' < x' * y))) H'
section
variable {P : Program} {w : World} {K : PySem.W.Frag} {mg : Str → Option Value} {base : Heap}
theorem sc_ratio_sum : FnScope ["one", "other", "top", "bottom", "other_top", "other_bottom"] ["one", "other"] (defScope (topS 9)) := ⟨rfl, rfl, rfl, by decide +kernel, rfl, by decide +kernel, by decide +kernel⟩
theorem ok_ratio_sum {f fI fP fL fR C fB : Addr} {fd dI dP dL dR dB : FuncData} (F : Fun K "ratio_sum" "ratio_sum" (topS 9) f fd) (FI : Fun K "is_integer" "is_integer" sIsI fI dI) (bI : Binds K dI ["value"] []) (gI : mg "is_integer" = some (.ref fI))
    (FP : Fun K "is_number" "is_number" sPair fP dP) (bP : Binds K dP ["value"] []) (gP : mg "is_number" = some (.ref fP)) (FL : Fun K "_lowest" "_lowest" sLow fL dL) (bL : Binds K dL ["top", "bottom"] []) (gL : mg "_lowest" = some (.ref fL))
    (FR : Fun K "ratio_of" "ratio_of" sRat fR dR) (bR : Binds K dR ["number"] []) (gR : mg "ratio_of" = some (.ref fR)) (N : BN K mg C fB dB) (B : Bl mg) : FnOk P w K mg base (L2.CX P w) 4 f fd ["one", "other"] (spBin C gSum) := by
  have GL : FnOk P w K mg base CX0 1 fL dL ["top", "bottom"] spLow := ok_low FL B
  have GB : FnOk P w K mg base CX0 1 fB dB ["self", "what", "number"] (spInitB C) := ok_initB N.F N.ox N.n0 N.n1
  have GR : FnOk P w K mg base (L2.CX P w) 3 fR dR ["number"] (spRat C) := ok_rat FR FI bI gI FP bP gP FL bL gL N B
  refine F.okX sc_ratio_sum (fun vs H Q E h => ?_) (fun cdv A outer s H vs Q E hr h => ?_)
  · obtain ⟨u, v, rfl, _⟩ := h
    rfl
  · obtain ⟨u, v, rfl, h⟩ := h
    have hr1 : Room 1 _ := hr.mono (by decide)
    have hr2 : Room 2 _ := hr.mono (by decide)
    refine ⟨_, C8.pss_cut (ps_asg (pe_call GR hr (by rfl) gR FR.kp bR .nil (passes_call (takes_of rfl rfl rfl rfl) (fun _ _ _ _ h => h)) (pa_cons (pv 0) pa_nil)) (pg_tup rfl (pgs_cons (pg_name (i := 2) sc_ratio_sum.nd rfl (.inl rfl)) (pgs_cons (pg_name (i := 3) sc_ratio_sum.nd rfl (.inl rfl)) pgs_nil))))
      (C8.pss_cut (ps_asg (pe_call GR hr (by rfl) gR FR.kp bR .nil (passes_call (takes_of rfl rfl rfl rfl) (fun _ _ _ _ h => h)) (pa_cons (pv 1) pa_nil)) (pg_tup rfl (pgs_cons (pg_name (i := 4) sc_ratio_sum.nd rfl (.inl rfl)) (pgs_cons (pg_name (i := 5) sc_ratio_sum.nd rfl (.inl rfl)) pgs_nil))))
      (pss_one (ps_ret (pe_call GL hr1 (by rfl) gL FL.kp bL .nil pass0 (pa_cons (pe_op op_add (pe_op op_mulW (pv 2) (pv 5)) (pe_op op_mulW (pv 4) (pv 3))) (pa_cons (pe_op op_mulW (pv 3) (pv 5)) pa_nil)))))), ?_⟩
    rcases h with ⟨t, b, t', b', hn, hn', a1, a2, a3, a4, q⟩ | ⟨hb, q⟩ | ⟨t, b, hn, a1, a2, hb, q⟩
    · refine ⟨fun σ' H' => σ' = [some u, some v, some (.int (Lw t b).1), some (.int (Lw t b).2), none, none] ∧ Same H H', ⟨_, rfl, u, rfl, .inl ⟨t, b, hn, a1.big, a2.big, fun H' p s np e => ⟨p, _, rfl, .inl (.inl e), rfl, _, _, rfl, _, _, rfl, rfl, rfl, s⟩⟩⟩, ?_⟩
      rintro _ H1 ⟨rfl, sH1⟩
      refine ⟨fun σ' H' => σ' = [some u, some v, some (.int (Lw t b).1), some (.int (Lw t b).2), some (.int (Lw t' b').1), some (.int (Lw t' b').2)] ∧ Same H H', ⟨_, rfl, v, rfl, .inl ⟨t', b', hn'.same sH1, a3.big, a4.big, fun H' p s np e => ⟨p, _, rfl, .inl (.inl e), rfl, _, _, rfl, _, _, rfl, rfl, rfl, sH1.trans s⟩⟩⟩, ?_⟩
      rintro _ H2 ⟨rfl, sH⟩
      obtain ⟨s1, s2⟩ := sm.Lw (t := t) (show b ≠ 0 by have := hn.pos; omega) a1 a2
      obtain ⟨s3, s4⟩ := sm.Lw (t := t') (show b' ≠ 0 by have := hn'.pos; omega) a3 a4
      have nz : (Lw t b).2 * (Lw t' b').2 ≠ 0 := Int.mul_ne_zero (by have := Lw_pos (t := t) (show b ≠ 0 by have := hn.pos; omega); omega) (by have := Lw_pos (t := t') (show b' ≠ 0 by have := hn'.pos; omega); omega)
      exact ⟨_, rfl, _, rfl, _, _, rfl, rfl, s1.mul s4, _, rfl, _, rfl, _, _, rfl, rfl, s3.mul s2, _, _, rfl, rfl, _, rfl, _, rfl, _, _, rfl, rfl, s2.mul s4, _, _, rfl, nz, big_of (add601 (s1.mulB s4) (s3.mulB s2)), big_of (lt601 (s2.mulB s4)), fun H' p sm' np e => q H' p (sH.trans sm') (sH.free np) e⟩
    · exact ⟨fun _ _ => False, ⟨_, rfl, u, rfl, .inr ⟨hb, q⟩⟩, fun _ _ z => z.elim⟩
    · refine ⟨fun σ' H' => σ' = [some u, some v, some (.int (Lw t b).1), some (.int (Lw t b).2), none, none] ∧ Same H H', ⟨_, rfl, u, rfl, .inl ⟨t, b, hn, a1.big, a2.big, fun H' p s np e => ⟨p, _, rfl, .inl (.inl e), rfl, _, _, rfl, _, _, rfl, rfl, rfl, s⟩⟩⟩, ?_⟩
      rintro _ H1 ⟨rfl, sH1⟩
      exact ⟨fun _ _ => False, ⟨_, rfl, v, rfl, .inr ⟨hb.same sH1, q.same sH1⟩⟩, fun _ _ z => z.elim⟩
theorem sc_ratio_gap : FnScope ["one", "other", "top", "bottom", "other_top", "other_bottom"] ["one", "other"] (defScope (topS 10)) := ⟨rfl, rfl, rfl, by decide +kernel, rfl, by decide +kernel, by decide +kernel⟩
theorem ok_ratio_gap {f fI fP fL fR C fB : Addr} {fd dI dP dL dR dB : FuncData} (F : Fun K "ratio_gap" "ratio_gap" (topS 10) f fd) (FI : Fun K "is_integer" "is_integer" sIsI fI dI) (bI : Binds K dI ["value"] []) (gI : mg "is_integer" = some (.ref fI))
    (FP : Fun K "is_number" "is_number" sPair fP dP) (bP : Binds K dP ["value"] []) (gP : mg "is_number" = some (.ref fP)) (FL : Fun K "_lowest" "_lowest" sLow fL dL) (bL : Binds K dL ["top", "bottom"] []) (gL : mg "_lowest" = some (.ref fL))
    (FR : Fun K "ratio_of" "ratio_of" sRat fR dR) (bR : Binds K dR ["number"] []) (gR : mg "ratio_of" = some (.ref fR)) (N : BN K mg C fB dB) (B : Bl mg) : FnOk P w K mg base (L2.CX P w) 4 f fd ["one", "other"] (spBin C gGap) := by
  have GL : FnOk P w K mg base CX0 1 fL dL ["top", "bottom"] spLow := ok_low FL B
  have GB : FnOk P w K mg base CX0 1 fB dB ["self", "what", "number"] (spInitB C) := ok_initB N.F N.ox N.n0 N.n1
  have GR : FnOk P w K mg base (L2.CX P w) 3 fR dR ["number"] (spRat C) := ok_rat FR FI bI gI FP bP gP FL bL gL N B
  refine F.okX sc_ratio_gap (fun vs H Q E h => ?_) (fun cdv A outer s H vs Q E hr h => ?_)
  · obtain ⟨u, v, rfl, _⟩ := h
    rfl
  · obtain ⟨u, v, rfl, h⟩ := h
    have hr1 : Room 1 _ := hr.mono (by decide)
    have hr2 : Room 2 _ := hr.mono (by decide)
    refine ⟨_, C8.pss_cut (ps_asg (pe_call GR hr (by rfl) gR FR.kp bR .nil (passes_call (takes_of rfl rfl rfl rfl) (fun _ _ _ _ h => h)) (pa_cons (pv 0) pa_nil)) (pg_tup rfl (pgs_cons (pg_name (i := 2) sc_ratio_gap.nd rfl (.inl rfl)) (pgs_cons (pg_name (i := 3) sc_ratio_gap.nd rfl (.inl rfl)) pgs_nil))))
      (C8.pss_cut (ps_asg (pe_call GR hr (by rfl) gR FR.kp bR .nil (passes_call (takes_of rfl rfl rfl rfl) (fun _ _ _ _ h => h)) (pa_cons (pv 1) pa_nil)) (pg_tup rfl (pgs_cons (pg_name (i := 4) sc_ratio_gap.nd rfl (.inl rfl)) (pgs_cons (pg_name (i := 5) sc_ratio_gap.nd rfl (.inl rfl)) pgs_nil))))
      (pss_one (ps_ret (pe_call GL hr1 (by rfl) gL FL.kp bL .nil pass0 (pa_cons (pe_op op_sub (pe_op op_mulW (pv 2) (pv 5)) (pe_op op_mulW (pv 4) (pv 3))) (pa_cons (pe_op op_mulW (pv 3) (pv 5)) pa_nil)))))), ?_⟩
    rcases h with ⟨t, b, t', b', hn, hn', a1, a2, a3, a4, q⟩ | ⟨hb, q⟩ | ⟨t, b, hn, a1, a2, hb, q⟩
    · refine ⟨fun σ' H' => σ' = [some u, some v, some (.int (Lw t b).1), some (.int (Lw t b).2), none, none] ∧ Same H H', ⟨_, rfl, u, rfl, .inl ⟨t, b, hn, a1.big, a2.big, fun H' p s np e => ⟨p, _, rfl, .inl (.inl e), rfl, _, _, rfl, _, _, rfl, rfl, rfl, s⟩⟩⟩, ?_⟩
      rintro _ H1 ⟨rfl, sH1⟩
      refine ⟨fun σ' H' => σ' = [some u, some v, some (.int (Lw t b).1), some (.int (Lw t b).2), some (.int (Lw t' b').1), some (.int (Lw t' b').2)] ∧ Same H H', ⟨_, rfl, v, rfl, .inl ⟨t', b', hn'.same sH1, a3.big, a4.big, fun H' p s np e => ⟨p, _, rfl, .inl (.inl e), rfl, _, _, rfl, _, _, rfl, rfl, rfl, sH1.trans s⟩⟩⟩, ?_⟩
      rintro _ H2 ⟨rfl, sH⟩
      obtain ⟨s1, s2⟩ := sm.Lw (t := t) (show b ≠ 0 by have := hn.pos; omega) a1 a2
      obtain ⟨s3, s4⟩ := sm.Lw (t := t') (show b' ≠ 0 by have := hn'.pos; omega) a3 a4
      have nz : (Lw t b).2 * (Lw t' b').2 ≠ 0 := Int.mul_ne_zero (by have := Lw_pos (t := t) (show b ≠ 0 by have := hn.pos; omega); omega) (by have := Lw_pos (t := t') (show b' ≠ 0 by have := hn'.pos; omega); omega)
      exact ⟨_, rfl, _, rfl, _, _, rfl, rfl, s1.mul s4, _, rfl, _, rfl, _, _, rfl, rfl, s3.mul s2, _, _, rfl, rfl, _, rfl, _, rfl, _, _, rfl, rfl, s2.mul s4, _, _, rfl, nz, big_of (sub601 (s1.mulB s4) (s3.mulB s2)), big_of (lt601 (s2.mulB s4)), fun H' p sm' np e => q H' p (sH.trans sm') (sH.free np) e⟩
    · exact ⟨fun _ _ => False, ⟨_, rfl, u, rfl, .inr ⟨hb, q⟩⟩, fun _ _ z => z.elim⟩
    · refine ⟨fun σ' H' => σ' = [some u, some v, some (.int (Lw t b).1), some (.int (Lw t b).2), none, none] ∧ Same H H', ⟨_, rfl, u, rfl, .inl ⟨t, b, hn, a1.big, a2.big, fun H' p s np e => ⟨p, _, rfl, .inl (.inl e), rfl, _, _, rfl, _, _, rfl, rfl, rfl, s⟩⟩⟩, ?_⟩
      rintro _ H1 ⟨rfl, sH1⟩
      exact ⟨fun _ _ => False, ⟨_, rfl, v, rfl, .inr ⟨hb.same sH1, q.same sH1⟩⟩, fun _ _ z => z.elim⟩
theorem sc_ratio_product : FnScope ["one", "other", "top", "bottom", "other_top", "other_bottom"] ["one", "other"] (defScope (topS 11)) := ⟨rfl, rfl, rfl, by decide +kernel, rfl, by decide +kernel, by decide +kernel⟩
theorem ok_ratio_product {f fI fP fL fR C fB : Addr} {fd dI dP dL dR dB : FuncData} (F : Fun K "ratio_product" "ratio_product" (topS 11) f fd) (FI : Fun K "is_integer" "is_integer" sIsI fI dI) (bI : Binds K dI ["value"] []) (gI : mg "is_integer" = some (.ref fI))
    (FP : Fun K "is_number" "is_number" sPair fP dP) (bP : Binds K dP ["value"] []) (gP : mg "is_number" = some (.ref fP)) (FL : Fun K "_lowest" "_lowest" sLow fL dL) (bL : Binds K dL ["top", "bottom"] []) (gL : mg "_lowest" = some (.ref fL))
    (FR : Fun K "ratio_of" "ratio_of" sRat fR dR) (bR : Binds K dR ["number"] []) (gR : mg "ratio_of" = some (.ref fR)) (N : BN K mg C fB dB) (B : Bl mg) : FnOk P w K mg base (L2.CX P w) 4 f fd ["one", "other"] (spBin C gProd) := by
  have GL : FnOk P w K mg base CX0 1 fL dL ["top", "bottom"] spLow := ok_low FL B
  have GB : FnOk P w K mg base CX0 1 fB dB ["self", "what", "number"] (spInitB C) := ok_initB N.F N.ox N.n0 N.n1
  have GR : FnOk P w K mg base (L2.CX P w) 3 fR dR ["number"] (spRat C) := ok_rat FR FI bI gI FP bP gP FL bL gL N B
  refine F.okX sc_ratio_product (fun vs H Q E h => ?_) (fun cdv A outer s H vs Q E hr h => ?_)
  · obtain ⟨u, v, rfl, _⟩ := h
    rfl
  · obtain ⟨u, v, rfl, h⟩ := h
    have hr1 : Room 1 _ := hr.mono (by decide)
    have hr2 : Room 2 _ := hr.mono (by decide)
    refine ⟨_, C8.pss_cut (ps_asg (pe_call GR hr (by rfl) gR FR.kp bR .nil (passes_call (takes_of rfl rfl rfl rfl) (fun _ _ _ _ h => h)) (pa_cons (pv 0) pa_nil)) (pg_tup rfl (pgs_cons (pg_name (i := 2) sc_ratio_product.nd rfl (.inl rfl)) (pgs_cons (pg_name (i := 3) sc_ratio_product.nd rfl (.inl rfl)) pgs_nil))))
      (C8.pss_cut (ps_asg (pe_call GR hr (by rfl) gR FR.kp bR .nil (passes_call (takes_of rfl rfl rfl rfl) (fun _ _ _ _ h => h)) (pa_cons (pv 1) pa_nil)) (pg_tup rfl (pgs_cons (pg_name (i := 4) sc_ratio_product.nd rfl (.inl rfl)) (pgs_cons (pg_name (i := 5) sc_ratio_product.nd rfl (.inl rfl)) pgs_nil))))
      (pss_one (ps_ret (pe_call GL hr1 (by rfl) gL FL.kp bL .nil pass0 (pa_cons (pe_op op_mulW (pv 2) (pv 4)) (pa_cons (pe_op op_mulW (pv 3) (pv 5)) pa_nil)))))), ?_⟩
    rcases h with ⟨t, b, t', b', hn, hn', a1, a2, a3, a4, q⟩ | ⟨hb, q⟩ | ⟨t, b, hn, a1, a2, hb, q⟩
    · refine ⟨fun σ' H' => σ' = [some u, some v, some (.int (Lw t b).1), some (.int (Lw t b).2), none, none] ∧ Same H H', ⟨_, rfl, u, rfl, .inl ⟨t, b, hn, a1.big, a2.big, fun H' p s np e => ⟨p, _, rfl, .inl (.inl e), rfl, _, _, rfl, _, _, rfl, rfl, rfl, s⟩⟩⟩, ?_⟩
      rintro _ H1 ⟨rfl, sH1⟩
      refine ⟨fun σ' H' => σ' = [some u, some v, some (.int (Lw t b).1), some (.int (Lw t b).2), some (.int (Lw t' b').1), some (.int (Lw t' b').2)] ∧ Same H H', ⟨_, rfl, v, rfl, .inl ⟨t', b', hn'.same sH1, a3.big, a4.big, fun H' p s np e => ⟨p, _, rfl, .inl (.inl e), rfl, _, _, rfl, _, _, rfl, rfl, rfl, sH1.trans s⟩⟩⟩, ?_⟩
      rintro _ H2 ⟨rfl, sH⟩
      obtain ⟨s1, s2⟩ := sm.Lw (t := t) (show b ≠ 0 by have := hn.pos; omega) a1 a2
      obtain ⟨s3, s4⟩ := sm.Lw (t := t') (show b' ≠ 0 by have := hn'.pos; omega) a3 a4
      have nz : (Lw t b).2 * (Lw t' b').2 ≠ 0 := Int.mul_ne_zero (by have := Lw_pos (t := t) (show b ≠ 0 by have := hn.pos; omega); omega) (by have := Lw_pos (t := t') (show b' ≠ 0 by have := hn'.pos; omega); omega)
      exact ⟨_, rfl, _, rfl, _, _, rfl, rfl, s1.mul s3, _, rfl, _, rfl, _, _, rfl, rfl, s2.mul s4, _, _, rfl, nz, big_of (lt601 (s1.mulB s3)), big_of (lt601 (s2.mulB s4)), fun H' p sm' np e => q H' p (sH.trans sm') (sH.free np) e⟩
    · exact ⟨fun _ _ => False, ⟨_, rfl, u, rfl, .inr ⟨hb, q⟩⟩, fun _ _ z => z.elim⟩
    · refine ⟨fun σ' H' => σ' = [some u, some v, some (.int (Lw t b).1), some (.int (Lw t b).2), none, none] ∧ Same H H', ⟨_, rfl, u, rfl, .inl ⟨t, b, hn, a1.big, a2.big, fun H' p s np e => ⟨p, _, rfl, .inl (.inl e), rfl, _, _, rfl, _, _, rfl, rfl, rfl, s⟩⟩⟩, ?_⟩
      rintro _ H1 ⟨rfl, sH1⟩
      exact ⟨fun _ _ => False, ⟨_, rfl, v, rfl, .inr ⟨hb.same sH1, q.same sH1⟩⟩, fun _ _ z => z.elim⟩
theorem sc_is_less : FnScope ["one", "other", "top", "bottom", "other_top", "other_bottom"] ["one", "other"] (defScope (topS 13)) := ⟨rfl, rfl, rfl, by decide +kernel, rfl, by decide +kernel, by decide +kernel⟩
theorem ok_is_less {f fI fP fL fR C fB : Addr} {fd dI dP dL dR dB : FuncData} (F : Fun K "is_less" "is_less" (topS 13) f fd) (FI : Fun K "is_integer" "is_integer" sIsI fI dI) (bI : Binds K dI ["value"] []) (gI : mg "is_integer" = some (.ref fI))
    (FP : Fun K "is_number" "is_number" sPair fP dP) (bP : Binds K dP ["value"] []) (gP : mg "is_number" = some (.ref fP)) (FL : Fun K "_lowest" "_lowest" sLow fL dL) (bL : Binds K dL ["top", "bottom"] []) (gL : mg "_lowest" = some (.ref fL))
    (FR : Fun K "ratio_of" "ratio_of" sRat fR dR) (bR : Binds K dR ["number"] []) (gR : mg "ratio_of" = some (.ref fR)) (N : BN K mg C fB dB) (B : Bl mg) : FnOk P w K mg base (L2.CX P w) 4 f fd ["one", "other"] (spBin C gLess) := by
  have GL : FnOk P w K mg base CX0 1 fL dL ["top", "bottom"] spLow := ok_low FL B
  have GB : FnOk P w K mg base CX0 1 fB dB ["self", "what", "number"] (spInitB C) := ok_initB N.F N.ox N.n0 N.n1
  have GR : FnOk P w K mg base (L2.CX P w) 3 fR dR ["number"] (spRat C) := ok_rat FR FI bI gI FP bP gP FL bL gL N B
  refine F.okX sc_is_less (fun vs H Q E h => ?_) (fun cdv A outer s H vs Q E hr h => ?_)
  · obtain ⟨u, v, rfl, _⟩ := h
    rfl
  · obtain ⟨u, v, rfl, h⟩ := h
    have hr1 : Room 1 _ := hr.mono (by decide)
    have hr2 : Room 2 _ := hr.mono (by decide)
    refine ⟨_, C8.pss_cut (ps_asg (pe_call GR hr (by rfl) gR FR.kp bR .nil (passes_call (takes_of rfl rfl rfl rfl) (fun _ _ _ _ h => h)) (pa_cons (pv 0) pa_nil)) (pg_tup rfl (pgs_cons (pg_name (i := 2) sc_is_less.nd rfl (.inl rfl)) (pgs_cons (pg_name (i := 3) sc_is_less.nd rfl (.inl rfl)) pgs_nil))))
      (C8.pss_cut (ps_asg (pe_call GR hr (by rfl) gR FR.kp bR .nil (passes_call (takes_of rfl rfl rfl rfl) (fun _ _ _ _ h => h)) (pa_cons (pv 1) pa_nil)) (pg_tup rfl (pgs_cons (pg_name (i := 4) sc_is_less.nd rfl (.inl rfl)) (pgs_cons (pg_name (i := 5) sc_is_less.nd rfl (.inl rfl)) pgs_nil))))
      (pss_one (ps_ret (pe_cmpR op_lt (pe_op op_mulW (pv 2) (pv 5)) (pe_op op_mulW (pv 4) (pv 3)) (nomark _))))), ?_⟩
    rcases h with ⟨t, b, t', b', hn, hn', a1, a2, a3, a4, q⟩ | ⟨hb, q⟩ | ⟨t, b, hn, a1, a2, hb, q⟩
    · refine ⟨fun σ' H' => σ' = [some u, some v, some (.int (Lw t b).1), some (.int (Lw t b).2), none, none] ∧ Same H H', ⟨_, rfl, u, rfl, .inl ⟨t, b, hn, a1.big, a2.big, fun H' p s np e => ⟨p, _, rfl, .inl (.inl e), rfl, _, _, rfl, _, _, rfl, rfl, rfl, s⟩⟩⟩, ?_⟩
      rintro _ H1 ⟨rfl, sH1⟩
      refine ⟨fun σ' H' => σ' = [some u, some v, some (.int (Lw t b).1), some (.int (Lw t b).2), some (.int (Lw t' b').1), some (.int (Lw t' b').2)] ∧ Same H H', ⟨_, rfl, v, rfl, .inl ⟨t', b', hn'.same sH1, a3.big, a4.big, fun H' p s np e => ⟨p, _, rfl, .inl (.inl e), rfl, _, _, rfl, _, _, rfl, rfl, rfl, sH1.trans s⟩⟩⟩, ?_⟩
      rintro _ H2 ⟨rfl, sH⟩
      obtain ⟨s1, s2⟩ := sm.Lw (t := t) (show b ≠ 0 by have := hn.pos; omega) a1 a2
      obtain ⟨s3, s4⟩ := sm.Lw (t := t') (show b' ≠ 0 by have := hn'.pos; omega) a3 a4
      have nz : (Lw t b).2 * (Lw t' b').2 ≠ 0 := Int.mul_ne_zero (by have := Lw_pos (t := t) (show b ≠ 0 by have := hn.pos; omega); omega) (by have := Lw_pos (t := t') (show b' ≠ 0 by have := hn'.pos; omega); omega)
      exact ⟨_, rfl, _, rfl, _, _, rfl, rfl, s1.mul s4, _, rfl, _, rfl, _, _, rfl, rfl, s3.mul s2, _, _, rfl, rfl, q _ sH⟩
    · exact ⟨fun _ _ => False, ⟨_, rfl, u, rfl, .inr ⟨hb, q⟩⟩, fun _ _ z => z.elim⟩
    · refine ⟨fun σ' H' => σ' = [some u, some v, some (.int (Lw t b).1), some (.int (Lw t b).2), none, none] ∧ Same H H', ⟨_, rfl, u, rfl, .inl ⟨t, b, hn, a1.big, a2.big, fun H' p s np e => ⟨p, _, rfl, .inl (.inl e), rfl, _, _, rfl, _, _, rfl, rfl, rfl, s⟩⟩⟩, ?_⟩
      rintro _ H1 ⟨rfl, sH1⟩
      exact ⟨fun _ _ => False, ⟨_, rfl, v, rfl, .inr ⟨hb.same sH1, q.same sH1⟩⟩, fun _ _ z => z.elim⟩
theorem sc_ratio_share : FnScope ["one", "other", "top", "bottom", "other_top", "other_bottom"] ["one", "other"] (defScope (topS 12)) := ⟨rfl, rfl, rfl, by decide +kernel, rfl, by decide +kernel, by decide +kernel⟩
theorem ok_ratio_share {f fI fP fL fR C fB : Addr} {fd dI dP dL dR dB : FuncData} (F : Fun K "ratio_share" "ratio_share" (topS 12) f fd) (FI : Fun K "is_integer" "is_integer" sIsI fI dI) (bI : Binds K dI ["value"] []) (gI : mg "is_integer" = some (.ref fI))
    (FP : Fun K "is_number" "is_number" sPair fP dP) (bP : Binds K dP ["value"] []) (gP : mg "is_number" = some (.ref fP)) (FL : Fun K "_lowest" "_lowest" sLow fL dL) (bL : Binds K dL ["top", "bottom"] []) (gL : mg "_lowest" = some (.ref fL))
    (FR : Fun K "ratio_of" "ratio_of" sRat fR dR) (bR : Binds K dR ["number"] []) (gR : mg "ratio_of" = some (.ref fR)) (N : BN K mg C fB dB) (B : Bl mg) : FnOk P w K mg base (L2.CX P w) 4 f fd ["one", "other"] (spBin C (gShare C)) := by
  have GL : FnOk P w K mg base CX0 1 fL dL ["top", "bottom"] spLow := ok_low FL B
  have GB : FnOk P w K mg base CX0 1 fB dB ["self", "what", "number"] (spInitB C) := ok_initB N.F N.ox N.n0 N.n1
  have GR : FnOk P w K mg base (L2.CX P w) 3 fR dR ["number"] (spRat C) := ok_rat FR FI bI gI FP bP gP FL bL gL N B
  refine F.okX sc_ratio_share (fun vs H Q E h => ?_) (fun cdv A outer s H vs Q E hr h => ?_)
  · obtain ⟨u, v, rfl, _⟩ := h
    rfl
  · obtain ⟨u, v, rfl, h⟩ := h
    have hr1 : Room 1 _ := hr.mono (by decide)
    have hr2 : Room 2 _ := hr.mono (by decide)
    refine ⟨_, C8.pss_cut (ps_asg (pe_call GR hr (by rfl) gR FR.kp bR .nil (passes_call (takes_of rfl rfl rfl rfl) (fun _ _ _ _ h => h)) (pa_cons (pv 0) pa_nil)) (pg_tup rfl (pgs_cons (pg_name (i := 2) sc_ratio_share.nd rfl (.inl rfl)) (pgs_cons (pg_name (i := 3) sc_ratio_share.nd rfl (.inl rfl)) pgs_nil))))
      (C8.pss_cut (ps_asg (pe_call GR hr (by rfl) gR FR.kp bR .nil (passes_call (takes_of rfl rfl rfl rfl) (fun _ _ _ _ h => h)) (pa_cons (pv 1) pa_nil)) (pg_tup rfl (pgs_cons (pg_name (i := 4) sc_ratio_share.nd rfl (.inl rfl)) (pgs_cons (pg_name (i := 5) sc_ratio_share.nd rfl (.inl rfl)) pgs_nil))))
      (C8.pss_cut (ps_if (pt_cmpR op_eq (pv 4) pe_int (nomark _)) (pss_one (ps_raise rfl (takes_of rfl rfl rfl rfl) (pmk_oex N.ox N.ic N.ti GB hr2 N.b .nil pass0 (by rfl) N.g (pa_cons pe_str (pa_cons (pv 1) pa_nil))))) pss_nil) (pss_one (ps_ret (pe_call GL hr1 (by rfl) gL FL.kp bL .nil pass0 (pa_cons (pe_op op_mulW (pv 2) (pv 5)) (pa_cons (pe_op op_mulW (pv 3) (pv 4)) pa_nil))))))), ?_⟩
    rcases h with ⟨t, b, t', b', hn, hn', a1, a2, a3, a4, q⟩ | ⟨hb, q⟩ | ⟨t, b, hn, a1, a2, hb, q⟩
    · refine ⟨fun σ' H' => σ' = [some u, some v, some (.int (Lw t b).1), some (.int (Lw t b).2), none, none] ∧ Same H H', ⟨_, rfl, u, rfl, .inl ⟨t, b, hn, a1.big, a2.big, fun H' p s np e => ⟨p, _, rfl, .inl (.inl e), rfl, _, _, rfl, _, _, rfl, rfl, rfl, s⟩⟩⟩, ?_⟩
      rintro _ H1 ⟨rfl, sH1⟩
      refine ⟨fun σ' H' => σ' = [some u, some v, some (.int (Lw t b).1), some (.int (Lw t b).2), some (.int (Lw t' b').1), some (.int (Lw t' b').2)] ∧ Same H H', ⟨_, rfl, v, rfl, .inl ⟨t', b', hn'.same sH1, a3.big, a4.big, fun H' p s np e => ⟨p, _, rfl, .inl (.inl e), rfl, _, _, rfl, _, _, rfl, rfl, rfl, sH1.trans s⟩⟩⟩, ?_⟩
      rintro _ H2 ⟨rfl, sH⟩
      obtain ⟨s1, s2⟩ := sm.Lw (t := t) (show b ≠ 0 by have := hn.pos; omega) a1 a2
      obtain ⟨s3, s4⟩ := sm.Lw (t := t') (show b' ≠ 0 by have := hn'.pos; omega) a3 a4
      have nz : (Lw t b).2 * (Lw t' b').2 ≠ 0 := Int.mul_ne_zero (by have := Lw_pos (t := t) (show b ≠ 0 by have := hn.pos; omega); omega) (by have := Lw_pos (t := t') (show b' ≠ 0 by have := hn'.pos; omega); omega)
      rcases q with ⟨q0, q⟩ | ⟨q0, q⟩
      · refine ⟨fun _ _ => False, ⟨_, rfl, rfl, _, rfl, ?_⟩, fun _ _ z => z.elim⟩
        rw [show decide (V.int (Lw t' b').1 = V.int 0) = true from decide_eq_true (by rw [q0])]
        refine iteT ⟨_, rfl, by show 2 ≤ 1000; decide, ?_⟩
        exact raise_rd (q.same sH)
      · refine ⟨fun σ' H'' => σ' = [some u, some v, some (.int (Lw t b).1), some (.int (Lw t b).2), some (.int (Lw t' b').1), some (.int (Lw t' b').2)] ∧ H'' = H2, ⟨_, rfl, rfl, _, rfl, ?_⟩, ?_⟩
        · rw [show decide (V.int (Lw t' b').1 = V.int 0) = false from decide_eq_false fun z => q0 (V.int.inj z)]
          exact iteF ⟨rfl, rfl⟩
        · rintro _ _ ⟨rfl, rfl⟩
          have nz : (Lw t b).2 * (Lw t' b').1 ≠ 0 := Int.mul_ne_zero (by have := Lw_pos (t := t) (show b ≠ 0 by have := hn.pos; omega); omega) q0
          exact ⟨_, rfl, _, rfl, _, _, rfl, rfl, s1.mul s4, _, rfl, _, rfl, _, _, rfl, rfl, s2.mul s3, _, _, rfl, nz, big_of (lt601 (s1.mulB s4)), big_of (lt601 (s2.mulB s3)), fun H' p sm' np e => q H' p (sH.trans sm') (sH.free np) e⟩
    · exact ⟨fun _ _ => False, ⟨_, rfl, u, rfl, .inr ⟨hb, q⟩⟩, fun _ _ z => z.elim⟩
    · refine ⟨fun σ' H' => σ' = [some u, some v, some (.int (Lw t b).1), some (.int (Lw t b).2), none, none] ∧ Same H H', ⟨_, rfl, u, rfl, .inl ⟨t, b, hn, a1.big, a2.big, fun H' p s np e => ⟨p, _, rfl, .inl (.inl e), rfl, _, _, rfl, _, _, rfl, rfl, rfl, s⟩⟩⟩, ?_⟩
      rintro _ H1 ⟨rfl, sH1⟩
      exact ⟨fun _ _ => False, ⟨_, rfl, v, rfl, .inr ⟨hb.same sH1, q.same sH1⟩⟩, fun _ _ z => z.elim⟩
end
end KQ

namespace KQ
open PySem PySem.Spec PyProof.Rows L2
/-! ### the law's own numbers -/
abbrev sWhole : Stmt := topS 19
abbrev sLLow : Stmt := topS 20
abbrev sLRat : Stmt := topS 21
abbrev sLPair : Stmt := topS 22
abbrev sLAdd : Stmt := topS 23
abbrev sLMul : Stmt := topS 24
abbrev sLBel : Stmt := topS 25
abbrev sLNum : Stmt := topS 26
theorem scWhole : FnScope ["_law_value"] ["_law_value"] (defScope sWhole) := ⟨rfl, rfl, rfl, by decide +kernel, rfl, by decide +kernel, by decide +kernel⟩
theorem scLLow : FnScope ["_law_top", "_law_bottom", "_law_one", "_law_two", "_law_lap"] ["_law_top", "_law_bottom"] (defScope sLLow) := ⟨rfl, rfl, rfl, by decide +kernel, rfl, by decide +kernel, by decide +kernel⟩
theorem scLRat : FnScope ["_law_value"] ["_law_value"] (defScope sLRat) := ⟨rfl, rfl, rfl, by decide +kernel, rfl, by decide +kernel, by decide +kernel⟩
theorem scLPair : FnScope ["_law_number_here"] ["_law_number_here"] (defScope sLPair) := ⟨rfl, rfl, rfl, by decide +kernel, rfl, by decide +kernel, by decide +kernel⟩
theorem scLAdd : FnScope ["_law_one", "_law_two"] ["_law_one", "_law_two"] (defScope sLAdd) := ⟨rfl, rfl, rfl, by decide +kernel, rfl, by decide +kernel, by decide +kernel⟩
theorem scLMul : FnScope ["_law_one", "_law_two"] ["_law_one", "_law_two"] (defScope sLMul) := ⟨rfl, rfl, rfl, by decide +kernel, rfl, by decide +kernel, by decide +kernel⟩
theorem scLBel : FnScope ["_law_one", "_law_two"] ["_law_one", "_law_two"] (defScope sLBel) := ⟨rfl, rfl, rfl, by decide +kernel, rfl, by decide +kernel, by decide +kernel⟩
/-- how far the rests have come -/
def Eu (i x y : Nat) : Prop := (i = 0 ∧ x < 2 ^ 2000 ∧ y < 2 ^ 2000) ∨ (y ≤ x ∧ x * y * 2 ^ i < 2 ^ 4001)
theorem Eu.step {i x y : Nat} (h : Eu i x y) (hy : y ≠ 0) : Eu (i + 1) y (x % y) := by
  have hr : x % y < y := Nat.mod_lt _ (by omega)
  refine .inr ⟨by omega, ?_⟩
  rcases h with ⟨rfl, hx, hy2⟩ | ⟨hyx, hb⟩
  · have h1 : y * (x % y) < 2 ^ 2000 * 2 ^ 2000 := Nat.mul_lt_mul'' hy2 (by omega)
    have e : (2 : Nat) ^ 4001 = 2 ^ 2000 * 2 ^ 2000 * 2 := by rw [← Nat.pow_add, ← Nat.pow_succ]
    rw [e]
    exact Nat.mul_lt_mul_of_pos_right h1 (by decide)
  · have e1 := Nat.div_add_mod x y
    have q1 : 1 ≤ x / y := (Nat.one_le_div_iff (by omega)).mpr hyx
    have e2 : y * 1 ≤ y * (x / y) := Nat.mul_le_mul_left _ q1
    have h2 : x % y * 2 ≤ x := by omega
    have h3 : y * (x % y) * 2 ^ (i + 1) ≤ x * y * 2 ^ i := by
      rw [Nat.pow_succ]
      calc y * (x % y) * (2 ^ i * 2) = y * (x % y * 2) * 2 ^ i := by
            rw [Nat.mul_comm (2 ^ i) 2, ← Nat.mul_assoc, Nat.mul_assoc y]
        _ ≤ y * x * 2 ^ i := Nat.mul_le_mul_right _ (Nat.mul_le_mul_left _ h2)
        _ = x * y * 2 ^ i := by rw [Nat.mul_comm y x]
    exact Nat.lt_of_le_of_lt h3 hb
theorem Eu.stop {x y : Nat} (h : Eu 9000 x y) : y = 0 := by
  rcases h with ⟨h, _⟩ | ⟨hyx, hb⟩
  · cases h
  · by_cases hy : y = 0
    · exact hy
    · have h1 : 1 ≤ x * y := Nat.mul_pos (by omega) (by omega)
      have h2 : 1 * 2 ^ 9000 ≤ x * y * 2 ^ 9000 := Nat.mul_le_mul_right _ h1
      have h3 : (2 : Nat) ^ 4001 ≤ 2 ^ 9000 := Nat.pow_le_pow_right (by decide) (by decide)
      omega
theorem abs_if (i : Int) : (if i < 0 then -i else i) = (i.natAbs : Int) := by
  split <;> omega
section
variable {P : Program} {w : World} {K : PySem.W.Frag} {mg : Str → Option Value} {base : Heap}
theorem bootAbs : bootBuiltins "abs" = some (.builtin "abs") := by decide +kernel
theorem ok_llow {f : Addr} {fd : FuncData} {k : Nat} (F : Fun K "_law_lowest" "_law_lowest" sLLow f fd) (B : Bl mg) : FnOk P w K mg base CX0 (k + 1) f fd ["_law_top", "_law_bottom"] spLow := by
  refine F.ok scLLow (fun vs H Q E h => ?_) (fun cdv A outer s H vs Q E hr h => ?_)
  · obtain ⟨t, b, rfl, _⟩ := h
    rfl
  · obtain ⟨t, b, rfl, hb, ht, hbb, q⟩ := h
    refine ⟨_, C8.pss_cut (ps_par (i := 2) (j := 3) rfl scLLow.nd rfl rfl (by decide) rfl rfl (pa_cons (pe_callB call_abs (by rfl) B.abs bootAbs (pa_cons (pv 0) pa_nil)) (pa_cons (pe_callB call_abs (by rfl) B.abs bootAbs (pa_cons (pv 1) pa_nil)) pa_nil)) rfl)
      (C8.pss_cut (ps_for PassesOwn.never rfl (pi_range1 (by rfl) B.range (pa_cons pe_int pa_nil)) (pg_name (i := 4) scLLow.nd rfl (.inl rfl))
        (pss_cons (ps_if (pt_cmpR op_eq (pv 3) pe_int (nomark _)) (pss_one ps_break) pss_nil)
        (pss_one (ps_par (i := 2) (j := 3) rfl scLLow.nd rfl rfl (by decide) rfl rfl (pa_cons (pv 3) (pa_cons (pe_op op_mod (pe_callTy call_int1 (by rfl) B.int bootI (pa_cons (pv 2) pa_nil)) (pv 3)) pa_nil)) rfl))))
      (C8.pss_cut (ps_set (i := 2) scLLow.nd rfl (.inl rfl) (pe_ifExp (pt_cmpR op_lt (pv 1) pe_int (nomark _)) (pe_un un_neg (pv 2)) (pv 2)))
      (pss_one (ps_ret (pe_tup (pa_cons (pe_op op_fdivZ (pv 0) (pv 2)) (pa_cons (pe_op op_fdivZ (pv 1) (pv 2)) pa_nil))))))), ?_⟩
    refine ⟨fun σ' H' => σ' = [some (.int t), some (.int b), some (.int (t.natAbs : Nat)), some (.int (b.natAbs : Nat)), none] ∧ H' = H, ?_, ?_⟩
    · refine ⟨_, rfl, t, rfl, _, rfl, b, rfl, _, _, rfl, ?_⟩
      rw [abs_if, abs_if]
      exact ⟨rfl, rfl⟩
    rintro _ H1 ⟨rfl, rfl⟩
    refine ⟨fun σ' H' => ∃ lap, σ' = [some (.int t), some (.int b), some (.int ((Nat.gcd t.natAbs b.natAbs : Nat) : Int)), some (.int 0), lap] ∧ H' = H1, ?_, ?_⟩
    · refine ⟨9000, rfl, by decide, by decide, for_range (n := 9000) (fun i σ' H' => ∃ (x y : Nat) (lap : Option V), σ' = [some (.int t), some (.int b), some (.int (x : Int)), some (.int (y : Int)), lap] ∧ H' = H1 ∧ Nat.gcd x y = Nat.gcd t.natAbs b.natAbs ∧ Eu i x y)
        ⟨_, _, none, rfl, rfl, rfl, .inl ⟨rfl, ht, hbb⟩⟩ ?_ ?_⟩
      · rintro i _ _ hi ⟨x, y, lap, rfl, rfl, hg, he⟩
        refine ⟨_, rfl, rfl, _, rfl, ite2 (fun e => ?_) (fun e => ?_)⟩
        · have e' : y = 0 := by have := V.int.inj (of_decide_eq_true e); omega
          subst e'
          rw [Nat.gcd_zero_right] at hg
          subst hg
          exact ⟨_, rfl, rfl⟩
        · have e' : y ≠ 0 := fun z => e (decide_eq_true (by rw [z]; rfl))
          refine ⟨_, rfl, _, rfl, .inl ⟨_, rfl, _, rfl, _, _, rfl, rfl, by show (0 : Int) < y; omega, _, _, rfl, y, x % y, _, rfl, rfl, ?_, he.step e'⟩⟩
          rw [← hg, Nat.gcd_comm x y, Nat.gcd_rec y x, Nat.gcd_comm]
      · rintro _ _ ⟨x, y, lap, rfl, rfl, hg, he⟩
        have e' := he.stop
        subst e'
        rw [Nat.gcd_zero_right] at hg
        subst hg
        exact ⟨_, rfl, rfl⟩
    rintro _ H2 ⟨lap, rfl, rfl⟩
    refine ⟨fun σ' H' => σ' = [some (.int t), some (.int b), some (.int (cm t b)), some (.int 0), lap] ∧ H' = H2, ?_, ?_⟩
    · refine ⟨_, rfl, _, _, rfl, rfl, _, rfl, ite2 (fun e => ?_) (fun e => ?_)⟩
      · have ec : cm t b = -((Nat.gcd t.natAbs b.natAbs : Nat) : Int) := by unfold cm; rw [if_pos (of_decide_eq_true e)]
        exact ⟨_, rfl, _, rfl, by rw [ec]; rfl, rfl⟩
      · have ec : cm t b = ((Nat.gcd t.natAbs b.natAbs : Nat) : Int) := by unfold cm; rw [if_neg (fun z => e (decide_eq_true z))]
        exact ⟨_, rfl, by rw [ec]; rfl, rfl⟩
    rintro _ H3 ⟨rfl, rfl⟩
    have hc : (cm t b).natAbs.log2 < 9000 := by
      rw [cm_abs]
      refine wide_big (i := ((Nat.gcd t.natAbs b.natAbs : Nat) : Int)) ?_
      show Nat.gcd _ _ < _
      exact Nat.lt_of_le_of_lt (Nat.gcd_le_right _ (by omega)) hbb
    refine ⟨_, rfl, _, rfl, _, _, rfl, rfl, ⟨cm_ne hb, hc⟩, _, rfl, _, rfl, _, _, rfl, rfl, ⟨cm_ne hb, hc⟩, by show 2 ≤ sizeLine; decide, fun p np => ?_⟩
    exact q _ p (same_new np) np upd_same
end
end KQ

namespace KQ
open PySem PySem.Spec PyProof.Rows L2
/-! ### the law's small helpers -/
theorem pair_dp {K : PySem.W.Frag} {H : Hp} {a : Addr} {x y : Int} (h : H a = some (.tup [.int x, .int y])) : Dp K H (.ref a) (.tuple [.int x, .int y]) := .tup (.inl (.inl h)) (.cons (.int x) (.cons (.int y) .nil))
theorem pair_sh {x y : Int} : SeqAt.shaped (.tuple [.int x, .int y]) = true := rfl
theorem pair_eqv {x y : Int} : PyData.eqv (.tuple [.int x, .int y]) (.tuple [.int x, .int y]) = true := by
  show ((x == x) && ((y == y) && true)) = true
  simp
theorem pairs_ne {K : PySem.W.Frag} {H : Hp} {a b : Addr} {x y : Int} {Q : VK} (h : H a = some (.tup [.int x, .int y])) (h' : H b = some (.tup [.int x, .int y])) (q : Q (.bl false) H) : rNeD K (.ref a) (.ref b) H Q := by
  refine ⟨_, _, pair_dp h, pair_dp h', pair_sh, pair_sh, ?_⟩
  rw [pair_eqv]
  exact q
theorem pairs_eq {K : PySem.W.Frag} {H : Hp} {a b : Addr} {x y : Int} {Q : VK} (h : H a = some (.tup [.int x, .int y])) (h' : H b = some (.tup [.int x, .int y])) (q : Q (.bl true) H) : rEqD K (.ref a) (.ref b) H Q := by
  refine ⟨_, _, pair_dp h, pair_dp h', pair_sh, pair_sh, ?_⟩
  rw [pair_eqv]
  exact q
def spLRat : Sp := fun vs H Q _ => ∃ (p : Addr) (x y : Int), vs = [.ref p] ∧ H p = some (.tup [.int x, .int y]) ∧ 0 < y ∧ big x ∧ big y ∧ Lw x y = (x, y) ∧ ∀ H', Same H H' → Q (.bl true) H'
def spLPair : Sp := fun vs H Q _ => ∃ (v : V) (t b : Int), vs = [v] ∧ Num H v t b ∧ ∀ H' p, Same H H' → H' p = some (.tup [.int t, .int b]) → Q (.ref p) H'
abbrev G2 := Int → Int → Int → Int → Hp → VK → Prop
def spLBin (good : G2) : Sp := fun vs H Q _ => ∃ (p q : Addr) (x y x' y' : Int), vs = [.ref p, .ref q] ∧ H p = some (.tup [.int x, .int y]) ∧ H q = some (.tup [.int x', .int y']) ∧ y ≠ 0 ∧ y' ≠ 0 ∧ sm x ∧ sm y ∧ sm x' ∧ sm y' ∧ good x y x' y' H Q
def g2Add : G2 := fun x y x' y' H Q => New H Q (x * y' + x' * y) (y * y')
def g2Mul : G2 := fun x y x' y' H Q => New H Q (x * x') (y * y')
def g2Bel : G2 := fun x y x' y' H Q => Q (.bl (decide (x * y' < x' * y))) H
section
variable {P : Program} {w : World} {K : PySem.W.Frag} {mg : Str → Option Value} {base : Heap}
theorem ok_whole {f : Addr} {fd : FuncData} {k : Nat} (F : Fun K "_law_is_whole" "_law_is_whole" sWhole f fd) (B : Bl mg) : FnOk P w K mg base CX0 (k + 1) f fd ["_law_value"] spIsI := by
  refine F.ok scWhole (fun vs H Q E h => ?_) (fun cdv A outer s H vs Q E hr h => ?_)
  · obtain ⟨v, rfl, _⟩ := h
    rfl
  · obtain ⟨v, rfl, hk, q⟩ := h
    refine ⟨_, pss_one (ps_ret (pe_and (pe_callB call_isi (by rfl) B.isi PyProof.Rows.boot_isinstance (pa_cons (pv 0) (pa_cons (pe_bltn (v := .ty "int") (by rfl) B.int bootI rfl) pa_nil)))
      (pe_one (pe_not (pe_callB call_isi (by rfl) B.isi PyProof.Rows.boot_isinstance (pa_cons (pv 0) (pa_cons (pe_bltn (v := .ty "bool") (by rfl) B.bool bootB rfl) pa_nil))))))), ?_⟩
    obtain ⟨n, ty, h⟩ := hk.ty
    rcases h with ⟨hi, rfl⟩ | ⟨hi, rfl | rfl | rfl | rfl | rfl⟩ <;> rw [hi] at q
    · refine ⟨_, rfl, v, _, _, _, true, rfl, .ty "int", ty K, kit_ty (by decide +kernel), _, rfl, ?_⟩
      refine ⟨_, rfl, v, _, _, _, false, rfl, .ty "bool", ty K, kit_ty (by decide +kernel), _, rfl, q⟩
    · exact ⟨_, rfl, v, _, _, _, false, rfl, .ty "int", ty K, kit_ty (by decide +kernel), _, rfl, q⟩
    · refine ⟨_, rfl, v, _, _, _, true, rfl, .ty "int", ty K, kit_ty (by decide +kernel), _, rfl, ?_⟩
      refine ⟨_, rfl, v, _, _, _, true, rfl, .ty "bool", ty K, kit_ty (by decide +kernel), _, rfl, q⟩
    · exact ⟨_, rfl, v, _, _, _, false, rfl, .ty "int", ty K, kit_ty (by decide +kernel), _, rfl, q⟩
    · exact ⟨_, rfl, v, _, _, _, false, rfl, .ty "int", ty K, kit_ty (by decide +kernel), _, rfl, q⟩
    · exact ⟨_, rfl, v, _, _, _, false, rfl, .ty "int", ty K, kit_ty (by decide +kernel), _, rfl, q⟩
theorem ok_lrat {f fW fL : Addr} {fd dW dL : FuncData} (F : Fun K "_law_is_ratio" "_law_is_ratio" sLRat f fd) (FW : Fun K "_law_is_whole" "_law_is_whole" sWhole fW dW) (bW : Binds K dW ["_law_value"] []) (gW : mg "_law_is_whole" = some (.ref fW))
    (FL : Fun K "_law_lowest" "_law_lowest" sLLow fL dL) (bL : Binds K dL ["_law_top", "_law_bottom"] []) (gL : mg "_law_lowest" = some (.ref fL)) (B : Bl mg) : FnOk P w K mg base CX0 2 f fd ["_law_value"] spLRat := by
  have GW : FnOk P w K mg base CX0 1 fW dW ["_law_value"] spIsI := ok_whole FW B
  have GL : FnOk P w K mg base CX0 1 fL dL ["_law_top", "_law_bottom"] spLow := ok_llow FL B
  refine F.ok scLRat (fun vs H Q E h => ?_) (fun cdv A outer s H vs Q E hr h => ?_)
  · obtain ⟨p, x, y, rfl, _⟩ := h
    rfl
  · obtain ⟨p, x, y, rfl, e, hy, bx, by', hl, q⟩ := h
    have hu : (A.deeper (envOfC "_law_is_ratio" (defScope sLRat) s.heap.objs.size f cdv)).units + 64 < cLine := hr.units
    refine ⟨_, C8.pss_cut (ps_if (pw_or (pt_not (pt_val (pe_callB call_isi (by rfl) B.isi PyProof.Rows.boot_isinstance (pa_cons (pv 0) (pa_cons (pe_bltn (v := .ty "tuple") (by rfl) B.tuple bootT rfl) pa_nil)))))
          (pw_or (pt_cmpR op_ne (pe_callB call_len_seq (by rfl) B.len PySem.boot_len (pa_cons (pv 0) pa_nil)) pe_int (nomark _))
          (pw_or (pt_not (pt_val (pe_call GW hr (by rfl) gW FW.kp bW .nil pass0 (pa_cons (pe_ix ix_tup (pv 0) pe_int (fun _ _ => rfl)) pa_nil))))
          (pw_or1 (pt_not (pt_val (pe_call GW hr (by rfl) gW FW.kp bW .nil pass0 (pa_cons (pe_ix ix_tup (pv 0) pe_int (fun _ _ => rfl)) pa_nil)))))))).pt (pss_one (ps_ret pe_bl)) pss_nil)
      (pss_one (ps_ret (pe_and (pe_cmpR op_gt (pe_ix ix_tup (pv 0) pe_int (fun _ _ => rfl)) pe_int (nomark _))
        (pe_one (pe_cmpR (op_eqD hu) (pe_call GL hr (by rfl) gL FL.kp bL .nil pass0 (pa_cons (pe_ix ix_tup (pv 0) pe_int (fun _ _ => rfl)) (pa_cons (pe_ix ix_tup (pv 0) pe_int (fun _ _ => rfl)) pa_nil))) (pv 0) (nomark _)))))), ?_⟩
    have sq : SqT K H p [.int x, .int y] := .inl (.inl e)
    have i0 : atI [V.int x, V.int y] 0 = some (.int x) := at_of (j := 0) rfl rfl
    have i1 : atI [V.int x, V.int y] 1 = some (.int y) := at_of (j := 1) rfl rfl
    refine ⟨fun σ' H' => σ' = [some (.ref p)] ∧ H' = H, ?_, ?_⟩
    · refine ⟨_, rfl, .ref p, _, _, _, true, rfl, .ty "tuple", .base (.tup e), kit_ty (by decide +kernel), _, rfl, iteF ?_⟩
      refine ⟨_, rfl, p, _, rfl, .inr sq, rfl, _, rfl, iteF ?_⟩
      refine ⟨_, rfl, p, _, _, _, rfl, rfl, sq, i0, _, rfl, .int x, _, rfl, iteF ?_⟩
      refine ⟨_, rfl, p, _, _, _, rfl, rfl, sq, i1, _, rfl, .int y, _, rfl, iteF ?_⟩
      exact ⟨rfl, rfl⟩
    · rintro _ H1 ⟨rfl, rfl⟩
      refine ⟨_, rfl, p, _, _, _, rfl, rfl, sq, i1, _, _, rfl, rfl, _, rfl, ?_⟩
      rw [decide_eq_true hy]
      refine iteT ⟨_, rfl, p, _, _, _, rfl, rfl, sq, i0, _, rfl, p, _, _, _, rfl, rfl, sq, i1, x, y, rfl, by omega, bx, by', fun H' r s' nr er => ?_⟩
      rw [hl] at er
      exact ⟨_, rfl, pairs_eq er (s' _ _ e) (q H' s')⟩
theorem ok_lpair {f : Addr} {fd : FuncData} {k : Nat} (F : Fun K "_law_pair" "_law_pair" sLPair f fd) (B : Bl mg) : FnOk P w K mg base CX0 (k + 1) f fd ["_law_number_here"] spLPair := by
  refine F.ok scLPair (fun vs H Q E h => ?_) (fun cdv A outer s H vs Q E hr h => ?_)
  · obtain ⟨v, t, b, rfl, _⟩ := h
    rfl
  · obtain ⟨v, t, b, rfl, hn, q⟩ := h
    refine ⟨_, pss_one (ps_ret (pe_ifExp (pt_val (pe_callB call_isi (by rfl) B.isi PyProof.Rows.boot_isinstance (pa_cons (pv 0) (pa_cons (pe_bltn (v := .ty "int") (by rfl) B.int bootI rfl) pa_nil)))) (pe_tup (pa_cons (pv 0) (pa_cons pe_int pa_nil))) (pv 0))), ?_⟩
    rcases hn with ⟨rfl, rfl⟩ | ⟨p, rfl, e, hp⟩
    · refine ⟨_, rfl, .int t, _, _, _, true, rfl, .ty "int", .base (.int t), kit_ty (by decide +kernel), _, rfl, iteT ⟨_, rfl, by show 2 ≤ sizeLine; decide, fun p np => ?_⟩⟩
      exact q _ p (same_new np) upd_same
    · exact ⟨_, rfl, .ref p, _, _, _, false, rfl, .ty "int", .base (.tup e), kit_ty (by decide +kernel), _, rfl, iteF ⟨_, rfl, q H p (Same.refl H) e⟩⟩
theorem ok_ladd {f fL : Addr} {fd dL : FuncData} (F : Fun K "_law_add" "_law_add" sLAdd f fd)
    (FL : Fun K "_law_lowest" "_law_lowest" sLLow fL dL) (bL : Binds K dL ["_law_top", "_law_bottom"] []) (gL : mg "_law_lowest" = some (.ref fL)) (B : Bl mg) : FnOk P w K mg base CX0 2 f fd ["_law_one", "_law_two"] (spLBin g2Add) := by
  have GL : FnOk P w K mg base CX0 1 fL dL ["_law_top", "_law_bottom"] spLow := ok_llow FL B
  refine F.ok scLAdd (fun vs H Q E h => ?_) (fun cdv A outer s H vs Q E hr h => ?_)
  · obtain ⟨p, q, x, y, x', y', rfl, _⟩ := h
    rfl
  · obtain ⟨p, q, x, y, x', y', rfl, e, e', hy, hy', s1, s2, s3, s4, k⟩ := h
    have I : ∀ (i : Nat) {pos p1 : Pos}, True := fun _ {_ _} => trivial
    refine ⟨_, pss_one (ps_ret (pe_call GL hr (by rfl) gL FL.kp bL .nil pass0 (pa_cons (pe_op op_add (pe_op op_mulW (pe_ix ix_tup (pv 0) pe_int (fun _ _ => rfl)) (pe_ix ix_tup (pv 1) pe_int (fun _ _ => rfl))) (pe_op op_mulW (pe_ix ix_tup (pv 1) pe_int (fun _ _ => rfl)) (pe_ix ix_tup (pv 0) pe_int (fun _ _ => rfl))))
      (pa_cons (pe_op op_mulW (pe_ix ix_tup (pv 0) pe_int (fun _ _ => rfl)) (pe_ix ix_tup (pv 1) pe_int (fun _ _ => rfl))) pa_nil)))), ?_⟩
    have sq : SqT K H p [.int x, .int y] := .inl (.inl e)
    have sq' : SqT K H q [.int x', .int y'] := .inl (.inl e')
    have i0 : ∀ a b : Int, atI [V.int a, V.int b] 0 = some (.int a) := fun _ _ => at_of (j := 0) rfl rfl
    have i1 : ∀ a b : Int, atI [V.int a, V.int b] 1 = some (.int b) := fun _ _ => at_of (j := 1) rfl rfl
    refine ⟨_, rfl, p, _, _, _, rfl, rfl, sq, i0 _ _, _, rfl, q, _, _, _, rfl, rfl, sq', i1 _ _, _, _, rfl, rfl, s1.mul s4, ?_⟩
    refine ⟨_, rfl, q, _, _, _, rfl, rfl, sq', i0 _ _, _, rfl, p, _, _, _, rfl, rfl, sq, i1 _ _, _, _, rfl, rfl, s3.mul s2, _, _, rfl, rfl, ?_⟩
    exact ⟨_, rfl, p, _, _, _, rfl, rfl, sq, i1 _ _, _, rfl, q, _, _, _, rfl, rfl, sq', i1 _ _, _, _, rfl, rfl, s2.mul s4, _, _, rfl, Int.mul_ne_zero hy hy', big_of (add601 (s1.mulB s4) (s3.mulB s2)), big_of (lt601 (s2.mulB s4)), k⟩
theorem ok_lmul {f fL : Addr} {fd dL : FuncData} (F : Fun K "_law_mul" "_law_mul" sLMul f fd)
    (FL : Fun K "_law_lowest" "_law_lowest" sLLow fL dL) (bL : Binds K dL ["_law_top", "_law_bottom"] []) (gL : mg "_law_lowest" = some (.ref fL)) (B : Bl mg) : FnOk P w K mg base CX0 2 f fd ["_law_one", "_law_two"] (spLBin g2Mul) := by
  have GL : FnOk P w K mg base CX0 1 fL dL ["_law_top", "_law_bottom"] spLow := ok_llow FL B
  refine F.ok scLMul (fun vs H Q E h => ?_) (fun cdv A outer s H vs Q E hr h => ?_)
  · obtain ⟨p, q, x, y, x', y', rfl, _⟩ := h
    rfl
  · obtain ⟨p, q, x, y, x', y', rfl, e, e', hy, hy', s1, s2, s3, s4, k⟩ := h
    refine ⟨_, pss_one (ps_ret (pe_call GL hr (by rfl) gL FL.kp bL .nil pass0 (pa_cons (pe_op op_mulW (pe_ix ix_tup (pv 0) pe_int (fun _ _ => rfl)) (pe_ix ix_tup (pv 1) pe_int (fun _ _ => rfl)))
      (pa_cons (pe_op op_mulW (pe_ix ix_tup (pv 0) pe_int (fun _ _ => rfl)) (pe_ix ix_tup (pv 1) pe_int (fun _ _ => rfl))) pa_nil)))), ?_⟩
    have sq : SqT K H p [.int x, .int y] := .inl (.inl e)
    have sq' : SqT K H q [.int x', .int y'] := .inl (.inl e')
    have i0 : ∀ a b : Int, atI [V.int a, V.int b] 0 = some (.int a) := fun _ _ => at_of (j := 0) rfl rfl
    have i1 : ∀ a b : Int, atI [V.int a, V.int b] 1 = some (.int b) := fun _ _ => at_of (j := 1) rfl rfl
    refine ⟨_, rfl, p, _, _, _, rfl, rfl, sq, i0 _ _, _, rfl, q, _, _, _, rfl, rfl, sq', i0 _ _, _, _, rfl, rfl, s1.mul s3, ?_⟩
    exact ⟨_, rfl, p, _, _, _, rfl, rfl, sq, i1 _ _, _, rfl, q, _, _, _, rfl, rfl, sq', i1 _ _, _, _, rfl, rfl, s2.mul s4, _, _, rfl, Int.mul_ne_zero hy hy', big_of (lt601 (s1.mulB s3)), big_of (lt601 (s2.mulB s4)), k⟩
theorem ok_lbel {f : Addr} {fd : FuncData} {k : Nat} (F : Fun K "_law_below" "_law_below" sLBel f fd) : FnOk P w K mg base CX0 (k + 1) f fd ["_law_one", "_law_two"] (spLBin g2Bel) := by
  refine F.ok scLBel (fun vs H Q E h => ?_) (fun cdv A outer s H vs Q E hr h => ?_)
  · obtain ⟨p, q, x, y, x', y', rfl, _⟩ := h
    rfl
  · obtain ⟨p, q, x, y, x', y', rfl, e, e', hy, hy', s1, s2, s3, s4, k⟩ := h
    refine ⟨_, pss_one (ps_ret (pe_cmpR op_lt (pe_op op_mulW (pe_ix ix_tup (pv 0) pe_int (fun _ _ => rfl)) (pe_ix ix_tup (pv 1) pe_int (fun _ _ => rfl))) (pe_op op_mulW (pe_ix ix_tup (pv 1) pe_int (fun _ _ => rfl)) (pe_ix ix_tup (pv 0) pe_int (fun _ _ => rfl))) (nomark _))), ?_⟩
    have sq : SqT K H p [.int x, .int y] := .inl (.inl e)
    have sq' : SqT K H q [.int x', .int y'] := .inl (.inl e')
    have i0 : ∀ a b : Int, atI [V.int a, V.int b] 0 = some (.int a) := fun _ _ => at_of (j := 0) rfl rfl
    have i1 : ∀ a b : Int, atI [V.int a, V.int b] 1 = some (.int b) := fun _ _ => at_of (j := 1) rfl rfl
    refine ⟨_, rfl, p, _, _, _, rfl, rfl, sq, i0 _ _, _, rfl, q, _, _, _, rfl, rfl, sq', i1 _ _, _, _, rfl, rfl, s1.mul s4, ?_⟩
    exact ⟨_, rfl, q, _, _, _, rfl, rfl, sq', i0 _ _, _, rfl, p, _, _, _, rfl, rfl, sq, i1 _ _, _, _, rfl, rfl, s3.mul s2, _, _, rfl, rfl, k⟩
end
end KQ

namespace KQ
open PySem PySem.Spec PyProof.Rows L2
/-! ### drawn numbers -/
theorem scLNum : FnScope ["_law_pen_here", "_law_wide", "_law_top", "_law_bottom", "_law_by"] ["_law_pen_here"] (defScope sLNum) := ⟨rfl, rfl, rfl, by decide +kernel, rfl, by decide +kernel, by decide +kernel⟩
/-- all but the pen is as it was -/
def KeepP (p : Addr) (H H' : Hp) : Prop := ∀ q o, q ≠ p → H q = some o → H' q = some o
theorem KeepP.refl (p : Addr) (H : Hp) : KeepP p H H := fun _ _ _ e => e
theorem KeepP.trans {p : Addr} {H H1 H2 : Hp} (a : KeepP p H H1) (b : KeepP p H1 H2) : KeepP p H H2 := fun q o n e => b q o n (a q o n e)
theorem KeepP.of_same {p : Addr} {H H' : Hp} (s : Same H H') : KeepP p H H' := fun q o _ e => s q o e
theorem KeepP.of_eq {p : Addr} {H H' : Hp} (s : ∀ b, b ≠ p → H' b = H b) : KeepP p H H' := fun q o n e => (s q n).trans e
def spLNum : Sp := fun vs H Q _ => ∃ (p c : Addr) (n : Nat), vs = [.ref p] ∧ PenAt H p c n ∧ n + 6 < 1000000 ∧ ∀ v t b H', Num H' v t b → sm t → sm b → PenAt H' p c (n + 6) → KeepP p H H' → Q v H'
theorem sm_of {i : Int} (h : i.natAbs < 2 ^ 210) : sm i := Nat.lt_trans h (Nat.pow_lt_pow_right (by decide) (by decide))
section
variable {P : Program} {w : World} {K : PySem.W.Frag} {mg : Str → Option Value} {base : Heap}
theorem ok_lnum {f fD fP : Addr} {fd dD dP : FuncData} (F : Fun K "_law_number" "_law_number" sLNum f fd) (FD : Fun K "_law_draw" "_law_draw" sDraw fD dD) (bD : Binds K dD ["_law_pen_here", "_law_many"] []) (gD : mg "_law_draw" = some (.ref fD))
    (FP : Fun K "_law_pick" "_law_pick" sPick fP dP) (bP : Binds K dP ["_law_pen_here", "_law_some"] []) (gP : mg "_law_pick" = some (.ref fP)) (B : Bl mg) : FnOk P w K mg base CX0 3 f fd ["_law_pen_here"] spLNum := by
  have GD : FnOk P w K mg base CX0 1 fD dD ["_law_pen_here", "_law_many"] spDraw := ok_draw FD B.int B.len
  have GP : FnOk P w K mg base CX0 2 fP dP ["_law_pen_here", "_law_some"] (spPick K) := ok_pick FP FD bD gD B.int B.len
  refine F.ok scLNum (fun vs H Q E h => ?_) (fun cdv A outer s H vs Q E hr h => ?_)
  · obtain ⟨p, c, n, rfl, _⟩ := h
    rfl
  · obtain ⟨p, c, n, rfl, hP, hn, k⟩ := h
    have hr1 : Room 1 _ := hr.mono (by decide)
    refine ⟨_, C8.pss_cut (ps_set (i := 1) scLNum.nd rfl (.inl rfl) (pe_call GP hr (by rfl) gP FP.kp bP .nil pass0 (pa_cons (pv 0) (pa_cons (pe_lst (pa_cons pe_int (pa_cons pe_int (pa_cons (pe_op op_pow pe_int pe_int) pa_nil)))) pa_nil))))
      (C8.pss_cut (ps_par3 (i := 2) (j := 3) (l := 4) rfl scLNum.nd rfl rfl rfl (by decide) (by decide) (by decide) rfl rfl rfl
        (pa_cons (pe_op op_sub (pe_call GD hr1 (by rfl) gD FD.kp bD .nil pass0 (pa_cons (pv 0) (pa_cons (pe_op op_add (pe_op op_mul pe_int (pv 1)) pe_int) pa_nil))) (pv 1))
        (pa_cons (pe_op op_add pe_int (pe_call GD hr1 (by rfl) gD FD.kp bD .nil pass0 (pa_cons (pv 0) (pa_cons (pv 1) pa_nil))))
        (pa_cons (pe_op op_add pe_int (pe_call GD hr1 (by rfl) gD FD.kp bD .nil pass0 (pa_cons (pv 0) (pa_cons pe_int pa_nil)))) pa_nil))) rfl)
      (C8.pss_cut (ps_if (pt_cmpR op_eq (pe_call GD hr1 (by rfl) gD FD.kp bD .nil pass0 (pa_cons (pv 0) (pa_cons pe_int pa_nil))) pe_int (nomark _))
          (pss_one (ps_par (i := 2) (j := 3) rfl scLNum.nd rfl rfl (by decide) rfl rfl (pa_cons (pe_op op_add (pe_op op_mulW (pv 2) (pe_op op_pow pe_int pe_int)) pe_int) (pa_cons (pe_op op_add (pe_op op_mulW (pv 3) (pe_op op_pow pe_int pe_int)) pe_int) pa_nil)) rfl)) pss_nil)
      (pss_one (ps_ret (pe_ifExp (pt_cmpR op_eq (pe_call GD hr1 (by rfl) gD FD.kp bD .nil pass0 (pa_cons (pv 0) (pa_cons pe_int pa_nil))) pe_int (nomark _)) (pv 2) (pe_tup (pa_cons (pe_op op_mulW (pv 2) (pv 4)) (pa_cons (pe_op op_mulW (pv 3) (pv 4)) pa_nil)))))))), ?_⟩
    -- how wide
    refine ⟨fun σ' H' => ∃ W : Int, σ' = [some (.ref p), some (.int W), none, none, none] ∧ 4 ≤ W ∧ W ≤ 1000000000000000 ∧ PenAt H' p c (n + 1) ∧ KeepP p H H', ?_, ?_⟩
    · refine ⟨_, rfl, _, _, rfl, rfl, ⟨by decide, by decide, by decide⟩, by show 3 ≤ sizeLine; decide, fun y ny => ?_⟩
      have sy := same_new (o := HO.lst [V.int 4, V.int 1000, V.int (10 ^ (15 : Int).toNat)]) ny
      refine ⟨p, c, y, n, [V.int 4, V.int 1000, V.int (10 ^ (15 : Int).toNat)], rfl, hP.ext sy, by omega, .inl (SqL.of upd_same), by simp, by show 3 ≤ 1000; decide, fun i v H' hi hP' hk => ?_⟩
      have hv : v = .int 4 ∨ v = .int 1000 ∨ v = .int 1000000000000000 := by
        have m := List.mem_of_getElem? hi
        simp only [List.mem_cons, List.not_mem_nil, or_false] at m
        exact m
      have kp : KeepP p H H' := (KeepP.of_same sy).trans (.of_eq hk)
      rcases hv with rfl | rfl | rfl
      · exact ⟨4, rfl, by decide, by decide, hP', kp⟩
      · exact ⟨1000, rfl, by decide, by decide, hP', kp⟩
      · exact ⟨1000000000000000, rfl, by decide, by decide, hP', kp⟩
    rintro _ H1 ⟨W, rfl, w1, w2, hP1, k1⟩
    -- top, bottom, by
    refine ⟨fun σ' H' => ∃ t b y : Int, σ' = [some (.ref p), some (.int W), some (.int t), some (.int b), some (.int y)] ∧ t.natAbs ≤ 1000000000000000 ∧ 1 ≤ b ∧ b ≤ 1000000000000000 ∧ 1 ≤ y ∧ y ≤ 4 ∧ PenAt H' p c (n + 4) ∧ KeepP p H H', ?_, ?_⟩
    · refine ⟨_, rfl, _, rfl, _, _, rfl, rfl, .inl ⟨by decide, by decide⟩, _, _, rfl, rfl, p, c, n + 1, _, rfl, hP1, by omega, by omega, ?_, fun r1 H2 a1 a2 hP2 e2 => ?_⟩
      · have : (2 * W + 1).natAbs < 2 ^ 60 := by omega
        exact Nat.lt_trans this (Nat.pow_lt_pow_right (by decide) (by decide))
      refine ⟨_, rfl, _, _, rfl, rfl, _, rfl, _, rfl, p, c, n + 2, _, rfl, hP2, by omega, by omega, ?_, fun r2 H3 b1 b2 hP3 e3 => ?_⟩
      · have : W.natAbs < 2 ^ 60 := by omega
        exact Nat.lt_trans this (Nat.pow_lt_pow_right (by decide) (by decide))
      refine ⟨_, _, rfl, rfl, _, rfl, p, c, n + 3, _, rfl, hP3, by omega, by decide, by decide, fun r3 H4 d1 d2 hP4 e4 => ?_⟩
      exact ⟨_, _, rfl, rfl, _, _, _, rfl, _, _, _, rfl, by omega, by omega, by omega, by omega, by omega, hP4, ((k1.trans (.of_eq e2)).trans (.of_eq e3)).trans (.of_eq e4)⟩
    rintro _ H2 ⟨t, b, y, rfl, t1, b1, b2, y1, y2, hP2, k2⟩
    -- far ones
    refine ⟨fun σ' H' => ∃ t b : Int, σ' = [some (.ref p), some (.int W), some (.int t), some (.int b), some (.int y)] ∧ t.natAbs < 2 ^ 205 ∧ 0 < b ∧ b.natAbs < 2 ^ 205 ∧ PenAt H' p c (n + 5) ∧ KeepP p H H', ?_, ?_⟩
    · have lt50 : ∀ {i : Int}, i.natAbs ≤ 1000000000000000 → i.natAbs < 2 ^ 50 := fun {i} h => Nat.lt_of_le_of_lt h (by decide)
      have lt205 : ∀ {i : Int}, i.natAbs ≤ 1000000000000000 → i.natAbs < 2 ^ 205 := fun {i} h => Nat.lt_of_le_of_lt h (by decide)
      refine ⟨_, rfl, p, c, n + 4, _, rfl, hP2, by omega, by decide, by decide, fun r H3 c1 c2 hP3 e3 => ⟨rfl, _, rfl, ite2 (fun e => ?_) (fun e => ?_)⟩⟩
      · refine ⟨_, rfl, _, _, rfl, rfl, ⟨by decide, by decide, by decide⟩, _, _, rfl, rfl, wide_mul (lt50 t1) (show (((10 : Int) ^ (45 : Int).toNat)).natAbs < 2 ^ 150 by decide) (by decide) (by decide) (by decide), _, _, rfl, rfl, ?_⟩
        refine ⟨_, rfl, _, _, rfl, rfl, ⟨by decide, by decide, by decide⟩, _, _, rfl, rfl, wide_mul (lt50 (i := b) (by omega)) (show (((10 : Int) ^ (44 : Int).toNat)).natAbs < 2 ^ 150 by decide) (by decide) (by decide) (by decide), _, _, rfl, rfl, ?_⟩
        have h1 := wide_lt (lt50 t1) (show (((10 : Int) ^ (45 : Int).toNat)).natAbs < 2 ^ 150 by decide)
        have h2 := wide_lt (lt50 (i := b) (by omega)) (show (((10 : Int) ^ (44 : Int).toNat)).natAbs < 2 ^ 150 by decide)
        have h3 : 0 < b * (10 : Int) ^ (44 : Int).toNat := Int.mul_pos (by omega) (by decide)
        have e205 : (2 : Nat) ^ (50 + 150) + 100 < 2 ^ 205 := by decide
        refine ⟨_, _, rfl, _, _, rfl, ?_, ?_, ?_, hP3, k2.trans (.of_eq e3)⟩
        · generalize t * (10 : Int) ^ (45 : Int).toNat = z at h1 ⊢
          omega
        · omega
        · generalize b * (10 : Int) ^ (44 : Int).toNat = z at h2 h3 ⊢
          omega
      · exact ⟨_, _, rfl, lt205 t1, by omega, lt205 (by omega), hP3, k2.trans (.of_eq e3)⟩
    rintro _ H3 ⟨t, b, rfl, t1, b0, b1, hP3, k3⟩
    refine ⟨_, rfl, p, c, n + 5, _, rfl, hP3, by omega, by decide, by decide, fun r H4 c1 c2 hP4 e4 => ⟨rfl, _, rfl, ite2 (fun e => ?_) (fun e => ?_)⟩⟩
    · exact ⟨_, rfl, k _ t 1 H4 (.inl ⟨rfl, rfl⟩) (sm_of (Nat.lt_trans t1 (Nat.pow_lt_pow_right (by decide) (by decide)))) (sm_of (by decide)) hP4 (k3.trans (.of_eq e4))⟩
    · have hy : y.natAbs < 2 ^ 3 := by omega
      have m1 := wide_lt t1 hy
      have m2 := wide_lt b1 hy
      have e210 : (2 : Nat) ^ (205 + 3) < 2 ^ 210 := Nat.pow_lt_pow_right (by decide) (by decide)
      refine ⟨_, rfl, _, rfl, _, _, rfl, rfl, wide_mul t1 hy (by decide) (by decide) (by decide), _, rfl, _, rfl, _, _, rfl, rfl, wide_mul b1 hy (by decide) (by decide) (by decide), by show 2 ≤ sizeLine; decide, fun q nq => ?_⟩
      have sq := same_new (o := HO.tup [V.int (t * y), V.int (b * y)]) nq
      exact k _ _ _ _ (.inr ⟨q, rfl, upd_same, Int.mul_pos b0 (by omega)⟩) (sm_of (Nat.lt_trans m1 e210)) (sm_of (Nat.lt_trans m2 e210)) (hP4.ext sq) ((k3.trans (.of_eq e4)).trans (.of_same sq))
end
end KQ

namespace KQ
open PySem PySem.Spec PyProof.Rows L2 LamX
/-! ### what a call refuses -/
abbrev sRef : Stmt := topS 27
theorem scRef : FnScope ["_law_call", "e"] ["_law_call"] (defScope sRef) := ⟨rfl, rfl, rfl, by decide +kernel, rfl, by decide +kernel, by decide +kernel⟩
def TTr (C : Addr) : (XK → Hp → VK → Prop) → Hp → VK → Prop := fun tl H Q =>
  tl (fun cls d H' => ∃ (dd : Addr) (wd v : V), cls = .ref C ∧ d = some dd ∧ H' dd = some (.xd (xdB wd v)) ∧ ∀ p, H' p = none → Q (.ref p) (upd H' p (.lst [wd, v]))) H (fun _ H' => ([] : List V).length ≤ sizeLine ∧ ∀ p, H' p = none → Q (.ref p) (upd H' p (.lst [])))
theorem lkW (wd v : V) : (xdB wd v).lookup ("what" : Str) = some wd := by
  show ([("number", v), ("what", wd)] : List (Str × V)).lookup ("what" : Str) = some wd
  rw [lookup_put, if_neg (by decide +kernel), lookup_put, if_pos rfl]
theorem lkN (wd v : V) : (xdB wd v).lookup ("number" : Str) = some v := by
  show ([("number", v), ("what", wd)] : List (Str × V)).lookup ("number" : Str) = some v
  rw [lookup_put, if_pos rfl]
theorem ref_gives {X : Cx} {C g : Addr} {cdg : Value} {q : Str} (gC : X.mg "BadNumber" = some (.ref C)) (XF : XfC X.K C) (n0 : PySem.W.findIn X.K (.ref C) "what" = some none) (n1 : PySem.W.findIn X.K (.ref C) "number" = some none)
    (ex : PySem.W.exmOne X.K (.ref C) (.ref C) = some true) : GivesTo X ["_law_call", "e"] "_law_refused" (defScope sRef) g cdg (defBody sRef) "_law_call" q (TTr C) := by
  intro f c' s H Q tl act hc h
  refine ⟨_, pss_cons (ps_try_as (X := (cxOf C8.CX0 X.prog X.w X.K X.mg X.base ["_law_call", "e"] "_law_refused" (defScope sRef) g cdg X.A X.stack s H C8.E0).nox) (c := .ref C) (i := 1)
      (tb := fun W D σ H => ∃ Ech : XK, (∀ cls d σ' H', σ'.length = 2 → Ech cls d H' → W cls d σ' H') ∧ σ[0]? = some (some (.ref f)) ∧ H c' = some (CodeO c' q) ∧ tl Ech H (fun _ H' => D.nx σ H'))
      rfl rfl scRef.nd rfl rfl ⟨rfl, by decide, .inl gC⟩ LamX.takes0 (fun W pn xe tk _ => ?_)
      (fun a oe cls d pn hz hf => pss_one (ps_ret (pe_lst (pa_cons (pe_xf XF n0 hz hf (pv 1)) (pa_cons (pe_xf XF n1 hz hf (pv 1)) pa_nil))))))
    (pss_one (ps_ret (pe_lst pa_nil))), ?_⟩
  · refine ⟨fun pins s' σ H' D I h' => ?_⟩
    obtain ⟨Ech, hW, h1, h2, h3⟩ := h'
    have tk' : Takes ((cxOf C8.CX0 X.prog X.w X.K X.mg X.base ["_law_call", "e"] "_law_refused" (defScope sRef) g cdg X.A X.stack s H C8.E0).tr pn xe) (fun cls d σ H => σ.length = 2 → W cls d σ H) :=
      fun u s' ⟨a, B, sI, pins, σ, H, cls, d, e, I, nb, up, sky, na, os, ag, w⟩ => tk u s' ⟨a, B, sI, pins, σ, H, cls, d, e, I, nb, up, sky, na, os, ag, w I.len⟩
    have hp := fun p1 p2 => act (fun cls d σ H => σ.length = 2 → W cls d σ H) pn xe Ech p1 p2 tk' (fun cls d σ' H' h hl => hW cls d σ' H' hl h)
    exact (pss_one (ps_expr (hp _ _))).run pins s' σ H' D I ⟨h1, h2, h3⟩
  · refine ⟨_, fun cls d σ' H' hl hE => ?_, rfl, hc, h⟩
    obtain ⟨dd, wd, v, rfl, rfl, hd, hq⟩ := hE
    refine ⟨true, ex, fun _ a na => ?_, fun z => nomatch z⟩
    have h1 : (σ'.set 1 (some (V.ref a)))[1]? = some (some (V.ref a)) := by
      rw [List.getElem?_set_self (by omega)]
    refine ⟨_, h1, rfl, rfl, dd, _, wd, rfl, hd, lkW wd v, ?_⟩
    refine ⟨_, h1, rfl, rfl, dd, _, v, rfl, hd, lkN wd v, by show 2 ≤ sizeLine; decide, fun p np => hq p np⟩
end KQ

namespace KQ
open PySem PySem.Spec PyProof.Rows L2 LamX
/-! ### the law -/
abbrev sLaw : Stmt := topS 28
theorem scLaw : FnScope ["_law_script", "_law_pen_here", "_law_lap", "_law_a", "_law_b", "_law_one", "_law_two", "_law_bad", "_law_tries", "_law_call", "_law_odd", "_law_worse", "_law_zero", "_law_found", "_law_told"] ["_law_script"] (defScope sLaw) :=
  ⟨rfl, rfl, rfl, by decide +kernel, rfl, by decide +kernel, by decide +kernel⟩
/-- a call of a local that holds one of several defs with one promise; what is raised is wished for -/
theorem pe_callAX {X : Cx} {k i : Nat} {sp : Sp} {E : XK} {x : Str} {p pos : Pos} {e : Expr} {es : List Expr} {t : TA} {S : Addr → Prop}
    (A : ∀ f, S f → ∃ (fd : FuncData) (ps : List Str), FnOk X.prog X.w X.K X.mg X.base (L2.CX X.prog X.w) k f fd ps sp ∧ PySem.W.keepIn X.K (.ref f) = true ∧ Binds X.K fd ps []) (hr : Room k X.A) (hN : X.N[i]? = some x) (hv : Vis X.env.scope x)
    (hx : Passes (L2.CX X.prog X.w) X E) (ha : PA X (e :: es) t) (h1 : (x == ("__debug__" : Str)) = false := by decide) (h2 : (x == ("__classdict__" : Str)) = false := by decide)
    (h3 : starEach (e :: es) X.env = (false, eval e X.env) :: starEach es X.env := by rfl) (h4 : (backTo pos (starEach es X.env)).any (·.1) = false := by rfl) :
    PE X (.Call (.Name x p) (e :: es) [] pos) (fun σ H Q => ∃ f, σ[i]? = some (some (.ref f)) ∧ S f ∧ t σ H fun vs H1 => sp vs H1 Q E) := by
  refine ⟨fun pins st σ G Q J want => ?_⟩
  obtain ⟨f, at_i, hS, ht⟩ := want
  obtain ⟨fd, ps, F, kp, b⟩ := A f hS
  refine (pe_callL (i := i) (f := f) (sp := sp) (dvs := []) (E := E) F hr hN hv kp b .nil hx ha h1 h2 h3 h4).run pins st σ G Q J ⟨at_i, ?_⟩
  have same : (fun (vs : List V) (H1 : Hp) => sp (vs ++ []) H1 Q E) = fun vs H1 => sp vs H1 Q E := by
    funext vs H1
    rw [List.append_nil]
  rw [same]
  exact ht
theorem call_repr_bl {X : Cx} : CallR X (.builtin "repr") (fun xs H Q => ∃ b, xs = [.bl b] ∧ Q (.str (if b then "True" else "False")) H) := by
  intro pins st σ G xs us Q J r want
  obtain ⟨b, rfl, q⟩ := want
  obtain ⟨u, rfl, r1⟩ := vals1 r
  cases r1
  exact PySem.P.repr_of_bool ⟨.str _, G, J.tok _, ⟨_, rfl⟩, q⟩
theorem bootRepr : bootBuiltins "repr" = some (.builtin "repr") := by decide +kernel
theorem bootAll : bootBuiltins "all" = some (.builtin "all") := by decide +kernel
/-- the five that refuse alike -/
def spRefs (C : Addr) : Sp := fun vs H Q E => ∃ u v, vs = [u, v] ∧ ((Bad H u ∧ Rz C (.str "ratio") u H E) ∨ (∃ t b, Num H u t b ∧ sm t ∧ sm b ∧ Bad H v ∧ Rz C (.str "ratio") v H E))
theorem refs_of {P : Program} {w : World} {K : PySem.W.Frag} {mg : Str → Option Value} {base : Heap} {CX : CXT} {k : Nat} {f C : Addr} {fd : FuncData} {ps : List Str} {g : Good} (F : FnOk P w K mg base CX k f fd ps (spBin C g)) : FnOk P w K mg base CX k f fd ps (spRefs C) := by
  refine F.imp ?_
  rintro vs H Q E ⟨u, v, rfl, h⟩
  exact ⟨u, v, rfl, .inr h⟩
/-- as Fun.ok, the code object told -/
theorem ok_code {P : Program} {w : World} {K : PySem.W.Frag} {mg : Str → Option Value} {base : Heap} {x qual : Str} {st : Stmt} {f c : Addr} {N ps : List Str} {k : Nat} {sp : Sp} {oc : Value} {od an : Option Addr} {osl : Array (Option Value)} {kV doc pm ct : Value}
    (lk : K.lookup f = some ⟨oc, od, .func (PySem.W.fnOf x qual (defArgs st) (defBody st) (defScope st) .none kV doc pm an (.ref c) ct), osl⟩) (hcd : PySem.W.codeIn K (.ref c) qual = true) (S : FnScope N ps (defScope st)) (len : ∀ vs H Q E, sp vs H Q E → vs.length = ps.length)
    (body : ∀ (A : Around) (outer : List Env) (s : Shared) (H : Hp) (vs : List V) (Q : VK) (E : XK), Room k (A.deeper (envOfC qual (defScope st) s.heap.objs.size f (.ref c))) → sp vs H Q E →
      ∃ t, PSs (cxOf CX0 P w K mg base N qual (defScope st) f (.ref c) A outer s H E).nox (defBody st) t ∧ t { nx := fun _ H' => Q .non H', rt := Q } (start N vs) H) :
    FnOk P w K mg base CX0 (k + 1) f (PySem.W.fnOf x qual (defArgs st) (defBody st) (defScope st) .none kV doc pm an (.ref c) ct) ps sp := by
  refine fn_of lk hcd S len fun A outer s H vs Q E hr want => ?_
  obtain ⟨t, fits, rd⟩ := body A outer s H vs Q E hr want
  exact ⟨t, fits.nox, rd⟩
/-- all that the program's top has left, as the law's call needs it -/
structure Top (K : PySem.W.Frag) (mg : Str → Option Value) (C fB fI fP fL fR fSu fGa fPr fSh fLe fPn fDr fPk fW fLL fLR fLP fLA fLM fLB fN fRf : Addr) (dB dI dP dL dR dSu dGa dPr dSh dLe dPn dDr dPk dW dLL dLR dLP dLA dLM dLB dN dRf : FuncData) : Prop where
  B : Bl mg
  N : BN K mg C fB dB
  XF : XfC K C
  ex : PySem.W.exmOne K (.ref C) (.ref C) = some true
  FI : Fun K "is_integer" "is_integer" sIsI fI dI
  bI : Binds K dI ["value"] []
  gI : mg "is_integer" = some (.ref fI)
  FP : Fun K "is_number" "is_number" sPair fP dP
  bP : Binds K dP ["value"] []
  gP : mg "is_number" = some (.ref fP)
  FL : Fun K "_lowest" "_lowest" sLow fL dL
  bL : Binds K dL ["top", "bottom"] []
  gL : mg "_lowest" = some (.ref fL)
  FR : Fun K "ratio_of" "ratio_of" sRat fR dR
  bR : Binds K dR ["number"] []
  gR : mg "ratio_of" = some (.ref fR)
  FSu : Fun K "ratio_sum" "ratio_sum" (topS 9) fSu dSu
  bSu : Binds K dSu ["one", "other"] []
  gSu : mg "ratio_sum" = some (.ref fSu)
  FGa : Fun K "ratio_gap" "ratio_gap" (topS 10) fGa dGa
  bGa : Binds K dGa ["one", "other"] []
  gGa : mg "ratio_gap" = some (.ref fGa)
  FPr : Fun K "ratio_product" "ratio_product" (topS 11) fPr dPr
  bPr : Binds K dPr ["one", "other"] []
  gPr : mg "ratio_product" = some (.ref fPr)
  FSh : Fun K "ratio_share" "ratio_share" (topS 12) fSh dSh
  bSh : Binds K dSh ["one", "other"] []
  gSh : mg "ratio_share" = some (.ref fSh)
  FLe : Fun K "is_less" "is_less" (topS 13) fLe dLe
  bLe : Binds K dLe ["one", "other"] []
  gLe : mg "is_less" = some (.ref fLe)
  FPn : Fun K "_law_pen" "_law_pen" sPen fPn dPn
  bPn : Binds K dPn ["_law_script"] []
  gPn : mg "_law_pen" = some (.ref fPn)
  FDr : Fun K "_law_draw" "_law_draw" sDraw fDr dDr
  bDr : Binds K dDr ["_law_pen_here", "_law_many"] []
  gDr : mg "_law_draw" = some (.ref fDr)
  FPk : Fun K "_law_pick" "_law_pick" sPick fPk dPk
  bPk : Binds K dPk ["_law_pen_here", "_law_some"] []
  gPk : mg "_law_pick" = some (.ref fPk)
  FW : Fun K "_law_is_whole" "_law_is_whole" sWhole fW dW
  bW : Binds K dW ["_law_value"] []
  gW : mg "_law_is_whole" = some (.ref fW)
  FLL : Fun K "_law_lowest" "_law_lowest" sLLow fLL dLL
  bLL : Binds K dLL ["_law_top", "_law_bottom"] []
  gLL : mg "_law_lowest" = some (.ref fLL)
  FLR : Fun K "_law_is_ratio" "_law_is_ratio" sLRat fLR dLR
  bLR : Binds K dLR ["_law_value"] []
  gLR : mg "_law_is_ratio" = some (.ref fLR)
  FLP : Fun K "_law_pair" "_law_pair" sLPair fLP dLP
  bLP : Binds K dLP ["_law_number_here"] []
  gLP : mg "_law_pair" = some (.ref fLP)
  FLA : Fun K "_law_add" "_law_add" sLAdd fLA dLA
  bLA : Binds K dLA ["_law_one", "_law_two"] []
  gLA : mg "_law_add" = some (.ref fLA)
  FLM : Fun K "_law_mul" "_law_mul" sLMul fLM dLM
  bLM : Binds K dLM ["_law_one", "_law_two"] []
  gLM : mg "_law_mul" = some (.ref fLM)
  FLB : Fun K "_law_below" "_law_below" sLBel fLB dLB
  bLB : Binds K dLB ["_law_one", "_law_two"] []
  gLB : mg "_law_below" = some (.ref fLB)
  FN : Fun K "_law_number" "_law_number" sLNum fN dN
  bN : Binds K dN ["_law_pen_here"] []
  gN : mg "_law_number" = some (.ref fN)
  FRf : Fun K "_law_refused" "_law_refused" sRef fRf dRf
  bRf : Binds K dRf ["_law_call"] []
  gRf : mg "_law_refused" = some (.ref fRf)
end KQ

namespace KQ
open PySem PySem.Spec PyProof.Rows L2 LamX
/-! ### the rows of what was refused -/
def Okv (v : V) : Prop := flatB v = true ∨ ∃ r, v = .ref r
def TryAt (H : Hp) (tr t : Addr) : Prop := ∃ (a b : Addr) (wd v : V), t ≠ tr ∧ a ≠ tr ∧ b ≠ tr ∧ H t = some (.tup [.ref a, .ref b]) ∧ H a = some (.lst [wd, v]) ∧ H b = some (.lst [wd, v]) ∧ Okv wd ∧ Okv v
/-- all but the list of rows and the tables is as it was -/
def KeepT (tr : Addr) (H H' : Hp) : Prop := ∀ b o, b ≠ tr → H b = some o → (∀ ps, o ≠ .tbl ps) → H' b = some o
theorem TryAt.keep {H H' : Hp} {tr t : Addr} (h : TryAt H tr t) (k : KeepT tr H H') : TryAt H' tr t := by
  obtain ⟨a, b, wd, v, n1, n2, n3, h1, h2, h3, o1, o2⟩ := h
  exact ⟨a, b, wd, v, n1, n2, n3, k _ _ n1 h1 (fun ps z => by cases z), k _ _ n2 h2 (fun ps z => by cases z), k _ _ n3 h3 (fun ps z => by cases z), o1, o2⟩
def Inv5 (TT : List (Addr × Str)) (HB : Hp) (tr : Addr) (n : Nat) (H : Hp) : Prop := (∀ b o, HB b = some o → (∀ ps, o ≠ .tbl ps) → b ≠ tr) ∧ ExtN HB H ∧ Tabs TT H ∧ ∃ ts : List Addr, ts.length = n ∧ H tr = some (.lst (ts.map V.ref)) ∧ ∀ t ∈ ts, TryAt H tr t
theorem tabs_same {TT : List (Addr × Str)} {H H' : Hp} (t : Tabs TT H) (s : Same H H') : Tabs TT H' := Tabs.ext t s
theorem code_ne_lst {c : Addr} {q : Str} {xs : List V} : CodeO c q ≠ .lst xs := fun z => by
  unfold CodeO at z
  cases z
theorem tabs_upd {TT : List (Addr × Str)} {H : Hp} {tr : Addr} {xs : List V} {o : HO} (t : Tabs TT H) (e : H tr = some (.lst xs)) : Tabs TT (upd H tr o) := by
  intro p hp
  obtain ⟨ps, h1, h2, h3⟩ := t p hp
  refine ⟨ps, by rw [upd_ne (ne_of h1 e (by intro z; cases z))]; exact h1, h2, fun pos cv hc => ?_⟩
  obtain ⟨c, e1, e2⟩ := h3 pos cv hc
  exact ⟨c, e1, by rw [upd_ne (ne_of e2 e code_ne_lst)]; exact e2⟩
/-- a further row -/
theorem inv5_app {TT : List (Addr × Str)} {HB H H1 H3 : Hp} {tr a1 b1 t1 : Addr} {n : Nat} {wd v : V} (I : Inv5 TT HB tr n H) (ext : ExtN H H1) (tabs : Tabs TT H1) (s3 : Same H1 H3) (na : H1 a1 = none) (ea : H3 a1 = some (.lst [wd, v])) (nb : H3 b1 = none)
    (nt : upd H3 b1 (.lst [wd, v]) t1 = none) (ow : Okv wd) (ov : Okv v) :
    ∃ xs : List V, (upd (upd H3 b1 (.lst [wd, v])) t1 (.tup [.ref a1, .ref b1])) tr = some (.lst xs) ∧ xs.length = n ∧ Inv5 TT HB tr (n + 1) (upd (upd (upd H3 b1 (.lst [wd, v])) t1 (.tup [.ref a1, .ref b1])) tr (.lst (xs ++ [.ref t1]))) ∧ KeepT tr H (upd (upd (upd H3 b1 (.lst [wd, v])) t1 (.tup [.ref a1, .ref b1])) tr (.lst (xs ++ [.ref t1]))) := by
  obtain ⟨n0, e0, _, ts, hl, ht, hall⟩ := I
  have h1 : H1 tr = some (.lst (ts.map V.ref)) := ext _ _ ht (fun ps z => by cases z)
  have h3 := s3 _ _ h1
  have s4 : Same H3 (upd H3 b1 (.lst [wd, v])) := same_new nb
  have s5 : Same (upd H3 b1 (.lst [wd, v])) (upd (upd H3 b1 (.lst [wd, v])) t1 (.tup [.ref a1, .ref b1])) := same_new nt
  have h5 := s5 _ _ (s4 _ _ h3)
  have nab : a1 ≠ tr := fun z => by rw [z, h1] at na; cases na
  have nbb : b1 ≠ tr := fun z => by rw [z, h3] at nb; cases nb
  have ntt : t1 ≠ tr := fun z => by rw [z, s4 _ _ h3] at nt; cases nt
  refine ⟨ts.map V.ref, h5, by rw [List.length_map, hl], ⟨n0, fun b o e nn => ?_, tabs_upd (tabs_same (tabs_same (tabs_same tabs s3) s4) s5) h5, ts ++ [t1], by rw [List.length_append, hl]; rfl, by rw [upd_same, List.map_append]; rfl, fun t hm => ?_⟩, fun b o nbr e nn => by rw [upd_ne nbr]; exact s5 _ _ (s4 _ _ (s3 _ _ (ext _ _ e nn)))⟩
  · have nbr : b ≠ tr := n0 b o e nn
    rw [upd_ne nbr]
    exact s5 _ _ (s4 _ _ (s3 _ _ (ext _ _ (e0 _ _ e nn) nn)))
  · rcases List.mem_append.mp hm with hm | hm
    · refine (hall t hm).keep fun b o nbr e nn => ?_
      rw [upd_ne nbr]
      exact s5 _ _ (s4 _ _ (s3 _ _ (ext _ _ e nn)))
    · cases List.mem_singleton.mp hm
      refine ⟨a1, b1, wd, v, ntt, nab, nbb, by rw [upd_ne ntt]; exact upd_same, by rw [upd_ne nab]; exact s5 _ _ (s4 _ _ ea), by rw [upd_ne nbb]; exact s5 _ _ upd_same, ow, ov⟩
theorem Inv5.same {TT : List (Addr × Str)} {HB H H' : Hp} {tr : Addr} {n : Nat} (I : Inv5 TT HB tr n H) (s : Same H H') : Inv5 TT HB tr n H' := by
  obtain ⟨n0, e0, tb, ts, hl, ht, hall⟩ := I
  exact ⟨n0, fun b o e nn => s _ _ (e0 _ _ e nn), tabs_same tb s, ts, hl, s _ _ ht, fun t hm => (hall t hm).keep fun b o _ e _ => s _ _ e⟩
theorem okv_eq {K : PySem.W.Frag} {H : Hp} {v : V} (h : Okv v) : EqV K H 1 v v := by
  rcases h with h | ⟨r, rfl⟩
  · exact .inl ⟨rfl, h⟩
  · exact .inr (.inl ⟨r, rfl, rfl⟩)
/-- the first row, and the list -/
theorem inv5_new {TT : List (Addr × Str)} {HB H1 H3 : Hp} {tr a1 b1 t1 : Addr} {wd v : V} (ext : ExtN HB H1) (tabs : Tabs TT H1) (s3 : Same H1 H3) (ea : H3 a1 = some (.lst [wd, v])) (nb : H3 b1 = none)
    (nt : upd H3 b1 (.lst [wd, v]) t1 = none) (nr : upd (upd H3 b1 (.lst [wd, v])) t1 (.tup [.ref a1, .ref b1]) tr = none) (ow : Okv wd) (ov : Okv v) :
    Inv5 TT HB tr 1 (upd (upd (upd H3 b1 (.lst [wd, v])) t1 (.tup [.ref a1, .ref b1])) tr (.lst [.ref t1])) := by
  have s4 : Same H3 (upd H3 b1 (.lst [wd, v])) := same_new nb
  have s5 : Same (upd H3 b1 (.lst [wd, v])) (upd (upd H3 b1 (.lst [wd, v])) t1 (.tup [.ref a1, .ref b1])) := same_new nt
  have s6 := same_new (o := HO.lst [V.ref t1]) nr
  have e5b : (upd (upd H3 b1 (.lst [wd, v])) t1 (.tup [.ref a1, .ref b1])) b1 = some (.lst [wd, v]) := s5 _ _ upd_same
  have e5t : (upd (upd H3 b1 (.lst [wd, v])) t1 (.tup [.ref a1, .ref b1])) t1 = some (.tup [.ref a1, .ref b1]) := upd_same
  have e5a := s5 _ _ (s4 _ _ ea)
  have all := ((s3.trans s4).trans s5)
  refine ⟨fun b o e nn => ne_of_none (all _ _ (ext _ _ e nn)) nr, fun b o e nn => (all.trans s6) _ _ (ext _ _ e nn), tabs_same tabs (all.trans s6), [t1], rfl, upd_same, fun t hm => ?_⟩
  cases List.mem_singleton.mp hm
  exact ⟨a1, b1, wd, v, ne_of_none e5t nr, ne_of_none e5a nr, ne_of_none e5b nr, s6 _ _ e5t, s6 _ _ e5a, s6 _ _ e5b, ow, ov⟩
/-- what is raised becomes a list of two -/
theorem raise_to {C : Addr} {wd v : V} {H1 : Hp} {Q : VK} (k : ∀ a1 H3, Same H1 H3 → H1 a1 = none → H3 a1 = some (.lst [wd, v]) → Q (.ref a1) H3) :
    Rz C wd v H1 (fun cls d H' => ∃ (dd : Addr) (wd v : V), cls = .ref C ∧ d = some dd ∧ H' dd = some (.xd (xdB wd v)) ∧ ∀ p, H' p = none → Q (.ref p) (upd H' p (.lst [wd, v]))) :=
  fun d H2 s2 e2 => ⟨d, wd, v, rfl, rfl, e2, fun p np => k p _ (s2.trans (same_new np)) (s2.free np) upd_same⟩
theorem Bad.ext {H H' : Hp} {v : V} (s : ExtN H H') (h : Bad H v) : Bad H' v := by
  rcases h with h | h | h | ⟨p, xs, e, h⟩ | ⟨p, xs, e, h, z⟩
  · exact .inl h
  · exact .inr (.inl h)
  · exact .inr (.inr (.inl h))
  · exact .inr (.inr (.inr (.inl ⟨p, xs, e, s _ _ h (fun ps z => by cases z)⟩)))
  · exact .inr (.inr (.inr (.inr ⟨p, xs, e, s _ _ h (fun ps z => by cases z), z⟩)))
theorem Num.ext {H H' : Hp} {v : V} {t b : Int} (s : ExtN H H') (h : Num H v t b) : Num H' v t b := by
  rcases h with h | ⟨p, e, h, z⟩
  · exact .inl h
  · exact .inr ⟨p, e, s _ _ h (fun ps z => by cases z), z⟩
theorem Bad.okv {H : Hp} {v : V} (h : Bad H v) : Okv v := by
  rcases h with h | ⟨b, h⟩ | ⟨x, h⟩ | ⟨p, xs, h, e⟩ | ⟨p, xs, h, e, z⟩ <;> subst h
  · exact .inl rfl
  · exact .inl rfl
  · exact .inl rfl
  · exact .inr ⟨_, rfl⟩
  · exact .inr ⟨_, rfl⟩
theorem Num.okv {H : Hp} {v : V} {t b : Int} (h : Num H v t b) : Okv v := by
  rcases h with ⟨h, _⟩ | ⟨p, h, _⟩ <;> subst h
  · exact .inl rfl
  · exact .inr ⟨_, rfl⟩
/-! ### beside the pen -/
theorem pen_off {H : Hp} {p c y : Addr} {n : Nat} {o : HO} (h : PenAt H p c n) (hy : H y = some o) (d : ∀ kv, o ≠ .dK kv) : y ≠ p := by
  obtain ⟨ns, a, d', f, hp, _⟩ := h
  exact ne_of hy hp (d _)
theorem Num.keepP {H H' : Hp} {p c : Addr} {n : Nat} {v : V} {t b : Int} (h : Num H v t b) (hP : PenAt H p c n) (k : KeepP p H H') : Num H' v t b := by
  rcases h with h | ⟨q, e, h, z⟩
  · exact .inl h
  · exact .inr ⟨q, e, k _ _ (pen_off hP h (by intro kv z; cases z)) h, z⟩
theorem Bad.keepP {H H' : Hp} {p c : Addr} {n : Nat} {v : V} (h : Bad H v) (hP : PenAt H p c n) (k : KeepP p H H') : Bad H' v := by
  rcases h with h | h | h | ⟨q, xs, e, h⟩ | ⟨q, xs, e, h, z⟩
  · exact .inl h
  · exact .inr (.inl h)
  · exact .inr (.inr (.inl h))
  · exact .inr (.inr (.inr (.inl ⟨q, xs, e, k _ _ (pen_off hP h (by intro kv z; cases z)) h⟩)))
  · exact .inr (.inr (.inr (.inr ⟨q, xs, e, k _ _ (pen_off hP h (by intro kv z; cases z)) h, z⟩)))
theorem Lw_zero {b : Int} (hb : b ≠ 0) : (Lw 0 b).1 = 0 := by
  show Int.fdiv 0 (cm 0 b) = 0
  exact Int.zero_fdiv _
theorem i0 (x y : V) : atI [x, y] 0 = some x := at_of (j := 0) rfl rfl
theorem i1 (x y : V) : atI [x, y] 1 = some y := at_of (j := 1) rfl rfl
end KQ

namespace KQ
open PySem PySem.Spec PyProof.Rows L2 LamX

def spLawT (K : PySem.W.Frag) (P : Addr) : Sp := fun vs H Q _ => ∃ (a : Addr) (ns : List Int), vs = [.ref a] ∧ SqL K H a (ns.map V.int) ∧ ns.length ≤ 63 ∧ H P = some (.tbl #[]) ∧ ∀ H', Q (.bl true) H'
theorem tr_same : True := trivial
section
variable {P : Program} {w : World} {K : PySem.W.Frag} {mg : Str → Option Value} {base : Heap}
theorem ok_law {f c tP C fB fI fP fL fR fSu fGa fPr fSh fLe fPn fDr fPk fW fLL fLR fLP fLA fLM fLB fN fRf : Addr} {dB dI dP dL dR dSu dGa dPr dSh dLe dPn dDr dPk dW dLL dLR dLP dLA dLM dLB dN dRf : FuncData} {oc : Value} {od an : Option Addr} {osl : Array (Option Value)} {kV doc pm ct : Value}
    (lk : K.lookup f = some ⟨oc, od, .func (PySem.W.fnOf "law" "law" (defArgs sLaw) (defBody sLaw) (defScope sLaw) .none kV doc pm an (.ref c) ct), osl⟩) (hcd : PySem.W.codeIn K (.ref c) "law" = true) (TB : TabB base mg c tP)
    (T : Top K mg C fB fI fP fL fR fSu fGa fPr fSh fLe fPn fDr fPk fW fLL fLR fLP fLA fLM fLB fN fRf dB dI dP dL dR dSu dGa dPr dSh dLe dPn dDr dPk dW dLL dLR dLP dLA dLM dLB dN dRf) : FnOk P w K mg base CX0 7 f (PySem.W.fnOf "law" "law" (defArgs sLaw) (defBody sLaw) (defScope sLaw) .none kV doc pm an (.ref c) ct) ["_law_script"] (spLawT K tP) := by
  have GR : FnOk P w K mg base (L2.CX P w) 3 fR dR ["number"] (spRat C) := ok_rat T.FR T.FI T.bI T.gI T.FP T.bP T.gP T.FL T.bL T.gL T.N T.B
  have GSu : FnOk P w K mg base (L2.CX P w) 4 fSu dSu ["one", "other"] (spBin C gSum) := ok_ratio_sum T.FSu T.FI T.bI T.gI T.FP T.bP T.gP T.FL T.bL T.gL T.FR T.bR T.gR T.N T.B
  have GGa : FnOk P w K mg base (L2.CX P w) 4 fGa dGa ["one", "other"] (spBin C gGap) := ok_ratio_gap T.FGa T.FI T.bI T.gI T.FP T.bP T.gP T.FL T.bL T.gL T.FR T.bR T.gR T.N T.B
  have GPr : FnOk P w K mg base (L2.CX P w) 4 fPr dPr ["one", "other"] (spBin C gProd) := ok_ratio_product T.FPr T.FI T.bI T.gI T.FP T.bP T.gP T.FL T.bL T.gL T.FR T.bR T.gR T.N T.B
  have GSh : FnOk P w K mg base (L2.CX P w) 4 fSh dSh ["one", "other"] (spBin C (gShare C)) := ok_ratio_share T.FSh T.FI T.bI T.gI T.FP T.bP T.gP T.FL T.bL T.gL T.FR T.bR T.gR T.N T.B
  have GLe : FnOk P w K mg base (L2.CX P w) 4 fLe dLe ["one", "other"] (spBin C gLess) := ok_is_less T.FLe T.FI T.bI T.gI T.FP T.bP T.gP T.FL T.bL T.gL T.FR T.bR T.gR T.N T.B
  have GPn : FnOk P w K mg base CX0 1 fPn dPn ["_law_script"] (spPen K) := ok_pen T.FPn T.B.int T.B.list
  have GPk : FnOk P w K mg base CX0 2 fPk dPk ["_law_pen_here", "_law_some"] (spPick K) := ok_pick T.FPk T.FDr T.bDr T.gDr T.B.int T.B.len
  have GLL : FnOk P w K mg base CX0 1 fLL dLL ["_law_top", "_law_bottom"] spLow := ok_llow T.FLL T.B
  have GLR : FnOk P w K mg base CX0 2 fLR dLR ["_law_value"] spLRat := ok_lrat T.FLR T.FW T.bW T.gW T.FLL T.bLL T.gLL T.B
  have GLP : FnOk P w K mg base CX0 1 fLP dLP ["_law_number_here"] spLPair := ok_lpair T.FLP T.B
  have GLA : FnOk P w K mg base CX0 2 fLA dLA ["_law_one", "_law_two"] (spLBin g2Add) := ok_ladd T.FLA T.FLL T.bLL T.gLL T.B
  have GLM : FnOk P w K mg base CX0 2 fLM dLM ["_law_one", "_law_two"] (spLBin g2Mul) := ok_lmul T.FLM T.FLL T.bLL T.gLL T.B
  have GLB : FnOk P w K mg base CX0 1 fLB dLB ["_law_one", "_law_two"] (spLBin g2Bel) := ok_lbel T.FLB
  have GN : FnOk P w K mg base CX0 3 fN dN ["_law_pen_here"] spLNum := ok_lnum T.FN T.FDr T.bDr T.gDr T.FPk T.bPk T.gPk T.B
  obtain ⟨ocR, odR, kVR, dcR, pmR, anR, cdvR, ctR, oslR, eR, lkR, hcR⟩ := T.FRf.ex
  have bRf' := T.bRf
  rw [eR] at bRf' lkR
  let S5 : Addr → Prop := fun z => z = fSu ∨ z = fGa ∨ z = fPr ∨ z = fSh ∨ z = fLe
  have A5 : ∀ z, S5 z → ∃ (fd : FuncData) (ps : List Str), FnOk P w K mg base (L2.CX P w) 4 z fd ps (spRefs C) ∧ PySem.W.keepIn K (.ref z) = true ∧ Binds K fd ps [] := by
    intro z hz
    rcases hz with rfl | rfl | rfl | rfl | rfl
    · exact ⟨_, _, refs_of GSu, T.FSu.kp, T.bSu⟩
    · exact ⟨_, _, refs_of GGa, T.FGa.kp, T.bGa⟩
    · exact ⟨_, _, refs_of GPr, T.FPr.kp, T.bPr⟩
    · exact ⟨_, _, refs_of GSh, T.FSh.kp, T.bSh⟩
    · exact ⟨_, _, refs_of GLe, T.FLe.kp, T.bLe⟩
  refine ok_code lk hcd scLaw (fun vs H Q E h => ?_) (fun A outer s H vs Q E hr h => ?_)
  · obtain ⟨a, ns, rfl, _⟩ := h
    rfl
  · obtain ⟨a, ns, rfl, hS, hlen, hTP, q⟩ := h
    have r1 : Room 1 _ := hr.mono (by decide)
    have r2 : Room 2 _ := hr.mono (by decide)
    have r3 : Room 3 _ := hr.mono (by decide)
    have r4 : Room 4 _ := hr.mono (by decide)
    have hu : (A.deeper (envOfC "law" (defScope sLaw) s.heap.objs.size f (.ref c))).units + 64 < cLine := hr.units
    let TT : List (Addr × Str) := [(tP, (envOfC "law" (defScope sLaw) s.heap.objs.size f (.ref c)).qual ++ "<lambda>")]
    refine ⟨_, C8.pss_cut (ps_set (i := 1) scLaw.nd rfl (.inl rfl) (pe_call GPn r1 (by rfl) T.gPn T.FPn.kp T.bPn .nil pass0 (pa_cons (pv 0) pa_nil)))
      (C8.pss_cut (ps_for PassesOwn.never rfl (pi_range1 (by rfl) T.B.range (pa_cons pe_int pa_nil)) (pg_name (i := 2) scLaw.nd rfl (.inl rfl))
        (C8.pss_cut (ps_par (i := 3) (j := 4) rfl scLaw.nd rfl rfl (by decide) rfl rfl (pa_cons (pe_call GN r3 (by rfl) T.gN T.FN.kp T.bN .nil pass0 (pa_cons (pv 1) pa_nil)) (pa_cons (pe_call GN r3 (by rfl) T.gN T.FN.kp T.bN .nil pass0 (pa_cons (pv 1) pa_nil)) pa_nil)) rfl)
        (C8.pss_cut (ps_par (i := 5) (j := 6) rfl scLaw.nd rfl rfl (by decide) rfl rfl (pa_cons (pe_call GLL r1 (by rfl) T.gLL T.FLL.kp T.bLL .nil pass0 (pa_cons (pe_ix ix_tup (pe_call GLP r1 (by rfl) T.gLP T.FLP.kp T.bLP .nil pass0 (pa_cons (pv 3) pa_nil)) pe_int (fun _ _ => rfl)) (pa_cons (pe_ix ix_tup (pe_call GLP r1 (by rfl) T.gLP T.FLP.kp T.bLP .nil pass0 (pa_cons (pv 3) pa_nil)) pe_int (fun _ _ => rfl)) pa_nil))) (pa_cons (pe_call GLL r1 (by rfl) T.gLL T.FLL.kp T.bLL .nil pass0 (pa_cons (pe_ix ix_tup (pe_call GLP r1 (by rfl) T.gLP T.FLP.kp T.bLP .nil pass0 (pa_cons (pv 4) pa_nil)) pe_int (fun _ _ => rfl)) (pa_cons (pe_ix ix_tup (pe_call GLP r1 (by rfl) T.gLP T.FLP.kp T.bLP .nil pass0 (pa_cons (pv 4) pa_nil)) pe_int (fun _ _ => rfl)) pa_nil))) pa_nil)) rfl)
        (C8.pss_cut (ps_if (pw_or (pt_cmpR (op_neD hu) (pe_call GR r3 (by rfl) T.gR T.FR.kp T.bR .nil passL (pa_cons (pv 3) pa_nil)) (pv 5) (nomark _)) (pw_or (pt_not (pt_val (pe_call GLR r2 (by rfl) T.gLR T.FLR.kp T.bLR .nil pass0 (pa_cons (pe_call GR r3 (by rfl) T.gR T.FR.kp T.bR .nil passL (pa_cons (pv 3) pa_nil)) pa_nil)))) (pw_or1 (pt_cmpR (op_neD hu) (pe_call GSu r4 (by rfl) T.gSu T.FSu.kp T.bSu .nil passL (pa_cons (pv 3) (pa_cons (pv 4) pa_nil))) (pe_call GLA r2 (by rfl) T.gLA T.FLA.kp T.bLA .nil pass0 (pa_cons (pv 5) (pa_cons (pv 6) pa_nil))) (nomark _))))).pt (pss_one (ps_ret pe_bl)) pss_nil)
        (C8.pss_cut (ps_if (pw_or (pt_cmpR (op_neD hu) (pe_call GGa r4 (by rfl) T.gGa T.FGa.kp T.bGa .nil passL (pa_cons (pv 3) (pa_cons (pv 4) pa_nil))) (pe_call GLA r2 (by rfl) T.gLA T.FLA.kp T.bLA .nil pass0 (pa_cons (pv 5) (pa_cons (pe_tup (pa_cons (pe_un un_neg (pe_ix ix_tup (pv 6) pe_int (fun _ _ => rfl))) (pa_cons (pe_ix ix_tup (pv 6) pe_int (fun _ _ => rfl)) pa_nil))) pa_nil))) (nomark _)) (pw_or1 (pt_cmpR (op_neD hu) (pe_call GPr r4 (by rfl) T.gPr T.FPr.kp T.bPr .nil passL (pa_cons (pv 3) (pa_cons (pv 4) pa_nil))) (pe_call GLM r2 (by rfl) T.gLM T.FLM.kp T.bLM .nil pass0 (pa_cons (pv 5) (pa_cons (pv 6) pa_nil))) (nomark _)))).pt (pss_one (ps_ret pe_bl)) pss_nil)
        (C8.pss_cut (ps_if (pw_and (pt_cmpR op_ne (pe_ix ix_tup (pv 6) pe_int (fun _ _ => rfl)) pe_int (nomark _)) (pw_and1 (pt_cmpR (op_neD hu) (pe_call GSh r4 (by rfl) T.gSh T.FSh.kp T.bSh .nil passL (pa_cons (pv 3) (pa_cons (pv 4) pa_nil))) (pe_call GLL r1 (by rfl) T.gLL T.FLL.kp T.bLL .nil pass0 (pa_cons (pe_op op_mulW (pe_ix ix_tup (pv 5) pe_int (fun _ _ => rfl)) (pe_ix ix_tup (pv 6) pe_int (fun _ _ => rfl))) (pa_cons (pe_op op_mulW (pe_ix ix_tup (pv 5) pe_int (fun _ _ => rfl)) (pe_ix ix_tup (pv 6) pe_int (fun _ _ => rfl))) pa_nil))) (nomark _)))).pt (pss_one (ps_ret pe_bl)) pss_nil)
        (pss_one (ps_if (pw_or (pt_cmpR op_ne (pe_callB call_repr_bl (by rfl) T.B.repr bootRepr (pa_cons (pe_call GLe r4 (by rfl) T.gLe T.FLe.kp T.bLe .nil passL (pa_cons (pv 3) (pa_cons (pv 4) pa_nil))) pa_nil)) (pe_callB call_repr_bl (by rfl) T.B.repr bootRepr (pa_cons (pe_call GLB r1 (by rfl) T.gLB T.FLB.kp T.bLB .nil pass0 (pa_cons (pv 5) (pa_cons (pv 6) pa_nil))) pa_nil)) (nomark _)) (pw_or1 (pt_cmpR op_notBl (pe_call GLe r4 (by rfl) T.gLe T.FLe.kp T.bLe .nil passL (pa_cons (pv 3) (pa_cons (pv 3) pa_nil))) pe_bl (nomark _)))).pt (pss_one (ps_ret pe_bl)) pss_nil))))))))
      (C8.pss_cut (ps_set (i := 7) scLaw.nd rfl (.inl rfl) (pe_lst (pa_cons (pe_non) (pa_cons (pe_bl) (pa_cons (pe_str) (pa_cons (pe_tup (pa_cons (pe_int) (pa_cons (pe_int) pa_nil))) (pa_cons (pe_tup (pa_cons (pe_int) (pa_cons (pe_un un_neg pe_int) pa_nil))) (pa_cons (pe_tup (pa_cons (pe_int) pa_nil)) (pa_cons (pe_tup (pa_cons (pe_int) (pa_cons (pe_int) (pa_cons (pe_int) pa_nil)))) (pa_cons (pe_lst (pa_cons (pe_int) (pa_cons (pe_int) pa_nil))) (pa_cons (pe_tup (pa_cons (pe_bl) (pa_cons (pe_int) pa_nil))) (pa_cons (pe_tup (pa_cons (pe_int) (pa_cons (pe_non) pa_nil))) (pa_cons (pe_tup pa_nil) pa_nil)))))))))))))
      (C8.pss_cut (ps_asg (pe_tup (pa_cons (pe_call GPk r2 (by rfl) T.gPk T.FPk.kp T.bPk .nil pass0 (pa_cons (pv 1) (pa_cons (pv 7) pa_nil))) (pa_cons (pe_call GPk r2 (by rfl) T.gPk T.FPk.kp T.bPk .nil pass0 (pa_cons (pv 1) (pa_cons (pv 7) pa_nil))) (pa_cons (pe_call GPk r2 (by rfl) T.gPk T.FPk.kp T.bPk .nil pass0 (pa_cons (pv 1) (pa_cons (pe_lst (pa_cons (pe_int) (pa_cons (pe_tup (pa_cons (pe_int) (pa_cons (pe_int) pa_nil))) pa_nil))) pa_nil))) pa_nil)))) (pg_tup rfl (pgs_cons (pg_name (i := 10) scLaw.nd rfl (.inr rfl)) (pgs_cons (pg_name (i := 11) scLaw.nd rfl (.inr rfl)) (pgs_cons (pg_name (i := 12) scLaw.nd rfl (.inr rfl)) pgs_nil)))))
      (C8.pss_cut (ps_set (i := 8) scLaw.nd rfl (.inl rfl) (pe_lst (pa_cons (pe_tup (pa_cons (pe_lamcall (T := TT) (TT := TTr C) (Ng := ["_law_call", "e"]) (by rfl) T.gRf T.FRf.kp lkR hcR bRf' scRef rfl (.inl rfl) (ref_gives T.N.g T.XF T.N.n0 T.N.n1 T.ex) TB rfl (List.mem_singleton.mpr rfl) (fun p hp _ => by rw [List.mem_singleton.mp hp]; rfl) hr (lamS_by (sc := defScope sLaw) (by decide +kernel)) rfl (fun _ _ _ _ _ => rfl) (fun A2 o2 s2 H2 E2 f2 c2 hr2 => pe_call GR (hr2.mono (by decide)) (by rfl) T.gR T.FR.kp T.bR .nil (passes_call (takes_of rfl rfl rfl rfl) (fun _ _ _ _ h => h)) (pa_cons (pv 10) pa_nil))) (pa_cons (pe_lst (pa_cons (pe_str) (pa_cons (pv 10) pa_nil))) pa_nil))) pa_nil)))
      (C8.pss_cut (ps_for PassesOwn.never rfl (pi_list (pe_lst (pa_cons (pe_glob (v := .ref fSu) (by rfl) T.gSu rfl) (pa_cons (pe_glob (v := .ref fGa) (by rfl) T.gGa rfl) (pa_cons (pe_glob (v := .ref fPr) (by rfl) T.gPr rfl) (pa_cons (pe_glob (v := .ref fSh) (by rfl) T.gSh rfl) (pa_cons (pe_glob (v := .ref fLe) (by rfl) T.gLe rfl) pa_nil))))))) (pg_name (i := 9) scLaw.nd rfl (.inr rfl))
        (C8.pss_cut (ps_expr (pe_bm PySem.F.plainAttrs_list PySem.F.slot_list_append PySem.F.type_list_append mt_append (pv 8) (pa_cons (pe_tup (pa_cons (pe_lamcall (T := TT) (TT := TTr C) (Ng := ["_law_call", "e"]) (by rfl) T.gRf T.FRf.kp lkR hcR bRf' scRef rfl (.inl rfl) (ref_gives T.N.g T.XF T.N.n0 T.N.n1 T.ex) TB rfl (List.mem_singleton.mpr rfl) (fun p hp _ => by rw [List.mem_singleton.mp hp]; rfl) hr (lamS_by (sc := defScope sLaw) (by decide +kernel)) rfl (fun _ _ _ _ _ => rfl) (fun A2 o2 s2 H2 E2 f2 c2 hr2 => pe_callAX (i := 9) (S := S5) (sp := spRefs C) (k := 4) A5 hr2 rfl (by first | exact Or.inl rfl | exact Or.inr (Or.inl rfl) | exact Or.inr (Or.inr rfl)) (passes_call (takes_of rfl rfl rfl rfl) (fun _ _ _ _ h => h)) (pa_cons (pv 10) (pa_cons (pv 11) pa_nil)))) (pa_cons (pe_lst (pa_cons (pe_str) (pa_cons (pv 10) pa_nil))) pa_nil))) pa_nil)))
        (pss_one (ps_expr (pe_bm PySem.F.plainAttrs_list PySem.F.slot_list_append PySem.F.type_list_append mt_append (pv 8) (pa_cons (pe_tup (pa_cons (pe_lamcall (T := TT) (TT := TTr C) (Ng := ["_law_call", "e"]) (by rfl) T.gRf T.FRf.kp lkR hcR bRf' scRef rfl (.inl rfl) (ref_gives T.N.g T.XF T.N.n0 T.N.n1 T.ex) TB rfl (List.mem_singleton.mpr rfl) (fun p hp _ => by rw [List.mem_singleton.mp hp]; rfl) hr (lamS_by (sc := defScope sLaw) (by decide +kernel)) rfl (fun _ _ _ _ _ => rfl) (fun A2 o2 s2 H2 E2 f2 c2 hr2 => pe_callAX (i := 9) (S := S5) (sp := spRefs C) (k := 4) A5 hr2 rfl (by first | exact Or.inl rfl | exact Or.inr (Or.inl rfl) | exact Or.inr (Or.inr rfl)) (passes_call (takes_of rfl rfl rfl rfl) (fun _ _ _ _ h => h)) (pa_cons (pe_int) (pa_cons (pv 11) pa_nil)))) (pa_cons (pe_lst (pa_cons (pe_str) (pa_cons (pv 11) pa_nil))) pa_nil))) pa_nil))))))
      (C8.pss_cut (ps_expr (pe_bm PySem.F.plainAttrs_list PySem.F.slot_list_append PySem.F.type_list_append mt_append (pv 8) (pa_cons (pe_tup (pa_cons (pe_lamcall (T := TT) (TT := TTr C) (Ng := ["_law_call", "e"]) (by rfl) T.gRf T.FRf.kp lkR hcR bRf' scRef rfl (.inl rfl) (ref_gives T.N.g T.XF T.N.n0 T.N.n1 T.ex) TB rfl (List.mem_singleton.mpr rfl) (fun p hp _ => by rw [List.mem_singleton.mp hp]; rfl) hr (lamS_by (sc := defScope sLaw) (by decide +kernel)) rfl (fun _ _ _ _ _ => rfl) (fun A2 o2 s2 H2 E2 f2 c2 hr2 => pe_call GSh (hr2.mono (by decide)) (by rfl) T.gSh T.FSh.kp T.bSh .nil (passes_call (takes_of rfl rfl rfl rfl) (fun _ _ _ _ h => h)) (pa_cons (pv 10) (pa_cons (pv 12) pa_nil)))) (pa_cons (pe_lst (pa_cons (pe_str) (pa_cons (pv 10) pa_nil))) pa_nil))) pa_nil)))
      (C8.pss_cut (ps_expr (pe_bm PySem.F.plainAttrs_list PySem.F.slot_list_append PySem.F.type_list_append mt_append (pv 8) (pa_cons (pe_tup (pa_cons (pe_lamcall (T := TT) (TT := TTr C) (Ng := ["_law_call", "e"]) (by rfl) T.gRf T.FRf.kp lkR hcR bRf' scRef rfl (.inl rfl) (ref_gives T.N.g T.XF T.N.n0 T.N.n1 T.ex) TB rfl (List.mem_singleton.mpr rfl) (fun p hp _ => by rw [List.mem_singleton.mp hp]; rfl) hr (lamS_by (sc := defScope sLaw) (by decide +kernel)) rfl (fun _ _ _ _ _ => rfl) (fun A2 o2 s2 H2 E2 f2 c2 hr2 => pe_call GSh (hr2.mono (by decide)) (by rfl) T.gSh T.FSh.kp T.bSh .nil (passes_call (takes_of rfl rfl rfl rfl) (fun _ _ _ _ h => h)) (pa_cons (pe_int) (pa_cons (pv 12) pa_nil)))) (pa_cons (pe_lst (pa_cons (pe_str) (pa_cons (pv 12) pa_nil))) pa_nil))) pa_nil)))
      (pss_one (ps_ret (pe_callB (cr_all rfl) (by rfl) T.B.all bootAll (pa_cons (pe_lc (own := [("_law_found", 13), ("_law_told", 14)]) (g := gTup K 2 (gCons (gName 13) (gCons (gName 14) gNil))) (by rfl) scLaw.nd (pi_list (pv 8)) (blkOk_by (own := [("_law_found", 13), ("_law_told", 14)]) (N := ["_law_script", "_law_pen_here", "_law_lap", "_law_a", "_law_b", "_law_one", "_law_two", "_law_bad", "_law_tries", "_law_call", "_law_odd", "_law_worse", "_law_zero", "_law_found", "_law_told"]) (sc := defScope sLaw) (by decide +kernel))
              (fun _ _ _ _ _ => pg_tup rfl (pgs_cons (pg_name (i := 13) scLaw.nd rfl (Or.inl rfl)) (pgs_cons (pg_name (i := 14) scLaw.nd rfl (Or.inl rfl)) pgs_nil))) (fun _ _ _ _ _ => pts_nil) (fun _ _ _ _ _ => pe_cmpR (r := rEqV K) (op_eqV hu) (pv 13) (pv 14) (nomark _))) pa_nil))))))))))), ?_⟩
    -- the pen
    refine ⟨fun σ' H' => ∃ p pc : Addr, σ' = [some (.ref a), some (.ref p), none, none, none, none, none, none, none, none, none, none, none, none, none] ∧ PenAt H' p pc 0 ∧ H' tP = some (.tbl #[]), ?_, ?_⟩
    · exact ⟨_, rfl, a, ns, rfl, hS, hlen, fun H' p pc sm np nc hP => ⟨p, pc, rfl, hP, sm _ _ hTP⟩⟩
    rintro _ H1 ⟨p, pc, rfl, hP1, hT1⟩
    clear hTP hS
    have ntp : tP ≠ p := pen_off hP1 hT1 (by intro kv z; cases z)
    -- four laps
    refine ⟨fun σ' H' => ∃ (n : Nat) (s2 s3 s4 s5 s6 : Option V), σ' = [some (.ref a), some (.ref p), s2, s3, s4, s5, s6, none, none, none, none, none, none, none, none] ∧ n ≤ 100 ∧ PenAt H' p pc n ∧ H' tP = some (.tbl #[]), ?_, ?_⟩
    · refine ⟨4, rfl, by decide, by decide, for_range (n := 4) (fun i σ' H' => ∃ (s2 s3 s4 s5 s6 : Option V), σ' = [some (.ref a), some (.ref p), s2, s3, s4, s5, s6, none, none, none, none, none, none, none, none] ∧ PenAt H' p pc (12 * i) ∧ H' tP = some (.tbl #[]))
        ⟨none, none, none, none, none, rfl, hP1, hT1⟩ ?_ (fun _ _ ⟨s2, s3, s4, s5, s6, e, hP, hT⟩ => ⟨48, s2, s3, s4, s5, s6, e, by decide, hP, hT⟩)⟩
      rintro i _ H2 hi ⟨s2, s3, s4, s5, s6, rfl, hP2, hT2⟩
      -- two numbers
      refine ⟨fun σ' H' => ∃ (va vb : V) (t b t' b' : Int), σ' = [some (.ref a), some (.ref p), some (.int (0 + (i : Nat))), some va, some vb, s5, s6, none, none, none, none, none, none, none, none] ∧ PenAt H' p pc (12 * i + 12) ∧ H' tP = some (.tbl #[]) ∧ Num H' va t b ∧ Num H' vb t' b' ∧ sm t ∧ sm b ∧ sm t' ∧ sm b', ?_, ?_⟩
      · refine ⟨_, rfl, p, pc, 12 * i, rfl, hP2, by omega, fun va t b H3 n3 a1 a2 hP3 k3 => ?_⟩
        refine ⟨_, rfl, p, pc, 12 * i + 6, rfl, hP3, by omega, fun vb t' b' H4 n4 a3 a4 hP4 k4 => ?_⟩
        exact ⟨_, _, rfl, va, vb, t, b, t', b', rfl, hP4, (k3.trans k4) tP _ ntp hT2, n3.keepP hP3 k4, n4, a1, a2, a3, a4⟩
      rintro _ H3 ⟨va, vb, t, b, t', b', rfl, hP3, hT3, n3, n4, a1, a2, a3, a4⟩
      have nb : b ≠ 0 := by have := n3.pos; omega
      have nb' : b' ≠ 0 := by have := n4.pos; omega
      -- both in lowest terms
      refine ⟨fun σ' H' => ∃ o w : Addr, σ' = [some (.ref a), some (.ref p), some (.int (0 + (i : Nat))), some va, some vb, some (.ref o), some (.ref w), none, none, none, none, none, none, none, none] ∧ Same H3 H' ∧ H' o = some (.tup [.int (Lw t b).1, .int (Lw t b).2]) ∧ H' w = some (.tup [.int (Lw t' b').1, .int (Lw t' b').2]), ?_, ?_⟩
      · refine ⟨_, rfl, va, t, b, rfl, n3, fun H4 p4 s4 e4 => ⟨p4, _, _, _, rfl, rfl, .inl (.inl e4), i0 _ _, ?_⟩⟩
        refine ⟨_, rfl, va, t, b, rfl, n3.same s4, fun H5 p5 s5' e5 => ⟨p5, _, _, _, rfl, rfl, .inl (.inl e5), i1 _ _, t, b, rfl, nb, a1.big, a2.big, fun H6 o s6' n6 e6 => ?_⟩⟩
        have h6 := (s4.trans s5').trans s6'
        refine ⟨_, rfl, vb, t', b', rfl, n4.same h6, fun H7 p7 s7 e7 => ⟨p7, _, _, _, rfl, rfl, .inl (.inl e7), i0 _ _, ?_⟩⟩
        refine ⟨_, rfl, vb, t', b', rfl, n4.same (h6.trans s7), fun H8 p8 s8 e8 => ⟨p8, _, _, _, rfl, rfl, .inl (.inl e8), i1 _ _, t', b', rfl, nb', a3.big, a4.big, fun H9 w s9 n9 e9 => ?_⟩⟩
        exact ⟨_, _, rfl, o, w, rfl, ((h6.trans s7).trans s8).trans s9, ((s7.trans s8).trans s9) _ _ e6, e9⟩
      rintro _ H4 ⟨o, w, rfl, s4, eo, ew⟩
      have hP4 := hP3.ext s4
      have hT4 := s4 _ _ hT3
      have n3' := n3.same s4
      have n4' := n4.same s4
      have p1 := Lw_pos (t := t) nb
      have p2 := Lw_pos (t := t') nb'
      have q1 : (Lw t b).2 ≠ 0 := by omega
      have q2 : (Lw t' b').2 ≠ 0 := by omega
      obtain ⟨m1, m2⟩ := sm.Lw (t := t) nb a1 a2
      obtain ⟨m3, m4⟩ := sm.Lw (t := t') nb' a3 a4
      clear hP3 hT3 n3 n4 s4 hP2 hT2
      -- ratio_of, sums
      refine ⟨fun σ' H' => σ' = [some (.ref a), some (.ref p), some (.int (0 + (i : Nat))), some va, some vb, some (.ref o), some (.ref w), none, none, none, none, none, none, none, none] ∧ Same H4 H', ?_, ?_⟩
      · refine ⟨_, rfl, va, rfl, .inl ⟨t, b, n3', a1.big, a2.big, fun H5 r5 s5' _ e5 => ⟨_, rfl, pairs_ne e5 (s5' _ _ eo) ⟨false, rfl, iteF ?_⟩⟩⟩⟩
        refine ⟨_, rfl, va, rfl, .inl ⟨t, b, n3'.same s5', a1.big, a2.big, fun H6 r6 s6' _ e6 => ⟨r6, _, _, rfl, e6, p1, m1.big, m2.big, Lw_again nb, fun H7 s7 => ⟨true, rfl, iteF ?_⟩⟩⟩⟩
        have h7 := (s5'.trans s6').trans s7
        refine ⟨_, rfl, _, rfl, va, vb, rfl, .inl ⟨t, b, t', b', n3'.same h7, n4'.same h7, a1, a2, a3, a4, fun H8 r8 s8 _ e8 => ?_⟩⟩
        have h8 := h7.trans s8
        refine ⟨_, rfl, _, rfl, o, w, _, _, _, _, rfl, h8 _ _ eo, h8 _ _ ew, q1, q2, m1, m2, m3, m4, fun H9 r9 s9 _ e9 => pairs_ne (s9 _ _ e8) e9 ⟨false, rfl, iteF ?_⟩⟩
        exact ⟨rfl, h8.trans s9⟩
      rintro _ H5 ⟨rfl, s5'⟩
      have hP5 := hP4.ext s5'
      have hT5 := s5' _ _ hT4
      have n5 := n3'.same s5'
      have n6 := n4'.same s5'
      have eo5 := s5' _ _ eo
      have ew5 := s5' _ _ ew
      clear hP4 hT4 n3' n4' s5' eo ew
      -- gaps, products
      refine ⟨fun σ' H' => σ' = [some (.ref a), some (.ref p), some (.int (0 + (i : Nat))), some va, some vb, some (.ref o), some (.ref w), none, none, none, none, none, none, none, none] ∧ Same H5 H', ?_, ?_⟩
      · refine ⟨_, rfl, _, rfl, va, vb, rfl, .inl ⟨t, b, t', b', n5, n6, a1, a2, a3, a4, fun H6 r6 s6' _ e6 => ?_⟩⟩
        refine ⟨_, rfl, _, rfl, w, _, _, _, rfl, rfl, .inl (.inl (s6' _ _ ew5)), i0 _ _, _, rfl, _, rfl, w, _, _, _, rfl, rfl, .inl (.inl (s6' _ _ ew5)), i1 _ _, by show 2 ≤ sizeLine; decide, fun u nu => ?_⟩
        have su := same_new (o := HO.tup [V.int (-(Lw t' b').1), V.int (Lw t' b').2]) nu
        have h6 := s6'.trans su
        refine ⟨o, u, _, _, -(Lw t' b').1, _, rfl, h6 _ _ eo5, upd_same, q1, q2, m1, m2, by unfold sm; rw [Int.natAbs_neg]; exact m3, m4, fun H7 r7 s7 _ e7 => ?_⟩
        have eq : (Lw t b).1 * (Lw t' b').2 + -(Lw t' b').1 * (Lw t b).2 = (Lw t b).1 * (Lw t' b').2 - (Lw t' b').1 * (Lw t b).2 := by rw [Int.neg_mul, ← Int.sub_eq_add_neg]
        rw [eq] at e7
        refine pairs_ne ((su.trans s7) _ _ e6) e7 ⟨false, rfl, iteF ?_⟩
        have h7 := h6.trans s7
        refine ⟨_, rfl, _, rfl, va, vb, rfl, .inl ⟨t, b, t', b', n5.same h7, n6.same h7, a1, a2, a3, a4, fun H8 r8 s8 _ e8 => ?_⟩⟩
        have h8 := h7.trans s8
        refine ⟨_, rfl, _, rfl, o, w, _, _, _, _, rfl, h8 _ _ eo5, h8 _ _ ew5, q1, q2, m1, m2, m3, m4, fun H9 r9 s9 _ e9 => pairs_ne (s9 _ _ e8) e9 ⟨false, rfl, iteF ?_⟩⟩
        exact ⟨rfl, h8.trans s9⟩
      rintro _ H6 ⟨rfl, s6'⟩
      have hP6 := hP5.ext s6'
      have hT6 := s6' _ _ hT5
      have n7 := n5.same s6'
      have n8 := n6.same s6'
      have eo6 := s6' _ _ eo5
      have ew6 := s6' _ _ ew5
      clear hP5 hT5 n5 n6 s6' eo5 ew5
      -- shares
      refine ⟨fun σ' H' => σ' = [some (.ref a), some (.ref p), some (.int (0 + (i : Nat))), some va, some vb, some (.ref o), some (.ref w), none, none, none, none, none, none, none, none] ∧ Same H6 H', ?_, ?_⟩
      · refine ⟨_, rfl, w, _, _, _, rfl, rfl, .inl (.inl ew6), i0 _ _, rfl, _, rfl, ite2 (fun e => ?_) (fun e => iteF ⟨rfl, Same.refl _⟩)⟩
        have hx : (Lw t' b').1 ≠ 0 := fun z => by rw [z] at e; exact absurd e (by decide)
        refine ⟨_, rfl, _, rfl, va, vb, rfl, .inl ⟨t, b, t', b', n7, n8, a1, a2, a3, a4, .inr ⟨hx, fun H7 r7 s7 _ e7 => ?_⟩⟩⟩
        have eo7 := s7 _ _ eo6
        have ew7 := s7 _ _ ew6
        refine ⟨_, rfl, o, _, _, _, rfl, rfl, .inl (.inl eo7), i0 _ _, _, rfl, w, _, _, _, rfl, rfl, .inl (.inl ew7), i1 _ _, _, _, rfl, rfl, m1.mul m4, ?_⟩
        refine ⟨_, rfl, o, _, _, _, rfl, rfl, .inl (.inl eo7), i1 _ _, _, rfl, w, _, _, _, rfl, rfl, .inl (.inl ew7), i0 _ _, _, _, rfl, rfl, m2.mul m3, ?_⟩
        refine ⟨_, _, rfl, Int.mul_ne_zero q1 hx, big_of (lt601 (m1.mulB m4)), big_of (lt601 (m2.mulB m3)), fun H8 r8 s8 _ e8 => pairs_ne (s8 _ _ e7) e8 ⟨false, rfl, iteF ?_⟩⟩
        exact ⟨rfl, s7.trans s8⟩
      rintro _ H7 ⟨rfl, s7⟩
      have hP7 := hP6.ext s7
      have hT7 := s7 _ _ hT6
      have n9 := n7.same s7
      have n10 := n8.same s7
      have eo7 := s7 _ _ eo6
      have ew7 := s7 _ _ ew6
      clear hP6 hT6 n7 n8 s7 eo6 ew6
      -- which is less
      refine ⟨_, rfl, _, rfl, va, vb, rfl, .inl ⟨t, b, t', b', n9, n10, a1, a2, a3, a4, fun H8 s8 => ⟨_, rfl, ?_⟩⟩⟩
      refine ⟨_, rfl, _, rfl, o, w, _, _, _, _, rfl, s8 _ _ eo7, s8 _ _ ew7, q1, q2, m1, m2, m3, m4, ⟨_, rfl, by cases decide ((Lw t b).1 * (Lw t' b').2 < (Lw t' b').1 * (Lw t b).2) <;> rfl, _, rfl, ?_⟩⟩
      rw [decide_eq_true rfl]
      refine iteF ?_
      refine ⟨_, rfl, _, rfl, va, va, rfl, .inl ⟨t, b, t, b, n9.same s8, n9.same s8, a1, a2, a1, a2, fun H9 s9 => ⟨_, _, rfl, rfl, _, rfl, ?_⟩⟩⟩
      rw [decide_eq_false (show ¬ (Lw t b).1 * (Lw t b).2 < (Lw t b).1 * (Lw t b).2 from Int.lt_irrefl _)]
      refine iteF ?_
      have h9 := s8.trans s9
      exact ⟨_, _, _, _, _, rfl, hP7.ext h9, h9 _ _ hT7⟩
    rintro _ H2 ⟨n, s2, s3, s4, s5, s6, rfl, hn, hP2, hT2⟩
    -- what is no number
    refine ⟨fun σ' H' => ∃ (bl : Addr) (xs : List V), σ' = [some (.ref a), some (.ref p), s2, s3, s4, s5, s6, some (.ref bl), none, none, none, none, none, none, none] ∧ PenAt H' p pc n ∧ H' tP = some (.tbl #[]) ∧ H' bl = some (.lst xs) ∧ xs ≠ [] ∧ xs.length ≤ 1000 ∧ ∀ v ∈ xs, Bad H' v, ?_, ?_⟩
    · skip
      refine ⟨by show 2 ≤ sizeLine; decide, fun t1 n_t1 => ?_⟩
      have s_t1 := same_new (o := HO.tup [V.int 1, V.int 0]) n_t1
      have e_t1 : (upd H2 t1 (HO.tup [V.int 1, V.int 0])) t1 = some (HO.tup [V.int 1, V.int 0]) := upd_same
      generalize upd H2 t1 (HO.tup [V.int 1, V.int 0]) = G0 at s_t1 e_t1 ⊢
      refine ⟨_, rfl, by show 2 ≤ sizeLine; decide, fun t2 n_t2 => ?_⟩
      have s_t2 := same_new (o := HO.tup [V.int 1, V.int (-2)]) n_t2
      have e_t2 : (upd G0 t2 (HO.tup [V.int 1, V.int (-2)])) t2 = some (HO.tup [V.int 1, V.int (-2)]) := upd_same
      generalize upd G0 t2 (HO.tup [V.int 1, V.int (-2)]) = G1 at s_t2 e_t2 ⊢
      refine ⟨by show 1 ≤ sizeLine; decide, fun t3 n_t3 => ?_⟩
      have s_t3 := same_new (o := HO.tup [V.int 1]) n_t3
      have e_t3 : (upd G1 t3 (HO.tup [V.int 1])) t3 = some (HO.tup [V.int 1]) := upd_same
      generalize upd G1 t3 (HO.tup [V.int 1]) = G2 at s_t3 e_t3 ⊢
      refine ⟨by show 3 ≤ sizeLine; decide, fun t4 n_t4 => ?_⟩
      have s_t4 := same_new (o := HO.tup [V.int 1, V.int 2, V.int 3]) n_t4
      have e_t4 : (upd G2 t4 (HO.tup [V.int 1, V.int 2, V.int 3])) t4 = some (HO.tup [V.int 1, V.int 2, V.int 3]) := upd_same
      generalize upd G2 t4 (HO.tup [V.int 1, V.int 2, V.int 3]) = G3 at s_t4 e_t4 ⊢
      refine ⟨by show 2 ≤ sizeLine; decide, fun l5 n_l5 => ?_⟩
      have s_l5 := same_new (o := HO.lst [V.int 1, V.int 2]) n_l5
      have e_l5 : (upd G3 l5 (HO.lst [V.int 1, V.int 2])) l5 = some (HO.lst [V.int 1, V.int 2]) := upd_same
      generalize upd G3 l5 (HO.lst [V.int 1, V.int 2]) = G4 at s_l5 e_l5 ⊢
      refine ⟨by show 2 ≤ sizeLine; decide, fun t6 n_t6 => ?_⟩
      have s_t6 := same_new (o := HO.tup [V.bl true, V.int 2]) n_t6
      have e_t6 : (upd G4 t6 (HO.tup [V.bl true, V.int 2])) t6 = some (HO.tup [V.bl true, V.int 2]) := upd_same
      generalize upd G4 t6 (HO.tup [V.bl true, V.int 2]) = G5 at s_t6 e_t6 ⊢
      refine ⟨by show 2 ≤ sizeLine; decide, fun t7 n_t7 => ?_⟩
      have s_t7 := same_new (o := HO.tup [V.int 1, V.non]) n_t7
      have e_t7 : (upd G5 t7 (HO.tup [V.int 1, V.non])) t7 = some (HO.tup [V.int 1, V.non]) := upd_same
      generalize upd G5 t7 (HO.tup [V.int 1, V.non]) = G6 at s_t7 e_t7 ⊢
      refine ⟨by show 0 ≤ sizeLine; decide, fun t8 n_t8 => ?_⟩
      have s_t8 := same_new (o := HO.tup []) n_t8
      have e_t8 : (upd G6 t8 (HO.tup [])) t8 = some (HO.tup []) := upd_same
      generalize upd G6 t8 (HO.tup []) = G7 at s_t8 e_t8 ⊢
      refine ⟨by show 11 ≤ sizeLine; decide, fun bl nbl => ?_⟩
      have sb := same_new (o := HO.lst [V.non, V.bl true, V.str "1", V.ref t1, V.ref t2, V.ref t3, V.ref t4, V.ref l5, V.ref t6, V.ref t7, V.ref t8]) nbl
      have f8 := sb
      have f7 := s_t8.trans f8
      have f6 := s_t7.trans f7
      have f5 := s_t6.trans f6
      have f4 := s_l5.trans f5
      have f3 := s_t4.trans f4
      have f2 := s_t3.trans f3
      have f1 := s_t2.trans f2
      have f0 := s_t1.trans f1
      refine ⟨bl, _, rfl, hP2.ext f0, f0 _ _ hT2, upd_same, by simp, by show 11 ≤ 1000; decide, ?_⟩
      intro v hv
      simp only [List.mem_cons, List.not_mem_nil, or_false] at hv
      rcases hv with h | h | h | h | h | h | h | h | h | h | h
      · exact .inl h
      · exact .inr (.inl ⟨_, h⟩)
      · exact .inr (.inr (.inl ⟨_, h⟩))
      · exact .inr (.inr (.inr (.inr ⟨t1, _, h, f1 _ _ e_t1, by decide, .inr ⟨_, _, rfl, .inr (.inr ⟨_, rfl⟩), .inr (.inr ⟨_, rfl⟩), fun t b h1 h2 => by cases h2; decide⟩⟩)))
      · exact .inr (.inr (.inr (.inr ⟨t2, _, h, f2 _ _ e_t2, by decide, .inr ⟨_, _, rfl, .inr (.inr ⟨_, rfl⟩), .inr (.inr ⟨_, rfl⟩), fun t b h1 h2 => by cases h2; decide⟩⟩)))
      · exact .inr (.inr (.inr (.inr ⟨t3, _, h, f3 _ _ e_t3, by decide, .inl (by decide)⟩)))
      · exact .inr (.inr (.inr (.inr ⟨t4, _, h, f4 _ _ e_t4, by decide, .inl (by decide)⟩)))
      · exact .inr (.inr (.inr (.inl ⟨l5, _, h, f5 _ _ e_l5⟩)))
      · exact .inr (.inr (.inr (.inr ⟨t6, _, h, f6 _ _ e_t6, by decide, .inr ⟨_, _, rfl, .inr (.inl ⟨_, rfl⟩), .inr (.inr ⟨_, rfl⟩), fun t b h1 h2 => by cases h1⟩⟩)))
      · exact .inr (.inr (.inr (.inr ⟨t7, _, h, f7 _ _ e_t7, by decide, .inr ⟨_, _, rfl, .inr (.inr ⟨_, rfl⟩), .inl rfl, fun t b h1 h2 => by cases h2⟩⟩)))
      · exact .inr (.inr (.inr (.inr ⟨t8, _, h, f8 _ _ e_t8, by decide, .inl (by decide)⟩)))
    rintro _ H3 ⟨bl, xs, rfl, hP3, hT3, hbl, hx0, hx1, hbad⟩
    -- three draws of them
    refine ⟨fun σ' H' => ∃ (odd worse zero : V) (zb : Int), σ' = [some (.ref a), some (.ref p), s2, s3, s4, s5, s6, some (.ref bl), none, none, some odd, some worse, some zero, none, none] ∧ Bad H' odd ∧ Bad H' worse ∧ Num H' zero 0 zb ∧ sm zb ∧ H' tP = some (.tbl #[]), ?_, ?_⟩
    · skip
      refine ⟨_, rfl, _, rfl, p, pc, bl, n, xs, rfl, hP3, by omega, .inl (SqL.of hbl), hx0, hx1, fun j1 odd H4 g1 hP4 k4 => ?_⟩
      have k4' : KeepP p H3 H4 := .of_eq k4
      have hbl4 := k4' _ _ (pen_off hP3 hbl (by intro kv z; cases z)) hbl
      refine ⟨_, rfl, _, rfl, p, pc, bl, n + 1, xs, rfl, hP4, by omega, .inl (SqL.of hbl4), hx0, hx1, fun j2 worse H5 g2 hP5 k5 => ?_⟩
      have k5' : KeepP p H4 H5 := .of_eq k5
      refine ⟨_, rfl, by show 2 ≤ sizeLine; decide, fun z3 nz3 => ?_⟩
      have s3' := same_new (o := HO.tup [V.int 0, V.int 3]) nz3
      have e3 : (upd H5 z3 (HO.tup [V.int 0, V.int 3])) z3 = some (HO.tup [V.int 0, V.int 3]) := upd_same
      generalize upd H5 z3 (HO.tup [V.int 0, V.int 3]) = H6 at s3' e3 ⊢
      refine ⟨by show 2 ≤ sizeLine; decide, fun zl nzl => ?_⟩
      have s4' := same_new (o := HO.lst [V.int 0, V.ref z3]) nzl
      have e4 : (upd H6 zl (HO.lst [V.int 0, V.ref z3])) zl = some (HO.lst [V.int 0, V.ref z3]) := upd_same
      generalize upd H6 zl (HO.lst [V.int 0, V.ref z3]) = H7 at s4' e4 ⊢
      have hP7 := hP5.ext (s3'.trans s4')
      refine ⟨p, pc, zl, n + 2, _, rfl, hP7, by omega, .inl (SqL.of e4), by simp, by show 2 ≤ 1000; decide, fun j3 zero H8 g3 hP8 k8 => ?_⟩
      have k8' : KeepP p H7 H8 := .of_eq k8
      refine ⟨by show 3 ≤ sizeLine; decide, fun tt ntt => ?_⟩
      have s9 := same_new (o := HO.tup [odd, worse, zero]) ntt
      refine ⟨tt, _, rfl, .inl (.inl upd_same), rfl, _, _, rfl, _, _, rfl, _, _, rfl, rfl, ?_⟩
      have b1 : Bad H8 odd := (((((hbad odd (List.mem_of_getElem? g1)).keepP hP3 k4').keepP hP4 k5').same (s3'.trans s4')).keepP hP7 k8')
      have b2 : Bad H8 worse := (((((hbad worse (List.mem_of_getElem? g2)).keepP hP3 k4').keepP hP4 k5').same (s3'.trans s4')).keepP hP7 k8')
      have hz : ∃ zb : Int, Num H8 zero 0 zb ∧ sm zb := by
        have m := List.mem_of_getElem? g3
        simp only [List.mem_cons, List.not_mem_nil, or_false] at m
        rcases m with rfl | rfl
        · exact ⟨1, .inl ⟨rfl, rfl⟩, sm_of (by decide)⟩
        · exact ⟨3, (Num.keepP (.inr ⟨z3, rfl, s4' _ _ e3, by decide⟩) hP7 k8'), sm_of (by decide)⟩
      obtain ⟨zb, hz, hs⟩ := hz
      refine ⟨odd, worse, zero, zb, rfl, b1.same s9, b2.same s9, hz.same s9, hs, s9 _ _ (k8' _ _ ntp ((s3'.trans s4') _ _ (k5' _ _ ntp (k4' _ _ ntp hT3))))⟩
    rintro _ HB ⟨odd, worse, zero, zb, rfl, bo, bw, hz, hzs, hTB⟩
    clear hP3 hT3 hbl hx0 hx1 hbad hP2 hT2 hP1 hT1
    have tabs0 : Tabs TT HB := fun q hq => by rw [List.mem_singleton.mp hq]; exact TabS.nil hTB
    have okr : Okv (.str "ratio") := .inl rfl
    have okd : Okv (.str "divisor") := .inl rfl
    have hzb : zb ≠ 0 := by have := hz.pos; omega
    -- the first row
    refine ⟨fun σ' H' => ∃ tr : Addr, σ' = [some (.ref a), some (.ref p), s2, s3, s4, s5, s6, some (.ref bl), some (.ref tr), none, some odd, some worse, some zero, none, none] ∧ Inv5 TT HB tr 1 H', ?_, ?_⟩
    · skip
      refine ⟨tabs0, fun H1 x1 tb1 => ⟨_, rfl, odd, rfl, .inr ⟨bo.ext x1, fun dd Hx sx ex => ⟨dd, _, _, rfl, rfl, ex, fun a1 na1 => ?_⟩⟩⟩⟩
      refine ⟨_, rfl, by show 2 ≤ sizeLine; decide, fun b1 nb1 => ⟨by show 2 ≤ sizeLine; decide, fun t1 nt1 => ⟨by show 1 ≤ sizeLine; decide, fun tr ntr => ?_⟩⟩⟩
      exact ⟨tr, rfl, inv5_new x1 tb1 (sx.trans (same_new na1)) upd_same nb1 nt1 ntr okr bo.okv⟩
    rintro _ H9 ⟨tr, rfl, I1⟩
    -- the five that refuse alike
    refine ⟨fun σ' H' => ∃ c9 : Option V, σ' = [some (.ref a), some (.ref p), s2, s3, s4, s5, s6, some (.ref bl), some (.ref tr), c9, some odd, some worse, some zero, none, none] ∧ Inv5 TT HB tr 11 H', ?_, ?_⟩
    · refine ⟨by show 5 ≤ sizeLine; decide, fun lf nlf => ⟨lf, rfl, ⟨_, SqL.of upd_same⟩, ?_⟩⟩
      have slf := same_new (o := HO.lst [V.ref fSu, V.ref fGa, V.ref fPr, V.ref fSh, V.ref fLe]) nlf
      have elf : (upd H9 lf (HO.lst [V.ref fSu, V.ref fGa, V.ref fPr, V.ref fSh, V.ref fLe])) lf = some (HO.lst [V.ref fSu, V.ref fGa, V.ref fPr, V.ref fSh, V.ref fLe]) := upd_same
      have ntr : lf ≠ tr := fun z => by
        obtain ⟨_, _, _, ts, _, ht, _⟩ := I1
        rw [z, ht] at nlf
        cases nlf
      have I2 := I1.same slf
      generalize upd H9 lf (HO.lst [V.ref fSu, V.ref fGa, V.ref fPr, V.ref fSh, V.ref fLe]) = H10 at slf elf I2 ⊢
      refine for_list (K := K) (a := lf) (xs := [V.ref fSu, V.ref fGa, V.ref fPr, V.ref fSh, V.ref fLe]) (fun i σ' H' => ∃ c9 : Option V, σ' = [some (.ref a), some (.ref p), s2, s3, s4, s5, s6, some (.ref bl), some (.ref tr), c9, some odd, some worse, some zero, none, none] ∧ H' lf = some (HO.lst [V.ref fSu, V.ref fGa, V.ref fPr, V.ref fSh, V.ref fLe]) ∧ Inv5 TT HB tr (1 + 2 * i) H') ⟨none, rfl, elf, I2⟩ (fun i σ' H' _ ⟨_, _, e, _⟩ => SqL.of e) ?_ (fun σ' H' ⟨c9, e, _, I⟩ => ⟨c9, e, I⟩)
      rintro i y _ H11 hi ⟨c9, rfl, elf2, I3⟩
      obtain ⟨z, rfl, hz5⟩ : ∃ z, y = V.ref z ∧ S5 z := by
        have m := List.mem_of_getElem? hi
        simp only [List.mem_cons, List.not_mem_nil, or_false] at m
        rcases m with rfl | rfl | rfl | rfl | rfl
        · exact ⟨_, rfl, .inl rfl⟩
        · exact ⟨_, rfl, .inr (.inl rfl)⟩
        · exact ⟨_, rfl, .inr (.inr (.inl rfl))⟩
        · exact ⟨_, rfl, .inr (.inr (.inr (.inl rfl)))⟩
        · exact ⟨_, rfl, .inr (.inr (.inr (.inr rfl)))⟩
      have hi5 : i < 5 := by have := (List.getElem?_eq_some_iff.mp hi).1; exact this
      refine ⟨fun σ' H' => σ' = [some (.ref a), some (.ref p), s2, s3, s4, s5, s6, some (.ref bl), some (.ref tr), some (.ref z), some odd, some worse, some zero, none, none] ∧ H' lf = some (HO.lst [V.ref fSu, V.ref fGa, V.ref fPr, V.ref fSh, V.ref fLe]) ∧ Inv5 TT HB tr (1 + 2 * i + 1) H', ?_, ?_⟩
      · skip
        have II := id I3
        obtain ⟨_, eB, tb, ts, hl, ht, _⟩ := II
        refine ⟨_, rfl, .inl ⟨rfl, _, SqL.of ht⟩, tb, fun H1 x1 tb1 => ?_⟩
        refine ⟨z, rfl, hz5, _, rfl, _, rfl, odd, worse, rfl, .inl ⟨(bo.ext eB).ext x1, fun dd Hx sx ex => ⟨dd, _, _, rfl, rfl, ex, fun a1 na1 => ?_⟩⟩⟩
        refine ⟨_, rfl, by show 2 ≤ sizeLine; decide, fun b1 nb1 => ⟨by show 2 ≤ sizeLine; decide, fun t1 nt1 => ?_⟩⟩
        obtain ⟨xs5, hx5, hl5, I5, kt5⟩ := inv5_app I3 x1 tb1 (sx.trans (same_new na1)) (sx.free na1) upd_same nb1 nt1 okr bo.okv
        refine ⟨tr, xs5, _, rfl, rfl, hx5, small1000 (by omega), ?_⟩
        exact ⟨rfl, kt5 lf _ ntr elf2 (fun ps z => by cases z), I5⟩
      rintro _ H12 ⟨rfl, elf3, I4⟩
      have II := id I4
      obtain ⟨_, eB, tb, ts, hl, ht, _⟩ := II
      refine ⟨_, rfl, .inl ⟨rfl, _, SqL.of ht⟩, tb, fun H1 x1 tb1 => ?_⟩
      refine ⟨z, rfl, hz5, _, rfl, .int 3, worse, rfl, .inr ⟨3, 1, .inl ⟨rfl, rfl⟩, sm_of (by decide), sm_of (by decide), (bw.ext eB).ext x1, fun dd Hx sx ex => ⟨dd, _, _, rfl, rfl, ex, fun a1 na1 => ?_⟩⟩⟩
      refine ⟨_, rfl, by show 2 ≤ sizeLine; decide, fun b1 nb1 => ⟨by show 2 ≤ sizeLine; decide, fun t1 nt1 => ?_⟩⟩
      obtain ⟨xs5, hx5, hl5, I5, kt5⟩ := inv5_app I4 x1 tb1 (sx.trans (same_new na1)) (sx.free na1) upd_same nb1 nt1 okr bw.okv
      refine ⟨tr, xs5, _, rfl, rfl, hx5, small1000 (by omega), ?_⟩
      exact ⟨_, rfl, kt5 lf _ ntr elf3 (fun ps z => by cases z), I5⟩
    rintro _ H13 ⟨c9, rfl, I6⟩
    -- a share of what is no number; a share by 0
    refine ⟨fun σ' H' => σ' = [some (.ref a), some (.ref p), s2, s3, s4, s5, s6, some (.ref bl), some (.ref tr), c9, some odd, some worse, some zero, none, none] ∧ Inv5 TT HB tr 12 H', ?_, ?_⟩
    · skip
      have II := id I6
      obtain ⟨_, eB, tb, ts, hl, ht, _⟩ := II
      refine ⟨_, rfl, .inl ⟨rfl, _, SqL.of ht⟩, tb, fun H1 x1 tb1 => ?_⟩
      refine ⟨_, rfl, _, rfl, odd, zero, rfl, .inr (.inl ⟨(bo.ext eB).ext x1, fun dd Hx sx ex => ⟨dd, _, _, rfl, rfl, ex, fun a1 na1 => ?_⟩⟩)⟩
      refine ⟨_, rfl, by show 2 ≤ sizeLine; decide, fun b1 nb1 => ⟨by show 2 ≤ sizeLine; decide, fun t1 nt1 => ?_⟩⟩
      obtain ⟨xs5, hx5, hl5, I5, kt5⟩ := inv5_app I6 x1 tb1 (sx.trans (same_new na1)) (sx.free na1) upd_same nb1 nt1 okr bo.okv
      refine ⟨tr, xs5, _, rfl, rfl, hx5, small1000 (by omega), ?_⟩
      exact ⟨rfl, I5⟩
    rintro _ H14 ⟨rfl, I7⟩
    refine ⟨fun σ' H' => σ' = [some (.ref a), some (.ref p), s2, s3, s4, s5, s6, some (.ref bl), some (.ref tr), c9, some odd, some worse, some zero, none, none] ∧ Inv5 TT HB tr 13 H', ?_, ?_⟩
    · skip
      have II := id I7
      obtain ⟨_, eB, tb, ts, hl, ht, _⟩ := II
      refine ⟨_, rfl, .inl ⟨rfl, _, SqL.of ht⟩, tb, fun H1 x1 tb1 => ?_⟩
      refine ⟨_, rfl, .int 5, zero, rfl, .inl ⟨5, 1, 0, zb, .inl ⟨rfl, rfl⟩, (hz.ext eB).ext x1, sm_of (by decide), sm_of (by decide), sm_of (by decide), hzs, .inl ⟨Lw_zero hzb, fun dd Hx sx ex => ⟨dd, _, _, rfl, rfl, ex, fun a1 na1 => ?_⟩⟩⟩⟩
      refine ⟨_, rfl, by show 2 ≤ sizeLine; decide, fun b1 nb1 => ⟨by show 2 ≤ sizeLine; decide, fun t1 nt1 => ?_⟩⟩
      obtain ⟨xs5, hx5, hl5, I5, kt5⟩ := inv5_app I7 x1 tb1 (sx.trans (same_new na1)) (sx.free na1) upd_same nb1 nt1 okd hz.okv
      refine ⟨tr, xs5, _, rfl, rfl, hx5, small1000 (by omega), ?_⟩
      exact ⟨rfl, I5⟩
    rintro _ H15 ⟨rfl, I8⟩
    -- all of them
    obtain ⟨_, _, _, ts, hl, ht, hall⟩ := I8
    refine ⟨_, rfl, tr, rfl, ⟨_, SqL.of ht⟩, fun D nD => ?_⟩
    refine lc_list (K := K) (a := tr) (xs := ts.map V.ref) (fun i Hc => Same H15 Hc ∧ Hc D = some (.lst (List.replicate i (V.bl true)))) ⟨same_new nD, upd_same⟩ (fun i Hc _ ⟨sc, _⟩ => SqL.of (sc _ _ ht)) ?_ ?_
    · rintro i x Hc hi ⟨sc, ec⟩
      have hi' : i < 13 := by have z := (List.getElem?_eq_some_iff.mp hi).1; rw [List.length_map, hl] at z; exact z
      obtain ⟨t, ht2, rfl⟩ : ∃ t, ts[i]? = some t ∧ V.ref t = x := by
        rw [List.getElem?_map] at hi
        cases e : ts[i]? with
        | none => rw [e] at hi; cases hi
        | some t => rw [e] at hi; exact ⟨t, rfl, Option.some.inj hi⟩
      obtain ⟨a1, b1, wd, v, _, _, _, h1, h2, h3, o1, o2⟩ := hall t (List.mem_of_getElem? ht2)
      refine ⟨t, _, rfl, .inl (.inl (sc _ _ h1)), rfl, _, _, rfl, _, _, rfl, rfl, rfl, ?_⟩
      refine ⟨_, rfl, _, rfl, 1, by decide, .inl ⟨a1, b1, _, _, rfl, rfl, SqL.of (sc _ _ h2), SqL.of (sc _ _ h3), .cons (okv_eq o1) (.cons (okv_eq o2) .nil)⟩, _, ec, ?_, ?_, ?_⟩
      · rw [List.length_replicate]; exact small1000 (by omega)
      · intro b' o e'
        rw [upd_ne (ne_of_none e' nD)]
        exact sc _ _ e'
      · rw [upd_same, ← List.replicate_succ']
    · rintro Hc ⟨sc, ec⟩
      refine ⟨D, List.replicate (ts.map V.ref).length true, rfl, SqL.of (by rw [List.map_replicate]; exact ec), ?_⟩
      have e1 : (List.replicate (ts.map V.ref).length true).all id = true := by simp
      rw [e1]
      exact q _
end
end KQ

namespace KQ
open PySem PySem.Spec PyProof.Rows L2 LamX

/-! ### what the top has written -/
/-- an own exception class straight over the class at cK, which is straight over ValueError -/
structure KC (K : PySem.W.Frag) (cK C : Addr) : Prop where
  l : ∃ nm q N bs sn sub ab col dd k0 k1 k2 k3 k5, K.lookup C = some (excClassObj nm q C N bs [.ref cK, .type "ValueError", .type "Exception", .type "BaseException", .type "object"] true sn sub ab col dd k0 k1 k2 k3 k5 "ValueError.__new__")
  sa : PySem.W.findIn K (Value.ref C) "__setattr__" = some (some (.builtin "object.__setattr__"))
  ty : PySem.W.typeIn K (.ref C) = some (.type "type")
  kp : PySem.W.keepIn K (Value.ref C) = true
  hg : PySem.W.findIn K (.ref C) "__getattribute__" = some (some (.builtin "BaseException.__getattribute__"))
  hk : PySem.W.findIn K (.ref C) "__getattr__" = some none
  ha : PySem.W.findIn K (Value.ref C) "__class__" = some (some (.builtin "object.__class__"))
theorem KC.of {K : PySem.W.Frag} {cK C N : Addr} {nm q : Str} {bs : List Value} {sn : List Str} {sub : List Value} {ab : Bool} {col : Option Bool} {dd : Option Addr} {k0 k1 k2 k3 k5 : Option Value}
    (l : K.lookup C = some (excClassObj nm q C N bs [.ref cK, .type "ValueError", .type "Exception", .type "BaseException", .type "object"] true sn sub ab col dd k0 k1 k2 k3 k5 "ValueError.__new__"))
    (sa : PySem.W.findIn K (.ref C) "__setattr__" = some (some (.builtin "object.__setattr__"))) (ty : PySem.W.typeIn K (.ref C) = some (.type "type")) (kp : PySem.W.keepIn K (.ref C) = true)
    (hg : PySem.W.findIn K (.ref C) "__getattribute__" = some (some (.builtin "BaseException.__getattribute__"))) (hk : PySem.W.findIn K (.ref C) "__getattr__" = some none)
    (ha : PySem.W.findIn K (.ref C) "__class__" = some (some (.builtin "object.__class__"))) : KC K cK C := ⟨⟨_, _, _, _, _, _, _, _, _, _, _, _, _, _, l⟩, sa, ty, kp, hg, hk, ha⟩
theorem fun_ex {K : PySem.W.Frag} {x qual : Str} {st : Stmt} {f : Addr} {oc : Value} {od an : Option Addr} {osl : Array (Option Value)} {kV doc pm cdv ct : Value} (l : K.lookup f = some ⟨oc, od, .func (PySem.W.fnOf x qual (defArgs st) (defBody st) (defScope st) .none kV doc pm an cdv ct), osl⟩)
    (c : PySem.W.codeIn K cdv qual = true) (k : PySem.W.keepIn K (.ref f) = true) : ∃ d, Fun K x qual st f d := ⟨_, L2.fun_mk l c k⟩
theorem KC.cls {K : PySem.W.Frag} {cK C : Addr} (h : KC K cK C) : ∃ cd, PySem.W.clsIn K C = some cd ∧ cd.mro = [.ref C, .ref cK, .type "ValueError", .type "Exception", .type "BaseException", .type "object"] ∧ cd.hasDict = true := by
  obtain ⟨nm, q, N, bs, sn, sub, ab, col, dd, k0, k1, k2, k3, k5, hl⟩ := h.l
  refine ⟨_, by unfold PySem.W.clsIn; rw [hl] <;> rfl, rfl, rfl⟩
theorem KC.mro {K : PySem.W.Frag} {cK C : Addr} (h : KC K cK C) (b : Value) : PySem.W.mroIn K C b = some ([Value.ref C, .ref cK, .type "ValueError", .type "Exception", .type "BaseException", .type "object"].contains b) := by
  obtain ⟨cd, e, m, _⟩ := h.cls
  unfold PySem.W.mroIn
  rw [e, Option.bind_some, m]
  rfl
theorem KC.exC {K : PySem.W.Frag} {cK C : Addr} (h : KC K cK C) : PySem.W.subIn K (.ref C) (.type "BaseException") = some true := by
  show PySem.W.mroIn K C _ = _
  rw [h.mro]
  rfl
theorem KC.ox {K : PySem.W.Frag} {cK C : Addr} (h : KC K cK C) : OexC K C := by
  obtain ⟨nm, q, N, bs, sn, sub, ab, col, dd, k0, k1, k2, k3, k5, hl⟩ := h.l
  exact ⟨⟨nm, q, N, bs, _, sn, sub, ab, col, dd, k0, k1, k2, k3, k5, hl, rfl⟩, h.sa, h.exC, h.ty, h.kp⟩

theorem KC.hd {K : PySem.W.Frag} {cK C : Addr} (h : KC K cK C) : PySem.W.hasDictIn K C = true := by
  obtain ⟨cd, e, _, d⟩ := h.cls
  show (PySem.W.clsIn K C).any _ = true
  rw [e]
  exact d
theorem KC.xf {K : PySem.W.Frag} {cK C : Addr} (h : KC K cK C) : XfC K C := ⟨h.hg, h.hk, h.exC, h.hd⟩
theorem KC.ex {K : PySem.W.Frag} {cK C : Addr} (h : KC K cK C) : PySem.W.exmOne K (.ref C) (.ref C) = some true := by
  refine PySem.W.exm_ref h.exC h.hd h.ty ?_
  show PySem.W.mroIn K C _ = _
  rw [h.mro, List.contains_cons, beq_self_eq_true, Bool.true_or]

theorem all_mk {l : PySem.W.OpenLaw} {w : World} {K : PySem.W.Frag} {h : Heap} {mg : Str → Option Value} {fa : Addr} {CX : CXT} (eCX : CX = CX0) (X : K.In h) (G : h.Ns mainGlobals mg) (hfa : mg "law" = some (.ref fa)) {ts : List Addr} (hTs : ∀ R ∈ ts, h.get? R = some (PySem.W.tabObj #[]))
    {cK C fB fI fP fL fR fSu fGa fPr fSh fLe fPn fDr fPk fW fLL fLR fLP fLA fLM fLB fN fRf fLa c tP : Addr} {oc ec kV doc pm ct : Value} {od an dc : Option Addr} {osl sc : Array (Option Value)} {vc : Array Value}
    (aK : PySem.W.nsIn K mainGlobals "KeptError" = some (some (.ref cK)))
    (aC : PySem.W.nsIn K mainGlobals "BadNumber" = some (some (.ref C)))
    (kc : KC K cK C)
    (ic : PySem.W.findIn K (.ref C) "__init__" = some (some (.ref fB)))
    (ti : PySem.W.typeIn K (.ref fB) = some (.type "function"))
    (n0 : PySem.W.findIn K (.ref C) "what" = some none)
    (n1 : PySem.W.findIn K (.ref C) "number" = some none)
    (FB : ∃ d, Fun K "__init__" "BadNumber.__init__" sInitB fB d)
    (gI : PySem.W.nsIn K mainGlobals "is_integer" = some (some (.ref fI)))
    (FI : ∃ d, Fun K "is_integer" "is_integer" sIsI fI d)
    (gP : PySem.W.nsIn K mainGlobals "is_number" = some (some (.ref fP)))
    (FP : ∃ d, Fun K "is_number" "is_number" sPair fP d)
    (gL : PySem.W.nsIn K mainGlobals "_lowest" = some (some (.ref fL)))
    (FL : ∃ d, Fun K "_lowest" "_lowest" sLow fL d)
    (gR : PySem.W.nsIn K mainGlobals "ratio_of" = some (some (.ref fR)))
    (FR : ∃ d, Fun K "ratio_of" "ratio_of" sRat fR d)
    (gSu : PySem.W.nsIn K mainGlobals "ratio_sum" = some (some (.ref fSu)))
    (FSu : ∃ d, Fun K "ratio_sum" "ratio_sum" (topS 9) fSu d)
    (gGa : PySem.W.nsIn K mainGlobals "ratio_gap" = some (some (.ref fGa)))
    (FGa : ∃ d, Fun K "ratio_gap" "ratio_gap" (topS 10) fGa d)
    (gPr : PySem.W.nsIn K mainGlobals "ratio_product" = some (some (.ref fPr)))
    (FPr : ∃ d, Fun K "ratio_product" "ratio_product" (topS 11) fPr d)
    (gSh : PySem.W.nsIn K mainGlobals "ratio_share" = some (some (.ref fSh)))
    (FSh : ∃ d, Fun K "ratio_share" "ratio_share" (topS 12) fSh d)
    (gLe : PySem.W.nsIn K mainGlobals "is_less" = some (some (.ref fLe)))
    (FLe : ∃ d, Fun K "is_less" "is_less" (topS 13) fLe d)
    (gPn : PySem.W.nsIn K mainGlobals "_law_pen" = some (some (.ref fPn)))
    (FPn : ∃ d, Fun K "_law_pen" "_law_pen" sPen fPn d)
    (gDr : PySem.W.nsIn K mainGlobals "_law_draw" = some (some (.ref fDr)))
    (FDr : ∃ d, Fun K "_law_draw" "_law_draw" sDraw fDr d)
    (gPk : PySem.W.nsIn K mainGlobals "_law_pick" = some (some (.ref fPk)))
    (FPk : ∃ d, Fun K "_law_pick" "_law_pick" sPick fPk d)
    (gW : PySem.W.nsIn K mainGlobals "_law_is_whole" = some (some (.ref fW)))
    (FW : ∃ d, Fun K "_law_is_whole" "_law_is_whole" sWhole fW d)
    (gLL : PySem.W.nsIn K mainGlobals "_law_lowest" = some (some (.ref fLL)))
    (FLL : ∃ d, Fun K "_law_lowest" "_law_lowest" sLLow fLL d)
    (gLR : PySem.W.nsIn K mainGlobals "_law_is_ratio" = some (some (.ref fLR)))
    (FLR : ∃ d, Fun K "_law_is_ratio" "_law_is_ratio" sLRat fLR d)
    (gLP : PySem.W.nsIn K mainGlobals "_law_pair" = some (some (.ref fLP)))
    (FLP : ∃ d, Fun K "_law_pair" "_law_pair" sLPair fLP d)
    (gLA : PySem.W.nsIn K mainGlobals "_law_add" = some (some (.ref fLA)))
    (FLA : ∃ d, Fun K "_law_add" "_law_add" sLAdd fLA d)
    (gLM : PySem.W.nsIn K mainGlobals "_law_mul" = some (some (.ref fLM)))
    (FLM : ∃ d, Fun K "_law_mul" "_law_mul" sLMul fLM d)
    (gLB : PySem.W.nsIn K mainGlobals "_law_below" = some (some (.ref fLB)))
    (FLB : ∃ d, Fun K "_law_below" "_law_below" sLBel fLB d)
    (gN : PySem.W.nsIn K mainGlobals "_law_number" = some (some (.ref fN)))
    (FN : ∃ d, Fun K "_law_number" "_law_number" sLNum fN d)
    (gRf : PySem.W.nsIn K mainGlobals "_law_refused" = some (some (.ref fRf)))
    (FRf : ∃ d, Fun K "_law_refused" "_law_refused" sRef fRf d)
    (z_isinstance : PySem.W.nsIn K mainGlobals "isinstance" = some none)
    (z_int : PySem.W.nsIn K mainGlobals "int" = some none)
    (z_bool : PySem.W.nsIn K mainGlobals "bool" = some none)
    (z_tuple : PySem.W.nsIn K mainGlobals "tuple" = some none)
    (z_len : PySem.W.nsIn K mainGlobals "len" = some none)
    (z_abs : PySem.W.nsIn K mainGlobals "abs" = some none)
    (z_range : PySem.W.nsIn K mainGlobals "range" = some none)
    (z_repr : PySem.W.nsIn K mainGlobals "repr" = some none)
    (z_all : PySem.W.nsIn K mainGlobals "all" = some none)
    (z_list : PySem.W.nsIn K mainGlobals "list" = some none)
    (zg : PySem.W.nsIn K mainGlobals "gcd" = some (some (.builtin "math.gcd")))
    (gLa : PySem.W.nsIn K mainGlobals "law" = some (some (.ref fLa)))
    (lk : K.lookup fLa = some ⟨oc, od, .func (PySem.W.fnOf "law" "law" (defArgs sLaw) (defBody sLaw) (defScope sLaw) .none kV doc pm an (.ref c) ct), osl⟩)
    (hcd : PySem.W.codeIn K (.ref c) "law" = true)
    (lc : K.lookup c = some ⟨ec, dc, .fields vc, sc⟩)
    (h11 : vc[11]? = some (.ref tP))
    (nP : K.lookup tP = none)
    (hb : PySem.W.codeHdIn K c tP = true)
    (mem : tP ∈ ts) :
    LawAtS l w K CX 7 63 "_law_script" mg fa h := by
  subst eCX
  have e := hfa.symm.trans (PySem.W.mg_of X G gLa)
  cases e
  obtain ⟨dB, FB⟩ := FB
  have bB := FB.binds (ps := ["self", "what", "number"]) fun _ _ _ _ _ _ us hl => match us, hl with | [_, _, _], _ => rfl
  obtain ⟨dI, FI⟩ := FI
  have bI := FI.binds (ps := ["value"]) fun _ _ _ _ _ _ us hl => match us, hl with | [_], _ => rfl
  obtain ⟨dP, FP⟩ := FP
  have bP := FP.binds (ps := ["value"]) fun _ _ _ _ _ _ us hl => match us, hl with | [_], _ => rfl
  obtain ⟨dL, FL⟩ := FL
  have bL := FL.binds (ps := ["top", "bottom"]) fun _ _ _ _ _ _ us hl => match us, hl with | [_, _], _ => rfl
  obtain ⟨dR, FR⟩ := FR
  have bR := FR.binds (ps := ["number"]) fun _ _ _ _ _ _ us hl => match us, hl with | [_], _ => rfl
  obtain ⟨dSu, FSu⟩ := FSu
  have bSu := FSu.binds (ps := ["one", "other"]) fun _ _ _ _ _ _ us hl => match us, hl with | [_, _], _ => rfl
  obtain ⟨dGa, FGa⟩ := FGa
  have bGa := FGa.binds (ps := ["one", "other"]) fun _ _ _ _ _ _ us hl => match us, hl with | [_, _], _ => rfl
  obtain ⟨dPr, FPr⟩ := FPr
  have bPr := FPr.binds (ps := ["one", "other"]) fun _ _ _ _ _ _ us hl => match us, hl with | [_, _], _ => rfl
  obtain ⟨dSh, FSh⟩ := FSh
  have bSh := FSh.binds (ps := ["one", "other"]) fun _ _ _ _ _ _ us hl => match us, hl with | [_, _], _ => rfl
  obtain ⟨dLe, FLe⟩ := FLe
  have bLe := FLe.binds (ps := ["one", "other"]) fun _ _ _ _ _ _ us hl => match us, hl with | [_, _], _ => rfl
  obtain ⟨dPn, FPn⟩ := FPn
  have bPn := FPn.binds (ps := ["_law_script"]) fun _ _ _ _ _ _ us hl => match us, hl with | [_], _ => rfl
  obtain ⟨dDr, FDr⟩ := FDr
  have bDr := FDr.binds (ps := ["_law_pen_here", "_law_many"]) fun _ _ _ _ _ _ us hl => match us, hl with | [_, _], _ => rfl
  obtain ⟨dPk, FPk⟩ := FPk
  have bPk := FPk.binds (ps := ["_law_pen_here", "_law_some"]) fun _ _ _ _ _ _ us hl => match us, hl with | [_, _], _ => rfl
  obtain ⟨dW, FW⟩ := FW
  have bW := FW.binds (ps := ["_law_value"]) fun _ _ _ _ _ _ us hl => match us, hl with | [_], _ => rfl
  obtain ⟨dLL, FLL⟩ := FLL
  have bLL := FLL.binds (ps := ["_law_top", "_law_bottom"]) fun _ _ _ _ _ _ us hl => match us, hl with | [_, _], _ => rfl
  obtain ⟨dLR, FLR⟩ := FLR
  have bLR := FLR.binds (ps := ["_law_value"]) fun _ _ _ _ _ _ us hl => match us, hl with | [_], _ => rfl
  obtain ⟨dLP, FLP⟩ := FLP
  have bLP := FLP.binds (ps := ["_law_number_here"]) fun _ _ _ _ _ _ us hl => match us, hl with | [_], _ => rfl
  obtain ⟨dLA, FLA⟩ := FLA
  have bLA := FLA.binds (ps := ["_law_one", "_law_two"]) fun _ _ _ _ _ _ us hl => match us, hl with | [_, _], _ => rfl
  obtain ⟨dLM, FLM⟩ := FLM
  have bLM := FLM.binds (ps := ["_law_one", "_law_two"]) fun _ _ _ _ _ _ us hl => match us, hl with | [_, _], _ => rfl
  obtain ⟨dLB, FLB⟩ := FLB
  have bLB := FLB.binds (ps := ["_law_one", "_law_two"]) fun _ _ _ _ _ _ us hl => match us, hl with | [_, _], _ => rfl
  obtain ⟨dN, FN⟩ := FN
  have bN := FN.binds (ps := ["_law_pen_here"]) fun _ _ _ _ _ _ us hl => match us, hl with | [_], _ => rfl
  obtain ⟨dRf, FRf⟩ := FRf
  have bRf := FRf.binds (ps := ["_law_call"]) fun _ _ _ _ _ _ us hl => match us, hl with | [_], _ => rfl
  have B : Bl mg := ⟨PySem.W.mg_none_of X G z_isinstance, PySem.W.mg_none_of X G z_int, PySem.W.mg_none_of X G z_bool, PySem.W.mg_none_of X G z_tuple, PySem.W.mg_none_of X G z_len, PySem.W.mg_none_of X G z_abs, PySem.W.mg_none_of X G z_range, PySem.W.mg_none_of X G z_repr, PySem.W.mg_none_of X G z_all, PySem.W.mg_none_of X G z_list, PySem.W.mg_of X G zg⟩
  have N : BN K mg C fB dB := ⟨kc.ox, ic, ti, n0, n1, PySem.W.mg_of X G aC, FB, bB⟩
  have T : Top K mg C fB fI fP fL fR fSu fGa fPr fSh fLe fPn fDr fPk fW fLL fLR fLP fLA fLM fLB fN fRf dB dI dP dL dR dSu dGa dPr dSh dLe dPn dDr dPk dW dLL dLR dLP dLA dLM dLB dN dRf := ⟨B, N, kc.xf, kc.ex, FI, bI, PySem.W.mg_of X G gI, FP, bP, PySem.W.mg_of X G gP, FL, bL, PySem.W.mg_of X G gL, FR, bR, PySem.W.mg_of X G gR, FSu, bSu, PySem.W.mg_of X G gSu, FGa, bGa, PySem.W.mg_of X G gGa, FPr, bPr, PySem.W.mg_of X G gPr, FSh, bSh, PySem.W.mg_of X G gSh, FLe, bLe, PySem.W.mg_of X G gLe, FPn, bPn, PySem.W.mg_of X G gPn, FDr, bDr, PySem.W.mg_of X G gDr, FPk, bPk, PySem.W.mg_of X G gPk, FW, bW, PySem.W.mg_of X G gW, FLL, bLL, PySem.W.mg_of X G gLL, FLR, bLR, PySem.W.mg_of X G gLR, FLP, bLP, PySem.W.mg_of X G gLP, FLA, bLA, PySem.W.mg_of X G gLA, FLM, bLM, PySem.W.mg_of X G gLM, FLB, bLB, PySem.W.mg_of X G gLB, FN, bN, PySem.W.mg_of X G gN, FRf, bRf, PySem.W.mg_of X G gRf⟩
  refine ⟨PySem.W.fnOf "law" "law" (defArgs sLaw) (defBody sLaw) (defScope sLaw) .none kV doc pm an (.ref c) ct, [(c, tP)], spLawT K tP, fun p hp => ?_, fun p hp => ?_, fun p hp => ?_, fun s v => .of_eq rfl, ?_, ?_⟩
  · rw [List.mem_singleton.mp hp]
    exact hTs tP mem
  · rw [List.mem_singleton.mp hp]
    exact nP
  · rw [List.mem_singleton.mp hp]
    exact PySem.W.codeHd_of_K X hb
  · intro H a ns hl _ hT hS
    exact ⟨a, ns, rfl, hS, hl, hT (c, tP) (List.mem_singleton.mpr rfl), fun _ => rfl⟩
  · intro base _ _ TB
    exact ok_law lk hcd (TB (c, tP) (List.mem_singleton.mpr rfl)) T
theorem walk {l : PySem.W.OpenLaw} {q : Program} {loose : List Str} {XP : (Str → Option Value) → Heap → Prop} {YP : World → Heap → Prop} {d : DefRec} {K : Params → PySem.W.Frag} (hn : l.most = some 63) (hdf : d.params.defaults = [])
    (ts : List Addr) (hY : ∀ (w : World) (h : Heap), YP w h → (K w.params).In h) (hT : ∀ (w : World) (h : Heap), YP w h → ∀ R ∈ ts, h.get? R = some (PySem.W.tabObj #[]))
    (F : ∀ (w : World) (mg : Str → Option Value) (fa : Addr) (h : Heap), (K w.params).In h → h.Ns mainGlobals mg → mg d.name = some (.ref fa) → (∀ R ∈ ts, h.get? R = some (PySem.W.tabObj #[])) → LawAtS l w (K w.params) CX0 7 63 "_law_script" mg fa h) :
    PySem.W.WalkO q loose XP YP l.row.toRowW d [] (fun f vs => PySem.call f vs) :=
  walk_ofTs (n := 63) (k := 7) (x := "_law_script") (CX := fun _ => CX0) hn (by decide) hdf ⟨rfl, by decide, by decide⟩ hY (fun w mg fa h Y X G e => F w mg fa h X G e (hT w h Y)) (fun _ _ _ _ _ z => z)
end KQ
open PySem PySem.W PyProof.Rows
set_option maxRecDepth 100000 in
set_option maxHeartbeats 0 in
theorem PySem.Challenge.cw_keptqubits_k04_ratios_holds : PySem.Challenge.rw_keptqubits_k04_ratios.Holds := by
  w_on; o_law; k_head; (case hw => w_witness2)
  k_fill
  refine KQ.walk (l := PySem.Challenge.rw_keptqubits_k04_ratios) rfl rfl _ (fun w h Y => PySem.W.km_in_of Y) (fun w h Y => PySem.W.km_tabs_of Y) ?F
  case F =>
    intro w mg fa h KX G hmg own
    refine' KQ.all_mk rfl KX G hmg own ?aK ?aC ?kc ?ic ?ti ?n0 ?n1 ?FB ?gI ?FI ?gP ?FP ?gL ?FL ?gR ?FR ?gSu ?FSu ?gGa ?FGa ?gPr ?FPr ?gSh ?FSh ?gLe ?FLe ?gPn ?FPn ?gDr ?FDr ?gPk ?FPk ?gW ?FW ?gLL ?FLL ?gLR ?FLR ?gLP ?FLP ?gLA ?FLA ?gLM ?FLM ?gLB ?FLB ?gN ?FN ?gRf ?FRf ?z_isinstance ?z_int ?z_bool ?z_tuple ?z_len ?z_abs ?z_range ?z_repr ?z_all ?z_list ?zg ?gLa ?lk ?hcd ?lc ?h11 ?nP ?hb ?mem
    (case aK => k_is)
    (case aC => k_is)
    (case kc => refine' KQ.KC.of ?l ?sa ?ty ?kp ?hg ?hk ?ha; (case l => k_is); (case sa => k_is); (case ty => k_is); (case kp => k_is); (case hg => k_is); (case hk => k_is); (case ha => k_is))
    (case ic => k_is)
    (case ti => k_is)
    (case n0 => k_is)
    (case n1 => k_is)
    (case FB => refine' KQ.fun_ex ?l ?c ?k; (case l => k_is); (case c => k_is); (case k => k_is))
    (case gI => k_is)
    (case FI => refine' KQ.fun_ex ?l ?c ?k; (case l => k_is); (case c => k_is); (case k => k_is))
    (case gP => k_is)
    (case FP => refine' KQ.fun_ex ?l ?c ?k; (case l => k_is); (case c => k_is); (case k => k_is))
    (case gL => k_is)
    (case FL => refine' KQ.fun_ex ?l ?c ?k; (case l => k_is); (case c => k_is); (case k => k_is))
    (case gR => k_is)
    (case FR => refine' KQ.fun_ex ?l ?c ?k; (case l => k_is); (case c => k_is); (case k => k_is))
    (case gSu => k_is)
    (case FSu => refine' KQ.fun_ex ?l ?c ?k; (case l => k_is); (case c => k_is); (case k => k_is))
    (case gGa => k_is)
    (case FGa => refine' KQ.fun_ex ?l ?c ?k; (case l => k_is); (case c => k_is); (case k => k_is))
    (case gPr => k_is)
    (case FPr => refine' KQ.fun_ex ?l ?c ?k; (case l => k_is); (case c => k_is); (case k => k_is))
    (case gSh => k_is)
    (case FSh => refine' KQ.fun_ex ?l ?c ?k; (case l => k_is); (case c => k_is); (case k => k_is))
    (case gLe => k_is)
    (case FLe => refine' KQ.fun_ex ?l ?c ?k; (case l => k_is); (case c => k_is); (case k => k_is))
    (case gPn => k_is)
    (case FPn => refine' KQ.fun_ex ?l ?c ?k; (case l => k_is); (case c => k_is); (case k => k_is))
    (case gDr => k_is)
    (case FDr => refine' KQ.fun_ex ?l ?c ?k; (case l => k_is); (case c => k_is); (case k => k_is))
    (case gPk => k_is)
    (case FPk => refine' KQ.fun_ex ?l ?c ?k; (case l => k_is); (case c => k_is); (case k => k_is))
    (case gW => k_is)
    (case FW => refine' KQ.fun_ex ?l ?c ?k; (case l => k_is); (case c => k_is); (case k => k_is))
    (case gLL => k_is)
    (case FLL => refine' KQ.fun_ex ?l ?c ?k; (case l => k_is); (case c => k_is); (case k => k_is))
    (case gLR => k_is)
    (case FLR => refine' KQ.fun_ex ?l ?c ?k; (case l => k_is); (case c => k_is); (case k => k_is))
    (case gLP => k_is)
    (case FLP => refine' KQ.fun_ex ?l ?c ?k; (case l => k_is); (case c => k_is); (case k => k_is))
    (case gLA => k_is)
    (case FLA => refine' KQ.fun_ex ?l ?c ?k; (case l => k_is); (case c => k_is); (case k => k_is))
    (case gLM => k_is)
    (case FLM => refine' KQ.fun_ex ?l ?c ?k; (case l => k_is); (case c => k_is); (case k => k_is))
    (case gLB => k_is)
    (case FLB => refine' KQ.fun_ex ?l ?c ?k; (case l => k_is); (case c => k_is); (case k => k_is))
    (case gN => k_is)
    (case FN => refine' KQ.fun_ex ?l ?c ?k; (case l => k_is); (case c => k_is); (case k => k_is))
    (case gRf => k_is)
    (case FRf => refine' KQ.fun_ex ?l ?c ?k; (case l => k_is); (case c => k_is); (case k => k_is))
    (case z_isinstance => k_is)
    (case z_int => k_is)
    (case z_bool => k_is)
    (case z_tuple => k_is)
    (case z_len => k_is)
    (case z_abs => k_is)
    (case z_range => k_is)
    (case z_repr => k_is)
    (case z_all => k_is)
    (case z_list => k_is)
    (case zg => k_is)
    (case gLa => k_is)
    (case lk => k_is)
    (case hcd => k_is)
    (case lc => k_is)
    (case h11 => rfl)
    (case nP => kernel_rfl)
    (case hb => kernel_rfl)
    (case mem => simp)
