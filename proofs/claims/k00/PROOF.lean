import PyProof.Rows.All
import Wide.All
import OpenK.AllK
import Wide.FinOn
import HandS.ForMost
import HandS.Wide
import HandS.Codes
import HandS.ExcInit
import HandS.ExcValue
import HandS.ExcField
import HandS.ExcIs
import HandS.ExcOwn
import KE.KExcIs
import HandS.Style
import HandS.Walk
import HandS.ExcBuiltin
import PySem.Challenge.RW_keptqubits_k00_errors
set_option Elab.async false
set_option linter.all false
set_option maxRecDepth 100000
set_option maxHeartbeats 4000000
namespace KQ
open PySem PySem.Spec PyProof.Rows L2
/-! ### the text -/
def topS (i : Nat) : Stmt := PySem.Challenge.pw_keptqubits_k00_errors.main.body.getD i (.Pass ⟨0, 0, 0, 0⟩)
abbrev sPen : Stmt := topS 23
abbrev sDraw : Stmt := topS 24
abbrev sPick : Stmt := topS 25
theorem scPen : FnScope ["_law_script", "_law_fold", "_law_cell"] ["_law_script"] (defScope sPen) := ⟨rfl, rfl, rfl, by decide +kernel, rfl, by decide +kernel, by decide +kernel⟩
theorem scDraw : FnScope ["_law_pen_here", "_law_many", "_law_cell", "_law_digit", "_law_mixed"] ["_law_pen_here", "_law_many"] (defScope sDraw) := ⟨rfl, rfl, rfl, by decide +kernel, rfl, by decide +kernel, by decide +kernel⟩
theorem scPick : FnScope ["_law_pen_here", "_law_some"] ["_law_pen_here", "_law_some"] (defScope sPick) := ⟨rfl, rfl, rfl, by decide +kernel, rfl, by decide +kernel, by decide +kernel⟩
/-! ### the pen -/
theorem k12 : ¬ ("cells" : Str) = "at" := by decide +kernel
theorem k13 : ¬ ("cells" : Str) = "digits" := by decide +kernel
theorem k14 : ¬ ("cells" : Str) = "count" := by decide +kernel
theorem k15 : ¬ ("cells" : Str) = "fold" := by decide +kernel
theorem k21 : ¬ ("at" : Str) = "cells" := by decide +kernel
theorem k23 : ¬ ("at" : Str) = "digits" := by decide +kernel
theorem k24 : ¬ ("at" : Str) = "count" := by decide +kernel
theorem k25 : ¬ ("at" : Str) = "fold" := by decide +kernel
theorem k31 : ¬ ("digits" : Str) = "cells" := by decide +kernel
theorem k32 : ¬ ("digits" : Str) = "at" := by decide +kernel
theorem k34 : ¬ ("digits" : Str) = "count" := by decide +kernel
theorem k35 : ¬ ("digits" : Str) = "fold" := by decide +kernel
theorem k41 : ¬ ("count" : Str) = "cells" := by decide +kernel
theorem k42 : ¬ ("count" : Str) = "at" := by decide +kernel
theorem k43 : ¬ ("count" : Str) = "digits" := by decide +kernel
theorem k45 : ¬ ("count" : Str) = "fold" := by decide +kernel
theorem k51 : ¬ ("fold" : Str) = "cells" := by decide +kernel
theorem k52 : ¬ ("fold" : Str) = "at" := by decide +kernel
theorem k53 : ¬ ("fold" : Str) = "digits" := by decide +kernel
theorem k54 : ¬ ("fold" : Str) = "count" := by decide +kernel
def kvsP (c : Addr) (a d n f : Int) : List (Key × V) := [(.inr "cells", .ref c), (.inr "at", .int a), (.inr "digits", .int d), (.inr "count", .int n), (.inr "fold", .int f)]
section
variable (c : Addr) (a d n f z : Int)
theorem vCells : valV (kvsP c a d n f) (.inr "cells" : Key) = some (.ref c) := by simp [kvsP, valV, List.find?]
theorem vAt : valV (kvsP c a d n f) (.inr "at" : Key) = some (.int a) := by simp [kvsP, valV, List.find?, k12]
theorem vDigits : valV (kvsP c a d n f) (.inr "digits" : Key) = some (.int d) := by simp [kvsP, valV, List.find?, k13, k23]
theorem vCount : valV (kvsP c a d n f) (.inr "count" : Key) = some (.int n) := by simp [kvsP, valV, List.find?, k14, k24, k34]
theorem vFold : valV (kvsP c a d n f) (.inr "fold" : Key) = some (.int f) := by simp [kvsP, valV, List.find?, k15, k25, k35, k45]
theorem pAt : putK (kvsP c a d n f) (.inr "at" : Key) (.int z) = kvsP c z d n f := by simp [kvsP, putK, k12, k32, k42, k52]
theorem pDigits : putK (kvsP c a d n f) (.inr "digits" : Key) (.int z) = kvsP c a z n f := by simp [kvsP, putK, k13, k23, k43, k53]
theorem pCount : putK (kvsP c a d n f) (.inr "count" : Key) (.int z) = kvsP c a d z f := by simp [kvsP, putK, k14, k24, k34, k54]
theorem pFold : putK (kvsP c a d n f) (.inr "fold" : Key) (.int z) = kvsP c a d n z := by simp [kvsP, putK, k15, k25, k35, k45]
theorem mPen : mergeK [] [((.inr "cells" : Key), V.ref c), (.inr "at", .int a), (.inr "digits", .int d), (.inr "count", .int n), (.inr "fold", .int f)] = kvsP c a d n f := by
  simp [mergeK, kvsP, putK, k12, k13, k14, k15, k23, k24, k25, k34, k35, k45]
end
theorem getS {H : Hp} {a : Addr} {kvs : List (Key × V)} {x : Str} {v : V} (e : H a = some (.dK kvs)) (h : valV kvs (.inr x : Key) = some v) : DGet H a (.str x) (some v) := .inl ⟨kvs, .inr x, .inl e, rfl, h.symm⟩
theorem putS {H : Hp} {a : Addr} {kvs kvs' : List (Key × V)} {x : Str} {v : V} (e : H a = some (.dK kvs)) (hl : kvs.length < sizeLine) (h : putK kvs (.inr x : Key) v = kvs') : DPut H a (.str x) v (upd H a (.dK kvs')) := .inl ⟨kvs, .inr x, e, rfl, hl, by rw [h]⟩
theorem lenP {c : Addr} {a d n f : Int} : (kvsP c a d n f).length < sizeLine := small1000 (by show 5 ≤ 1000; decide)
/-- a pen stands at p, its cells at c, n draws so far -/
def PenAt (H : Hp) (p c : Addr) (n : Nat) : Prop := ∃ (ns : List Int) (a d f : Int), H p = some (.dK (kvsP c a d n f)) ∧ H c = some (.lst (ns.map V.int)) ∧ ns.length ≤ 63 ∧ 0 ≤ a ∧ 0 ≤ d ∧ 0 ≤ f ∧ f < 2147483587
theorem PenAt.ne {H : Hp} {p c : Addr} {n : Nat} (h : PenAt H p c n) : p ≠ c := by
  obtain ⟨ns, a, d, f, hp, hc, _⟩ := h
  exact ne_of hp hc (by intro z; cases z)
theorem PenAt.same {H H' : Hp} {p c : Addr} {n : Nat} (h : PenAt H p c n) (hp : H' p = H p) (hc : H' c = H c) : PenAt H' p c n := by
  obtain ⟨ns, a, d, f, e1, e2, r⟩ := h
  exact ⟨ns, a, d, f, hp.trans e1, hc.trans e2, r⟩
theorem PenAt.some {H : Hp} {p c : Addr} {n : Nat} (h : PenAt H p c n) : (∃ o, H p = some o) ∧ ∃ o, H c = some o := by
  obtain ⟨ns, a, d, f, e1, e2, r⟩ := h
  exact ⟨⟨_, e1⟩, ⟨_, e2⟩⟩
theorem PenAt.ext {H H' : Hp} {p c : Addr} {n : Nat} (h : PenAt H p c n) (s : Same H H') : PenAt H' p c n := by
  obtain ⟨⟨o, e1⟩, o', e2⟩ := h.some
  exact h.same ((s _ _ e1).trans e1.symm) ((s _ _ e2).trans e2.symm)
theorem sqL_pen {K : PySem.W.Frag} {H H' : Hp} {p y : Addr} {xs : List V} {kv : List (Key × V)} (hk : ∀ b, b ≠ p → H' b = H b) (hp : H p = some (.dK kv)) (h : SqL K H y xs) : SqL K H' y xs := by
  rcases h with (h | ⟨ob, h⟩) | h
  · exact .inl (.inl ((hk y (ne_of h hp (by intro z; cases z))).trans h))
  · exact .inl (.inr ⟨ob, (hk y (ne_of h hp (by intro z; cases z))).trans h⟩)
  · exact .inr h
theorem sqT_pen {K : PySem.W.Frag} {H H' : Hp} {p y : Addr} {xs : List V} {kv : List (Key × V)} (hk : ∀ b, b ≠ p → H' b = H b) (hp : H p = some (.dK kv)) (h : SqT K H y xs) : SqT K H' y xs := by
  rcases h with (h | ⟨ob, h⟩) | h
  · exact .inl (.inl ((hk y (ne_of h hp (by intro z; cases z))).trans h))
  · exact .inl (.inr ⟨ob, (hk y (ne_of h hp (by intro z; cases z))).trans h⟩)
  · exact .inr h
theorem ix_or {X : Cx} {r1 r2 : R2} (h1 : IxR X r1) (h2 : IxR X r2) : IxR X (fun x y H Q => r1 x y H Q ∨ r2 x y H Q) := by
  intro val sl pins st σ G x y v u Q J rx ry h hs
  rcases h with h | h
  · exact h1 val sl pins st σ G x y v u Q J rx ry h hs
  · exact h2 val sl pins st σ G x y v u Q J rx ry h hs
def spPen (K : PySem.W.Frag) : Sp := fun vs H Q _ => ∃ (a : Addr) (ns : List Int), vs = [.ref a] ∧ SqL K H a (ns.map V.int) ∧ ns.length ≤ 63 ∧
  ∀ H' p c, Same H H' → H p = none → H c = none → PenAt H' p c 0 → Q (.ref p) H'
def spDraw : Sp := fun vs H Q _ => ∃ (p c : Addr) (n : Nat) (m : Int), vs = [.ref p, .int m] ∧ PenAt H p c n ∧ n < 1000000 ∧ 0 < m ∧ m.natAbs < 2 ^ 200 ∧
  ∀ (r : Int) H', 0 ≤ r → r < m → PenAt H' p c (n + 1) → (∀ b, b ≠ p → H' b = H b) → Q (.int r) H'
def spPick (K : PySem.W.Frag) : Sp := fun vs H Q _ => ∃ (p c q : Addr) (n : Nat) (xs : List V), vs = [.ref p, .ref q] ∧ PenAt H p c n ∧ n < 1000000 ∧ (SqL K H q xs ∨ SqT K H q xs) ∧ xs ≠ [] ∧ xs.length ≤ 1000 ∧
  ∀ (i : Nat) (v : V) H', xs[i]? = some v → PenAt H' p c (n + 1) → (∀ b, b ≠ p → H' b = H b) → Q v H'
section
variable {P : Program} {w : World} {K : PySem.W.Frag} {mg : Str → Option Value} {base : Heap}
theorem ok_pen {f : Addr} {fd : FuncData} {k : Nat} (F : Fun K "_law_pen" "_law_pen" sPen f fd) (mi : mg "int" = none) (ml : mg "list" = none) : FnOk P w K mg base CX0 (k + 1) f fd ["_law_script"] (spPen K) := by
  refine F.ok scPen (fun vs H Q E h => ?_) (fun cdv A outer s H vs Q E hr h => ?_)
  · obtain ⟨a, ns, rfl, _⟩ := h
    rfl
  · obtain ⟨a, ns, rfl, hS, hlen, q⟩ := h
    refine ⟨_, pss_cons (ps_set (i := 1) scPen.nd rfl (.inl rfl) pe_int)
      (pss_cons (ps_for PassesOwn.never rfl (pi_list (pv 0)) (pg_name (i := 2) scPen.nd rfl (.inl rfl))
        (pss_one (ps_set (i := 1) scPen.nd rfl (.inl rfl) (pe_op op_mod (pe_callTy call_int1 (by rfl) mi (by decide +kernel) (pa_cons (pe_op op_add (pe_op op_mul (pv 1) pe_int) (pv 2)) pa_nil)) pe_int))))
      (pss_one (ps_ret (pe_disp (pps_cons pe_str (pe_callTy call_list_of (by rfl) ml (by decide +kernel) (pa_cons (pv 0) pa_nil)) (pps_cons pe_str pe_int (pps_cons pe_str pe_int (pps_cons pe_str pe_int (pps_cons pe_str (pv 1) pps_nil))))) (by rfl) (by rfl) (fun z => by cases z) (by decide))))), ?_⟩
    refine ⟨_, rfl, a, rfl, ⟨_, hS⟩, for_list (K := K) (a := a) (xs := ns.map V.int) (fun i σ H2 => ∃ (g : Int) (v : Option V), σ = [some (.ref a), some (.int g), v] ∧ H2 = H ∧ 0 ≤ g ∧ g < 1000000007)
      ⟨0, none, rfl, rfl, by decide, by decide⟩ (fun i σ H2 _ ⟨_, _, _, e, _⟩ => by rw [e]; exact hS) ?_ ?_⟩
    · rintro i y σ H2 hi ⟨g, v, rfl, rfl, h0, h1⟩
      obtain ⟨z, rfl⟩ : ∃ z, y = V.int z := by
        rw [List.getElem?_map] at hi
        cases e : ns[i]? with
        | none => rw [e] at hi; cases hi
        | some z => rw [e] at hi; exact ⟨z, (Option.some.inj hi).symm⟩
      refine ⟨_, rfl, _, _, rfl, rfl, .inr ⟨by decide, by decide⟩, _, rfl, _, _, rfl, rfl, .inl ⟨_, rfl, _, _, rfl, rfl, (by show (0 : Int) < 1000000007; decide), ?_⟩⟩
      exact ⟨_, _, rfl, rfl, Int.emod_nonneg _ (by decide), Int.emod_lt_of_pos _ (by decide)⟩
    · rintro σ H2 ⟨g, v, rfl, rfl, h0, h1⟩
      intro p np
      refine ⟨.ref a, rfl, a, ns.map V.int, rfl, .inl ?_, fun c nc => ?_⟩
      · exact Same.seq (H := H2) (fun b o e => by rw [upd_ne (ne_of_none e np)]; exact e) hS
      have ncp : c ≠ p := fun e => by rw [e, upd_same] at nc; cases nc
      have nc2 : H2 c = none := by rw [upd_ne ncp] at nc; exact nc
      refine ⟨_, rfl, ?_⟩
      refine ⟨by rw [upd_ne ncp.symm, upd_same], [((.inr "cells" : Key), V.ref c), (.inr "at", .int 0), (.inr "digits", .int 0), (.inr "count", .int 0), (.inr "fold", .int g)], rfl, (by show 5 ≤ 15; decide), ?_⟩
      rw [mPen]
      refine q _ p c (fun b o e => ?_) np nc2 ⟨ns, 0, 0, g, upd_same, ?_, hlen, by decide, by decide, h0, by omega⟩
      · rw [upd_ne (ne_of_none e np), upd_ne (ne_of_none e nc2), upd_ne (ne_of_none e np)]
        exact e
      · rw [upd_ne ncp, upd_same]
theorem ok_draw {f : Addr} {fd : FuncData} {k : Nat} (F : Fun K "_law_draw" "_law_draw" sDraw f fd) (mi : mg "int" = none) (ml : mg "len" = none) : FnOk P w K mg base CX0 (k + 1) f fd ["_law_pen_here", "_law_many"] spDraw := by
  refine F.ok scDraw (fun vs H Q E h => ?_) (fun cdv A outer s H vs Q E hr h => ?_)
  · obtain ⟨p, c, n, m, rfl, _⟩ := h
    rfl
  · obtain ⟨p, c, n, m, rfl, hP, hn, hm, hm9, q⟩ := h
    have hu := hu_of hr
    have hpc := hP.ne
    obtain ⟨ns, a0, d0, f0, hp, hc, hlen, ha, hd, hf0, hf1⟩ := hP
    refine ⟨_, pss_cons (ps_dput hu (pv 0) pe_str (pe_op op_add (pe_dget hu (pv 0) pe_str (fun _ _ => rfl)) pe_int) rfl)
      (C8.pss_cut (ps_if (pw_and (pt_cmpR op_eq (pe_dget hu (pv 0) pe_str (fun _ _ => rfl)) pe_int (nomark _))
            (pw_and1 (pt_cmpR op_lt (pe_dget hu (pv 0) pe_str (fun _ _ => rfl)) (pe_callB call_len_seq (by rfl) ml PySem.boot_len (pa_cons (pe_dget hu (pv 0) pe_str (fun _ _ => rfl)) pa_nil)) (nomark _)))).pt
          (pss_cons (ps_set (i := 2) scDraw.nd rfl (.inl rfl) (pe_ix ix_list (pe_dget hu (pv 0) pe_str (fun _ _ => rfl)) (pe_dget hu (pv 0) pe_str (fun _ _ => rfl)) (fun _ _ => rfl)))
          (pss_cons (ps_dput hu (pv 0) pe_str (pe_op op_add (pe_dget hu (pv 0) pe_str (fun _ _ => rfl)) pe_int) rfl)
          (pss_one (ps_if (pt_cmpR op_ge (pv 2) (pe_op op_pow pe_int pe_int) (nomark _))
            (pss_one (ps_dput hu (pv 0) pe_str (pe_op op_sub (pv 2) (pe_op op_pow pe_int pe_int)) rfl))
            (pss_one (ps_dput hu (pv 0) pe_str (pe_op op_mod (pe_callTy call_int1 (by rfl) mi (by decide +kernel) (pa_cons (pe_op op_add (pe_op op_mul (pe_dget hu (pv 0) pe_str (fun _ _ => rfl)) pe_int) (pv 2)) pa_nil)) pe_int) rfl))))))
          pss_nil)
      (pss_cons (ps_if (pt_cmpR op_gt (pe_dget hu (pv 0) pe_str (fun _ _ => rfl)) pe_int (nomark _))
          (pss_cons (ps_set (i := 3) scDraw.nd rfl (.inl rfl) (pe_op op_mod (pe_callTy call_int1 (by rfl) mi (by decide +kernel) (pa_cons (pe_dget hu (pv 0) pe_str (fun _ _ => rfl)) pa_nil)) (pv 1)))
          (pss_cons (ps_dput hu (pv 0) pe_str (pe_op op_fdivW (pe_dget hu (pv 0) pe_str (fun _ _ => rfl)) (pv 1)) rfl)
          (pss_one (ps_ret (pv 3)))))
          pss_nil)
      (pss_cons (ps_set (i := 4) scDraw.nd rfl (.inl rfl) (pe_op op_add (pe_op op_add (pe_dget hu (pv 0) pe_str (fun _ _ => rfl)) (pe_op op_mul (pe_dget hu (pv 0) pe_str (fun _ _ => rfl)) pe_int)) pe_int))
      (pss_one (ps_ret (pe_op op_mod (pe_op op_fdivW (pe_callTy call_int1 (by rfl) mi (by decide +kernel) (pa_cons (pe_op op_mod (pe_op op_pow (pv 4) pe_int) pe_int) pa_nil)) pe_int) (pv 1))))))), ?_⟩
    -- count
    refine ⟨_, rfl, p, _, rfl, getS hp (vCount ..), _, _, rfl, rfl, _, rfl, p, _, rfl, putS hp lenP (pCount ..), ?_⟩
    have up : ∀ {o : HO}, (upd H p o) p = some o := fun {o} => upd_same
    have uc : ∀ {o : HO}, (upd H p o) c = some (.lst (ns.map V.int)) := fun {o} => by rw [upd_ne hpc.symm]; exact hc
    -- the cell
    refine ⟨fun σ' H' => ∃ (a d g : Int) (v2 : Option V), σ' = [some (.ref p), some (.int m), v2, none, none] ∧ H' = upd H p (.dK (kvsP c a d ((n : Int) + 1) g)) ∧ 0 ≤ a ∧ 0 ≤ d ∧ 0 ≤ g ∧ g < 2147483587, ?_, ?_⟩
    · refine ⟨_, rfl, p, _, rfl, getS up (vDigits ..), rfl, _, rfl, ite2 (fun e1 => ?_) (fun e1 => ?_)⟩
      · refine ⟨_, rfl, p, _, rfl, getS up (vAt ..), _, rfl, p, _, rfl, getS up (vCells ..), c, _, rfl, .inl (SqL.of uc), _, _, rfl, rfl, _, rfl, ite2 (fun e2 => ?_) (fun e2 => ?_)⟩
        · have e2' : a0 < (ns.length : Int) := by
            have z := of_decide_eq_true e2
            rw [List.length_map] at z
            exact z
          have hat : (ns.map V.int)[a0.toNat]? = some (V.int (ns[a0.toNat]'(by omega))) := by
            rw [List.getElem?_map, List.getElem?_eq_getElem (by omega)]
            rfl
          refine ⟨_, rfl, p, _, rfl, getS up (vCells ..), _, rfl, p, _, rfl, getS up (vAt ..), c, _, _, _, rfl, rfl, SqL.of uc, at_of (by omega) hat, ?_⟩
          refine ⟨_, rfl, p, _, rfl, getS up (vAt ..), _, _, rfl, rfl, _, rfl, p, _, rfl, putS up lenP (pAt ..), ?_⟩
          rw [upd_upd]
          refine ⟨_, rfl, _, _, rfl, rfl, ⟨by decide, by decide, by decide⟩, _, _, rfl, rfl, _, rfl, ite2 (fun e3 => ?_) (fun e3 => ?_)⟩
          · refine ⟨_, rfl, _, _, rfl, rfl, ⟨by decide, by decide, by decide⟩, _, _, rfl, rfl, _, rfl, p, _, rfl, putS up lenP (pDigits ..), ?_⟩
            rw [upd_upd]
            have e3' := of_decide_eq_true e3
            exact ⟨_, _, _, _, rfl, rfl, by omega, by omega, hf0, hf1⟩
          · refine ⟨_, rfl, p, _, rfl, getS up (vFold ..), _, _, rfl, rfl, .inr ⟨by decide, by decide⟩, _, rfl, _, _, rfl, rfl, .inl ⟨_, rfl, _, _, rfl, rfl, (by show (0 : Int) < 2147483587; decide), _, rfl, p, _, rfl, putS up lenP (pFold ..), ?_⟩⟩
            rw [upd_upd]
            exact ⟨_, _, _, _, rfl, rfl, by omega, hd, Int.emod_nonneg _ (by decide), Int.emod_lt_of_pos _ (by decide)⟩
        · exact ⟨_, _, _, _, rfl, rfl, ha, hd, hf0, hf1⟩
      · refine iteF ?_
        exact ⟨_, _, _, _, rfl, rfl, ha, hd, hf0, hf1⟩
    · rintro σ' H' ⟨a, d, g, v2, rfl, rfl, ha', hd', hg0, hg1⟩
      have fin : ∀ (r a d g : Int), 0 ≤ r → r < m → 0 ≤ a → 0 ≤ d → 0 ≤ g → g < 2147483587 → Q (.int r) (upd H p (.dK (kvsP c a d ((n : Int) + 1) g))) := fun r a d g r0 r1 a0 d0 g0 g1 =>
        q r _ r0 r1 ⟨ns, a, d, g, up, uc, hlen, a0, d0, g0, g1⟩ fun b hb => upd_ne hb
      refine ⟨_, rfl, p, _, rfl, getS up (vDigits ..), _, _, rfl, rfl, _, rfl, ite2 (fun e1 => ?_) (fun e1 => ?_)⟩
      · refine ⟨_, rfl, p, _, rfl, getS up (vDigits ..), .inl ⟨_, rfl, _, rfl, _, _, rfl, rfl, hm, ?_⟩⟩
        refine ⟨_, rfl, p, _, rfl, getS up (vDigits ..), _, rfl, _, _, rfl, rfl, wide_div hm hm9 (by decide) (by decide), _, rfl, p, _, rfl, putS up lenP (pDigits ..), ?_⟩
        rw [upd_upd]
        refine ⟨_, rfl, ?_⟩
        exact fin _ _ _ _ (Int.emod_nonneg _ (by omega)) (Int.emod_lt_of_pos _ hm) ha' (Int.ediv_nonneg hd' (by omega)) hg0 hg1
      · refine ⟨_, rfl, p, _, rfl, getS up (vFold ..), _, rfl, p, _, rfl, getS up (vCount ..), _, _, rfl, rfl, .inr ⟨by decide, by decide⟩, _, _, rfl, rfl, _, _, rfl, rfl, ?_⟩
        refine ⟨_, rfl, _, _, rfl, rfl, ⟨by decide, by decide, ?_⟩, _, _, rfl, rfl, (by show (0 : Int) < 2305843009213693951; decide), .inl ⟨_, rfl, _, _, rfl, rfl, wide_div (b := 200) (by decide) (by decide) (by decide) (by decide), _, rfl, _, _, rfl, rfl, hm, ?_⟩⟩
        · omega
        · exact fin _ _ _ _ (Int.emod_nonneg _ (by omega)) (Int.emod_lt_of_pos _ hm) ha' hd' hg0 hg1
theorem ok_pick {f fD : Addr} {fd fdD : FuncData} {k : Nat} (F : Fun K "_law_pick" "_law_pick" sPick f fd) (FD : Fun K "_law_draw" "_law_draw" sDraw fD fdD) (bD : Binds K fdD ["_law_pen_here", "_law_many"] []) (gD : mg "_law_draw" = some (.ref fD)) (mi : mg "int" = none) (ml : mg "len" = none) :
    FnOk P w K mg base CX0 (k + 2) f fd ["_law_pen_here", "_law_some"] (spPick K) := by
  have GD : FnOk P w K mg base CX0 (k + 1) fD fdD ["_law_pen_here", "_law_many"] spDraw := ok_draw FD mi ml
  refine F.ok scPick (fun vs H Q E h => ?_) (fun cdv A outer s H vs Q E hr h => ?_)
  · obtain ⟨p, c, y, n, xs, rfl, _⟩ := h
    rfl
  · obtain ⟨p, c, y, n, xs, rfl, hP, hn, hS, h0, hl, q⟩ := h
    refine ⟨_, pss_one (ps_ret (pe_ix (ix_or ix_list ix_tup) (pv 1) (pe_call GD hr (by rfl) gD FD.kp bD .nil pass0 (pa_cons (pv 0) (pa_cons (pe_callB call_len_seq (by rfl) ml PySem.boot_len (pa_cons (pv 1) pa_nil)) pa_nil))) (fun _ _ => rfl))), ?_⟩
    have hpos : 0 < xs.length := List.length_pos_iff.mpr h0
    refine ⟨_, rfl, _, rfl, _, rfl, y, xs, rfl, hS, p, c, n, _, rfl, hP, hn, by omega, ?_, fun r H' r0 r1 hP' hk => ?_⟩
    · have e : (xs.length : Int).natAbs = xs.length := by omega
      rw [e]
      exact Nat.lt_of_le_of_lt hl (by decide)
    · obtain ⟨j, rfl⟩ : ∃ j : Nat, r = (j : Int) := ⟨r.toNat, by omega⟩
      have hj : j < xs.length := by omega
      have hx : xs[j]? = some xs[j] := List.getElem?_eq_getElem hj
      obtain ⟨ns, a0, d0, f0, ep, _⟩ := hP
      rcases hS with hS | hS
      · exact .inl ⟨y, xs, _, _, rfl, rfl, sqL_pen hk ep hS, atI_nat hx, q j _ H' hx hP' hk⟩
      · exact .inr ⟨y, xs, _, _, rfl, rfl, sqT_pen hk ep hS, atI_nat hx, q j _ H' hx hP' hk⟩
end
end KQ

namespace KQ
open PySem PySem.Spec PyProof.Rows L2
section
variable {X : Cx} {e : Expr} {es : List Expr} {te : TE} {ta : TA} {p pos : Pos}
/-- C(e, ..) of an own exception class, as a value; its own __init__ keeps sp -/
def tExV (C : Addr) (sp : Sp) (ta : TA) : TE := fun σ H Q => ta σ H fun vs H1 => vs.length ≤ 1000 ∧ ∀ a, H1 a = none → sp (.ref a :: vs) (upd H1 a (exo a C none)) (fun v H2 => v = .non ∧ Q (.ref a) H2) (fun _ _ _ => False)
/-- the object that the call has laid, ahead of its __init__ -/
theorem exV_laid {pins : List (Addr × Obj)} {σ : L2.St} {G : Hp} {m : Heap} {g : Array GenState} {dr : Drawn} {tk : Nat} {os : OsState} {C : Addr} {zs : List Value} (J : Inv X pins σ G ⟨m, g, dr, tk, os⟩) :
    Inv X pins σ (upd G (m.objs.size + 1) (exo (m.objs.size + 1) C none)) ⟨(m.push (PySem.W.kdv_tup zs)).push (PySem.HandSPX.excO C m.objs.size), g, dr, tk, os⟩ := by
  have here : ((m.push (PySem.W.kdv_tup zs)).push (PySem.HandSPX.excO C m.objs.size)).get? (m.objs.size + 1) = some (PySem.HandSPX.excO C m.objs.size) := by
    heap_get
  refine Inv.laid (t' := tk) J (fun b u at_b => ?_) (Nat.le_succ m.objs.size) (exo_ok here)
  exact Heap.get?_push_of_some _ (Heap.get?_push_of_some _ at_b)
theorem pe_exV {CX : CXT} {x : Str} {C fI : Addr} {k : Nat} {fd : FuncData} {ps : List Str} {sp : Sp} (T : OexC X.K C) (iC : PySem.W.findIn X.K (.ref C) "__init__" = some (some (.ref fI))) (tI : PySem.W.typeIn X.K (.ref fI) = some (.type "function"))
    (F1 : FnOk X.prog X.w X.K X.mg X.base CX k fI fd ps sp) (hr : Room (k + 1) X.A) (hb : Binds X.K fd ps []) (hx : Passes CX X (fun _ _ _ => False)) (hg : Gl X x) (hm : X.mg x = some (.ref C)) (ha : PA X (e :: es) ta)
    (h1 : (x == ("__debug__" : Str)) = false := by decide) (h2 : starEach (e :: es) X.env = (false, eval e X.env) :: starEach es X.env := by rfl) (h3 : (backTo pos (starEach es X.env)).any (·.1) = false := by rfl) :
    PE X (.Call (.Name x p) (e :: es) [] pos) (tExV C sp ta) := by
  refine ⟨fun pins st σ G Q J hyp => wpAny_Call_Name_kw (ld_glob J hg hm ?_ h1)⟩
  refine PySem.W.callWith_K (h₀ := X.base) J.ok.mod.kin T.kC (thn (ha.run pos pins st σ G _ J hyp) ?_) h2 h3
  rintro zs ⟨m, g, dr, tk, os⟩ ⟨vs, G1, J1, rel, short, want⟩
  refine ⟨J1.kIn, ?_⟩
  obtain ⟨_, _, _, _, bm, _, _, _, _, _, _, _, _, _, _, lC, tail⟩ := T.cls
  have J2 : Inv X pins σ (upd G1 (m.objs.size + 1) (exo (m.objs.size + 1) C none)) ⟨(m.push (PySem.W.kdv_tup zs)).push (PySem.HandSPX.excO C m.objs.size), g, dr, tk, os⟩ := exV_laid J1
  have due := want (m.objs.size + 1) (J1.hok.fresh (Nat.le_succ _))
  have relS : Vals (V.ref (m.objs.size + 1) :: vs) (Value.ref (m.objs.size + 1) :: zs ++ []) := by
    rw [List.append_nil]
    exact .cons rfl rel
  have many : (Value.ref (m.objs.size + 1) :: zs ++ []).length = ps.length := relS.length.symm.trans (F1.len _ _ _ _ due)
  have fits : zs.length ≤ sizeLine := rel.length ▸ (by rw [sizeLine_eq]; omega)
  refine wpAny_call (PySem.HandSPX.call_own PySem.F.excBase_ValueError (fun Y => PySem.HandSPX.refsVE_contains Y bm tail) (J1.kIn _ _ lC) (PySem.W.looks_findIn J1.kIn iC) (fun me => PySem.W.bind_fn J1.kIn me tI) fits ?_)
  refine codeAny_mono (F1.run _ X.stack _ _ ⟨Value.ref (m.objs.size + 1) :: zs, []⟩ (Value.ref (m.objs.size + 1) :: zs ++ []) _ _ (fun _ _ _ => False) (hr.make C zs []) (J2.env0.make C zs []) (hb _ (Value.ref (m.objs.size + 1) :: zs) J2.kIn many) relS due) ?_
  rintro (er | fl) s2 got
  · exact hx pins σ _ _ er s2 J2 got
  · cases fl <;> first | exact (show False from got).elim | skip
    obtain ⟨y, G2, J3, ry, rfl, goal⟩ := J2.after got
    exact ⟨ry, V.ref (m.objs.size + 1), G2, J3, rfl, goal⟩
/-- C() of an own exception class without an __init__ of its own -/
theorem pe_exV0 {x : Str} {C : Addr} {bmB : List Value} {B newId initId : String} (F : ExcBaseFacts B newId initId bmB) (q : PySem.W.excIn X.K C bmB newId = true) (kC : PySem.W.keepIn X.K (.ref C) = true) (hg : Gl X x) (hm : X.mg x = some (.ref C))
    (h1 : (x == ("__debug__" : Str)) = false := by decide) :
    PE X (.Call (.Name x p) [] [] pos) (fun σ H Q => ∀ a, H a = none → Q (.ref a) (upd H a (exo a C none))) := by
  refine ⟨fun pins st σ G Q J want => wpAny_Call_Name_kw (ld_glob J hg hm ?_ h1)⟩
  refine PySem.W.callWith_K0 J.kIn kC ?_
  show wpAny _ _ (call (.ref C) []) _ _ _
  obtain ⟨_, _, _, _, _, _, _, _, _, _, _, _, _, _, _, _, _, lC, nsC, noI, tail⟩ := exc_obj J.kIn q
  refine wpAny_call_exc_subT F tail lC nsC noI (fun m a made => ?_) (Nat.zero_le sizeLine)
  have free : G a = none := J.hok.gone made.new
  obtain ⟨_, at_a, _⟩ := made.there
  exact ⟨.ref a, upd G a (exo a C none), J.laidN made.keeps made.new free (exo_ok at_a), rfl, want a free⟩
/-- an exception stands at a, of the class at D, with its fields -/
def ExAt (H : Hp) (a D : Addr) (fs : List (Str × V)) : Prop := (H a = some (exo a D none) ∧ fs = []) ∨ ∃ d, H a = some (exo a D (some d)) ∧ H d = some (exd d fs)
theorem ExAt.same {H H' : Hp} {a D : Addr} {fs : List (Str × V)} (h : ExAt H a D fs) (s : Same H H') : ExAt H' a D fs := by
  rcases h with ⟨h, e⟩ | ⟨d, h1, h2⟩
  · exact .inl ⟨s _ _ h, e⟩
  · exact .inr ⟨d, s _ _ h1, s _ _ h2⟩
theorem ExAt.inst {pins : List (Addr × Obj)} {σ : L2.St} {H : Hp} {s : Shared} {a D : Addr} {fs : List (Str × V)} (I : Inv X pins σ H s) (h : ExAt H a D fs) :
    ∃ (ox : Obj) (od : Option Obj), PySem.W.InstAt s.heap a ox D od ∧ ∀ f v, fs.lookup f = some v → ∃ (oo : Obj) (u : Value), od = some oo ∧ PySem.W.lookIn f oo = some (some u) ∧ L2.RelV v u := by
  rcases h with ⟨h, e⟩ | ⟨d, h1, h2⟩
  · obtain ⟨t1, ho⟩ := exo_at I.hok h
    exact ⟨_, none, ⟨ho, rfl, rfl, trivial⟩, fun f v q => by rw [e] at q; cases q⟩
  · obtain ⟨t1, ho⟩ := exo_at I.hok h1
    obtain ⟨mA, hns, hr⟩ := exd_at I.hok h2
    obtain ⟨od, hod, hl⟩ := lookIn_ns hns
    refine ⟨_, some od, ⟨ho, rfl, rfl, hod⟩, fun f v q => ?_⟩
    obtain ⟨u, hu, ru⟩ := RelO.some_of (v := v) (o := mA f) (by rw [← q]; exact hr f)
    exact ⟨od, u, rfl, by rw [hl, hu], ru⟩
/-- e.f, e an exception that is held -/
def tExF (K : PySem.W.Frag) (f : Str) (te : TE) : TE := fun σ H Q => te σ H fun x H1 => ∃ a D fs v, x = .ref a ∧ ExAt H1 a D fs ∧ ExcC K D ∧ PySem.W.findIn K (.ref D) f = some none ∧ fs.lookup f = some v ∧ Q v H1
theorem pe_exF {n : Str} (he : PE X e te) (hb : attributeBase e n X.env (eval e X.env) = eval e X.env := by rfl) : PE X (.Attribute e n pos) (tExF X.K n te) := by
  refine ⟨fun pins s σ H Q I h => ?_⟩
  refine attr_of hb (thn (he.run pins s σ H _ I h) fun u s1 hh => ?_)
  obtain ⟨x, H1, I1, rx, a, D, fs, v, ex, ha, T, hno, l, q⟩ := hh
  subst ex
  obtain rfl : u = Value.ref a := rx
  obtain ⟨ox, od, J, hl⟩ := ha.inst I1
  obtain ⟨oo, u, rfl, hu, ru⟩ := hl _ _ l
  exact HandSPX.exc_get I1.kIn J T.hg T.hk T.hs (PySem.W.findObj_own T.hd hno rfl hu) (handed_of ru) ⟨v, H1, I1.tok _, ru, q⟩
/-- isinstance(e, c), e an exception that is held -/
def rIsX (K : PySem.W.Frag) : List V → Hp → VK → Prop := fun xs H Q => ∃ (a D : Addr) (fs : List (Str × V)) (c : V) (cv : Value) (b : Bool), xs = [.ref a, c] ∧ ExAt H a D fs ∧ ExcC K D ∧ (∀ u, RelV c u → u = cv) ∧ PySem.W.kitOne K (.ref D) cv = some b ∧ Q (.bl b) H
theorem call_isX : CallR X (.builtin "isinstance") (rIsX X.K) := by
  intro pins st σ H xs us Q I r h
  obtain ⟨a, D, fs, c, cv, b, rfl, hx, C, hcv, e, q⟩ := h
  cases r with
  | cons rx rr =>
    cases rr with
    | cons rt rr =>
      cases rr
      cases rx
      have ec := hcv _ rt
      subst ec
      obtain ⟨ox, od, J, _⟩ := hx.inst I
      have hcl : (PySem.W.clsIn X.K D).isSome = true := by
        obtain ⟨cd, hc, _⟩ := PySem.W.any_some C.hd
        rw [hc]; rfl
      exact PySem.W.kia_one (PySem.W.kitx_exc hcl C.hg C.hk C.hs C.ha C.hn C.ht C.hm) I.kIn J e (fun z => nomatch z) fun tk => ⟨.bl b, H, I.kept (t' := tk) fun _ _ z => z, rfl, q⟩
end
end KQ

namespace KQ
open PySem PySem.Spec PyProof.Rows L2
/-! ### the makers of the errors -/
def fldsE (ks : List Str) (ys : List V) : List (Str × V) := (ks.zip ys).reverse
def spX (C : Addr) (ks : List Str) : Sp := fun vs H Q _ => ∃ (a : Addr) (ys : List V), vs = .ref a :: ys ∧ ys.length = ks.length ∧ H a = some (exo a C none) ∧
  ∀ H', ExAt H' a C (fldsE ks ys) → (∀ b o, H b = some o → b ≠ a → H' b = some o) → Q .non H'
section
variable {P : Program} {w : World} {K : PySem.W.Frag} {mg : Str → Option Value} {base : Heap}
theorem sc_BadText : FnScope ["self", "line", "column"] ["self", "line", "column"] (defScope (inClass (topS 2) 0)) := ⟨rfl, rfl, rfl, by decide +kernel, rfl, by decide +kernel, by decide +kernel⟩
theorem ok_BadText {f C : Addr} {fd : FuncData} (F : Fun K "__init__" "BadText.__init__" (inClass (topS 2) 0) f fd) (T : OexC K C) (n0 : PySem.W.findIn K (.ref C) "line" = some none) (n1 : PySem.W.findIn K (.ref C) "column" = some none) : FnOk P w K mg base CX0 1 f fd ["self", "line", "column"] (spX C ["line", "column"]) := by
  refine F.ok sc_BadText (fun vs H Q E h => ?_) (fun cdv A outer s H vs Q E hr h => ?_)
  · obtain ⟨a, ys, rfl, hl, _⟩ := h
    show ys.length + 1 = 3
    rw [hl]; rfl
  · obtain ⟨a, ys, rfl, hl, ha, q⟩ := h
    obtain ⟨y0, y1, rfl⟩ : ∃ y0 y1, ys = [y0, y1] := by
      match ys, hl with
      | [y0, y1], _ => exact ⟨_, _, rfl⟩
    refine ⟨_, pss_cons (ps_ost (pv 0) (pv 1) rfl) (pss_one (ps_ost (pv 0) (pv 2) rfl)), ?_⟩
    refine ⟨_, rfl, _, rfl, a, C, rfl, T, n0, .inl ⟨ha, fun dx nx dne => ?_⟩⟩
    refine ⟨_, rfl, _, rfl, a, C, rfl, T, n1, .inr ⟨dx, _, upd_same, by rw [upd_ne dne]; exact upd_same, by show _ ≤ 900; exact Nat.le_of_ble_eq_true rfl, ?_⟩⟩
    exact q _ (.inr ⟨dx, by rw [upd_ne dne.symm]; exact upd_same, upd_same⟩) (fun b o e hb => by rw [upd_ne (ne_of_none e nx), upd_ne hb, upd_ne (ne_of_none e nx)]; exact e)
theorem sc_BadNumber : FnScope ["self", "what", "number"] ["self", "what", "number"] (defScope (inClass (topS 3) 0)) := ⟨rfl, rfl, rfl, by decide +kernel, rfl, by decide +kernel, by decide +kernel⟩
theorem ok_BadNumber {f C : Addr} {fd : FuncData} (F : Fun K "__init__" "BadNumber.__init__" (inClass (topS 3) 0) f fd) (T : OexC K C) (n0 : PySem.W.findIn K (.ref C) "what" = some none) (n1 : PySem.W.findIn K (.ref C) "number" = some none) : FnOk P w K mg base CX0 1 f fd ["self", "what", "number"] (spX C ["what", "number"]) := by
  refine F.ok sc_BadNumber (fun vs H Q E h => ?_) (fun cdv A outer s H vs Q E hr h => ?_)
  · obtain ⟨a, ys, rfl, hl, _⟩ := h
    show ys.length + 1 = 3
    rw [hl]; rfl
  · obtain ⟨a, ys, rfl, hl, ha, q⟩ := h
    obtain ⟨y0, y1, rfl⟩ : ∃ y0 y1, ys = [y0, y1] := by
      match ys, hl with
      | [y0, y1], _ => exact ⟨_, _, rfl⟩
    refine ⟨_, pss_cons (ps_ost (pv 0) (pv 1) rfl) (pss_one (ps_ost (pv 0) (pv 2) rfl)), ?_⟩
    refine ⟨_, rfl, _, rfl, a, C, rfl, T, n0, .inl ⟨ha, fun dx nx dne => ?_⟩⟩
    refine ⟨_, rfl, _, rfl, a, C, rfl, T, n1, .inr ⟨dx, _, upd_same, by rw [upd_ne dne]; exact upd_same, by show _ ≤ 900; exact Nat.le_of_ble_eq_true rfl, ?_⟩⟩
    exact q _ (.inr ⟨dx, by rw [upd_ne dne.symm]; exact upd_same, upd_same⟩) (fun b o e hb => by rw [upd_ne (ne_of_none e nx), upd_ne hb, upd_ne (ne_of_none e nx)]; exact e)
theorem sc_BadName : FnScope ["self", "name"] ["self", "name"] (defScope (inClass (topS 4) 0)) := ⟨rfl, rfl, rfl, by decide +kernel, rfl, by decide +kernel, by decide +kernel⟩
theorem ok_BadName {f C : Addr} {fd : FuncData} (F : Fun K "__init__" "BadName.__init__" (inClass (topS 4) 0) f fd) (T : OexC K C) (n0 : PySem.W.findIn K (.ref C) "name" = some none) : FnOk P w K mg base CX0 1 f fd ["self", "name"] (spX C ["name"]) := by
  refine F.ok sc_BadName (fun vs H Q E h => ?_) (fun cdv A outer s H vs Q E hr h => ?_)
  · obtain ⟨a, ys, rfl, hl, _⟩ := h
    show ys.length + 1 = 2
    rw [hl]; rfl
  · obtain ⟨a, ys, rfl, hl, ha, q⟩ := h
    obtain ⟨y0, rfl⟩ : ∃ y0, ys = [y0] := by
      match ys, hl with
      | [y0], _ => exact ⟨_, rfl⟩
    refine ⟨_, pss_one (ps_ost (pv 0) (pv 1) rfl), ?_⟩
    refine ⟨_, rfl, _, rfl, a, C, rfl, T, n0, .inl ⟨ha, fun dx nx dne => ?_⟩⟩
    exact q _ (.inr ⟨dx, upd_same, by rw [upd_ne dne]; exact upd_same⟩) (fun b o e hb => by rw [upd_ne hb, upd_ne (ne_of_none e nx)]; exact e)
theorem sc_BadLot : FnScope ["self", "lot"] ["self", "lot"] (defScope (inClass (topS 5) 0)) := ⟨rfl, rfl, rfl, by decide +kernel, rfl, by decide +kernel, by decide +kernel⟩
theorem ok_BadLot {f C : Addr} {fd : FuncData} (F : Fun K "__init__" "BadLot.__init__" (inClass (topS 5) 0) f fd) (T : OexC K C) (n0 : PySem.W.findIn K (.ref C) "lot" = some none) : FnOk P w K mg base CX0 1 f fd ["self", "lot"] (spX C ["lot"]) := by
  refine F.ok sc_BadLot (fun vs H Q E h => ?_) (fun cdv A outer s H vs Q E hr h => ?_)
  · obtain ⟨a, ys, rfl, hl, _⟩ := h
    show ys.length + 1 = 2
    rw [hl]; rfl
  · obtain ⟨a, ys, rfl, hl, ha, q⟩ := h
    obtain ⟨y0, rfl⟩ : ∃ y0, ys = [y0] := by
      match ys, hl with
      | [y0], _ => exact ⟨_, rfl⟩
    refine ⟨_, pss_one (ps_ost (pv 0) (pv 1) rfl), ?_⟩
    refine ⟨_, rfl, _, rfl, a, C, rfl, T, n0, .inl ⟨ha, fun dx nx dne => ?_⟩⟩
    exact q _ (.inr ⟨dx, upd_same, by rw [upd_ne dne]; exact upd_same⟩) (fun b o e hb => by rw [upd_ne hb, upd_ne (ne_of_none e nx)]; exact e)
theorem sc_Unlike : FnScope ["self", "what"] ["self", "what"] (defScope (inClass (topS 6) 0)) := ⟨rfl, rfl, rfl, by decide +kernel, rfl, by decide +kernel, by decide +kernel⟩
theorem ok_Unlike {f C : Addr} {fd : FuncData} (F : Fun K "__init__" "Unlike.__init__" (inClass (topS 6) 0) f fd) (T : OexC K C) (n0 : PySem.W.findIn K (.ref C) "what" = some none) : FnOk P w K mg base CX0 1 f fd ["self", "what"] (spX C ["what"]) := by
  refine F.ok sc_Unlike (fun vs H Q E h => ?_) (fun cdv A outer s H vs Q E hr h => ?_)
  · obtain ⟨a, ys, rfl, hl, _⟩ := h
    show ys.length + 1 = 2
    rw [hl]; rfl
  · obtain ⟨a, ys, rfl, hl, ha, q⟩ := h
    obtain ⟨y0, rfl⟩ : ∃ y0, ys = [y0] := by
      match ys, hl with
      | [y0], _ => exact ⟨_, rfl⟩
    refine ⟨_, pss_one (ps_ost (pv 0) (pv 1) rfl), ?_⟩
    refine ⟨_, rfl, _, rfl, a, C, rfl, T, n0, .inl ⟨ha, fun dx nx dne => ?_⟩⟩
    exact q _ (.inr ⟨dx, upd_same, by rw [upd_ne dne]; exact upd_same⟩) (fun b o e hb => by rw [upd_ne hb, upd_ne (ne_of_none e nx)]; exact e)
theorem sc_TooMany : FnScope ["self", "what", "many", "limit"] ["self", "what", "many", "limit"] (defScope (inClass (topS 7) 0)) := ⟨rfl, rfl, rfl, by decide +kernel, rfl, by decide +kernel, by decide +kernel⟩
theorem ok_TooMany {f C : Addr} {fd : FuncData} (F : Fun K "__init__" "TooMany.__init__" (inClass (topS 7) 0) f fd) (T : OexC K C) (n0 : PySem.W.findIn K (.ref C) "what" = some none) (n1 : PySem.W.findIn K (.ref C) "many" = some none) (n2 : PySem.W.findIn K (.ref C) "limit" = some none) : FnOk P w K mg base CX0 1 f fd ["self", "what", "many", "limit"] (spX C ["what", "many", "limit"]) := by
  refine F.ok sc_TooMany (fun vs H Q E h => ?_) (fun cdv A outer s H vs Q E hr h => ?_)
  · obtain ⟨a, ys, rfl, hl, _⟩ := h
    show ys.length + 1 = 4
    rw [hl]; rfl
  · obtain ⟨a, ys, rfl, hl, ha, q⟩ := h
    obtain ⟨y0, y1, y2, rfl⟩ : ∃ y0 y1 y2, ys = [y0, y1, y2] := by
      match ys, hl with
      | [y0, y1, y2], _ => exact ⟨_, _, _, rfl⟩
    refine ⟨_, pss_cons (ps_ost (pv 0) (pv 1) rfl) (pss_cons (ps_ost (pv 0) (pv 2) rfl) (pss_one (ps_ost (pv 0) (pv 3) rfl))), ?_⟩
    refine ⟨_, rfl, _, rfl, a, C, rfl, T, n0, .inl ⟨ha, fun dx nx dne => ?_⟩⟩
    refine ⟨_, rfl, _, rfl, a, C, rfl, T, n1, .inr ⟨dx, _, upd_same, by rw [upd_ne dne]; exact upd_same, by show _ ≤ 900; exact Nat.le_of_ble_eq_true rfl, ?_⟩⟩
    refine ⟨_, rfl, _, rfl, a, C, rfl, T, n2, .inr ⟨dx, _, by rw [upd_ne dne.symm]; exact upd_same, upd_same, by show _ ≤ 900; exact Nat.le_of_ble_eq_true rfl, ?_⟩⟩
    exact q _ (.inr ⟨dx, by rw [upd_ne dne.symm, upd_ne dne.symm]; exact upd_same, upd_same⟩) (fun b o e hb => by rw [upd_ne (ne_of_none e nx), upd_ne (ne_of_none e nx), upd_ne hb, upd_ne (ne_of_none e nx)]; exact e)
theorem sc_Anticommute : FnScope ["self", "one", "other"] ["self", "one", "other"] (defScope (inClass (topS 8) 0)) := ⟨rfl, rfl, rfl, by decide +kernel, rfl, by decide +kernel, by decide +kernel⟩
theorem ok_Anticommute {f C : Addr} {fd : FuncData} (F : Fun K "__init__" "Anticommute.__init__" (inClass (topS 8) 0) f fd) (T : OexC K C) (n0 : PySem.W.findIn K (.ref C) "one" = some none) (n1 : PySem.W.findIn K (.ref C) "other" = some none) : FnOk P w K mg base CX0 1 f fd ["self", "one", "other"] (spX C ["one", "other"]) := by
  refine F.ok sc_Anticommute (fun vs H Q E h => ?_) (fun cdv A outer s H vs Q E hr h => ?_)
  · obtain ⟨a, ys, rfl, hl, _⟩ := h
    show ys.length + 1 = 3
    rw [hl]; rfl
  · obtain ⟨a, ys, rfl, hl, ha, q⟩ := h
    obtain ⟨y0, y1, rfl⟩ : ∃ y0 y1, ys = [y0, y1] := by
      match ys, hl with
      | [y0, y1], _ => exact ⟨_, _, rfl⟩
    refine ⟨_, pss_cons (ps_ost (pv 0) (pv 1) rfl) (pss_one (ps_ost (pv 0) (pv 2) rfl)), ?_⟩
    refine ⟨_, rfl, _, rfl, a, C, rfl, T, n0, .inl ⟨ha, fun dx nx dne => ?_⟩⟩
    refine ⟨_, rfl, _, rfl, a, C, rfl, T, n1, .inr ⟨dx, _, upd_same, by rw [upd_ne dne]; exact upd_same, by show _ ≤ 900; exact Nat.le_of_ble_eq_true rfl, ?_⟩⟩
    exact q _ (.inr ⟨dx, by rw [upd_ne dne.symm]; exact upd_same, upd_same⟩) (fun b o e hb => by rw [upd_ne (ne_of_none e nx), upd_ne hb, upd_ne (ne_of_none e nx)]; exact e)
theorem sc_MinusOne : FnScope ["self", "indices"] ["self", "indices"] (defScope (inClass (topS 9) 0)) := ⟨rfl, rfl, rfl, by decide +kernel, rfl, by decide +kernel, by decide +kernel⟩
theorem ok_MinusOne {f C : Addr} {fd : FuncData} (F : Fun K "__init__" "MinusOne.__init__" (inClass (topS 9) 0) f fd) (T : OexC K C) (n0 : PySem.W.findIn K (.ref C) "indices" = some none) : FnOk P w K mg base CX0 1 f fd ["self", "indices"] (spX C ["indices"]) := by
  refine F.ok sc_MinusOne (fun vs H Q E h => ?_) (fun cdv A outer s H vs Q E hr h => ?_)
  · obtain ⟨a, ys, rfl, hl, _⟩ := h
    show ys.length + 1 = 2
    rw [hl]; rfl
  · obtain ⟨a, ys, rfl, hl, ha, q⟩ := h
    obtain ⟨y0, rfl⟩ : ∃ y0, ys = [y0] := by
      match ys, hl with
      | [y0], _ => exact ⟨_, rfl⟩
    refine ⟨_, pss_one (ps_ost (pv 0) (pv 1) rfl), ?_⟩
    refine ⟨_, rfl, _, rfl, a, C, rfl, T, n0, .inl ⟨ha, fun dx nx dne => ?_⟩⟩
    exact q _ (.inr ⟨dx, upd_same, by rw [upd_ne dne]; exact upd_same⟩) (fun b o e hb => by rw [upd_ne hb, upd_ne (ne_of_none e nx)]; exact e)
theorem sc_BadGauge : FnScope ["self", "index"] ["self", "index"] (defScope (inClass (topS 10) 0)) := ⟨rfl, rfl, rfl, by decide +kernel, rfl, by decide +kernel, by decide +kernel⟩
theorem ok_BadGauge {f C : Addr} {fd : FuncData} (F : Fun K "__init__" "BadGauge.__init__" (inClass (topS 10) 0) f fd) (T : OexC K C) (n0 : PySem.W.findIn K (.ref C) "index" = some none) : FnOk P w K mg base CX0 1 f fd ["self", "index"] (spX C ["index"]) := by
  refine F.ok sc_BadGauge (fun vs H Q E h => ?_) (fun cdv A outer s H vs Q E hr h => ?_)
  · obtain ⟨a, ys, rfl, hl, _⟩ := h
    show ys.length + 1 = 2
    rw [hl]; rfl
  · obtain ⟨a, ys, rfl, hl, ha, q⟩ := h
    obtain ⟨y0, rfl⟩ : ∃ y0, ys = [y0] := by
      match ys, hl with
      | [y0], _ => exact ⟨_, rfl⟩
    refine ⟨_, pss_one (ps_ost (pv 0) (pv 1) rfl), ?_⟩
    refine ⟨_, rfl, _, rfl, a, C, rfl, T, n0, .inl ⟨ha, fun dx nx dne => ?_⟩⟩
    exact q _ (.inr ⟨dx, upd_same, by rw [upd_ne dne]; exact upd_same⟩) (fun b o e hb => by rw [upd_ne hb, upd_ne (ne_of_none e nx)]; exact e)
theorem sc_BadHidden : FnScope ["self", "index"] ["self", "index"] (defScope (inClass (topS 11) 0)) := ⟨rfl, rfl, rfl, by decide +kernel, rfl, by decide +kernel, by decide +kernel⟩
theorem ok_BadHidden {f C : Addr} {fd : FuncData} (F : Fun K "__init__" "BadHidden.__init__" (inClass (topS 11) 0) f fd) (T : OexC K C) (n0 : PySem.W.findIn K (.ref C) "index" = some none) : FnOk P w K mg base CX0 1 f fd ["self", "index"] (spX C ["index"]) := by
  refine F.ok sc_BadHidden (fun vs H Q E h => ?_) (fun cdv A outer s H vs Q E hr h => ?_)
  · obtain ⟨a, ys, rfl, hl, _⟩ := h
    show ys.length + 1 = 2
    rw [hl]; rfl
  · obtain ⟨a, ys, rfl, hl, ha, q⟩ := h
    obtain ⟨y0, rfl⟩ : ∃ y0, ys = [y0] := by
      match ys, hl with
      | [y0], _ => exact ⟨_, rfl⟩
    refine ⟨_, pss_one (ps_ost (pv 0) (pv 1) rfl), ?_⟩
    refine ⟨_, rfl, _, rfl, a, C, rfl, T, n0, .inl ⟨ha, fun dx nx dne => ?_⟩⟩
    exact q _ (.inr ⟨dx, upd_same, by rw [upd_ne dne]; exact upd_same⟩) (fun b o e hb => by rw [upd_ne hb, upd_ne (ne_of_none e nx)]; exact e)
theorem sc_Outside : FnScope ["self", "string"] ["self", "string"] (defScope (inClass (topS 12) 0)) := ⟨rfl, rfl, rfl, by decide +kernel, rfl, by decide +kernel, by decide +kernel⟩
theorem ok_Outside {f C : Addr} {fd : FuncData} (F : Fun K "__init__" "Outside.__init__" (inClass (topS 12) 0) f fd) (T : OexC K C) (n0 : PySem.W.findIn K (.ref C) "string" = some none) : FnOk P w K mg base CX0 1 f fd ["self", "string"] (spX C ["string"]) := by
  refine F.ok sc_Outside (fun vs H Q E h => ?_) (fun cdv A outer s H vs Q E hr h => ?_)
  · obtain ⟨a, ys, rfl, hl, _⟩ := h
    show ys.length + 1 = 2
    rw [hl]; rfl
  · obtain ⟨a, ys, rfl, hl, ha, q⟩ := h
    obtain ⟨y0, rfl⟩ : ∃ y0, ys = [y0] := by
      match ys, hl with
      | [y0], _ => exact ⟨_, rfl⟩
    refine ⟨_, pss_one (ps_ost (pv 0) (pv 1) rfl), ?_⟩
    refine ⟨_, rfl, _, rfl, a, C, rfl, T, n0, .inl ⟨ha, fun dx nx dne => ?_⟩⟩
    exact q _ (.inr ⟨dx, upd_same, by rw [upd_ne dne]; exact upd_same⟩) (fun b o e hb => by rw [upd_ne hb, upd_ne (ne_of_none e nx)]; exact e)
theorem sc_TakenName : FnScope ["self", "name"] ["self", "name"] (defScope (inClass (topS 17) 0)) := ⟨rfl, rfl, rfl, by decide +kernel, rfl, by decide +kernel, by decide +kernel⟩
theorem ok_TakenName {f C : Addr} {fd : FuncData} (F : Fun K "__init__" "TakenName.__init__" (inClass (topS 17) 0) f fd) (T : OexC K C) (n0 : PySem.W.findIn K (.ref C) "name" = some none) : FnOk P w K mg base CX0 1 f fd ["self", "name"] (spX C ["name"]) := by
  refine F.ok sc_TakenName (fun vs H Q E h => ?_) (fun cdv A outer s H vs Q E hr h => ?_)
  · obtain ⟨a, ys, rfl, hl, _⟩ := h
    show ys.length + 1 = 2
    rw [hl]; rfl
  · obtain ⟨a, ys, rfl, hl, ha, q⟩ := h
    obtain ⟨y0, rfl⟩ : ∃ y0, ys = [y0] := by
      match ys, hl with
      | [y0], _ => exact ⟨_, rfl⟩
    refine ⟨_, pss_one (ps_ost (pv 0) (pv 1) rfl), ?_⟩
    refine ⟨_, rfl, _, rfl, a, C, rfl, T, n0, .inl ⟨ha, fun dx nx dne => ?_⟩⟩
    exact q _ (.inr ⟨dx, upd_same, by rw [upd_ne dne]; exact upd_same⟩) (fun b o e hb => by rw [upd_ne hb, upd_ne (ne_of_none e nx)]; exact e)
theorem sc_NoName : FnScope ["self", "name"] ["self", "name"] (defScope (inClass (topS 18) 0)) := ⟨rfl, rfl, rfl, by decide +kernel, rfl, by decide +kernel, by decide +kernel⟩
theorem ok_NoName {f C : Addr} {fd : FuncData} (F : Fun K "__init__" "NoName.__init__" (inClass (topS 18) 0) f fd) (T : OexC K C) (n0 : PySem.W.findIn K (.ref C) "name" = some none) : FnOk P w K mg base CX0 1 f fd ["self", "name"] (spX C ["name"]) := by
  refine F.ok sc_NoName (fun vs H Q E h => ?_) (fun cdv A outer s H vs Q E hr h => ?_)
  · obtain ⟨a, ys, rfl, hl, _⟩ := h
    show ys.length + 1 = 2
    rw [hl]; rfl
  · obtain ⟨a, ys, rfl, hl, ha, q⟩ := h
    obtain ⟨y0, rfl⟩ : ∃ y0, ys = [y0] := by
      match ys, hl with
      | [y0], _ => exact ⟨_, rfl⟩
    refine ⟨_, pss_one (ps_ost (pv 0) (pv 1) rfl), ?_⟩
    refine ⟨_, rfl, _, rfl, a, C, rfl, T, n0, .inl ⟨ha, fun dx nx dne => ?_⟩⟩
    exact q _ (.inr ⟨dx, upd_same, by rw [upd_ne dne]; exact upd_same⟩) (fun b o e hb => by rw [upd_ne hb, upd_ne (ne_of_none e nx)]; exact e)
theorem sc_NotKept : FnScope ["self", "promise", "witness"] ["self", "promise", "witness"] (defScope (inClass (topS 19) 0)) := ⟨rfl, rfl, rfl, by decide +kernel, rfl, by decide +kernel, by decide +kernel⟩
theorem ok_NotKept {f C : Addr} {fd : FuncData} (F : Fun K "__init__" "NotKept.__init__" (inClass (topS 19) 0) f fd) (T : OexC K C) (n0 : PySem.W.findIn K (.ref C) "promise" = some none) (n1 : PySem.W.findIn K (.ref C) "witness" = some none) : FnOk P w K mg base CX0 1 f fd ["self", "promise", "witness"] (spX C ["promise", "witness"]) := by
  refine F.ok sc_NotKept (fun vs H Q E h => ?_) (fun cdv A outer s H vs Q E hr h => ?_)
  · obtain ⟨a, ys, rfl, hl, _⟩ := h
    show ys.length + 1 = 3
    rw [hl]; rfl
  · obtain ⟨a, ys, rfl, hl, ha, q⟩ := h
    obtain ⟨y0, y1, rfl⟩ : ∃ y0 y1, ys = [y0, y1] := by
      match ys, hl with
      | [y0, y1], _ => exact ⟨_, _, rfl⟩
    refine ⟨_, pss_cons (ps_ost (pv 0) (pv 1) rfl) (pss_one (ps_ost (pv 0) (pv 2) rfl)), ?_⟩
    refine ⟨_, rfl, _, rfl, a, C, rfl, T, n0, .inl ⟨ha, fun dx nx dne => ?_⟩⟩
    refine ⟨_, rfl, _, rfl, a, C, rfl, T, n1, .inr ⟨dx, _, upd_same, by rw [upd_ne dne]; exact upd_same, by show _ ≤ 900; exact Nat.le_of_ble_eq_true rfl, ?_⟩⟩
    exact q _ (.inr ⟨dx, by rw [upd_ne dne.symm]; exact upd_same, upd_same⟩) (fun b o e hb => by rw [upd_ne (ne_of_none e nx), upd_ne hb, upd_ne (ne_of_none e nx)]; exact e)
end
end KQ

namespace KQ
open PySem PySem.Spec PyProof.Rows L2
/-! ### which classes an error is of -/
theorem same_new {H : Hp} {r : Addr} {o : HO} (n : H r = none) : Same H (upd H r o) := fun b u e => by
  rw [upd_ne (ne_of_none e n)]
  exact e
abbrev sKinds : Stmt := topS 26
theorem scKinds : FnScope ["_law_value", "_law_found"] ["_law_value"] (defScope sKinds) := ⟨rfl, rfl, rfl, by decide +kernel, rfl, by decide +kernel, by decide +kernel⟩

/-- where the classes stand -/
structure Nms (mg : Str → Option Value) (c0 c1 c2 c3 c4 c5 c6 c7 c8 c9 c10 c11 c12 c13 c14 c15 c16 c17 c18 c19 : Addr) : Prop where
  isi : mg "isinstance" = none
  g0 : mg "BadText" = some (.ref c0)
  g1 : mg "BadNumber" = some (.ref c1)
  g2 : mg "BadName" = some (.ref c2)
  g3 : mg "BadLot" = some (.ref c3)
  g4 : mg "Unlike" = some (.ref c4)
  g5 : mg "TooMany" = some (.ref c5)
  g6 : mg "Anticommute" = some (.ref c6)
  g7 : mg "MinusOne" = some (.ref c7)
  g8 : mg "BadGauge" = some (.ref c8)
  g9 : mg "BadHidden" = some (.ref c9)
  g10 : mg "Outside" = some (.ref c10)
  g11 : mg "NotOne" = some (.ref c11)
  g12 : mg "NotARound" = some (.ref c12)
  g13 : mg "HasFlag" = some (.ref c13)
  g14 : mg "HasLook" = some (.ref c14)
  g15 : mg "TakenName" = some (.ref c15)
  g16 : mg "NoName" = some (.ref c16)
  g17 : mg "NotKept" = some (.ref c17)
  g18 : mg "NothingToUndo" = some (.ref c18)
  g19 : mg "NothingToRedo" = some (.ref c19)
abbrev isV (D C : Addr) : V := .bl (decide (C = D))
def spKinds (K : PySem.W.Frag) (Cs : List Addr) : Sp := fun vs H Q _ => ∃ (a D : Addr) (fs : List (Str × V)), vs = [.ref a] ∧ ExAt H a D fs ∧ ExcC K D ∧ (∀ C ∈ Cs, PySem.W.kitOne K (.ref D) (.ref C) = some (decide (C = D))) ∧
  ∀ H' p, Same H H' → H p = none → H' p = some (.lst (Cs.map (isV D))) → Q (.ref p) H'
section
variable {P : Program} {w : World} {K : PySem.W.Frag} {mg : Str → Option Value} {base : Heap}
theorem ok_kinds {f c0 c1 c2 c3 c4 c5 c6 c7 c8 c9 c10 c11 c12 c13 c14 c15 c16 c17 c18 c19 : Addr} {fd : FuncData} {k : Nat} (F : Fun K "_law_kinds" "_law_kinds" sKinds f fd) (T : Nms mg c0 c1 c2 c3 c4 c5 c6 c7 c8 c9 c10 c11 c12 c13 c14 c15 c16 c17 c18 c19) : FnOk P w K mg base CX0 (k + 1) f fd ["_law_value"] (spKinds K [c0, c1, c2, c3, c4, c5, c6, c7, c8, c9, c10, c11, c12, c13, c14, c15, c16, c17, c18, c19]) := by
  refine F.ok scKinds (fun vs H Q E h => ?_) (fun cdv A outer s H vs Q E hr h => ?_)
  · obtain ⟨a, D, fs, rfl, _⟩ := h
    rfl
  · obtain ⟨a, D, fs, rfl, hx, hC, hk, q⟩ := h
    have H0 := H
    refine ⟨_, pss_cons (ps_set (i := 1) scKinds.nd rfl (.inl rfl) (pe_lst (pa_cons (pe_callB call_isX (by rfl) T.isi PyProof.Rows.boot_isinstance (pa_cons (pv 0) (pa_cons (pe_glob (v := .ref c0) (by rfl) T.g0 rfl) pa_nil))) (pa_cons (pe_callB call_isX (by rfl) T.isi PyProof.Rows.boot_isinstance (pa_cons (pv 0) (pa_cons (pe_glob (v := .ref c1) (by rfl) T.g1 rfl) pa_nil))) (pa_cons (pe_callB call_isX (by rfl) T.isi PyProof.Rows.boot_isinstance (pa_cons (pv 0) (pa_cons (pe_glob (v := .ref c2) (by rfl) T.g2 rfl) pa_nil))) pa_nil)))))
      (pss_cons (ps_set (i := 1) scKinds.nd rfl (.inl rfl) (pe_op op_cat (pv 1) (pe_lst (pa_cons (pe_callB call_isX (by rfl) T.isi PyProof.Rows.boot_isinstance (pa_cons (pv 0) (pa_cons (pe_glob (v := .ref c3) (by rfl) T.g3 rfl) pa_nil))) (pa_cons (pe_callB call_isX (by rfl) T.isi PyProof.Rows.boot_isinstance (pa_cons (pv 0) (pa_cons (pe_glob (v := .ref c4) (by rfl) T.g4 rfl) pa_nil))) (pa_cons (pe_callB call_isX (by rfl) T.isi PyProof.Rows.boot_isinstance (pa_cons (pv 0) (pa_cons (pe_glob (v := .ref c5) (by rfl) T.g5 rfl) pa_nil))) pa_nil))))))
      (pss_cons (ps_set (i := 1) scKinds.nd rfl (.inl rfl) (pe_op op_cat (pv 1) (pe_lst (pa_cons (pe_callB call_isX (by rfl) T.isi PyProof.Rows.boot_isinstance (pa_cons (pv 0) (pa_cons (pe_glob (v := .ref c6) (by rfl) T.g6 rfl) pa_nil))) (pa_cons (pe_callB call_isX (by rfl) T.isi PyProof.Rows.boot_isinstance (pa_cons (pv 0) (pa_cons (pe_glob (v := .ref c7) (by rfl) T.g7 rfl) pa_nil))) (pa_cons (pe_callB call_isX (by rfl) T.isi PyProof.Rows.boot_isinstance (pa_cons (pv 0) (pa_cons (pe_glob (v := .ref c8) (by rfl) T.g8 rfl) pa_nil))) pa_nil))))))
      (pss_cons (ps_set (i := 1) scKinds.nd rfl (.inl rfl) (pe_op op_cat (pv 1) (pe_lst (pa_cons (pe_callB call_isX (by rfl) T.isi PyProof.Rows.boot_isinstance (pa_cons (pv 0) (pa_cons (pe_glob (v := .ref c9) (by rfl) T.g9 rfl) pa_nil))) (pa_cons (pe_callB call_isX (by rfl) T.isi PyProof.Rows.boot_isinstance (pa_cons (pv 0) (pa_cons (pe_glob (v := .ref c10) (by rfl) T.g10 rfl) pa_nil))) (pa_cons (pe_callB call_isX (by rfl) T.isi PyProof.Rows.boot_isinstance (pa_cons (pv 0) (pa_cons (pe_glob (v := .ref c11) (by rfl) T.g11 rfl) pa_nil))) pa_nil))))))
      (pss_cons (ps_set (i := 1) scKinds.nd rfl (.inl rfl) (pe_op op_cat (pv 1) (pe_lst (pa_cons (pe_callB call_isX (by rfl) T.isi PyProof.Rows.boot_isinstance (pa_cons (pv 0) (pa_cons (pe_glob (v := .ref c12) (by rfl) T.g12 rfl) pa_nil))) (pa_cons (pe_callB call_isX (by rfl) T.isi PyProof.Rows.boot_isinstance (pa_cons (pv 0) (pa_cons (pe_glob (v := .ref c13) (by rfl) T.g13 rfl) pa_nil))) (pa_cons (pe_callB call_isX (by rfl) T.isi PyProof.Rows.boot_isinstance (pa_cons (pv 0) (pa_cons (pe_glob (v := .ref c14) (by rfl) T.g14 rfl) pa_nil))) pa_nil))))))
      (pss_cons (ps_set (i := 1) scKinds.nd rfl (.inl rfl) (pe_op op_cat (pv 1) (pe_lst (pa_cons (pe_callB call_isX (by rfl) T.isi PyProof.Rows.boot_isinstance (pa_cons (pv 0) (pa_cons (pe_glob (v := .ref c15) (by rfl) T.g15 rfl) pa_nil))) (pa_cons (pe_callB call_isX (by rfl) T.isi PyProof.Rows.boot_isinstance (pa_cons (pv 0) (pa_cons (pe_glob (v := .ref c16) (by rfl) T.g16 rfl) pa_nil))) (pa_cons (pe_callB call_isX (by rfl) T.isi PyProof.Rows.boot_isinstance (pa_cons (pv 0) (pa_cons (pe_glob (v := .ref c17) (by rfl) T.g17 rfl) pa_nil))) pa_nil))))))
      (pss_one (ps_ret (pe_op op_cat (pv 1) (pe_lst (pa_cons (pe_callB call_isX (by rfl) T.isi PyProof.Rows.boot_isinstance (pa_cons (pv 0) (pa_cons (pe_glob (v := .ref c18) (by rfl) T.g18 rfl) pa_nil))) (pa_cons (pe_callB call_isX (by rfl) T.isi PyProof.Rows.boot_isinstance (pa_cons (pv 0) (pa_cons (pe_glob (v := .ref c19) (by rfl) T.g19 rfl) pa_nil))) pa_nil))))))))))), ?_⟩
    have k0 := hk c0 (by simp)
    have k1 := hk c1 (by simp)
    have k2 := hk c2 (by simp)
    have k3 := hk c3 (by simp)
    have k4 := hk c4 (by simp)
    have k5 := hk c5 (by simp)
    have k6 := hk c6 (by simp)
    have k7 := hk c7 (by simp)
    have k8 := hk c8 (by simp)
    have k9 := hk c9 (by simp)
    have k10 := hk c10 (by simp)
    have k11 := hk c11 (by simp)
    have k12 := hk c12 (by simp)
    have k13 := hk c13 (by simp)
    have k14 := hk c14 (by simp)
    have k15 := hk c15 (by simp)
    have k16 := hk c16 (by simp)
    have k17 := hk c17 (by simp)
    have k18 := hk c18 (by simp)
    have k19 := hk c19 (by simp)
    refine ⟨_, rfl, a, D, fs, _, _, _, rfl, hx, hC, (fun u r => r), k0, _, rfl, a, D, fs, _, _, _, rfl, hx, hC, (fun u r => r), k1, _, rfl, a, D, fs, _, _, _, rfl, hx, hC, (fun u r => r), k2, by show 3 ≤ sizeLine; decide, fun b0 nb0 => ?_⟩
    have sa0 : Same H (upd H b0 (.lst [V.bl (decide (c0 = D)), V.bl (decide (c1 = D)), V.bl (decide (c2 = D))])) := same_new nb0
    have ea0 : (upd H b0 (.lst [V.bl (decide (c0 = D)), V.bl (decide (c1 = D)), V.bl (decide (c2 = D))])) b0 = some (.lst [V.bl (decide (c0 = D)), V.bl (decide (c1 = D)), V.bl (decide (c2 = D))]) := upd_same
    have ra0 : [V.bl (decide (c0 = D)), V.bl (decide (c1 = D)), V.bl (decide (c2 = D))] = [V.bl (decide (c0 = D)), V.bl (decide (c1 = D)), V.bl (decide (c2 = D))] := rfl
    generalize upd H b0 (.lst [V.bl (decide (c0 = D)), V.bl (decide (c1 = D)), V.bl (decide (c2 = D))]) = Ha0 at sa0 ea0 ⊢
    have tS0 : Same H Ha0 := sa0
    have hx0 := hx.same tS0
    refine ⟨_, rfl, _, rfl, a, D, fs, _, _, _, rfl, hx0, hC, (fun u r => r), k3, _, rfl, a, D, fs, _, _, _, rfl, hx0, hC, (fun u r => r), k4, _, rfl, a, D, fs, _, _, _, rfl, hx0, hC, (fun u r => r), k5, by show 3 ≤ sizeLine; decide, fun b1 nb1 => ?_⟩
    have sa1 : Same Ha0 (upd Ha0 b1 (.lst [V.bl (decide (c3 = D)), V.bl (decide (c4 = D)), V.bl (decide (c5 = D))])) := same_new nb1
    have ea1 : (upd Ha0 b1 (.lst [V.bl (decide (c3 = D)), V.bl (decide (c4 = D)), V.bl (decide (c5 = D))])) b1 = some (.lst [V.bl (decide (c3 = D)), V.bl (decide (c4 = D)), V.bl (decide (c5 = D))]) := upd_same
    have ra1 : [V.bl (decide (c3 = D)), V.bl (decide (c4 = D)), V.bl (decide (c5 = D))] = [V.bl (decide (c3 = D)), V.bl (decide (c4 = D)), V.bl (decide (c5 = D))] := rfl
    generalize upd Ha0 b1 (.lst [V.bl (decide (c3 = D)), V.bl (decide (c4 = D)), V.bl (decide (c5 = D))]) = Ha1 at sa1 ea1 ⊢
    have f1 := sa1 _ _ ea0
    refine ⟨b0, b1, _, _, rfl, rfl, f1, ea1, by show 3 + 3 ≤ sizeLine; decide, fun r1 nr1 => ?_⟩
    have sb1 : Same Ha1 (upd Ha1 r1 (.lst ([V.bl (decide (c0 = D)), V.bl (decide (c1 = D)), V.bl (decide (c2 = D))] ++ [V.bl (decide (c3 = D)), V.bl (decide (c4 = D)), V.bl (decide (c5 = D))]))) := same_new nr1
    have eb1 : (upd Ha1 r1 (.lst ([V.bl (decide (c0 = D)), V.bl (decide (c1 = D)), V.bl (decide (c2 = D))] ++ [V.bl (decide (c3 = D)), V.bl (decide (c4 = D)), V.bl (decide (c5 = D))]))) r1 = some (.lst ([V.bl (decide (c0 = D)), V.bl (decide (c1 = D)), V.bl (decide (c2 = D))] ++ [V.bl (decide (c3 = D)), V.bl (decide (c4 = D)), V.bl (decide (c5 = D))])) := upd_same
    generalize upd Ha1 r1 (.lst ([V.bl (decide (c0 = D)), V.bl (decide (c1 = D)), V.bl (decide (c2 = D))] ++ [V.bl (decide (c3 = D)), V.bl (decide (c4 = D)), V.bl (decide (c5 = D))])) = Hb1 at sb1 eb1 ⊢
    have tS1 : Same H Hb1 := (tS0.trans sa1).trans sb1
    have hx1 := hx.same tS1
    refine ⟨_, rfl, _, rfl, a, D, fs, _, _, _, rfl, hx1, hC, (fun u r => r), k6, _, rfl, a, D, fs, _, _, _, rfl, hx1, hC, (fun u r => r), k7, _, rfl, a, D, fs, _, _, _, rfl, hx1, hC, (fun u r => r), k8, by show 3 ≤ sizeLine; decide, fun b2 nb2 => ?_⟩
    have sa2 : Same Hb1 (upd Hb1 b2 (.lst [V.bl (decide (c6 = D)), V.bl (decide (c7 = D)), V.bl (decide (c8 = D))])) := same_new nb2
    have ea2 : (upd Hb1 b2 (.lst [V.bl (decide (c6 = D)), V.bl (decide (c7 = D)), V.bl (decide (c8 = D))])) b2 = some (.lst [V.bl (decide (c6 = D)), V.bl (decide (c7 = D)), V.bl (decide (c8 = D))]) := upd_same
    have ra2 : [V.bl (decide (c6 = D)), V.bl (decide (c7 = D)), V.bl (decide (c8 = D))] = [V.bl (decide (c6 = D)), V.bl (decide (c7 = D)), V.bl (decide (c8 = D))] := rfl
    generalize upd Hb1 b2 (.lst [V.bl (decide (c6 = D)), V.bl (decide (c7 = D)), V.bl (decide (c8 = D))]) = Ha2 at sa2 ea2 ⊢
    have f2 := sa2 _ _ eb1
    refine ⟨r1, b2, _, _, rfl, rfl, f2, ea2, by show 6 + 3 ≤ sizeLine; decide, fun r2 nr2 => ?_⟩
    have sb2 : Same Ha2 (upd Ha2 r2 (.lst (([V.bl (decide (c0 = D)), V.bl (decide (c1 = D)), V.bl (decide (c2 = D))] ++ [V.bl (decide (c3 = D)), V.bl (decide (c4 = D)), V.bl (decide (c5 = D))]) ++ [V.bl (decide (c6 = D)), V.bl (decide (c7 = D)), V.bl (decide (c8 = D))]))) := same_new nr2
    have eb2 : (upd Ha2 r2 (.lst (([V.bl (decide (c0 = D)), V.bl (decide (c1 = D)), V.bl (decide (c2 = D))] ++ [V.bl (decide (c3 = D)), V.bl (decide (c4 = D)), V.bl (decide (c5 = D))]) ++ [V.bl (decide (c6 = D)), V.bl (decide (c7 = D)), V.bl (decide (c8 = D))]))) r2 = some (.lst (([V.bl (decide (c0 = D)), V.bl (decide (c1 = D)), V.bl (decide (c2 = D))] ++ [V.bl (decide (c3 = D)), V.bl (decide (c4 = D)), V.bl (decide (c5 = D))]) ++ [V.bl (decide (c6 = D)), V.bl (decide (c7 = D)), V.bl (decide (c8 = D))])) := upd_same
    generalize upd Ha2 r2 (.lst (([V.bl (decide (c0 = D)), V.bl (decide (c1 = D)), V.bl (decide (c2 = D))] ++ [V.bl (decide (c3 = D)), V.bl (decide (c4 = D)), V.bl (decide (c5 = D))]) ++ [V.bl (decide (c6 = D)), V.bl (decide (c7 = D)), V.bl (decide (c8 = D))])) = Hb2 at sb2 eb2 ⊢
    have tS2 : Same H Hb2 := (tS1.trans sa2).trans sb2
    have hx2 := hx.same tS2
    refine ⟨_, rfl, _, rfl, a, D, fs, _, _, _, rfl, hx2, hC, (fun u r => r), k9, _, rfl, a, D, fs, _, _, _, rfl, hx2, hC, (fun u r => r), k10, _, rfl, a, D, fs, _, _, _, rfl, hx2, hC, (fun u r => r), k11, by show 3 ≤ sizeLine; decide, fun b3 nb3 => ?_⟩
    have sa3 : Same Hb2 (upd Hb2 b3 (.lst [V.bl (decide (c9 = D)), V.bl (decide (c10 = D)), V.bl (decide (c11 = D))])) := same_new nb3
    have ea3 : (upd Hb2 b3 (.lst [V.bl (decide (c9 = D)), V.bl (decide (c10 = D)), V.bl (decide (c11 = D))])) b3 = some (.lst [V.bl (decide (c9 = D)), V.bl (decide (c10 = D)), V.bl (decide (c11 = D))]) := upd_same
    have ra3 : [V.bl (decide (c9 = D)), V.bl (decide (c10 = D)), V.bl (decide (c11 = D))] = [V.bl (decide (c9 = D)), V.bl (decide (c10 = D)), V.bl (decide (c11 = D))] := rfl
    generalize upd Hb2 b3 (.lst [V.bl (decide (c9 = D)), V.bl (decide (c10 = D)), V.bl (decide (c11 = D))]) = Ha3 at sa3 ea3 ⊢
    have f3 := sa3 _ _ eb2
    refine ⟨r2, b3, _, _, rfl, rfl, f3, ea3, by show 9 + 3 ≤ sizeLine; decide, fun r3 nr3 => ?_⟩
    have sb3 : Same Ha3 (upd Ha3 r3 (.lst ((([V.bl (decide (c0 = D)), V.bl (decide (c1 = D)), V.bl (decide (c2 = D))] ++ [V.bl (decide (c3 = D)), V.bl (decide (c4 = D)), V.bl (decide (c5 = D))]) ++ [V.bl (decide (c6 = D)), V.bl (decide (c7 = D)), V.bl (decide (c8 = D))]) ++ [V.bl (decide (c9 = D)), V.bl (decide (c10 = D)), V.bl (decide (c11 = D))]))) := same_new nr3
    have eb3 : (upd Ha3 r3 (.lst ((([V.bl (decide (c0 = D)), V.bl (decide (c1 = D)), V.bl (decide (c2 = D))] ++ [V.bl (decide (c3 = D)), V.bl (decide (c4 = D)), V.bl (decide (c5 = D))]) ++ [V.bl (decide (c6 = D)), V.bl (decide (c7 = D)), V.bl (decide (c8 = D))]) ++ [V.bl (decide (c9 = D)), V.bl (decide (c10 = D)), V.bl (decide (c11 = D))]))) r3 = some (.lst ((([V.bl (decide (c0 = D)), V.bl (decide (c1 = D)), V.bl (decide (c2 = D))] ++ [V.bl (decide (c3 = D)), V.bl (decide (c4 = D)), V.bl (decide (c5 = D))]) ++ [V.bl (decide (c6 = D)), V.bl (decide (c7 = D)), V.bl (decide (c8 = D))]) ++ [V.bl (decide (c9 = D)), V.bl (decide (c10 = D)), V.bl (decide (c11 = D))])) := upd_same
    generalize upd Ha3 r3 (.lst ((([V.bl (decide (c0 = D)), V.bl (decide (c1 = D)), V.bl (decide (c2 = D))] ++ [V.bl (decide (c3 = D)), V.bl (decide (c4 = D)), V.bl (decide (c5 = D))]) ++ [V.bl (decide (c6 = D)), V.bl (decide (c7 = D)), V.bl (decide (c8 = D))]) ++ [V.bl (decide (c9 = D)), V.bl (decide (c10 = D)), V.bl (decide (c11 = D))])) = Hb3 at sb3 eb3 ⊢
    have tS3 : Same H Hb3 := (tS2.trans sa3).trans sb3
    have hx3 := hx.same tS3
    refine ⟨_, rfl, _, rfl, a, D, fs, _, _, _, rfl, hx3, hC, (fun u r => r), k12, _, rfl, a, D, fs, _, _, _, rfl, hx3, hC, (fun u r => r), k13, _, rfl, a, D, fs, _, _, _, rfl, hx3, hC, (fun u r => r), k14, by show 3 ≤ sizeLine; decide, fun b4 nb4 => ?_⟩
    have sa4 : Same Hb3 (upd Hb3 b4 (.lst [V.bl (decide (c12 = D)), V.bl (decide (c13 = D)), V.bl (decide (c14 = D))])) := same_new nb4
    have ea4 : (upd Hb3 b4 (.lst [V.bl (decide (c12 = D)), V.bl (decide (c13 = D)), V.bl (decide (c14 = D))])) b4 = some (.lst [V.bl (decide (c12 = D)), V.bl (decide (c13 = D)), V.bl (decide (c14 = D))]) := upd_same
    have ra4 : [V.bl (decide (c12 = D)), V.bl (decide (c13 = D)), V.bl (decide (c14 = D))] = [V.bl (decide (c12 = D)), V.bl (decide (c13 = D)), V.bl (decide (c14 = D))] := rfl
    generalize upd Hb3 b4 (.lst [V.bl (decide (c12 = D)), V.bl (decide (c13 = D)), V.bl (decide (c14 = D))]) = Ha4 at sa4 ea4 ⊢
    have f4 := sa4 _ _ eb3
    refine ⟨r3, b4, _, _, rfl, rfl, f4, ea4, by show 12 + 3 ≤ sizeLine; decide, fun r4 nr4 => ?_⟩
    have sb4 : Same Ha4 (upd Ha4 r4 (.lst (((([V.bl (decide (c0 = D)), V.bl (decide (c1 = D)), V.bl (decide (c2 = D))] ++ [V.bl (decide (c3 = D)), V.bl (decide (c4 = D)), V.bl (decide (c5 = D))]) ++ [V.bl (decide (c6 = D)), V.bl (decide (c7 = D)), V.bl (decide (c8 = D))]) ++ [V.bl (decide (c9 = D)), V.bl (decide (c10 = D)), V.bl (decide (c11 = D))]) ++ [V.bl (decide (c12 = D)), V.bl (decide (c13 = D)), V.bl (decide (c14 = D))]))) := same_new nr4
    have eb4 : (upd Ha4 r4 (.lst (((([V.bl (decide (c0 = D)), V.bl (decide (c1 = D)), V.bl (decide (c2 = D))] ++ [V.bl (decide (c3 = D)), V.bl (decide (c4 = D)), V.bl (decide (c5 = D))]) ++ [V.bl (decide (c6 = D)), V.bl (decide (c7 = D)), V.bl (decide (c8 = D))]) ++ [V.bl (decide (c9 = D)), V.bl (decide (c10 = D)), V.bl (decide (c11 = D))]) ++ [V.bl (decide (c12 = D)), V.bl (decide (c13 = D)), V.bl (decide (c14 = D))]))) r4 = some (.lst (((([V.bl (decide (c0 = D)), V.bl (decide (c1 = D)), V.bl (decide (c2 = D))] ++ [V.bl (decide (c3 = D)), V.bl (decide (c4 = D)), V.bl (decide (c5 = D))]) ++ [V.bl (decide (c6 = D)), V.bl (decide (c7 = D)), V.bl (decide (c8 = D))]) ++ [V.bl (decide (c9 = D)), V.bl (decide (c10 = D)), V.bl (decide (c11 = D))]) ++ [V.bl (decide (c12 = D)), V.bl (decide (c13 = D)), V.bl (decide (c14 = D))])) := upd_same
    generalize upd Ha4 r4 (.lst (((([V.bl (decide (c0 = D)), V.bl (decide (c1 = D)), V.bl (decide (c2 = D))] ++ [V.bl (decide (c3 = D)), V.bl (decide (c4 = D)), V.bl (decide (c5 = D))]) ++ [V.bl (decide (c6 = D)), V.bl (decide (c7 = D)), V.bl (decide (c8 = D))]) ++ [V.bl (decide (c9 = D)), V.bl (decide (c10 = D)), V.bl (decide (c11 = D))]) ++ [V.bl (decide (c12 = D)), V.bl (decide (c13 = D)), V.bl (decide (c14 = D))])) = Hb4 at sb4 eb4 ⊢
    have tS4 : Same H Hb4 := (tS3.trans sa4).trans sb4
    have hx4 := hx.same tS4
    refine ⟨_, rfl, _, rfl, a, D, fs, _, _, _, rfl, hx4, hC, (fun u r => r), k15, _, rfl, a, D, fs, _, _, _, rfl, hx4, hC, (fun u r => r), k16, _, rfl, a, D, fs, _, _, _, rfl, hx4, hC, (fun u r => r), k17, by show 3 ≤ sizeLine; decide, fun b5 nb5 => ?_⟩
    have sa5 : Same Hb4 (upd Hb4 b5 (.lst [V.bl (decide (c15 = D)), V.bl (decide (c16 = D)), V.bl (decide (c17 = D))])) := same_new nb5
    have ea5 : (upd Hb4 b5 (.lst [V.bl (decide (c15 = D)), V.bl (decide (c16 = D)), V.bl (decide (c17 = D))])) b5 = some (.lst [V.bl (decide (c15 = D)), V.bl (decide (c16 = D)), V.bl (decide (c17 = D))]) := upd_same
    have ra5 : [V.bl (decide (c15 = D)), V.bl (decide (c16 = D)), V.bl (decide (c17 = D))] = [V.bl (decide (c15 = D)), V.bl (decide (c16 = D)), V.bl (decide (c17 = D))] := rfl
    generalize upd Hb4 b5 (.lst [V.bl (decide (c15 = D)), V.bl (decide (c16 = D)), V.bl (decide (c17 = D))]) = Ha5 at sa5 ea5 ⊢
    have f5 := sa5 _ _ eb4
    refine ⟨r4, b5, _, _, rfl, rfl, f5, ea5, by show 15 + 3 ≤ sizeLine; decide, fun r5 nr5 => ?_⟩
    have sb5 : Same Ha5 (upd Ha5 r5 (.lst ((((([V.bl (decide (c0 = D)), V.bl (decide (c1 = D)), V.bl (decide (c2 = D))] ++ [V.bl (decide (c3 = D)), V.bl (decide (c4 = D)), V.bl (decide (c5 = D))]) ++ [V.bl (decide (c6 = D)), V.bl (decide (c7 = D)), V.bl (decide (c8 = D))]) ++ [V.bl (decide (c9 = D)), V.bl (decide (c10 = D)), V.bl (decide (c11 = D))]) ++ [V.bl (decide (c12 = D)), V.bl (decide (c13 = D)), V.bl (decide (c14 = D))]) ++ [V.bl (decide (c15 = D)), V.bl (decide (c16 = D)), V.bl (decide (c17 = D))]))) := same_new nr5
    have eb5 : (upd Ha5 r5 (.lst ((((([V.bl (decide (c0 = D)), V.bl (decide (c1 = D)), V.bl (decide (c2 = D))] ++ [V.bl (decide (c3 = D)), V.bl (decide (c4 = D)), V.bl (decide (c5 = D))]) ++ [V.bl (decide (c6 = D)), V.bl (decide (c7 = D)), V.bl (decide (c8 = D))]) ++ [V.bl (decide (c9 = D)), V.bl (decide (c10 = D)), V.bl (decide (c11 = D))]) ++ [V.bl (decide (c12 = D)), V.bl (decide (c13 = D)), V.bl (decide (c14 = D))]) ++ [V.bl (decide (c15 = D)), V.bl (decide (c16 = D)), V.bl (decide (c17 = D))]))) r5 = some (.lst ((((([V.bl (decide (c0 = D)), V.bl (decide (c1 = D)), V.bl (decide (c2 = D))] ++ [V.bl (decide (c3 = D)), V.bl (decide (c4 = D)), V.bl (decide (c5 = D))]) ++ [V.bl (decide (c6 = D)), V.bl (decide (c7 = D)), V.bl (decide (c8 = D))]) ++ [V.bl (decide (c9 = D)), V.bl (decide (c10 = D)), V.bl (decide (c11 = D))]) ++ [V.bl (decide (c12 = D)), V.bl (decide (c13 = D)), V.bl (decide (c14 = D))]) ++ [V.bl (decide (c15 = D)), V.bl (decide (c16 = D)), V.bl (decide (c17 = D))])) := upd_same
    generalize upd Ha5 r5 (.lst ((((([V.bl (decide (c0 = D)), V.bl (decide (c1 = D)), V.bl (decide (c2 = D))] ++ [V.bl (decide (c3 = D)), V.bl (decide (c4 = D)), V.bl (decide (c5 = D))]) ++ [V.bl (decide (c6 = D)), V.bl (decide (c7 = D)), V.bl (decide (c8 = D))]) ++ [V.bl (decide (c9 = D)), V.bl (decide (c10 = D)), V.bl (decide (c11 = D))]) ++ [V.bl (decide (c12 = D)), V.bl (decide (c13 = D)), V.bl (decide (c14 = D))]) ++ [V.bl (decide (c15 = D)), V.bl (decide (c16 = D)), V.bl (decide (c17 = D))])) = Hb5 at sb5 eb5 ⊢
    have tS5 : Same H Hb5 := (tS4.trans sa5).trans sb5
    have hx5 := hx.same tS5
    refine ⟨_, rfl, _, rfl, a, D, fs, _, _, _, rfl, hx5, hC, (fun u r => r), k18, _, rfl, a, D, fs, _, _, _, rfl, hx5, hC, (fun u r => r), k19, by show 2 ≤ sizeLine; decide, fun b6 nb6 => ?_⟩
    have sa6 : Same Hb5 (upd Hb5 b6 (.lst [V.bl (decide (c18 = D)), V.bl (decide (c19 = D))])) := same_new nb6
    have ea6 : (upd Hb5 b6 (.lst [V.bl (decide (c18 = D)), V.bl (decide (c19 = D))])) b6 = some (.lst [V.bl (decide (c18 = D)), V.bl (decide (c19 = D))]) := upd_same
    have ra6 : [V.bl (decide (c18 = D)), V.bl (decide (c19 = D))] = [V.bl (decide (c18 = D)), V.bl (decide (c19 = D))] := rfl
    generalize upd Hb5 b6 (.lst [V.bl (decide (c18 = D)), V.bl (decide (c19 = D))]) = Ha6 at sa6 ea6 ⊢
    have f6 := sa6 _ _ eb5
    refine ⟨r5, b6, _, _, rfl, rfl, f6, ea6, by show 18 + 2 ≤ sizeLine; decide, fun r6 nr6 => ?_⟩
    have sb6 : Same Ha6 (upd Ha6 r6 (.lst (((((([V.bl (decide (c0 = D)), V.bl (decide (c1 = D)), V.bl (decide (c2 = D))] ++ [V.bl (decide (c3 = D)), V.bl (decide (c4 = D)), V.bl (decide (c5 = D))]) ++ [V.bl (decide (c6 = D)), V.bl (decide (c7 = D)), V.bl (decide (c8 = D))]) ++ [V.bl (decide (c9 = D)), V.bl (decide (c10 = D)), V.bl (decide (c11 = D))]) ++ [V.bl (decide (c12 = D)), V.bl (decide (c13 = D)), V.bl (decide (c14 = D))]) ++ [V.bl (decide (c15 = D)), V.bl (decide (c16 = D)), V.bl (decide (c17 = D))]) ++ [V.bl (decide (c18 = D)), V.bl (decide (c19 = D))]))) := same_new nr6
    have eb6 : (upd Ha6 r6 (.lst (((((([V.bl (decide (c0 = D)), V.bl (decide (c1 = D)), V.bl (decide (c2 = D))] ++ [V.bl (decide (c3 = D)), V.bl (decide (c4 = D)), V.bl (decide (c5 = D))]) ++ [V.bl (decide (c6 = D)), V.bl (decide (c7 = D)), V.bl (decide (c8 = D))]) ++ [V.bl (decide (c9 = D)), V.bl (decide (c10 = D)), V.bl (decide (c11 = D))]) ++ [V.bl (decide (c12 = D)), V.bl (decide (c13 = D)), V.bl (decide (c14 = D))]) ++ [V.bl (decide (c15 = D)), V.bl (decide (c16 = D)), V.bl (decide (c17 = D))]) ++ [V.bl (decide (c18 = D)), V.bl (decide (c19 = D))]))) r6 = some (.lst (((((([V.bl (decide (c0 = D)), V.bl (decide (c1 = D)), V.bl (decide (c2 = D))] ++ [V.bl (decide (c3 = D)), V.bl (decide (c4 = D)), V.bl (decide (c5 = D))]) ++ [V.bl (decide (c6 = D)), V.bl (decide (c7 = D)), V.bl (decide (c8 = D))]) ++ [V.bl (decide (c9 = D)), V.bl (decide (c10 = D)), V.bl (decide (c11 = D))]) ++ [V.bl (decide (c12 = D)), V.bl (decide (c13 = D)), V.bl (decide (c14 = D))]) ++ [V.bl (decide (c15 = D)), V.bl (decide (c16 = D)), V.bl (decide (c17 = D))]) ++ [V.bl (decide (c18 = D)), V.bl (decide (c19 = D))])) := upd_same
    generalize upd Ha6 r6 (.lst (((((([V.bl (decide (c0 = D)), V.bl (decide (c1 = D)), V.bl (decide (c2 = D))] ++ [V.bl (decide (c3 = D)), V.bl (decide (c4 = D)), V.bl (decide (c5 = D))]) ++ [V.bl (decide (c6 = D)), V.bl (decide (c7 = D)), V.bl (decide (c8 = D))]) ++ [V.bl (decide (c9 = D)), V.bl (decide (c10 = D)), V.bl (decide (c11 = D))]) ++ [V.bl (decide (c12 = D)), V.bl (decide (c13 = D)), V.bl (decide (c14 = D))]) ++ [V.bl (decide (c15 = D)), V.bl (decide (c16 = D)), V.bl (decide (c17 = D))]) ++ [V.bl (decide (c18 = D)), V.bl (decide (c19 = D))])) = Hb6 at sb6 eb6 ⊢
    have tS6 : Same H Hb6 := (tS5.trans sa6).trans sb6
    exact q _ _ tS6 ((tS5.trans sa6).free nr6) eb6
end
end KQ

namespace KQ
open PySem PySem.Spec PyProof.Rows L2
/-! ### one of each error -/
abbrev sMade : Stmt := topS 27
theorem scMade : FnScope ["_law_a", "_law_b", "_law_c", "_law_text", "_law_number", "_law_name", "_law_lot", "_law_unlike", "_law_many", "_law_cross", "_law_minus", "_law_gauge", "_law_hidden", "_law_outside", "_law_taken", "_law_none", "_law_kept", "_law_rows"] ["_law_a", "_law_b", "_law_c"] (defScope sMade) := ⟨rfl, rfl, rfl, by decide +kernel, rfl, by decide +kernel, by decide +kernel⟩
/-- what the top has written of the classes -/
structure Clss (K : PySem.W.Frag) (c0 c1 c2 c3 c4 c5 c6 c7 c8 c9 c10 c11 c12 c13 c14 c15 c16 c17 c18 c19 f0 f1 f2 f3 f4 f5 f6 f7 f8 f9 f10 f15 f16 f17 : Addr) (d0 d1 d2 d3 d4 d5 d6 d7 d8 d9 d10 d15 d16 d17 : FuncData) : Prop where
  xv0 : ExcC K c0
  ox0 : OexC K c0
  ic0 : PySem.W.findIn K (.ref c0) "__init__" = some (some (.ref f0))
  ti0 : PySem.W.typeIn K (.ref f0) = some (.type "function")
  n0_0 : PySem.W.findIn K (.ref c0) "line" = some none
  n0_1 : PySem.W.findIn K (.ref c0) "column" = some none
  F0 : Fun K "__init__" "BadText.__init__" (inClass (topS 2) 0) f0 d0
  b0 : Binds K d0 ["self", "line", "column"] []
  xv1 : ExcC K c1
  ox1 : OexC K c1
  ic1 : PySem.W.findIn K (.ref c1) "__init__" = some (some (.ref f1))
  ti1 : PySem.W.typeIn K (.ref f1) = some (.type "function")
  n1_0 : PySem.W.findIn K (.ref c1) "what" = some none
  n1_1 : PySem.W.findIn K (.ref c1) "number" = some none
  F1 : Fun K "__init__" "BadNumber.__init__" (inClass (topS 3) 0) f1 d1
  b1 : Binds K d1 ["self", "what", "number"] []
  xv2 : ExcC K c2
  ox2 : OexC K c2
  ic2 : PySem.W.findIn K (.ref c2) "__init__" = some (some (.ref f2))
  ti2 : PySem.W.typeIn K (.ref f2) = some (.type "function")
  n2_0 : PySem.W.findIn K (.ref c2) "name" = some none
  F2 : Fun K "__init__" "BadName.__init__" (inClass (topS 4) 0) f2 d2
  b2 : Binds K d2 ["self", "name"] []
  xv3 : ExcC K c3
  ox3 : OexC K c3
  ic3 : PySem.W.findIn K (.ref c3) "__init__" = some (some (.ref f3))
  ti3 : PySem.W.typeIn K (.ref f3) = some (.type "function")
  n3_0 : PySem.W.findIn K (.ref c3) "lot" = some none
  F3 : Fun K "__init__" "BadLot.__init__" (inClass (topS 5) 0) f3 d3
  b3 : Binds K d3 ["self", "lot"] []
  xv4 : ExcC K c4
  ox4 : OexC K c4
  ic4 : PySem.W.findIn K (.ref c4) "__init__" = some (some (.ref f4))
  ti4 : PySem.W.typeIn K (.ref f4) = some (.type "function")
  n4_0 : PySem.W.findIn K (.ref c4) "what" = some none
  F4 : Fun K "__init__" "Unlike.__init__" (inClass (topS 6) 0) f4 d4
  b4 : Binds K d4 ["self", "what"] []
  xv5 : ExcC K c5
  ox5 : OexC K c5
  ic5 : PySem.W.findIn K (.ref c5) "__init__" = some (some (.ref f5))
  ti5 : PySem.W.typeIn K (.ref f5) = some (.type "function")
  n5_0 : PySem.W.findIn K (.ref c5) "what" = some none
  n5_1 : PySem.W.findIn K (.ref c5) "many" = some none
  n5_2 : PySem.W.findIn K (.ref c5) "limit" = some none
  F5 : Fun K "__init__" "TooMany.__init__" (inClass (topS 7) 0) f5 d5
  b5 : Binds K d5 ["self", "what", "many", "limit"] []
  xv6 : ExcC K c6
  ox6 : OexC K c6
  ic6 : PySem.W.findIn K (.ref c6) "__init__" = some (some (.ref f6))
  ti6 : PySem.W.typeIn K (.ref f6) = some (.type "function")
  n6_0 : PySem.W.findIn K (.ref c6) "one" = some none
  n6_1 : PySem.W.findIn K (.ref c6) "other" = some none
  F6 : Fun K "__init__" "Anticommute.__init__" (inClass (topS 8) 0) f6 d6
  b6 : Binds K d6 ["self", "one", "other"] []
  xv7 : ExcC K c7
  ox7 : OexC K c7
  ic7 : PySem.W.findIn K (.ref c7) "__init__" = some (some (.ref f7))
  ti7 : PySem.W.typeIn K (.ref f7) = some (.type "function")
  n7_0 : PySem.W.findIn K (.ref c7) "indices" = some none
  F7 : Fun K "__init__" "MinusOne.__init__" (inClass (topS 9) 0) f7 d7
  b7 : Binds K d7 ["self", "indices"] []
  xv8 : ExcC K c8
  ox8 : OexC K c8
  ic8 : PySem.W.findIn K (.ref c8) "__init__" = some (some (.ref f8))
  ti8 : PySem.W.typeIn K (.ref f8) = some (.type "function")
  n8_0 : PySem.W.findIn K (.ref c8) "index" = some none
  F8 : Fun K "__init__" "BadGauge.__init__" (inClass (topS 10) 0) f8 d8
  b8 : Binds K d8 ["self", "index"] []
  xv9 : ExcC K c9
  ox9 : OexC K c9
  ic9 : PySem.W.findIn K (.ref c9) "__init__" = some (some (.ref f9))
  ti9 : PySem.W.typeIn K (.ref f9) = some (.type "function")
  n9_0 : PySem.W.findIn K (.ref c9) "index" = some none
  F9 : Fun K "__init__" "BadHidden.__init__" (inClass (topS 11) 0) f9 d9
  b9 : Binds K d9 ["self", "index"] []
  xv10 : ExcC K c10
  ox10 : OexC K c10
  ic10 : PySem.W.findIn K (.ref c10) "__init__" = some (some (.ref f10))
  ti10 : PySem.W.typeIn K (.ref f10) = some (.type "function")
  n10_0 : PySem.W.findIn K (.ref c10) "string" = some none
  F10 : Fun K "__init__" "Outside.__init__" (inClass (topS 12) 0) f10 d10
  b10 : Binds K d10 ["self", "string"] []
  xv11 : ExcC K c11
  ex11 : PySem.W.excIn K c11 [.type "ValueError", .type "Exception", .type "BaseException", .type "object"] "ValueError.__new__" = true
  kp11 : PySem.W.keepIn K (.ref c11) = true
  xv12 : ExcC K c12
  ex12 : PySem.W.excIn K c12 [.type "ValueError", .type "Exception", .type "BaseException", .type "object"] "ValueError.__new__" = true
  kp12 : PySem.W.keepIn K (.ref c12) = true
  xv13 : ExcC K c13
  ex13 : PySem.W.excIn K c13 [.type "ValueError", .type "Exception", .type "BaseException", .type "object"] "ValueError.__new__" = true
  kp13 : PySem.W.keepIn K (.ref c13) = true
  xv14 : ExcC K c14
  ex14 : PySem.W.excIn K c14 [.type "ValueError", .type "Exception", .type "BaseException", .type "object"] "ValueError.__new__" = true
  kp14 : PySem.W.keepIn K (.ref c14) = true
  xv15 : ExcC K c15
  ox15 : OexC K c15
  ic15 : PySem.W.findIn K (.ref c15) "__init__" = some (some (.ref f15))
  ti15 : PySem.W.typeIn K (.ref f15) = some (.type "function")
  n15_0 : PySem.W.findIn K (.ref c15) "name" = some none
  F15 : Fun K "__init__" "TakenName.__init__" (inClass (topS 17) 0) f15 d15
  b15 : Binds K d15 ["self", "name"] []
  xv16 : ExcC K c16
  ox16 : OexC K c16
  ic16 : PySem.W.findIn K (.ref c16) "__init__" = some (some (.ref f16))
  ti16 : PySem.W.typeIn K (.ref f16) = some (.type "function")
  n16_0 : PySem.W.findIn K (.ref c16) "name" = some none
  F16 : Fun K "__init__" "NoName.__init__" (inClass (topS 18) 0) f16 d16
  b16 : Binds K d16 ["self", "name"] []
  xv17 : ExcC K c17
  ox17 : OexC K c17
  ic17 : PySem.W.findIn K (.ref c17) "__init__" = some (some (.ref f17))
  ti17 : PySem.W.typeIn K (.ref f17) = some (.type "function")
  n17_0 : PySem.W.findIn K (.ref c17) "promise" = some none
  n17_1 : PySem.W.findIn K (.ref c17) "witness" = some none
  F17 : Fun K "__init__" "NotKept.__init__" (inClass (topS 19) 0) f17 d17
  b17 : Binds K d17 ["self", "promise", "witness"] []
  xv18 : ExcC K c18
  ex18 : PySem.W.excIn K c18 [.type "ValueError", .type "Exception", .type "BaseException", .type "object"] "ValueError.__new__" = true
  kp18 : PySem.W.keepIn K (.ref c18) = true
  xv19 : ExcC K c19
  ex19 : PySem.W.excIn K c19 [.type "ValueError", .type "Exception", .type "BaseException", .type "object"] "ValueError.__new__" = true
  kp19 : PySem.W.keepIn K (.ref c19) = true
/-- a row: an error, what its fields tell, how many they are -/
def RowAt (H : Hp) (ys : List V) (t : Addr) (q : Addr × Nat) : Prop := ∃ (e l : Addr) (fs : List (Str × V)), H t = some (.tup [.ref e, .ref l, .int (q.2 : Int)]) ∧ ExAt H e q.1 fs ∧ H l = some (.lst (ys.take q.2))
def spMade (qs : List (Addr × Nat)) : Sp := fun vs H Q _ => ∃ va vb vc : V, vs = [va, vb, vc] ∧
  ∀ H' p (ts : List Addr), Same H H' → H p = none → H' p = some (.lst (ts.map V.ref)) → Paired (RowAt H' [va, vb, vc]) ts qs → Q (.ref p) H'
theorem lk_BadText_0 (y0 y1 y2 : V) : (fldsE ["line", "column"] [y0, y1]).lookup ("line" : Str) = some y0 := by
  show ([("column", y1), ("line", y0)] : List (Str × V)).lookup ("line" : Str) = some y0
  rw [lookup_put, if_neg (by decide +kernel), lookup_put, if_pos rfl]
theorem lk_BadText_1 (y0 y1 y2 : V) : (fldsE ["line", "column"] [y0, y1]).lookup ("column" : Str) = some y1 := by
  show ([("column", y1), ("line", y0)] : List (Str × V)).lookup ("column" : Str) = some y1
  rw [lookup_put, if_pos rfl]
theorem lk_BadNumber_0 (y0 y1 y2 : V) : (fldsE ["what", "number"] [y0, y1]).lookup ("what" : Str) = some y0 := by
  show ([("number", y1), ("what", y0)] : List (Str × V)).lookup ("what" : Str) = some y0
  rw [lookup_put, if_neg (by decide +kernel), lookup_put, if_pos rfl]
theorem lk_BadNumber_1 (y0 y1 y2 : V) : (fldsE ["what", "number"] [y0, y1]).lookup ("number" : Str) = some y1 := by
  show ([("number", y1), ("what", y0)] : List (Str × V)).lookup ("number" : Str) = some y1
  rw [lookup_put, if_pos rfl]
theorem lk_BadName_0 (y0 y1 y2 : V) : (fldsE ["name"] [y0]).lookup ("name" : Str) = some y0 := by
  show ([("name", y0)] : List (Str × V)).lookup ("name" : Str) = some y0
  rw [lookup_put, if_pos rfl]
theorem lk_BadLot_0 (y0 y1 y2 : V) : (fldsE ["lot"] [y0]).lookup ("lot" : Str) = some y0 := by
  show ([("lot", y0)] : List (Str × V)).lookup ("lot" : Str) = some y0
  rw [lookup_put, if_pos rfl]
theorem lk_Unlike_0 (y0 y1 y2 : V) : (fldsE ["what"] [y0]).lookup ("what" : Str) = some y0 := by
  show ([("what", y0)] : List (Str × V)).lookup ("what" : Str) = some y0
  rw [lookup_put, if_pos rfl]
theorem lk_TooMany_0 (y0 y1 y2 : V) : (fldsE ["what", "many", "limit"] [y0, y1, y2]).lookup ("what" : Str) = some y0 := by
  show ([("limit", y2), ("many", y1), ("what", y0)] : List (Str × V)).lookup ("what" : Str) = some y0
  rw [lookup_put, if_neg (by decide +kernel), lookup_put, if_neg (by decide +kernel), lookup_put, if_pos rfl]
theorem lk_TooMany_1 (y0 y1 y2 : V) : (fldsE ["what", "many", "limit"] [y0, y1, y2]).lookup ("many" : Str) = some y1 := by
  show ([("limit", y2), ("many", y1), ("what", y0)] : List (Str × V)).lookup ("many" : Str) = some y1
  rw [lookup_put, if_neg (by decide +kernel), lookup_put, if_pos rfl]
theorem lk_TooMany_2 (y0 y1 y2 : V) : (fldsE ["what", "many", "limit"] [y0, y1, y2]).lookup ("limit" : Str) = some y2 := by
  show ([("limit", y2), ("many", y1), ("what", y0)] : List (Str × V)).lookup ("limit" : Str) = some y2
  rw [lookup_put, if_pos rfl]
theorem lk_Anticommute_0 (y0 y1 y2 : V) : (fldsE ["one", "other"] [y0, y1]).lookup ("one" : Str) = some y0 := by
  show ([("other", y1), ("one", y0)] : List (Str × V)).lookup ("one" : Str) = some y0
  rw [lookup_put, if_neg (by decide +kernel), lookup_put, if_pos rfl]
theorem lk_Anticommute_1 (y0 y1 y2 : V) : (fldsE ["one", "other"] [y0, y1]).lookup ("other" : Str) = some y1 := by
  show ([("other", y1), ("one", y0)] : List (Str × V)).lookup ("other" : Str) = some y1
  rw [lookup_put, if_pos rfl]
theorem lk_MinusOne_0 (y0 y1 y2 : V) : (fldsE ["indices"] [y0]).lookup ("indices" : Str) = some y0 := by
  show ([("indices", y0)] : List (Str × V)).lookup ("indices" : Str) = some y0
  rw [lookup_put, if_pos rfl]
theorem lk_BadGauge_0 (y0 y1 y2 : V) : (fldsE ["index"] [y0]).lookup ("index" : Str) = some y0 := by
  show ([("index", y0)] : List (Str × V)).lookup ("index" : Str) = some y0
  rw [lookup_put, if_pos rfl]
theorem lk_BadHidden_0 (y0 y1 y2 : V) : (fldsE ["index"] [y0]).lookup ("index" : Str) = some y0 := by
  show ([("index", y0)] : List (Str × V)).lookup ("index" : Str) = some y0
  rw [lookup_put, if_pos rfl]
theorem lk_Outside_0 (y0 y1 y2 : V) : (fldsE ["string"] [y0]).lookup ("string" : Str) = some y0 := by
  show ([("string", y0)] : List (Str × V)).lookup ("string" : Str) = some y0
  rw [lookup_put, if_pos rfl]
theorem lk_TakenName_0 (y0 y1 y2 : V) : (fldsE ["name"] [y0]).lookup ("name" : Str) = some y0 := by
  show ([("name", y0)] : List (Str × V)).lookup ("name" : Str) = some y0
  rw [lookup_put, if_pos rfl]
theorem lk_NoName_0 (y0 y1 y2 : V) : (fldsE ["name"] [y0]).lookup ("name" : Str) = some y0 := by
  show ([("name", y0)] : List (Str × V)).lookup ("name" : Str) = some y0
  rw [lookup_put, if_pos rfl]
theorem lk_NotKept_0 (y0 y1 y2 : V) : (fldsE ["promise", "witness"] [y0, y1]).lookup ("promise" : Str) = some y0 := by
  show ([("witness", y1), ("promise", y0)] : List (Str × V)).lookup ("promise" : Str) = some y0
  rw [lookup_put, if_neg (by decide +kernel), lookup_put, if_pos rfl]
theorem lk_NotKept_1 (y0 y1 y2 : V) : (fldsE ["promise", "witness"] [y0, y1]).lookup ("witness" : Str) = some y1 := by
  show ([("witness", y1), ("promise", y0)] : List (Str × V)).lookup ("witness" : Str) = some y1
  rw [lookup_put, if_pos rfl]
theorem RowAt.same {H H' : Hp} {ys : List V} {t : Addr} {q : Addr × Nat} (s : Same H H') (h : RowAt H ys t q) : RowAt H' ys t q := by
  obtain ⟨e, l, fs, h1, h2, h3⟩ := h
  exact ⟨e, l, fs, s _ _ h1, h2.same s, s _ _ h3⟩
theorem rows_same {H H' : Hp} {ys : List V} (s : Same H H') : ∀ {ts : List Addr} {qs : List (Addr × Nat)}, Paired (RowAt H ys) ts qs → Paired (RowAt H' ys) ts qs
  | _, _, .nil => .nil
  | _, _, .cons h t => .cons (h.same s) (rows_same s t)
theorem rows_app {H : Hp} {ys : List V} : ∀ {ts ts' : List Addr} {qs qs' : List (Addr × Nat)}, Paired (RowAt H ys) ts qs → Paired (RowAt H ys) ts' qs' → Paired (RowAt H ys) (ts ++ ts') (qs ++ qs')
  | _, _, _, _, .nil, h => h
  | _, _, _, _, .cons a b, h => .cons a (rows_app b h)
section
variable {P : Program} {w : World} {K : PySem.W.Frag} {mg : Str → Option Value} {base : Heap}
theorem ok_made {f c0 c1 c2 c3 c4 c5 c6 c7 c8 c9 c10 c11 c12 c13 c14 c15 c16 c17 c18 c19 f0 f1 f2 f3 f4 f5 f6 f7 f8 f9 f10 f15 f16 f17 : Addr} {fd d0 d1 d2 d3 d4 d5 d6 d7 d8 d9 d10 d15 d16 d17 : FuncData} (F : Fun K "_law_made" "_law_made" sMade f fd) (M : Nms mg c0 c1 c2 c3 c4 c5 c6 c7 c8 c9 c10 c11 c12 c13 c14 c15 c16 c17 c18 c19) (T : Clss K c0 c1 c2 c3 c4 c5 c6 c7 c8 c9 c10 c11 c12 c13 c14 c15 c16 c17 c18 c19 f0 f1 f2 f3 f4 f5 f6 f7 f8 f9 f10 f15 f16 f17 d0 d1 d2 d3 d4 d5 d6 d7 d8 d9 d10 d15 d16 d17) : FnOk P w K mg base CX0 3 f fd ["_law_a", "_law_b", "_law_c"] (spMade [(c0, 2), (c1, 2), (c2, 1), (c3, 1), (c4, 1), (c5, 3), (c6, 2), (c7, 1), (c8, 1), (c9, 1), (c10, 1), (c11, 0), (c12, 0), (c13, 0), (c14, 0), (c15, 1), (c16, 1), (c17, 2), (c18, 0), (c19, 0)]) := by
  have G0 : FnOk P w K mg base CX0 1 f0 d0 ["self", "line", "column"] (spX c0 ["line", "column"]) := ok_BadText T.F0 T.ox0 T.n0_0 T.n0_1
  have G1 : FnOk P w K mg base CX0 1 f1 d1 ["self", "what", "number"] (spX c1 ["what", "number"]) := ok_BadNumber T.F1 T.ox1 T.n1_0 T.n1_1
  have G2 : FnOk P w K mg base CX0 1 f2 d2 ["self", "name"] (spX c2 ["name"]) := ok_BadName T.F2 T.ox2 T.n2_0
  have G3 : FnOk P w K mg base CX0 1 f3 d3 ["self", "lot"] (spX c3 ["lot"]) := ok_BadLot T.F3 T.ox3 T.n3_0
  have G4 : FnOk P w K mg base CX0 1 f4 d4 ["self", "what"] (spX c4 ["what"]) := ok_Unlike T.F4 T.ox4 T.n4_0
  have G5 : FnOk P w K mg base CX0 1 f5 d5 ["self", "what", "many", "limit"] (spX c5 ["what", "many", "limit"]) := ok_TooMany T.F5 T.ox5 T.n5_0 T.n5_1 T.n5_2
  have G6 : FnOk P w K mg base CX0 1 f6 d6 ["self", "one", "other"] (spX c6 ["one", "other"]) := ok_Anticommute T.F6 T.ox6 T.n6_0 T.n6_1
  have G7 : FnOk P w K mg base CX0 1 f7 d7 ["self", "indices"] (spX c7 ["indices"]) := ok_MinusOne T.F7 T.ox7 T.n7_0
  have G8 : FnOk P w K mg base CX0 1 f8 d8 ["self", "index"] (spX c8 ["index"]) := ok_BadGauge T.F8 T.ox8 T.n8_0
  have G9 : FnOk P w K mg base CX0 1 f9 d9 ["self", "index"] (spX c9 ["index"]) := ok_BadHidden T.F9 T.ox9 T.n9_0
  have G10 : FnOk P w K mg base CX0 1 f10 d10 ["self", "string"] (spX c10 ["string"]) := ok_Outside T.F10 T.ox10 T.n10_0
  have G15 : FnOk P w K mg base CX0 1 f15 d15 ["self", "name"] (spX c15 ["name"]) := ok_TakenName T.F15 T.ox15 T.n15_0
  have G16 : FnOk P w K mg base CX0 1 f16 d16 ["self", "name"] (spX c16 ["name"]) := ok_NoName T.F16 T.ox16 T.n16_0
  have G17 : FnOk P w K mg base CX0 1 f17 d17 ["self", "promise", "witness"] (spX c17 ["promise", "witness"]) := ok_NotKept T.F17 T.ox17 T.n17_0 T.n17_1
  refine F.ok scMade (fun vs H Q E h => ?_) (fun cdv A outer s H vs Q E hr h => ?_)
  · obtain ⟨va, vb, vc, rfl, _⟩ := h
    rfl
  · obtain ⟨va, vb, vc, rfl, q⟩ := h
    refine ⟨_, C8.pss_cut (ps_asg (pe_tup (pa_cons (pe_exV T.ox0 T.ic0 T.ti0 G0 hr T.b0 pass0 (by rfl) M.g0 (pa_cons (pv 0) (pa_cons (pv 1) pa_nil))) (pa_cons (pe_exV T.ox1 T.ic1 T.ti1 G1 hr T.b1 pass0 (by rfl) M.g1 (pa_cons (pv 0) (pa_cons (pv 1) pa_nil))) (pa_cons (pe_exV T.ox2 T.ic2 T.ti2 G2 hr T.b2 pass0 (by rfl) M.g2 (pa_cons (pv 0) pa_nil)) (pa_cons (pe_exV T.ox3 T.ic3 T.ti3 G3 hr T.b3 pass0 (by rfl) M.g3 (pa_cons (pv 0) pa_nil)) pa_nil))))) (pg_tup rfl (pgs_cons (pg_name (i := 3) scMade.nd rfl (.inl rfl)) (pgs_cons (pg_name (i := 4) scMade.nd rfl (.inl rfl)) (pgs_cons (pg_name (i := 5) scMade.nd rfl (.inl rfl)) (pgs_cons (pg_name (i := 6) scMade.nd rfl (.inl rfl)) pgs_nil))))))
      (C8.pss_cut (ps_asg (pe_tup (pa_cons (pe_exV T.ox4 T.ic4 T.ti4 G4 hr T.b4 pass0 (by rfl) M.g4 (pa_cons (pv 0) pa_nil)) (pa_cons (pe_exV T.ox5 T.ic5 T.ti5 G5 hr T.b5 pass0 (by rfl) M.g5 (pa_cons (pv 0) (pa_cons (pv 1) (pa_cons (pv 2) pa_nil)))) (pa_cons (pe_exV T.ox6 T.ic6 T.ti6 G6 hr T.b6 pass0 (by rfl) M.g6 (pa_cons (pv 0) (pa_cons (pv 1) pa_nil))) (pa_cons (pe_exV T.ox7 T.ic7 T.ti7 G7 hr T.b7 pass0 (by rfl) M.g7 (pa_cons (pv 0) pa_nil)) pa_nil))))) (pg_tup rfl (pgs_cons (pg_name (i := 7) scMade.nd rfl (.inl rfl)) (pgs_cons (pg_name (i := 8) scMade.nd rfl (.inl rfl)) (pgs_cons (pg_name (i := 9) scMade.nd rfl (.inl rfl)) (pgs_cons (pg_name (i := 10) scMade.nd rfl (.inl rfl)) pgs_nil))))))
      (C8.pss_cut (ps_par3 (i := 11) (j := 12) (l := 13) rfl scMade.nd rfl rfl rfl (by decide) (by decide) (by decide) rfl rfl rfl (pa_cons (pe_exV T.ox8 T.ic8 T.ti8 G8 hr T.b8 pass0 (by rfl) M.g8 (pa_cons (pv 0) pa_nil)) (pa_cons (pe_exV T.ox9 T.ic9 T.ti9 G9 hr T.b9 pass0 (by rfl) M.g9 (pa_cons (pv 0) pa_nil)) (pa_cons (pe_exV T.ox10 T.ic10 T.ti10 G10 hr T.b10 pass0 (by rfl) M.g10 (pa_cons (pv 0) pa_nil)) pa_nil))) rfl)
      (C8.pss_cut (ps_par3 (i := 14) (j := 15) (l := 16) rfl scMade.nd rfl rfl rfl (by decide) (by decide) (by decide) rfl rfl rfl (pa_cons (pe_exV T.ox15 T.ic15 T.ti15 G15 hr T.b15 pass0 (by rfl) M.g15 (pa_cons (pv 0) pa_nil)) (pa_cons (pe_exV T.ox16 T.ic16 T.ti16 G16 hr T.b16 pass0 (by rfl) M.g16 (pa_cons (pv 0) pa_nil)) (pa_cons (pe_exV T.ox17 T.ic17 T.ti17 G17 hr T.b17 pass0 (by rfl) M.g17 (pa_cons (pv 0) (pa_cons (pv 1) pa_nil))) pa_nil))) rfl)
      (C8.pss_cut (ps_set (i := 17) scMade.nd rfl (.inl rfl) (pe_lst (pa_cons (pe_tup (pa_cons (pv 3) (pa_cons (pe_lst (pa_cons (pe_exF (pv 3)) (pa_cons (pe_exF (pv 3)) pa_nil))) (pa_cons pe_int pa_nil)))) (pa_cons (pe_tup (pa_cons (pv 4) (pa_cons (pe_lst (pa_cons (pe_exF (pv 4)) (pa_cons (pe_exF (pv 4)) pa_nil))) (pa_cons pe_int pa_nil)))) (pa_cons (pe_tup (pa_cons (pv 5) (pa_cons (pe_lst (pa_cons (pe_exF (pv 5)) pa_nil)) (pa_cons pe_int pa_nil)))) pa_nil)))))
      (C8.pss_cut (ps_set (i := 17) scMade.nd rfl (.inl rfl) (pe_op op_cat (pv 17) (pe_lst (pa_cons (pe_tup (pa_cons (pv 6) (pa_cons (pe_lst (pa_cons (pe_exF (pv 6)) pa_nil)) (pa_cons pe_int pa_nil)))) (pa_cons (pe_tup (pa_cons (pv 7) (pa_cons (pe_lst (pa_cons (pe_exF (pv 7)) pa_nil)) (pa_cons pe_int pa_nil)))) (pa_cons (pe_tup (pa_cons (pv 8) (pa_cons (pe_lst (pa_cons (pe_exF (pv 8)) (pa_cons (pe_exF (pv 8)) (pa_cons (pe_exF (pv 8)) pa_nil)))) (pa_cons pe_int pa_nil)))) pa_nil))))))
      (C8.pss_cut (ps_set (i := 17) scMade.nd rfl (.inl rfl) (pe_op op_cat (pv 17) (pe_lst (pa_cons (pe_tup (pa_cons (pv 9) (pa_cons (pe_lst (pa_cons (pe_exF (pv 9)) (pa_cons (pe_exF (pv 9)) pa_nil))) (pa_cons pe_int pa_nil)))) (pa_cons (pe_tup (pa_cons (pv 10) (pa_cons (pe_lst (pa_cons (pe_exF (pv 10)) pa_nil)) (pa_cons pe_int pa_nil)))) (pa_cons (pe_tup (pa_cons (pv 11) (pa_cons (pe_lst (pa_cons (pe_exF (pv 11)) pa_nil)) (pa_cons pe_int pa_nil)))) pa_nil))))))
      (C8.pss_cut (ps_set (i := 17) scMade.nd rfl (.inl rfl) (pe_op op_cat (pv 17) (pe_lst (pa_cons (pe_tup (pa_cons (pv 12) (pa_cons (pe_lst (pa_cons (pe_exF (pv 12)) pa_nil)) (pa_cons pe_int pa_nil)))) (pa_cons (pe_tup (pa_cons (pv 13) (pa_cons (pe_lst (pa_cons (pe_exF (pv 13)) pa_nil)) (pa_cons pe_int pa_nil)))) (pa_cons (pe_tup (pa_cons (pe_exV0 PySem.F.excBase_ValueError T.ex11 T.kp11 (by rfl) M.g11) (pa_cons (pe_lst pa_nil) (pa_cons pe_int pa_nil)))) (pa_cons (pe_tup (pa_cons (pe_exV0 PySem.F.excBase_ValueError T.ex12 T.kp12 (by rfl) M.g12) (pa_cons (pe_lst pa_nil) (pa_cons pe_int pa_nil)))) pa_nil)))))))
      (C8.pss_cut (ps_set (i := 17) scMade.nd rfl (.inl rfl) (pe_op op_cat (pv 17) (pe_lst (pa_cons (pe_tup (pa_cons (pe_exV0 PySem.F.excBase_ValueError T.ex13 T.kp13 (by rfl) M.g13) (pa_cons (pe_lst pa_nil) (pa_cons pe_int pa_nil)))) (pa_cons (pe_tup (pa_cons (pe_exV0 PySem.F.excBase_ValueError T.ex14 T.kp14 (by rfl) M.g14) (pa_cons (pe_lst pa_nil) (pa_cons pe_int pa_nil)))) (pa_cons (pe_tup (pa_cons (pv 14) (pa_cons (pe_lst (pa_cons (pe_exF (pv 14)) pa_nil)) (pa_cons pe_int pa_nil)))) (pa_cons (pe_tup (pa_cons (pv 15) (pa_cons (pe_lst (pa_cons (pe_exF (pv 15)) pa_nil)) (pa_cons pe_int pa_nil)))) pa_nil)))))))
      (pss_one (ps_ret (pe_op op_cat (pv 17) (pe_lst (pa_cons (pe_tup (pa_cons (pv 16) (pa_cons (pe_lst (pa_cons (pe_exF (pv 16)) (pa_cons (pe_exF (pv 16)) pa_nil))) (pa_cons pe_int pa_nil)))) (pa_cons (pe_tup (pa_cons (pe_exV0 PySem.F.excBase_ValueError T.ex18 T.kp18 (by rfl) M.g18) (pa_cons (pe_lst pa_nil) (pa_cons pe_int pa_nil)))) (pa_cons (pe_tup (pa_cons (pe_exV0 PySem.F.excBase_ValueError T.ex19 T.kp19 (by rfl) M.g19) (pa_cons (pe_lst pa_nil) (pa_cons pe_int pa_nil)))) pa_nil))))))))))))))), ?_⟩
    refine ⟨fun σ' H' => ∃ x0 x1 x2 x3 : Addr, σ' = [some va, some vb, some vc, some (.ref x0), some (.ref x1), some (.ref x2), some (.ref x3), none, none, none, none, none, none, none, none, none, none, none] ∧ Same H H' ∧ ExAt H' x0 c0 (fldsE ["line", "column"] [va, vb]) ∧ ExAt H' x1 c1 (fldsE ["what", "number"] [va, vb]) ∧ ExAt H' x2 c2 (fldsE ["name"] [va]) ∧ ExAt H' x3 c3 (fldsE ["lot"] [va]), ?_, ?_⟩
    · skip
      refine ⟨_, rfl, _, rfl, by show 2 ≤ 1000; decide, fun x0 n_x0 => ⟨x0, [va, vb], rfl, rfl, upd_same, fun H1 e_x0 kp0 => ⟨rfl, ?_⟩⟩⟩
      have s1 : Same H H1 := fun b o e => kp0 b o (by rw [upd_ne (ne_of_none e n_x0)]; exact e) (ne_of_none e n_x0)
      have Z1 : Same H H1 := s1
      refine ⟨_, rfl, _, rfl, by show 2 ≤ 1000; decide, fun x1 n_x1 => ⟨x1, [va, vb], rfl, rfl, upd_same, fun H2 e_x1 kp1 => ⟨rfl, ?_⟩⟩⟩
      have s2 : Same H1 H2 := fun b o e => kp1 b o (by rw [upd_ne (ne_of_none e n_x1)]; exact e) (ne_of_none e n_x1)
      have Z2 := Z1.trans s2
      refine ⟨_, rfl, by show 1 ≤ 1000; decide, fun x2 n_x2 => ⟨x2, [va], rfl, rfl, upd_same, fun H3 e_x2 kp2 => ⟨rfl, ?_⟩⟩⟩
      have s3 : Same H2 H3 := fun b o e => kp2 b o (by rw [upd_ne (ne_of_none e n_x2)]; exact e) (ne_of_none e n_x2)
      have Z3 := Z2.trans s3
      refine ⟨_, rfl, by show 1 ≤ 1000; decide, fun x3 n_x3 => ⟨x3, [va], rfl, rfl, upd_same, fun H4 e_x3 kp3 => ⟨rfl, ?_⟩⟩⟩
      have s4 : Same H3 H4 := fun b o e => kp3 b o (by rw [upd_ne (ne_of_none e n_x3)]; exact e) (ne_of_none e n_x3)
      have Z4 := Z3.trans s4
      refine ⟨by show 4 ≤ sizeLine; decide, fun tt0 n_tt0 => ?_⟩
      have s5 : Same H4 (upd H4 tt0 (HO.tup [V.ref x0, V.ref x1, V.ref x2, V.ref x3])) := same_new n_tt0
      have e_tt0 : (upd H4 tt0 (HO.tup [V.ref x0, V.ref x1, V.ref x2, V.ref x3])) tt0 = some (HO.tup [V.ref x0, V.ref x1, V.ref x2, V.ref x3]) := upd_same
      generalize upd H4 tt0 (HO.tup [V.ref x0, V.ref x1, V.ref x2, V.ref x3]) = H5 at s5 e_tt0 ⊢
      have Z5 := Z4.trans s5
      have S5 := Same.refl H5
      have S4 := s5.trans S5
      have S3 := s4.trans S4
      have S2 := s3.trans S3
      have S1 := s2.trans S2
      exact ⟨tt0, _, rfl, .inl (.inl e_tt0), rfl, _, _, rfl, _, _, rfl, _, _, rfl, _, _, rfl, rfl, x0, x1, x2, x3, rfl, Z5, e_x0.same S1, e_x1.same S2, e_x2.same S3, e_x3.same S4⟩
    rintro _ H6 ⟨x0, x1, x2, x3, rfl, sH0, bx0, bx1, bx2, bx3⟩
    refine ⟨fun σ' H' => ∃ x0 x1 x2 x3 x4 x5 x6 x7 : Addr, σ' = [some va, some vb, some vc, some (.ref x0), some (.ref x1), some (.ref x2), some (.ref x3), some (.ref x4), some (.ref x5), some (.ref x6), some (.ref x7), none, none, none, none, none, none, none] ∧ Same H H' ∧ ExAt H' x0 c0 (fldsE ["line", "column"] [va, vb]) ∧ ExAt H' x1 c1 (fldsE ["what", "number"] [va, vb]) ∧ ExAt H' x2 c2 (fldsE ["name"] [va]) ∧ ExAt H' x3 c3 (fldsE ["lot"] [va]) ∧ ExAt H' x4 c4 (fldsE ["what"] [va]) ∧ ExAt H' x5 c5 (fldsE ["what", "many", "limit"] [va, vb, vc]) ∧ ExAt H' x6 c6 (fldsE ["one", "other"] [va, vb]) ∧ ExAt H' x7 c7 (fldsE ["indices"] [va]), ?_, ?_⟩
    · skip
      refine ⟨_, rfl, by show 1 ≤ 1000; decide, fun x4 n_x4 => ⟨x4, [va], rfl, rfl, upd_same, fun H7 e_x4 kp4 => ⟨rfl, ?_⟩⟩⟩
      have s7 : Same H6 H7 := fun b o e => kp4 b o (by rw [upd_ne (ne_of_none e n_x4)]; exact e) (ne_of_none e n_x4)
      have Z7 : Same H6 H7 := s7
      refine ⟨_, rfl, _, rfl, _, rfl, by show 3 ≤ 1000; decide, fun x5 n_x5 => ⟨x5, [va, vb, vc], rfl, rfl, upd_same, fun H8 e_x5 kp5 => ⟨rfl, ?_⟩⟩⟩
      have s8 : Same H7 H8 := fun b o e => kp5 b o (by rw [upd_ne (ne_of_none e n_x5)]; exact e) (ne_of_none e n_x5)
      have Z8 := Z7.trans s8
      refine ⟨_, rfl, _, rfl, by show 2 ≤ 1000; decide, fun x6 n_x6 => ⟨x6, [va, vb], rfl, rfl, upd_same, fun H9 e_x6 kp6 => ⟨rfl, ?_⟩⟩⟩
      have s9 : Same H8 H9 := fun b o e => kp6 b o (by rw [upd_ne (ne_of_none e n_x6)]; exact e) (ne_of_none e n_x6)
      have Z9 := Z8.trans s9
      refine ⟨_, rfl, by show 1 ≤ 1000; decide, fun x7 n_x7 => ⟨x7, [va], rfl, rfl, upd_same, fun H10 e_x7 kp7 => ⟨rfl, ?_⟩⟩⟩
      have s10 : Same H9 H10 := fun b o e => kp7 b o (by rw [upd_ne (ne_of_none e n_x7)]; exact e) (ne_of_none e n_x7)
      have Z10 := Z9.trans s10
      refine ⟨by show 4 ≤ sizeLine; decide, fun tt1 n_tt1 => ?_⟩
      have s11 : Same H10 (upd H10 tt1 (HO.tup [V.ref x4, V.ref x5, V.ref x6, V.ref x7])) := same_new n_tt1
      have e_tt1 : (upd H10 tt1 (HO.tup [V.ref x4, V.ref x5, V.ref x6, V.ref x7])) tt1 = some (HO.tup [V.ref x4, V.ref x5, V.ref x6, V.ref x7]) := upd_same
      generalize upd H10 tt1 (HO.tup [V.ref x4, V.ref x5, V.ref x6, V.ref x7]) = H11 at s11 e_tt1 ⊢
      have Z11 := Z10.trans s11
      have S11 := Same.refl H11
      have S10 := s11.trans S11
      have S9 := s10.trans S10
      have S8 := s9.trans S9
      have S7 := s8.trans S8
      exact ⟨tt1, _, rfl, .inl (.inl e_tt1), rfl, _, _, rfl, _, _, rfl, _, _, rfl, _, _, rfl, rfl, x0, x1, x2, x3, x4, x5, x6, x7, rfl, (sH0.trans Z11), bx0.same Z11, bx1.same Z11, bx2.same Z11, bx3.same Z11, e_x4.same S7, e_x5.same S8, e_x6.same S9, e_x7.same S10⟩
    clear bx0 bx1 bx2 bx3 sH0
    try clear x0 x1 x2 x3
    rintro _ H12 ⟨x0, x1, x2, x3, x4, x5, x6, x7, rfl, sH1, bx0, bx1, bx2, bx3, bx4, bx5, bx6, bx7⟩
    refine ⟨fun σ' H' => ∃ x0 x1 x2 x3 x4 x5 x6 x7 x8 x9 x10 : Addr, σ' = [some va, some vb, some vc, some (.ref x0), some (.ref x1), some (.ref x2), some (.ref x3), some (.ref x4), some (.ref x5), some (.ref x6), some (.ref x7), some (.ref x8), some (.ref x9), some (.ref x10), none, none, none, none] ∧ Same H H' ∧ ExAt H' x0 c0 (fldsE ["line", "column"] [va, vb]) ∧ ExAt H' x1 c1 (fldsE ["what", "number"] [va, vb]) ∧ ExAt H' x2 c2 (fldsE ["name"] [va]) ∧ ExAt H' x3 c3 (fldsE ["lot"] [va]) ∧ ExAt H' x4 c4 (fldsE ["what"] [va]) ∧ ExAt H' x5 c5 (fldsE ["what", "many", "limit"] [va, vb, vc]) ∧ ExAt H' x6 c6 (fldsE ["one", "other"] [va, vb]) ∧ ExAt H' x7 c7 (fldsE ["indices"] [va]) ∧ ExAt H' x8 c8 (fldsE ["index"] [va]) ∧ ExAt H' x9 c9 (fldsE ["index"] [va]) ∧ ExAt H' x10 c10 (fldsE ["string"] [va]), ?_, ?_⟩
    · skip
      refine ⟨_, rfl, by show 1 ≤ 1000; decide, fun x8 n_x8 => ⟨x8, [va], rfl, rfl, upd_same, fun H13 e_x8 kp8 => ⟨rfl, ?_⟩⟩⟩
      have s13 : Same H12 H13 := fun b o e => kp8 b o (by rw [upd_ne (ne_of_none e n_x8)]; exact e) (ne_of_none e n_x8)
      have Z13 : Same H12 H13 := s13
      refine ⟨_, rfl, by show 1 ≤ 1000; decide, fun x9 n_x9 => ⟨x9, [va], rfl, rfl, upd_same, fun H14 e_x9 kp9 => ⟨rfl, ?_⟩⟩⟩
      have s14 : Same H13 H14 := fun b o e => kp9 b o (by rw [upd_ne (ne_of_none e n_x9)]; exact e) (ne_of_none e n_x9)
      have Z14 := Z13.trans s14
      refine ⟨_, rfl, by show 1 ≤ 1000; decide, fun x10 n_x10 => ⟨x10, [va], rfl, rfl, upd_same, fun H15 e_x10 kp10 => ⟨rfl, ?_⟩⟩⟩
      have s15 : Same H14 H15 := fun b o e => kp10 b o (by rw [upd_ne (ne_of_none e n_x10)]; exact e) (ne_of_none e n_x10)
      have Z15 := Z14.trans s15
      have S15 := Same.refl H15
      have S14 := s15.trans S15
      have S13 := s14.trans S14
      exact ⟨_, _, _, rfl, x0, x1, x2, x3, x4, x5, x6, x7, x8, x9, x10, rfl, (sH1.trans Z15), bx0.same Z15, bx1.same Z15, bx2.same Z15, bx3.same Z15, bx4.same Z15, bx5.same Z15, bx6.same Z15, bx7.same Z15, e_x8.same S13, e_x9.same S14, e_x10.same S15⟩
    clear bx0 bx1 bx2 bx3 bx4 bx5 bx6 bx7 sH1
    try clear x0 x1 x2 x3 x4 x5 x6 x7
    rintro _ H16 ⟨x0, x1, x2, x3, x4, x5, x6, x7, x8, x9, x10, rfl, sH2, bx0, bx1, bx2, bx3, bx4, bx5, bx6, bx7, bx8, bx9, bx10⟩
    refine ⟨fun σ' H' => ∃ x0 x1 x2 x3 x4 x5 x6 x7 x8 x9 x10 x15 x16 x17 : Addr, σ' = [some va, some vb, some vc, some (.ref x0), some (.ref x1), some (.ref x2), some (.ref x3), some (.ref x4), some (.ref x5), some (.ref x6), some (.ref x7), some (.ref x8), some (.ref x9), some (.ref x10), some (.ref x15), some (.ref x16), some (.ref x17), none] ∧ Same H H' ∧ ExAt H' x0 c0 (fldsE ["line", "column"] [va, vb]) ∧ ExAt H' x1 c1 (fldsE ["what", "number"] [va, vb]) ∧ ExAt H' x2 c2 (fldsE ["name"] [va]) ∧ ExAt H' x3 c3 (fldsE ["lot"] [va]) ∧ ExAt H' x4 c4 (fldsE ["what"] [va]) ∧ ExAt H' x5 c5 (fldsE ["what", "many", "limit"] [va, vb, vc]) ∧ ExAt H' x6 c6 (fldsE ["one", "other"] [va, vb]) ∧ ExAt H' x7 c7 (fldsE ["indices"] [va]) ∧ ExAt H' x8 c8 (fldsE ["index"] [va]) ∧ ExAt H' x9 c9 (fldsE ["index"] [va]) ∧ ExAt H' x10 c10 (fldsE ["string"] [va]) ∧ ExAt H' x15 c15 (fldsE ["name"] [va]) ∧ ExAt H' x16 c16 (fldsE ["name"] [va]) ∧ ExAt H' x17 c17 (fldsE ["promise", "witness"] [va, vb]), ?_, ?_⟩
    · skip
      refine ⟨_, rfl, by show 1 ≤ 1000; decide, fun x15 n_x15 => ⟨x15, [va], rfl, rfl, upd_same, fun H17 e_x15 kp15 => ⟨rfl, ?_⟩⟩⟩
      have s17 : Same H16 H17 := fun b o e => kp15 b o (by rw [upd_ne (ne_of_none e n_x15)]; exact e) (ne_of_none e n_x15)
      have Z17 : Same H16 H17 := s17
      refine ⟨_, rfl, by show 1 ≤ 1000; decide, fun x16 n_x16 => ⟨x16, [va], rfl, rfl, upd_same, fun H18 e_x16 kp16 => ⟨rfl, ?_⟩⟩⟩
      have s18 : Same H17 H18 := fun b o e => kp16 b o (by rw [upd_ne (ne_of_none e n_x16)]; exact e) (ne_of_none e n_x16)
      have Z18 := Z17.trans s18
      refine ⟨_, rfl, _, rfl, by show 2 ≤ 1000; decide, fun x17 n_x17 => ⟨x17, [va, vb], rfl, rfl, upd_same, fun H19 e_x17 kp17 => ⟨rfl, ?_⟩⟩⟩
      have s19 : Same H18 H19 := fun b o e => kp17 b o (by rw [upd_ne (ne_of_none e n_x17)]; exact e) (ne_of_none e n_x17)
      have Z19 := Z18.trans s19
      have S19 := Same.refl H19
      have S18 := s19.trans S19
      have S17 := s18.trans S18
      exact ⟨_, _, _, rfl, x0, x1, x2, x3, x4, x5, x6, x7, x8, x9, x10, x15, x16, x17, rfl, (sH2.trans Z19), bx0.same Z19, bx1.same Z19, bx2.same Z19, bx3.same Z19, bx4.same Z19, bx5.same Z19, bx6.same Z19, bx7.same Z19, bx8.same Z19, bx9.same Z19, bx10.same Z19, e_x15.same S17, e_x16.same S18, e_x17.same S19⟩
    clear bx0 bx1 bx2 bx3 bx4 bx5 bx6 bx7 bx8 bx9 bx10 sH2
    try clear x0 x1 x2 x3 x4 x5 x6 x7 x8 x9 x10
    rintro _ H20 ⟨x0, x1, x2, x3, x4, x5, x6, x7, x8, x9, x10, x15, x16, x17, rfl, sH3, bx0, bx1, bx2, bx3, bx4, bx5, bx6, bx7, bx8, bx9, bx10, bx15, bx16, bx17⟩
    refine ⟨fun σ' H' => ∃ (y : Addr) (ts : List Addr), σ' = [some va, some vb, some vc, some (.ref x0), some (.ref x1), some (.ref x2), some (.ref x3), some (.ref x4), some (.ref x5), some (.ref x6), some (.ref x7), some (.ref x8), some (.ref x9), some (.ref x10), some (.ref x15), some (.ref x16), some (.ref x17), some (.ref y)] ∧ Same H20 H' ∧ H' y = some (.lst (ts.map V.ref)) ∧ ts.length = 3 ∧ Paired (RowAt H' [va, vb, vc]) ts [(c0, 2), (c1, 2), (c2, 1)], ?_, ?_⟩
    · skip
      refine ⟨_, rfl, _, rfl, x0, c0, _, _, rfl, bx0, T.xv0, T.n0_0, lk_BadText_0 va vb vc, _, rfl, x0, c0, _, _, rfl, bx0, T.xv0, T.n0_1, lk_BadText_1 va vb vc, by show 2 ≤ sizeLine; decide, fun l0 n_l0 => ?_⟩
      have s21 : Same H20 (upd H20 l0 (HO.lst [va, vb])) := same_new n_l0
      have e_l0 : (upd H20 l0 (HO.lst [va, vb])) l0 = some (HO.lst [va, vb]) := upd_same
      generalize upd H20 l0 (HO.lst [va, vb]) = H21 at s21 e_l0 ⊢
      have Z21 : Same H20 H21 := s21
      refine ⟨by show 3 ≤ sizeLine; decide, fun t0 n_t0 => ?_⟩
      have s22 : Same H21 (upd H21 t0 (HO.tup [V.ref x0, V.ref l0, V.int 2])) := same_new n_t0
      have e_t0 : (upd H21 t0 (HO.tup [V.ref x0, V.ref l0, V.int 2])) t0 = some (HO.tup [V.ref x0, V.ref l0, V.int 2]) := upd_same
      generalize upd H21 t0 (HO.tup [V.ref x0, V.ref l0, V.int 2]) = H22 at s22 e_t0 ⊢
      have Z22 := Z21.trans s22
      refine ⟨_, rfl, _, rfl, x1, c1, _, _, rfl, (bx1.same Z22), T.xv1, T.n1_0, lk_BadNumber_0 va vb vc, _, rfl, x1, c1, _, _, rfl, (bx1.same Z22), T.xv1, T.n1_1, lk_BadNumber_1 va vb vc, by show 2 ≤ sizeLine; decide, fun l1 n_l1 => ?_⟩
      have s23 : Same H22 (upd H22 l1 (HO.lst [va, vb])) := same_new n_l1
      have e_l1 : (upd H22 l1 (HO.lst [va, vb])) l1 = some (HO.lst [va, vb]) := upd_same
      generalize upd H22 l1 (HO.lst [va, vb]) = H23 at s23 e_l1 ⊢
      have Z23 := Z22.trans s23
      refine ⟨by show 3 ≤ sizeLine; decide, fun t1 n_t1 => ?_⟩
      have s24 : Same H23 (upd H23 t1 (HO.tup [V.ref x1, V.ref l1, V.int 2])) := same_new n_t1
      have e_t1 : (upd H23 t1 (HO.tup [V.ref x1, V.ref l1, V.int 2])) t1 = some (HO.tup [V.ref x1, V.ref l1, V.int 2]) := upd_same
      generalize upd H23 t1 (HO.tup [V.ref x1, V.ref l1, V.int 2]) = H24 at s24 e_t1 ⊢
      have Z24 := Z23.trans s24
      refine ⟨_, rfl, _, rfl, x2, c2, _, _, rfl, (bx2.same Z24), T.xv2, T.n2_0, lk_BadName_0 va vb vc, by show 1 ≤ sizeLine; decide, fun l2 n_l2 => ?_⟩
      have s25 : Same H24 (upd H24 l2 (HO.lst [va])) := same_new n_l2
      have e_l2 : (upd H24 l2 (HO.lst [va])) l2 = some (HO.lst [va]) := upd_same
      generalize upd H24 l2 (HO.lst [va]) = H25 at s25 e_l2 ⊢
      have Z25 := Z24.trans s25
      refine ⟨by show 3 ≤ sizeLine; decide, fun t2 n_t2 => ?_⟩
      have s26 : Same H25 (upd H25 t2 (HO.tup [V.ref x2, V.ref l2, V.int 1])) := same_new n_t2
      have e_t2 : (upd H25 t2 (HO.tup [V.ref x2, V.ref l2, V.int 1])) t2 = some (HO.tup [V.ref x2, V.ref l2, V.int 1]) := upd_same
      generalize upd H25 t2 (HO.tup [V.ref x2, V.ref l2, V.int 1]) = H26 at s26 e_t2 ⊢
      have Z26 := Z25.trans s26
      refine ⟨by show 3 ≤ sizeLine; decide, fun z0 n_z0 => ?_⟩
      have s27 : Same H26 (upd H26 z0 (HO.lst [V.ref t0, V.ref t1, V.ref t2])) := same_new n_z0
      have e_z0 : (upd H26 z0 (HO.lst [V.ref t0, V.ref t1, V.ref t2])) z0 = some (HO.lst [V.ref t0, V.ref t1, V.ref t2]) := upd_same
      generalize upd H26 z0 (HO.lst [V.ref t0, V.ref t1, V.ref t2]) = H27 at s27 e_z0 ⊢
      have Z27 := Z26.trans s27
      have S27 := Same.refl H27
      have S26 := s27.trans S27
      have S25 := s26.trans S26
      have S24 := s25.trans S25
      have S23 := s24.trans S24
      have S22 := s23.trans S23
      have S21 := s22.trans S22
      exact ⟨z0, [t0, t1, t2], rfl, Z27, e_z0, rfl, (.cons ⟨x0, l0, _, S22 _ _ e_t0, bx0.same Z27, S21 _ _ e_l0⟩ (.cons ⟨x1, l1, _, S24 _ _ e_t1, bx1.same Z27, S23 _ _ e_l1⟩ (.cons ⟨x2, l2, _, S26 _ _ e_t2, bx2.same Z27, S25 _ _ e_l2⟩ .nil)))⟩
    rintro _ H28 ⟨y, ts, rfl, sy, ey, hts, hp⟩
    refine ⟨fun σ' H' => ∃ (y : Addr) (ts : List Addr), σ' = [some va, some vb, some vc, some (.ref x0), some (.ref x1), some (.ref x2), some (.ref x3), some (.ref x4), some (.ref x5), some (.ref x6), some (.ref x7), some (.ref x8), some (.ref x9), some (.ref x10), some (.ref x15), some (.ref x16), some (.ref x17), some (.ref y)] ∧ Same H20 H' ∧ H' y = some (.lst (ts.map V.ref)) ∧ ts.length = 6 ∧ Paired (RowAt H' [va, vb, vc]) ts [(c0, 2), (c1, 2), (c2, 1), (c3, 1), (c4, 1), (c5, 3)], ?_, ?_⟩
    · skip
      refine ⟨_, rfl, _, rfl, _, rfl, x3, c3, _, _, rfl, (bx3.same sy), T.xv3, T.n3_0, lk_BadLot_0 va vb vc, by show 1 ≤ sizeLine; decide, fun l3 n_l3 => ?_⟩
      have s29 : Same H28 (upd H28 l3 (HO.lst [va])) := same_new n_l3
      have e_l3 : (upd H28 l3 (HO.lst [va])) l3 = some (HO.lst [va]) := upd_same
      generalize upd H28 l3 (HO.lst [va]) = H29 at s29 e_l3 ⊢
      have Z29 : Same H28 H29 := s29
      refine ⟨by show 3 ≤ sizeLine; decide, fun t3 n_t3 => ?_⟩
      have s30 : Same H29 (upd H29 t3 (HO.tup [V.ref x3, V.ref l3, V.int 1])) := same_new n_t3
      have e_t3 : (upd H29 t3 (HO.tup [V.ref x3, V.ref l3, V.int 1])) t3 = some (HO.tup [V.ref x3, V.ref l3, V.int 1]) := upd_same
      generalize upd H29 t3 (HO.tup [V.ref x3, V.ref l3, V.int 1]) = H30 at s30 e_t3 ⊢
      have Z30 := Z29.trans s30
      refine ⟨_, rfl, _, rfl, x4, c4, _, _, rfl, (bx4.same (sy.trans Z30)), T.xv4, T.n4_0, lk_Unlike_0 va vb vc, by show 1 ≤ sizeLine; decide, fun l4 n_l4 => ?_⟩
      have s31 : Same H30 (upd H30 l4 (HO.lst [va])) := same_new n_l4
      have e_l4 : (upd H30 l4 (HO.lst [va])) l4 = some (HO.lst [va]) := upd_same
      generalize upd H30 l4 (HO.lst [va]) = H31 at s31 e_l4 ⊢
      have Z31 := Z30.trans s31
      refine ⟨by show 3 ≤ sizeLine; decide, fun t4 n_t4 => ?_⟩
      have s32 : Same H31 (upd H31 t4 (HO.tup [V.ref x4, V.ref l4, V.int 1])) := same_new n_t4
      have e_t4 : (upd H31 t4 (HO.tup [V.ref x4, V.ref l4, V.int 1])) t4 = some (HO.tup [V.ref x4, V.ref l4, V.int 1]) := upd_same
      generalize upd H31 t4 (HO.tup [V.ref x4, V.ref l4, V.int 1]) = H32 at s32 e_t4 ⊢
      have Z32 := Z31.trans s32
      refine ⟨_, rfl, _, rfl, x5, c5, _, _, rfl, (bx5.same (sy.trans Z32)), T.xv5, T.n5_0, lk_TooMany_0 va vb vc, _, rfl, x5, c5, _, _, rfl, (bx5.same (sy.trans Z32)), T.xv5, T.n5_1, lk_TooMany_1 va vb vc, _, rfl, x5, c5, _, _, rfl, (bx5.same (sy.trans Z32)), T.xv5, T.n5_2, lk_TooMany_2 va vb vc, by show 3 ≤ sizeLine; decide, fun l5 n_l5 => ?_⟩
      have s33 : Same H32 (upd H32 l5 (HO.lst [va, vb, vc])) := same_new n_l5
      have e_l5 : (upd H32 l5 (HO.lst [va, vb, vc])) l5 = some (HO.lst [va, vb, vc]) := upd_same
      generalize upd H32 l5 (HO.lst [va, vb, vc]) = H33 at s33 e_l5 ⊢
      have Z33 := Z32.trans s33
      refine ⟨by show 3 ≤ sizeLine; decide, fun t5 n_t5 => ?_⟩
      have s34 : Same H33 (upd H33 t5 (HO.tup [V.ref x5, V.ref l5, V.int 3])) := same_new n_t5
      have e_t5 : (upd H33 t5 (HO.tup [V.ref x5, V.ref l5, V.int 3])) t5 = some (HO.tup [V.ref x5, V.ref l5, V.int 3]) := upd_same
      generalize upd H33 t5 (HO.tup [V.ref x5, V.ref l5, V.int 3]) = H34 at s34 e_t5 ⊢
      have Z34 := Z33.trans s34
      refine ⟨by show 3 ≤ sizeLine; decide, fun z1 n_z1 => ?_⟩
      have s35 : Same H34 (upd H34 z1 (HO.lst [V.ref t3, V.ref t4, V.ref t5])) := same_new n_z1
      have e_z1 : (upd H34 z1 (HO.lst [V.ref t3, V.ref t4, V.ref t5])) z1 = some (HO.lst [V.ref t3, V.ref t4, V.ref t5]) := upd_same
      generalize upd H34 z1 (HO.lst [V.ref t3, V.ref t4, V.ref t5]) = H35 at s35 e_z1 ⊢
      have Z35 := Z34.trans s35
      have fl1 := Z35 _ _ ey
      refine ⟨y, z1, _, _, rfl, rfl, fl1, e_z1, by rw [List.length_map, hts]; show 3 + 3 ≤ sizeLine; decide, fun y1 n_y1 => ?_⟩
      have s36 : Same H35 (upd H35 y1 (HO.lst (ts.map V.ref ++ [V.ref t3, V.ref t4, V.ref t5]))) := same_new n_y1
      have e_y1 : (upd H35 y1 (HO.lst (ts.map V.ref ++ [V.ref t3, V.ref t4, V.ref t5]))) y1 = some (HO.lst (ts.map V.ref ++ [V.ref t3, V.ref t4, V.ref t5])) := upd_same
      generalize upd H35 y1 (HO.lst (ts.map V.ref ++ [V.ref t3, V.ref t4, V.ref t5])) = H36 at s36 e_y1 ⊢
      have Z36 := Z35.trans s36
      have S36 := Same.refl H36
      have S35 := s36.trans S36
      have S34 := s35.trans S35
      have S33 := s34.trans S34
      have S32 := s33.trans S33
      have S31 := s32.trans S32
      have S30 := s31.trans S31
      have S29 := s30.trans S30
      have p2 : Paired (RowAt H36 [va, vb, vc]) [t3, t4, t5] [(c3, 1), (c4, 1), (c5, 3)] := (.cons ⟨x3, l3, _, S30 _ _ e_t3, bx3.same (sy.trans Z36), S29 _ _ e_l3⟩ (.cons ⟨x4, l4, _, S32 _ _ e_t4, bx4.same (sy.trans Z36), S31 _ _ e_l4⟩ (.cons ⟨x5, l5, _, S34 _ _ e_t5, bx5.same (sy.trans Z36), S33 _ _ e_l5⟩ .nil)))
      have pp := rows_app (rows_same Z36 hp) p2
      exact ⟨y1, ts ++ [t3, t4, t5], rfl, (sy.trans Z36), by rw [List.map_append]; exact e_y1, by rw [List.length_append, hts]; rfl, pp⟩
    clear ey hts hp sy
    rintro _ H37 ⟨y, ts, rfl, sy, ey, hts, hp⟩
    refine ⟨fun σ' H' => ∃ (y : Addr) (ts : List Addr), σ' = [some va, some vb, some vc, some (.ref x0), some (.ref x1), some (.ref x2), some (.ref x3), some (.ref x4), some (.ref x5), some (.ref x6), some (.ref x7), some (.ref x8), some (.ref x9), some (.ref x10), some (.ref x15), some (.ref x16), some (.ref x17), some (.ref y)] ∧ Same H20 H' ∧ H' y = some (.lst (ts.map V.ref)) ∧ ts.length = 9 ∧ Paired (RowAt H' [va, vb, vc]) ts [(c0, 2), (c1, 2), (c2, 1), (c3, 1), (c4, 1), (c5, 3), (c6, 2), (c7, 1), (c8, 1)], ?_, ?_⟩
    · skip
      refine ⟨_, rfl, _, rfl, _, rfl, x6, c6, _, _, rfl, (bx6.same sy), T.xv6, T.n6_0, lk_Anticommute_0 va vb vc, _, rfl, x6, c6, _, _, rfl, (bx6.same sy), T.xv6, T.n6_1, lk_Anticommute_1 va vb vc, by show 2 ≤ sizeLine; decide, fun l6 n_l6 => ?_⟩
      have s38 : Same H37 (upd H37 l6 (HO.lst [va, vb])) := same_new n_l6
      have e_l6 : (upd H37 l6 (HO.lst [va, vb])) l6 = some (HO.lst [va, vb]) := upd_same
      generalize upd H37 l6 (HO.lst [va, vb]) = H38 at s38 e_l6 ⊢
      have Z38 : Same H37 H38 := s38
      refine ⟨by show 3 ≤ sizeLine; decide, fun t6 n_t6 => ?_⟩
      have s39 : Same H38 (upd H38 t6 (HO.tup [V.ref x6, V.ref l6, V.int 2])) := same_new n_t6
      have e_t6 : (upd H38 t6 (HO.tup [V.ref x6, V.ref l6, V.int 2])) t6 = some (HO.tup [V.ref x6, V.ref l6, V.int 2]) := upd_same
      generalize upd H38 t6 (HO.tup [V.ref x6, V.ref l6, V.int 2]) = H39 at s39 e_t6 ⊢
      have Z39 := Z38.trans s39
      refine ⟨_, rfl, _, rfl, x7, c7, _, _, rfl, (bx7.same (sy.trans Z39)), T.xv7, T.n7_0, lk_MinusOne_0 va vb vc, by show 1 ≤ sizeLine; decide, fun l7 n_l7 => ?_⟩
      have s40 : Same H39 (upd H39 l7 (HO.lst [va])) := same_new n_l7
      have e_l7 : (upd H39 l7 (HO.lst [va])) l7 = some (HO.lst [va]) := upd_same
      generalize upd H39 l7 (HO.lst [va]) = H40 at s40 e_l7 ⊢
      have Z40 := Z39.trans s40
      refine ⟨by show 3 ≤ sizeLine; decide, fun t7 n_t7 => ?_⟩
      have s41 : Same H40 (upd H40 t7 (HO.tup [V.ref x7, V.ref l7, V.int 1])) := same_new n_t7
      have e_t7 : (upd H40 t7 (HO.tup [V.ref x7, V.ref l7, V.int 1])) t7 = some (HO.tup [V.ref x7, V.ref l7, V.int 1]) := upd_same
      generalize upd H40 t7 (HO.tup [V.ref x7, V.ref l7, V.int 1]) = H41 at s41 e_t7 ⊢
      have Z41 := Z40.trans s41
      refine ⟨_, rfl, _, rfl, x8, c8, _, _, rfl, (bx8.same (sy.trans Z41)), T.xv8, T.n8_0, lk_BadGauge_0 va vb vc, by show 1 ≤ sizeLine; decide, fun l8 n_l8 => ?_⟩
      have s42 : Same H41 (upd H41 l8 (HO.lst [va])) := same_new n_l8
      have e_l8 : (upd H41 l8 (HO.lst [va])) l8 = some (HO.lst [va]) := upd_same
      generalize upd H41 l8 (HO.lst [va]) = H42 at s42 e_l8 ⊢
      have Z42 := Z41.trans s42
      refine ⟨by show 3 ≤ sizeLine; decide, fun t8 n_t8 => ?_⟩
      have s43 : Same H42 (upd H42 t8 (HO.tup [V.ref x8, V.ref l8, V.int 1])) := same_new n_t8
      have e_t8 : (upd H42 t8 (HO.tup [V.ref x8, V.ref l8, V.int 1])) t8 = some (HO.tup [V.ref x8, V.ref l8, V.int 1]) := upd_same
      generalize upd H42 t8 (HO.tup [V.ref x8, V.ref l8, V.int 1]) = H43 at s43 e_t8 ⊢
      have Z43 := Z42.trans s43
      refine ⟨by show 3 ≤ sizeLine; decide, fun z2 n_z2 => ?_⟩
      have s44 : Same H43 (upd H43 z2 (HO.lst [V.ref t6, V.ref t7, V.ref t8])) := same_new n_z2
      have e_z2 : (upd H43 z2 (HO.lst [V.ref t6, V.ref t7, V.ref t8])) z2 = some (HO.lst [V.ref t6, V.ref t7, V.ref t8]) := upd_same
      generalize upd H43 z2 (HO.lst [V.ref t6, V.ref t7, V.ref t8]) = H44 at s44 e_z2 ⊢
      have Z44 := Z43.trans s44
      have fl2 := Z44 _ _ ey
      refine ⟨y, z2, _, _, rfl, rfl, fl2, e_z2, by rw [List.length_map, hts]; show 6 + 3 ≤ sizeLine; decide, fun y2 n_y2 => ?_⟩
      have s45 : Same H44 (upd H44 y2 (HO.lst (ts.map V.ref ++ [V.ref t6, V.ref t7, V.ref t8]))) := same_new n_y2
      have e_y2 : (upd H44 y2 (HO.lst (ts.map V.ref ++ [V.ref t6, V.ref t7, V.ref t8]))) y2 = some (HO.lst (ts.map V.ref ++ [V.ref t6, V.ref t7, V.ref t8])) := upd_same
      generalize upd H44 y2 (HO.lst (ts.map V.ref ++ [V.ref t6, V.ref t7, V.ref t8])) = H45 at s45 e_y2 ⊢
      have Z45 := Z44.trans s45
      have S45 := Same.refl H45
      have S44 := s45.trans S45
      have S43 := s44.trans S44
      have S42 := s43.trans S43
      have S41 := s42.trans S42
      have S40 := s41.trans S41
      have S39 := s40.trans S40
      have S38 := s39.trans S39
      have p2 : Paired (RowAt H45 [va, vb, vc]) [t6, t7, t8] [(c6, 2), (c7, 1), (c8, 1)] := (.cons ⟨x6, l6, _, S39 _ _ e_t6, bx6.same (sy.trans Z45), S38 _ _ e_l6⟩ (.cons ⟨x7, l7, _, S41 _ _ e_t7, bx7.same (sy.trans Z45), S40 _ _ e_l7⟩ (.cons ⟨x8, l8, _, S43 _ _ e_t8, bx8.same (sy.trans Z45), S42 _ _ e_l8⟩ .nil)))
      have pp := rows_app (rows_same Z45 hp) p2
      exact ⟨y2, ts ++ [t6, t7, t8], rfl, (sy.trans Z45), by rw [List.map_append]; exact e_y2, by rw [List.length_append, hts]; rfl, pp⟩
    clear ey hts hp sy
    rintro _ H46 ⟨y, ts, rfl, sy, ey, hts, hp⟩
    refine ⟨fun σ' H' => ∃ (y : Addr) (ts : List Addr), σ' = [some va, some vb, some vc, some (.ref x0), some (.ref x1), some (.ref x2), some (.ref x3), some (.ref x4), some (.ref x5), some (.ref x6), some (.ref x7), some (.ref x8), some (.ref x9), some (.ref x10), some (.ref x15), some (.ref x16), some (.ref x17), some (.ref y)] ∧ Same H20 H' ∧ H' y = some (.lst (ts.map V.ref)) ∧ ts.length = 13 ∧ Paired (RowAt H' [va, vb, vc]) ts [(c0, 2), (c1, 2), (c2, 1), (c3, 1), (c4, 1), (c5, 3), (c6, 2), (c7, 1), (c8, 1), (c9, 1), (c10, 1), (c11, 0), (c12, 0)], ?_, ?_⟩
    · skip
      refine ⟨_, rfl, _, rfl, _, rfl, x9, c9, _, _, rfl, (bx9.same sy), T.xv9, T.n9_0, lk_BadHidden_0 va vb vc, by show 1 ≤ sizeLine; decide, fun l9 n_l9 => ?_⟩
      have s47 : Same H46 (upd H46 l9 (HO.lst [va])) := same_new n_l9
      have e_l9 : (upd H46 l9 (HO.lst [va])) l9 = some (HO.lst [va]) := upd_same
      generalize upd H46 l9 (HO.lst [va]) = H47 at s47 e_l9 ⊢
      have Z47 : Same H46 H47 := s47
      refine ⟨by show 3 ≤ sizeLine; decide, fun t9 n_t9 => ?_⟩
      have s48 : Same H47 (upd H47 t9 (HO.tup [V.ref x9, V.ref l9, V.int 1])) := same_new n_t9
      have e_t9 : (upd H47 t9 (HO.tup [V.ref x9, V.ref l9, V.int 1])) t9 = some (HO.tup [V.ref x9, V.ref l9, V.int 1]) := upd_same
      generalize upd H47 t9 (HO.tup [V.ref x9, V.ref l9, V.int 1]) = H48 at s48 e_t9 ⊢
      have Z48 := Z47.trans s48
      refine ⟨_, rfl, _, rfl, x10, c10, _, _, rfl, (bx10.same (sy.trans Z48)), T.xv10, T.n10_0, lk_Outside_0 va vb vc, by show 1 ≤ sizeLine; decide, fun l10 n_l10 => ?_⟩
      have s49 : Same H48 (upd H48 l10 (HO.lst [va])) := same_new n_l10
      have e_l10 : (upd H48 l10 (HO.lst [va])) l10 = some (HO.lst [va]) := upd_same
      generalize upd H48 l10 (HO.lst [va]) = H49 at s49 e_l10 ⊢
      have Z49 := Z48.trans s49
      refine ⟨by show 3 ≤ sizeLine; decide, fun t10 n_t10 => ?_⟩
      have s50 : Same H49 (upd H49 t10 (HO.tup [V.ref x10, V.ref l10, V.int 1])) := same_new n_t10
      have e_t10 : (upd H49 t10 (HO.tup [V.ref x10, V.ref l10, V.int 1])) t10 = some (HO.tup [V.ref x10, V.ref l10, V.int 1]) := upd_same
      generalize upd H49 t10 (HO.tup [V.ref x10, V.ref l10, V.int 1]) = H50 at s50 e_t10 ⊢
      have Z50 := Z49.trans s50
      refine fun x11 n_x11 => ?_
      have s51 : Same H50 (upd H50 x11 (exo x11 c11 none)) := same_new n_x11
      have e_x11 : ExAt (upd H50 x11 (exo x11 c11 none)) x11 c11 [] := .inl ⟨upd_same, rfl⟩
      generalize upd H50 x11 (exo x11 c11 none) = H51 at s51 e_x11 ⊢
      have Z51 := Z50.trans s51
      refine ⟨by show 0 ≤ sizeLine; decide, fun l11 n_l11 => ?_⟩
      have s52 : Same H51 (upd H51 l11 (HO.lst [])) := same_new n_l11
      have e_l11 : (upd H51 l11 (HO.lst [])) l11 = some (HO.lst []) := upd_same
      generalize upd H51 l11 (HO.lst []) = H52 at s52 e_l11 ⊢
      have Z52 := Z51.trans s52
      refine ⟨by show 3 ≤ sizeLine; decide, fun t11 n_t11 => ?_⟩
      have s53 : Same H52 (upd H52 t11 (HO.tup [V.ref x11, V.ref l11, V.int 0])) := same_new n_t11
      have e_t11 : (upd H52 t11 (HO.tup [V.ref x11, V.ref l11, V.int 0])) t11 = some (HO.tup [V.ref x11, V.ref l11, V.int 0]) := upd_same
      generalize upd H52 t11 (HO.tup [V.ref x11, V.ref l11, V.int 0]) = H53 at s53 e_t11 ⊢
      have Z53 := Z52.trans s53
      refine fun x12 n_x12 => ?_
      have s54 : Same H53 (upd H53 x12 (exo x12 c12 none)) := same_new n_x12
      have e_x12 : ExAt (upd H53 x12 (exo x12 c12 none)) x12 c12 [] := .inl ⟨upd_same, rfl⟩
      generalize upd H53 x12 (exo x12 c12 none) = H54 at s54 e_x12 ⊢
      have Z54 := Z53.trans s54
      refine ⟨by show 0 ≤ sizeLine; decide, fun l12 n_l12 => ?_⟩
      have s55 : Same H54 (upd H54 l12 (HO.lst [])) := same_new n_l12
      have e_l12 : (upd H54 l12 (HO.lst [])) l12 = some (HO.lst []) := upd_same
      generalize upd H54 l12 (HO.lst []) = H55 at s55 e_l12 ⊢
      have Z55 := Z54.trans s55
      refine ⟨by show 3 ≤ sizeLine; decide, fun t12 n_t12 => ?_⟩
      have s56 : Same H55 (upd H55 t12 (HO.tup [V.ref x12, V.ref l12, V.int 0])) := same_new n_t12
      have e_t12 : (upd H55 t12 (HO.tup [V.ref x12, V.ref l12, V.int 0])) t12 = some (HO.tup [V.ref x12, V.ref l12, V.int 0]) := upd_same
      generalize upd H55 t12 (HO.tup [V.ref x12, V.ref l12, V.int 0]) = H56 at s56 e_t12 ⊢
      have Z56 := Z55.trans s56
      refine ⟨by show 4 ≤ sizeLine; decide, fun z3 n_z3 => ?_⟩
      have s57 : Same H56 (upd H56 z3 (HO.lst [V.ref t9, V.ref t10, V.ref t11, V.ref t12])) := same_new n_z3
      have e_z3 : (upd H56 z3 (HO.lst [V.ref t9, V.ref t10, V.ref t11, V.ref t12])) z3 = some (HO.lst [V.ref t9, V.ref t10, V.ref t11, V.ref t12]) := upd_same
      generalize upd H56 z3 (HO.lst [V.ref t9, V.ref t10, V.ref t11, V.ref t12]) = H57 at s57 e_z3 ⊢
      have Z57 := Z56.trans s57
      have fl3 := Z57 _ _ ey
      refine ⟨y, z3, _, _, rfl, rfl, fl3, e_z3, by rw [List.length_map, hts]; show 9 + 4 ≤ sizeLine; decide, fun y3 n_y3 => ?_⟩
      have s58 : Same H57 (upd H57 y3 (HO.lst (ts.map V.ref ++ [V.ref t9, V.ref t10, V.ref t11, V.ref t12]))) := same_new n_y3
      have e_y3 : (upd H57 y3 (HO.lst (ts.map V.ref ++ [V.ref t9, V.ref t10, V.ref t11, V.ref t12]))) y3 = some (HO.lst (ts.map V.ref ++ [V.ref t9, V.ref t10, V.ref t11, V.ref t12])) := upd_same
      generalize upd H57 y3 (HO.lst (ts.map V.ref ++ [V.ref t9, V.ref t10, V.ref t11, V.ref t12])) = H58 at s58 e_y3 ⊢
      have Z58 := Z57.trans s58
      have S58 := Same.refl H58
      have S57 := s58.trans S58
      have S56 := s57.trans S57
      have S55 := s56.trans S56
      have S54 := s55.trans S55
      have S53 := s54.trans S54
      have S52 := s53.trans S53
      have S51 := s52.trans S52
      have S50 := s51.trans S51
      have S49 := s50.trans S50
      have S48 := s49.trans S49
      have S47 := s48.trans S48
      have p2 : Paired (RowAt H58 [va, vb, vc]) [t9, t10, t11, t12] [(c9, 1), (c10, 1), (c11, 0), (c12, 0)] := (.cons ⟨x9, l9, _, S48 _ _ e_t9, bx9.same (sy.trans Z58), S47 _ _ e_l9⟩ (.cons ⟨x10, l10, _, S50 _ _ e_t10, bx10.same (sy.trans Z58), S49 _ _ e_l10⟩ (.cons ⟨x11, l11, _, S53 _ _ e_t11, e_x11.same S51, S52 _ _ e_l11⟩ (.cons ⟨x12, l12, _, S56 _ _ e_t12, e_x12.same S54, S55 _ _ e_l12⟩ .nil))))
      have pp := rows_app (rows_same Z58 hp) p2
      exact ⟨y3, ts ++ [t9, t10, t11, t12], rfl, (sy.trans Z58), by rw [List.map_append]; exact e_y3, by rw [List.length_append, hts]; rfl, pp⟩
    clear ey hts hp sy
    rintro _ H59 ⟨y, ts, rfl, sy, ey, hts, hp⟩
    refine ⟨fun σ' H' => ∃ (y : Addr) (ts : List Addr), σ' = [some va, some vb, some vc, some (.ref x0), some (.ref x1), some (.ref x2), some (.ref x3), some (.ref x4), some (.ref x5), some (.ref x6), some (.ref x7), some (.ref x8), some (.ref x9), some (.ref x10), some (.ref x15), some (.ref x16), some (.ref x17), some (.ref y)] ∧ Same H20 H' ∧ H' y = some (.lst (ts.map V.ref)) ∧ ts.length = 17 ∧ Paired (RowAt H' [va, vb, vc]) ts [(c0, 2), (c1, 2), (c2, 1), (c3, 1), (c4, 1), (c5, 3), (c6, 2), (c7, 1), (c8, 1), (c9, 1), (c10, 1), (c11, 0), (c12, 0), (c13, 0), (c14, 0), (c15, 1), (c16, 1)], ?_, ?_⟩
    · skip
      refine ⟨_, rfl, fun x13 n_x13 => ?_⟩
      have s60 : Same H59 (upd H59 x13 (exo x13 c13 none)) := same_new n_x13
      have e_x13 : ExAt (upd H59 x13 (exo x13 c13 none)) x13 c13 [] := .inl ⟨upd_same, rfl⟩
      generalize upd H59 x13 (exo x13 c13 none) = H60 at s60 e_x13 ⊢
      have Z60 : Same H59 H60 := s60
      refine ⟨by show 0 ≤ sizeLine; decide, fun l13 n_l13 => ?_⟩
      have s61 : Same H60 (upd H60 l13 (HO.lst [])) := same_new n_l13
      have e_l13 : (upd H60 l13 (HO.lst [])) l13 = some (HO.lst []) := upd_same
      generalize upd H60 l13 (HO.lst []) = H61 at s61 e_l13 ⊢
      have Z61 := Z60.trans s61
      refine ⟨by show 3 ≤ sizeLine; decide, fun t13 n_t13 => ?_⟩
      have s62 : Same H61 (upd H61 t13 (HO.tup [V.ref x13, V.ref l13, V.int 0])) := same_new n_t13
      have e_t13 : (upd H61 t13 (HO.tup [V.ref x13, V.ref l13, V.int 0])) t13 = some (HO.tup [V.ref x13, V.ref l13, V.int 0]) := upd_same
      generalize upd H61 t13 (HO.tup [V.ref x13, V.ref l13, V.int 0]) = H62 at s62 e_t13 ⊢
      have Z62 := Z61.trans s62
      refine fun x14 n_x14 => ?_
      have s63 : Same H62 (upd H62 x14 (exo x14 c14 none)) := same_new n_x14
      have e_x14 : ExAt (upd H62 x14 (exo x14 c14 none)) x14 c14 [] := .inl ⟨upd_same, rfl⟩
      generalize upd H62 x14 (exo x14 c14 none) = H63 at s63 e_x14 ⊢
      have Z63 := Z62.trans s63
      refine ⟨by show 0 ≤ sizeLine; decide, fun l14 n_l14 => ?_⟩
      have s64 : Same H63 (upd H63 l14 (HO.lst [])) := same_new n_l14
      have e_l14 : (upd H63 l14 (HO.lst [])) l14 = some (HO.lst []) := upd_same
      generalize upd H63 l14 (HO.lst []) = H64 at s64 e_l14 ⊢
      have Z64 := Z63.trans s64
      refine ⟨by show 3 ≤ sizeLine; decide, fun t14 n_t14 => ?_⟩
      have s65 : Same H64 (upd H64 t14 (HO.tup [V.ref x14, V.ref l14, V.int 0])) := same_new n_t14
      have e_t14 : (upd H64 t14 (HO.tup [V.ref x14, V.ref l14, V.int 0])) t14 = some (HO.tup [V.ref x14, V.ref l14, V.int 0]) := upd_same
      generalize upd H64 t14 (HO.tup [V.ref x14, V.ref l14, V.int 0]) = H65 at s65 e_t14 ⊢
      have Z65 := Z64.trans s65
      refine ⟨_, rfl, _, rfl, x15, c15, _, _, rfl, (bx15.same (sy.trans Z65)), T.xv15, T.n15_0, lk_TakenName_0 va vb vc, by show 1 ≤ sizeLine; decide, fun l15 n_l15 => ?_⟩
      have s66 : Same H65 (upd H65 l15 (HO.lst [va])) := same_new n_l15
      have e_l15 : (upd H65 l15 (HO.lst [va])) l15 = some (HO.lst [va]) := upd_same
      generalize upd H65 l15 (HO.lst [va]) = H66 at s66 e_l15 ⊢
      have Z66 := Z65.trans s66
      refine ⟨by show 3 ≤ sizeLine; decide, fun t15 n_t15 => ?_⟩
      have s67 : Same H66 (upd H66 t15 (HO.tup [V.ref x15, V.ref l15, V.int 1])) := same_new n_t15
      have e_t15 : (upd H66 t15 (HO.tup [V.ref x15, V.ref l15, V.int 1])) t15 = some (HO.tup [V.ref x15, V.ref l15, V.int 1]) := upd_same
      generalize upd H66 t15 (HO.tup [V.ref x15, V.ref l15, V.int 1]) = H67 at s67 e_t15 ⊢
      have Z67 := Z66.trans s67
      refine ⟨_, rfl, _, rfl, x16, c16, _, _, rfl, (bx16.same (sy.trans Z67)), T.xv16, T.n16_0, lk_NoName_0 va vb vc, by show 1 ≤ sizeLine; decide, fun l16 n_l16 => ?_⟩
      have s68 : Same H67 (upd H67 l16 (HO.lst [va])) := same_new n_l16
      have e_l16 : (upd H67 l16 (HO.lst [va])) l16 = some (HO.lst [va]) := upd_same
      generalize upd H67 l16 (HO.lst [va]) = H68 at s68 e_l16 ⊢
      have Z68 := Z67.trans s68
      refine ⟨by show 3 ≤ sizeLine; decide, fun t16 n_t16 => ?_⟩
      have s69 : Same H68 (upd H68 t16 (HO.tup [V.ref x16, V.ref l16, V.int 1])) := same_new n_t16
      have e_t16 : (upd H68 t16 (HO.tup [V.ref x16, V.ref l16, V.int 1])) t16 = some (HO.tup [V.ref x16, V.ref l16, V.int 1]) := upd_same
      generalize upd H68 t16 (HO.tup [V.ref x16, V.ref l16, V.int 1]) = H69 at s69 e_t16 ⊢
      have Z69 := Z68.trans s69
      refine ⟨by show 4 ≤ sizeLine; decide, fun z4 n_z4 => ?_⟩
      have s70 : Same H69 (upd H69 z4 (HO.lst [V.ref t13, V.ref t14, V.ref t15, V.ref t16])) := same_new n_z4
      have e_z4 : (upd H69 z4 (HO.lst [V.ref t13, V.ref t14, V.ref t15, V.ref t16])) z4 = some (HO.lst [V.ref t13, V.ref t14, V.ref t15, V.ref t16]) := upd_same
      generalize upd H69 z4 (HO.lst [V.ref t13, V.ref t14, V.ref t15, V.ref t16]) = H70 at s70 e_z4 ⊢
      have Z70 := Z69.trans s70
      have fl4 := Z70 _ _ ey
      refine ⟨y, z4, _, _, rfl, rfl, fl4, e_z4, by rw [List.length_map, hts]; show 13 + 4 ≤ sizeLine; decide, fun y4 n_y4 => ?_⟩
      have s71 : Same H70 (upd H70 y4 (HO.lst (ts.map V.ref ++ [V.ref t13, V.ref t14, V.ref t15, V.ref t16]))) := same_new n_y4
      have e_y4 : (upd H70 y4 (HO.lst (ts.map V.ref ++ [V.ref t13, V.ref t14, V.ref t15, V.ref t16]))) y4 = some (HO.lst (ts.map V.ref ++ [V.ref t13, V.ref t14, V.ref t15, V.ref t16])) := upd_same
      generalize upd H70 y4 (HO.lst (ts.map V.ref ++ [V.ref t13, V.ref t14, V.ref t15, V.ref t16])) = H71 at s71 e_y4 ⊢
      have Z71 := Z70.trans s71
      have S71 := Same.refl H71
      have S70 := s71.trans S71
      have S69 := s70.trans S70
      have S68 := s69.trans S69
      have S67 := s68.trans S68
      have S66 := s67.trans S67
      have S65 := s66.trans S66
      have S64 := s65.trans S65
      have S63 := s64.trans S64
      have S62 := s63.trans S63
      have S61 := s62.trans S62
      have S60 := s61.trans S61
      have p2 : Paired (RowAt H71 [va, vb, vc]) [t13, t14, t15, t16] [(c13, 0), (c14, 0), (c15, 1), (c16, 1)] := (.cons ⟨x13, l13, _, S62 _ _ e_t13, e_x13.same S60, S61 _ _ e_l13⟩ (.cons ⟨x14, l14, _, S65 _ _ e_t14, e_x14.same S63, S64 _ _ e_l14⟩ (.cons ⟨x15, l15, _, S67 _ _ e_t15, bx15.same (sy.trans Z71), S66 _ _ e_l15⟩ (.cons ⟨x16, l16, _, S69 _ _ e_t16, bx16.same (sy.trans Z71), S68 _ _ e_l16⟩ .nil))))
      have pp := rows_app (rows_same Z71 hp) p2
      exact ⟨y4, ts ++ [t13, t14, t15, t16], rfl, (sy.trans Z71), by rw [List.map_append]; exact e_y4, by rw [List.length_append, hts]; rfl, pp⟩
    clear ey hts hp sy
    rintro _ H72 ⟨y, ts, rfl, sy, ey, hts, hp⟩
    refine ⟨_, rfl, _, rfl, _, rfl, x17, c17, _, _, rfl, (bx17.same sy), T.xv17, T.n17_0, lk_NotKept_0 va vb vc, _, rfl, x17, c17, _, _, rfl, (bx17.same sy), T.xv17, T.n17_1, lk_NotKept_1 va vb vc, by show 2 ≤ sizeLine; decide, fun l17 n_l17 => ?_⟩
    have s73 : Same H72 (upd H72 l17 (HO.lst [va, vb])) := same_new n_l17
    have e_l17 : (upd H72 l17 (HO.lst [va, vb])) l17 = some (HO.lst [va, vb]) := upd_same
    generalize upd H72 l17 (HO.lst [va, vb]) = H73 at s73 e_l17 ⊢
    have Z73 : Same H72 H73 := s73
    refine ⟨by show 3 ≤ sizeLine; decide, fun t17 n_t17 => ?_⟩
    have s74 : Same H73 (upd H73 t17 (HO.tup [V.ref x17, V.ref l17, V.int 2])) := same_new n_t17
    have e_t17 : (upd H73 t17 (HO.tup [V.ref x17, V.ref l17, V.int 2])) t17 = some (HO.tup [V.ref x17, V.ref l17, V.int 2]) := upd_same
    generalize upd H73 t17 (HO.tup [V.ref x17, V.ref l17, V.int 2]) = H74 at s74 e_t17 ⊢
    have Z74 := Z73.trans s74
    refine fun x18 n_x18 => ?_
    have s75 : Same H74 (upd H74 x18 (exo x18 c18 none)) := same_new n_x18
    have e_x18 : ExAt (upd H74 x18 (exo x18 c18 none)) x18 c18 [] := .inl ⟨upd_same, rfl⟩
    generalize upd H74 x18 (exo x18 c18 none) = H75 at s75 e_x18 ⊢
    have Z75 := Z74.trans s75
    refine ⟨by show 0 ≤ sizeLine; decide, fun l18 n_l18 => ?_⟩
    have s76 : Same H75 (upd H75 l18 (HO.lst [])) := same_new n_l18
    have e_l18 : (upd H75 l18 (HO.lst [])) l18 = some (HO.lst []) := upd_same
    generalize upd H75 l18 (HO.lst []) = H76 at s76 e_l18 ⊢
    have Z76 := Z75.trans s76
    refine ⟨by show 3 ≤ sizeLine; decide, fun t18 n_t18 => ?_⟩
    have s77 : Same H76 (upd H76 t18 (HO.tup [V.ref x18, V.ref l18, V.int 0])) := same_new n_t18
    have e_t18 : (upd H76 t18 (HO.tup [V.ref x18, V.ref l18, V.int 0])) t18 = some (HO.tup [V.ref x18, V.ref l18, V.int 0]) := upd_same
    generalize upd H76 t18 (HO.tup [V.ref x18, V.ref l18, V.int 0]) = H77 at s77 e_t18 ⊢
    have Z77 := Z76.trans s77
    refine fun x19 n_x19 => ?_
    have s78 : Same H77 (upd H77 x19 (exo x19 c19 none)) := same_new n_x19
    have e_x19 : ExAt (upd H77 x19 (exo x19 c19 none)) x19 c19 [] := .inl ⟨upd_same, rfl⟩
    generalize upd H77 x19 (exo x19 c19 none) = H78 at s78 e_x19 ⊢
    have Z78 := Z77.trans s78
    refine ⟨by show 0 ≤ sizeLine; decide, fun l19 n_l19 => ?_⟩
    have s79 : Same H78 (upd H78 l19 (HO.lst [])) := same_new n_l19
    have e_l19 : (upd H78 l19 (HO.lst [])) l19 = some (HO.lst []) := upd_same
    generalize upd H78 l19 (HO.lst []) = H79 at s79 e_l19 ⊢
    have Z79 := Z78.trans s79
    refine ⟨by show 3 ≤ sizeLine; decide, fun t19 n_t19 => ?_⟩
    have s80 : Same H79 (upd H79 t19 (HO.tup [V.ref x19, V.ref l19, V.int 0])) := same_new n_t19
    have e_t19 : (upd H79 t19 (HO.tup [V.ref x19, V.ref l19, V.int 0])) t19 = some (HO.tup [V.ref x19, V.ref l19, V.int 0]) := upd_same
    generalize upd H79 t19 (HO.tup [V.ref x19, V.ref l19, V.int 0]) = H80 at s80 e_t19 ⊢
    have Z80 := Z79.trans s80
    refine ⟨by show 3 ≤ sizeLine; decide, fun z5 n_z5 => ?_⟩
    have s81 : Same H80 (upd H80 z5 (HO.lst [V.ref t17, V.ref t18, V.ref t19])) := same_new n_z5
    have e_z5 : (upd H80 z5 (HO.lst [V.ref t17, V.ref t18, V.ref t19])) z5 = some (HO.lst [V.ref t17, V.ref t18, V.ref t19]) := upd_same
    generalize upd H80 z5 (HO.lst [V.ref t17, V.ref t18, V.ref t19]) = H81 at s81 e_z5 ⊢
    have Z81 := Z80.trans s81
    have fl5 := Z81 _ _ ey
    refine ⟨y, z5, _, _, rfl, rfl, fl5, e_z5, by rw [List.length_map, hts]; show 17 + 3 ≤ sizeLine; decide, fun y5 n_y5 => ?_⟩
    have s82 : Same H81 (upd H81 y5 (HO.lst (ts.map V.ref ++ [V.ref t17, V.ref t18, V.ref t19]))) := same_new n_y5
    have e_y5 : (upd H81 y5 (HO.lst (ts.map V.ref ++ [V.ref t17, V.ref t18, V.ref t19]))) y5 = some (HO.lst (ts.map V.ref ++ [V.ref t17, V.ref t18, V.ref t19])) := upd_same
    generalize upd H81 y5 (HO.lst (ts.map V.ref ++ [V.ref t17, V.ref t18, V.ref t19])) = H82 at s82 e_y5 ⊢
    have Z82 := Z81.trans s82
    have S82 := Same.refl H82
    have S81 := s82.trans S82
    have S80 := s81.trans S81
    have S79 := s80.trans S80
    have S78 := s79.trans S79
    have S77 := s78.trans S78
    have S76 := s77.trans S77
    have S75 := s76.trans S76
    have S74 := s75.trans S75
    have S73 := s74.trans S74
    have p2 : Paired (RowAt H82 [va, vb, vc]) [t17, t18, t19] [(c17, 2), (c18, 0), (c19, 0)] := (.cons ⟨x17, l17, _, S74 _ _ e_t17, bx17.same (sy.trans Z82), S73 _ _ e_l17⟩ (.cons ⟨x18, l18, _, S77 _ _ e_t18, e_x18.same S75, S76 _ _ e_l18⟩ (.cons ⟨x19, l19, _, S80 _ _ e_t19, e_x19.same S78, S79 _ _ e_l19⟩ .nil)))
    have pp := rows_app (rows_same Z82 hp) p2
    exact q _ _ (ts ++ [t17, t18, t19]) (sH3.trans (sy.trans Z82)) ((sH3.trans (sy.trans Z81)).free n_y5) (by rw [List.map_append]; exact e_y5) pp
end
end KQ

namespace KQ
open PySem PySem.Spec PyProof.Rows L2
/-! ### values whose data is known -/
def Fld (H : Hp) (v : V) : Prop := (v = .non ∨ (∃ b, v = .bl b) ∨ (∃ i, v = .int i) ∨ ∃ x : Str, v = .str x ∧ PyData.strOk x = true) ∨
  (∃ t, v = .ref t ∧ H t = some (.tup [])) ∨ ∃ t u, v = .ref t ∧ H t = some (.tup [.int 1, .ref u]) ∧ H u = some (.tup [.int 2, .str "x"])
theorem Fld.same {H H' : Hp} {v : V} (s : Same H H') (h : Fld H v) : Fld H' v := by
  rcases h with h | ⟨t, e, h⟩ | ⟨t, u, e, h1, h2⟩
  · exact .inl h
  · exact .inr (.inl ⟨t, e, s _ _ h⟩)
  · exact .inr (.inr ⟨t, u, e, s _ _ h1, s _ _ h2⟩)
theorem Fld.data {K : PySem.W.Frag} {H : Hp} {v : V} (h : Fld H v) : ∃ d : PyData, Dp K H v d ∧ d.canLay0 = true ∧ d.depth ≤ 2 ∧ PyData.eqv d d = true := by
  rcases h with (h | ⟨b, h⟩ | ⟨i, h⟩ | ⟨x, h, hx⟩) | ⟨t, e, h⟩ | ⟨t, u, e, h1, h2⟩
  · subst h; exact ⟨.none, .non, rfl, by decide, rfl⟩
  · subst h; exact ⟨.bool b, .bl b, rfl, Nat.zero_le _, by cases b <;> rfl⟩
  · subst h; exact ⟨.int i, .int i, rfl, Nat.zero_le _, by show (i == i) = true; simp⟩
  · subst h; exact ⟨.str x, .str x, hx, Nat.zero_le _, by show (x == x) = true; simp⟩
  · subst e; exact ⟨.tuple [], .tup (.inl (.inl h)) .nil, rfl, by decide, rfl⟩
  · subst e; exact ⟨.tuple [.int 1, .tuple [.int 2, .str "x"]], .tup (.inl (.inl h1)) (.cons (.int 1) (.cons (.tup (.inl (.inl h2)) (.cons (.int 2) (.cons (.str "x") .nil))) .nil)), by decide +kernel, by decide +kernel, by decide +kernel⟩
theorem flds_data {K : PySem.W.Frag} {H : Hp} : ∀ {ys : List V}, (∀ v ∈ ys, Fld H v) → ∃ ds : List PyData, DpAll K H ys ds ∧ PyData.canLayAll0 ds = true ∧ PyData.depthAll ds ≤ 2 ∧ PyData.eqvAll ds ds = true
  | [], _ => ⟨[], .nil, rfl, Nat.zero_le _, rfl⟩
  | v :: r, h => by
    obtain ⟨d, a1, a2, a3, a4⟩ := Fld.data (K := K) (h v List.mem_cons_self)
    obtain ⟨ds, b1, b2, b3, b4⟩ := flds_data (K := K) (H := H) (ys := r) fun u hu => h u (List.mem_cons_of_mem _ hu)
    refine ⟨d :: ds, .cons a1 b1, ?_, ?_, ?_⟩
    · show (d.canLay0 && PyData.canLayAll0 ds) = true
      rw [a2, b2]; rfl
    · show max d.depth (PyData.depthAll ds) ≤ 2
      omega
    · show (PyData.eqv d d && PyData.eqvAll ds ds) = true
      rw [a4, b4]; rfl
theorem lists_ne {K : PySem.W.Frag} {H : Hp} {a b : Addr} {ys : List V} (ha : SqL K H a ys) (hb : SqL K H b ys) (h : ∀ v ∈ ys, Fld H v) {Q : VK} (q : Q (.bl false) H) : rNeD K (.ref a) (.ref b) H Q := by
  obtain ⟨ds, b1, b2, b3, b4⟩ := flds_data (K := K) h
  have sh : SeqAt.shaped (.list ds) = true := by
    show (PyData.canLayAll0 ds && decide (PyData.depthAll ds + 1 ≤ 64)) = true
    rw [b2, decide_eq_true (show PyData.depthAll ds + 1 ≤ 64 by omega)]; rfl
  refine ⟨.list ds, .list ds, .lst ha b1, .lst hb b1, sh, sh, ?_⟩
  rw [show PyData.eqv (.list ds) (.list ds) = true from b4]
  exact q
theorem paired_at {α β : Type} {F : α → β → Prop} : ∀ {xs : List α} {ys : List β} {i : Nat} {x : α} {y : β}, Paired F xs ys → xs[i]? = some x → ys[i]? = some y → F x y
  | _, _, i, _, _, .nil, h, _ => by simp at h
  | _, _, 0, _, _, .cons a _, h1, h2 => by
    cases Option.some.inj h1
    cases Option.some.inj h2
    exact a
  | _, _, i + 1, _, _, .cons _ b, h1, h2 => paired_at b h1 h2
theorem paired_len {α β : Type} {F : α → β → Prop} : ∀ {xs : List α} {ys : List β}, Paired F xs ys → xs.length = ys.length
  | _, _, .nil => rfl
  | _, _, .cons _ b => congrArg (· + 1) (paired_len b)
/-- which of the classes is the one at place i, told twice -/
theorem kinds_eq {Cs : List Addr} (hn : Cs.Nodup) {i : Nat} {D : Addr} (h : Cs[i]? = some D) : Cs.map (isV D) = (List.range Cs.length).map fun k => V.bl (decide (V.int ((0 : Int) + (k : Nat)) = V.int ((i : Nat) : Int))) := by
  apply List.ext_getElem?
  intro k
  rw [List.getElem?_map (f := isV D), List.getElem?_map]
  by_cases hk : k < Cs.length
  · rw [List.getElem?_eq_getElem hk, List.getElem?_eq_getElem (by rw [List.length_range]; exact hk), List.getElem_range]
    show some (V.bl (decide (Cs[k] = D))) = some (V.bl (decide (V.int ((0 : Int) + (k : Nat)) = V.int ((i : Nat) : Int))))
    congr 2
    obtain ⟨hlt, e⟩ := List.getElem?_eq_some_iff.mp h
    rw [decide_eq_decide]
    constructor
    · intro q
      have := (List.getElem_inj hn).mp (q.trans e.symm)
      subst this
      rw [Int.zero_add]
    · intro q
      have z := V.int.inj q
      have : k = i := by omega
      subst this
      exact e
  · rw [List.getElem?_eq_none (by omega), List.getElem?_eq_none (by rw [List.length_range]; omega)]
    rfl
theorem pen_ne {H : Hp} {p c y : Addr} {n : Nat} {o : HO} (h : PenAt H p c n) (hy : H y = some o) (d : ∀ kv, o ≠ .dK kv) : y ≠ p := by
  obtain ⟨ns, a, d', f, hp, _⟩ := h
  exact ne_of hy hp (d _)
theorem Fld.pen {H H' : Hp} {p c : Addr} {n : Nat} {v : V} (h : Fld H v) (hP : PenAt H p c n) (hk : ∀ b, b ≠ p → H' b = H b) : Fld H' v := by
  have k : ∀ {t : Addr} {xs : List V}, H t = some (.tup xs) → H' t = some (.tup xs) := fun {t xs} e => (hk t (pen_ne hP e (by intro kv z; cases z))).trans e
  rcases h with h | ⟨t, e, h⟩ | ⟨t, u, e, h1, h2⟩
  · exact .inl h
  · exact .inr (.inl ⟨t, e, k h⟩)
  · exact .inr (.inr ⟨t, u, e, k h1, k h2⟩)
theorem cut_to (xs : List V) (m : Nat) : cutV xs none (some (m : Int)) = xs.take m := by
  unfold cutV
  rw [HT.sIx_none, HT.sIx_nat, List.drop_zero, Nat.sub_zero]
  by_cases h : m ≤ xs.length
  · rw [Nat.min_eq_left h]
  · rw [Nat.min_eq_right (show xs.length ≤ m by omega), List.take_of_length_le (Nat.le_refl _), List.take_of_length_le (by omega)]
/-! ### the law -/
abbrev sLaw : Stmt := topS 28
theorem scLaw : FnScope ["_law_script", "_law_pen_here", "_law_some", "_law_fields", "_law_rows", "_law_at", "_law_error", "_law_told", "_law_many", "_law_k"] ["_law_script"] (defScope sLaw) := ⟨rfl, rfl, rfl, by decide +kernel, rfl, by decide +kernel, by decide +kernel⟩
def spLaw (K : PySem.W.Frag) : Sp := fun vs H Q _ => ∃ (a : Addr) (ns : List Int), vs = [.ref a] ∧ SqL K H a (ns.map V.int) ∧ ns.length ≤ 63 ∧ ∀ H', Q (.bl true) H'
section
variable {P : Program} {w : World} {K : PySem.W.Frag} {mg : Str → Option Value} {base : Heap}
theorem ok_law {f c0 c1 c2 c3 c4 c5 c6 c7 c8 c9 c10 c11 c12 c13 c14 c15 c16 c17 c18 c19 f0 f1 f2 f3 f4 f5 f6 f7 f8 f9 f10 f15 f16 f17 cK fPn fDr fPk fKi fMa : Addr} {fd d0 d1 d2 d3 d4 d5 d6 d7 d8 d9 d10 d15 d16 d17 dPn dDr dPk dKi dMa : FuncData} (F : Fun K "law" "law" sLaw f fd) (M : Nms mg c0 c1 c2 c3 c4 c5 c6 c7 c8 c9 c10 c11 c12 c13 c14 c15 c16 c17 c18 c19) (T : Clss K c0 c1 c2 c3 c4 c5 c6 c7 c8 c9 c10 c11 c12 c13 c14 c15 c16 c17 c18 c19 f0 f1 f2 f3 f4 f5 f6 f7 f8 f9 f10 f15 f16 f17 d0 d1 d2 d3 d4 d5 d6 d7 d8 d9 d10 d15 d16 d17)
    (FPn : Fun K "_law_pen" "_law_pen" sPen fPn dPn) (bPn : Binds K dPn ["_law_script"] []) (gPn : mg "_law_pen" = some (.ref fPn))
    (FDr : Fun K "_law_draw" "_law_draw" sDraw fDr dDr) (bDr : Binds K dDr ["_law_pen_here", "_law_many"] []) (gDr : mg "_law_draw" = some (.ref fDr))
    (FPk : Fun K "_law_pick" "_law_pick" sPick fPk dPk) (bPk : Binds K dPk ["_law_pen_here", "_law_some"] []) (gPk : mg "_law_pick" = some (.ref fPk))
    (FKi : Fun K "_law_kinds" "_law_kinds" sKinds fKi dKi) (bKi : Binds K dKi ["_law_value"] []) (gKi : mg "_law_kinds" = some (.ref fKi))
    (FMa : Fun K "_law_made" "_law_made" sMade fMa dMa) (bMa : Binds K dMa ["_law_a", "_law_b", "_law_c"] []) (gMa : mg "_law_made" = some (.ref fMa))
    (mi : mg "int" = none) (mls : mg "list" = none) (ml : mg "len" = none) (me : mg "enumerate" = none) (mr : mg "range" = none) (mv : mg "ValueError" = none) (gK : mg "KeptError" = some (.ref cK))
    (nd : ([c0, c1, c2, c3, c4, c5, c6, c7, c8, c9, c10, c11, c12, c13, c14, c15, c16, c17, c18, c19] : List Addr).Nodup) (kit : ∀ D ∈ ([c0, c1, c2, c3, c4, c5, c6, c7, c8, c9, c10, c11, c12, c13, c14, c15, c16, c17, c18, c19] : List Addr), ExcC K D ∧ (∀ C ∈ ([c0, c1, c2, c3, c4, c5, c6, c7, c8, c9, c10, c11, c12, c13, c14, c15, c16, c17, c18, c19] : List Addr), PySem.W.kitOne K (.ref D) (.ref C) = some (decide (C = D))) ∧ PySem.W.kitOne K (.ref D) (.ref cK) = some true ∧ PySem.W.kitOne K (.ref D) (.type "ValueError") = some true) :
    FnOk P w K mg base CX0 4 f fd ["_law_script"] (spLaw K) := by
  have GPn : FnOk P w K mg base CX0 1 fPn dPn ["_law_script"] (spPen K) := ok_pen FPn mi mls
  have GPk : FnOk P w K mg base CX0 2 fPk dPk ["_law_pen_here", "_law_some"] (spPick K) := ok_pick FPk FDr bDr gDr mi ml
  have GMa : FnOk P w K mg base CX0 3 fMa dMa ["_law_a", "_law_b", "_law_c"] (spMade [(c0, 2), (c1, 2), (c2, 1), (c3, 1), (c4, 1), (c5, 3), (c6, 2), (c7, 1), (c8, 1), (c9, 1), (c10, 1), (c11, 0), (c12, 0), (c13, 0), (c14, 0), (c15, 1), (c16, 1), (c17, 2), (c18, 0), (c19, 0)]) := ok_made FMa M T
  have GKi : FnOk P w K mg base CX0 1 fKi dKi ["_law_value"] (spKinds K [c0, c1, c2, c3, c4, c5, c6, c7, c8, c9, c10, c11, c12, c13, c14, c15, c16, c17, c18, c19]) := ok_kinds FKi M
  refine F.ok scLaw (fun vs H Q E h => ?_) (fun cdv A outer s H vs Q E hr h => ?_)
  · obtain ⟨a, ns, rfl, _⟩ := h
    rfl
  · obtain ⟨a, ns, rfl, hS, hlen, q⟩ := h
    have hr1 : Room 1 _ := hr.mono (by decide)
    have hr2 : Room 2 _ := hr.mono (by decide)
    have hu : (A.deeper (envOfC "law" (defScope sLaw) s.heap.objs.size f cdv)).units + 64 < cLine := hr.units
    refine ⟨_, C8.pss_cut (ps_set (i := 1) scLaw.nd rfl (.inl rfl) (pe_call GPn hr1 (by rfl) gPn FPn.kp bPn .nil pass0 (pa_cons (pv 0) pa_nil)))
      (C8.pss_cut (ps_set (i := 2) scLaw.nd rfl (.inl rfl) (pe_lst (pa_cons (pe_non) (pa_cons (pe_int) (pa_cons (pe_un un_neg pe_int) (pa_cons (pe_op op_pow pe_int pe_int) (pa_cons (pe_str) (pa_cons (pe_str) (pa_cons (pe_tup pa_nil) (pa_cons (pe_tup (pa_cons pe_int (pa_cons (pe_tup (pa_cons pe_int (pa_cons pe_str pa_nil))) pa_nil))) (pa_cons (pe_bl) (pa_cons (pe_str) pa_nil))))))))))))
      (C8.pss_cut (ps_set (i := 3) scLaw.nd rfl (.inl rfl) (pe_lst (pa_cons (pe_call GPk hr2 (by rfl) gPk FPk.kp bPk .nil pass0 (pa_cons (pv 1) (pa_cons (pv 2) pa_nil))) (pa_cons (pe_call GPk hr2 (by rfl) gPk FPk.kp bPk .nil pass0 (pa_cons (pv 1) (pa_cons (pv 2) pa_nil))) (pa_cons (pe_call GPk hr2 (by rfl) gPk FPk.kp bPk .nil pass0 (pa_cons (pv 1) (pa_cons (pv 2) pa_nil))) pa_nil)))))
      (C8.pss_cut (ps_set (i := 4) scLaw.nd rfl (.inl rfl) (pe_call GMa hr (by rfl) gMa FMa.kp bMa .nil pass0 (pa_cons (pe_ix ix_list (pv 3) pe_int (fun _ _ => rfl)) (pa_cons (pe_ix ix_list (pv 3) pe_int (fun _ _ => rfl)) (pa_cons (pe_ix ix_list (pv 3) pe_int (fun _ _ => rfl)) pa_nil)))))
      (C8.pss_cut (ps_for PassesOwn.never rfl (pi_enum (by rfl) me (pa_cons (pv 4) pa_nil))
          (pg_tup rfl (pgs_cons (pg_name (i := 5) scLaw.nd rfl (.inr rfl)) (pgs_cons (pg_tup rfl (pgs_cons (pg_name (i := 6) scLaw.nd rfl (.inl rfl)) (pgs_cons (pg_name (i := 7) scLaw.nd rfl (.inl rfl)) (pgs_cons (pg_name (i := 8) scLaw.nd rfl (.inl rfl)) pgs_nil)))) pgs_nil)))
        (C8.pss_cut (ps_if (pw_or (pt_cmpR (op_neD hu) (pv 7) (pe_slice sl_list (pv 3) po_none (po_some (pv 8))) (nomark _)) (pw_or (pt_not (pt_val (pe_callB call_isX (by rfl) M.isi PyProof.Rows.boot_isinstance (pa_cons (pv 6) (pa_cons (pe_glob (v := .ref cK) (by rfl) gK rfl) pa_nil))))) (pw_or1 (pt_not (pt_val (pe_callB call_isX (by rfl) M.isi PyProof.Rows.boot_isinstance (pa_cons (pv 6) (pa_cons (pe_bltn (v := .ty "ValueError") (by rfl) mv boot_ValueError rfl) pa_nil)))))))).pt
            (pss_one (ps_ret pe_bl)) pss_nil)
        (pss_one (ps_if (pt_cmpR (op_neD hu) (pe_call GKi hr1 (by rfl) gKi FKi.kp bKi .nil pass0 (pa_cons (pv 6) pa_nil))
            (pe_lc (own := [("_law_k", 9)]) (g := gName 9) (by rfl) scLaw.nd (pi_range1 rfl mr (pa_cons (pe_callB call_len_seq (by rfl) ml PySem.boot_len (pa_cons (pv 4) pa_nil)) pa_nil)) (blkOk_by (own := [("_law_k", 9)]) (N := ["_law_script", "_law_pen_here", "_law_some", "_law_fields", "_law_rows", "_law_at", "_law_error", "_law_told", "_law_many", "_law_k"]) (sc := defScope sLaw) (by decide +kernel))
              (fun _ _ _ _ _ => pg_name (i := 9) scLaw.nd rfl (Or.inl rfl)) (fun _ _ _ _ _ => pts_nil) (fun _ _ _ _ _ => pe_cmpR op_eq (pv 9) (pv 5) (nomark _))) (nomark _))
            (pss_one (ps_ret pe_bl)) pss_nil))))
      (pss_one (ps_ret pe_bl)))))), ?_⟩
    -- the pen
    refine ⟨fun σ' H' => ∃ p c : Addr, σ' = [some (.ref a), some (.ref p), none, none, none, none, none, none, none, none] ∧ PenAt H' p c 0, ?_, ?_⟩
    · exact ⟨_, rfl, a, ns, rfl, hS, hlen, fun H' p c _ _ _ hP => ⟨p, c, rfl, hP⟩⟩
    rintro _ H1 ⟨p, c, rfl, hP⟩
    -- the menu
    refine ⟨fun σ' H' => ∃ (y : Addr) (xs : List V), σ' = [some (.ref a), some (.ref p), some (.ref y), none, none, none, none, none, none, none] ∧ PenAt H' p c 0 ∧ H' y = some (.lst xs) ∧ xs ≠ [] ∧ xs.length ≤ 1000 ∧ ∀ v ∈ xs, Fld H' v, ?_, ?_⟩
    · refine ⟨_, rfl, _, _, rfl, rfl, ⟨by decide, by decide, by decide⟩, by show 0 ≤ sizeLine; decide, fun t0 n0 => ?_⟩
      have s0 := same_new (o := HO.tup []) n0
      have e0 : (upd H1 t0 (HO.tup [])) t0 = some (HO.tup []) := upd_same
      generalize upd H1 t0 (HO.tup []) = H2 at s0 e0 ⊢
      refine ⟨by show 2 ≤ sizeLine; decide, fun t1 n1 => ?_⟩
      have s1 := same_new (o := HO.tup [V.int 2, V.str "x"]) n1
      have e1 : (upd H2 t1 (HO.tup [V.int 2, V.str "x"])) t1 = some (HO.tup [V.int 2, V.str "x"]) := upd_same
      generalize upd H2 t1 (HO.tup [V.int 2, V.str "x"]) = H3 at s1 e1 ⊢
      refine ⟨by show 2 ≤ sizeLine; decide, fun t2 n2 => ?_⟩
      have s2 := same_new (o := HO.tup [V.int 1, V.ref t1]) n2
      have e2 : (upd H3 t2 (HO.tup [V.int 1, V.ref t1])) t2 = some (HO.tup [V.int 1, V.ref t1]) := upd_same
      generalize upd H3 t2 (HO.tup [V.int 1, V.ref t1]) = H4 at s2 e2 ⊢
      refine ⟨by show 10 ≤ sizeLine; decide, fun y ny => ?_⟩
      have sy := same_new (o := HO.lst [V.non, V.int 0, V.int (-7), V.int (10 ^ (30 : Int).toNat), V.str "", V.str "a b", V.ref t0, V.ref t2, V.bl true, V.str "weight"]) ny
      refine ⟨y, _, rfl, hP.ext (((s0.trans s1).trans s2).trans sy), upd_same, by simp, by show 10 ≤ 1000; decide, ?_⟩
      intro v hv
      simp only [List.mem_cons, List.not_mem_nil, or_false] at hv
      rcases hv with h | h | h | h | h | h | h | h | h | h
      · exact .inl (.inl h)
      · exact .inl (.inr (.inr (.inl ⟨_, h⟩)))
      · exact .inl (.inr (.inr (.inl ⟨_, h⟩)))
      · exact .inl (.inr (.inr (.inl ⟨_, h⟩)))
      · exact .inl (.inr (.inr (.inr ⟨_, h, by decide +kernel⟩)))
      · exact .inl (.inr (.inr (.inr ⟨_, h, by decide +kernel⟩)))
      · exact .inr (.inl ⟨t0, h, ((s1.trans s2).trans sy) _ _ e0⟩)
      · exact .inr (.inr ⟨t2, t1, h, sy _ _ e2, (s2.trans sy) _ _ e1⟩)
      · exact .inl (.inr (.inl ⟨_, h⟩))
      · exact .inl (.inr (.inr (.inr ⟨_, h, by decide +kernel⟩)))
    rintro _ H2 ⟨y, xs, rfl, hP, hy, hx0, hx1, hf⟩
    -- three draws
    refine ⟨fun σ' H' => ∃ (q : Addr) (va vb vc : V), σ' = [some (.ref a), some (.ref p), some (.ref y), some (.ref q), none, none, none, none, none, none] ∧ H' q = some (.lst [va, vb, vc]) ∧ ∀ v ∈ [va, vb, vc], Fld H' v, ?_, ?_⟩
    · obtain ⟨⟨op, ep⟩, _⟩ := hP.some
      refine ⟨_, rfl, _, rfl, p, c, y, 0, xs, rfl, hP, by decide, .inl (SqL.of hy), hx0, hx1, fun i va H3 ha hP3 k3 => ?_⟩
      have hy3 := (k3 y (pen_ne hP hy (by intro kv z; cases z))).trans hy
      have f3 : ∀ v ∈ xs, Fld H3 v := fun v hv => (hf v hv).pen hP k3
      refine ⟨_, rfl, _, rfl, p, c, y, 1, xs, rfl, hP3, by decide, .inl (SqL.of hy3), hx0, hx1, fun j vb H4 hb hP4 k4 => ?_⟩
      have hy4 := (k4 y (pen_ne hP3 hy3 (by intro kv z; cases z))).trans hy3
      have f4 : ∀ v ∈ xs, Fld H4 v := fun v hv => (f3 v hv).pen hP3 k4
      refine ⟨_, rfl, _, rfl, p, c, y, 2, xs, rfl, hP4, by decide, .inl (SqL.of hy4), hx0, hx1, fun l vc H5 hc hP5 k5 => ?_⟩
      have f5 : ∀ v ∈ xs, Fld H5 v := fun v hv => (f4 v hv).pen hP4 k5
      refine ⟨by show 3 ≤ sizeLine; decide, fun q nq => ?_⟩
      have sq := same_new (o := HO.lst [va, vb, vc]) nq
      refine ⟨q, va, vb, vc, rfl, upd_same, ?_⟩
      intro v hv
      simp only [List.mem_cons, List.not_mem_nil, or_false] at hv
      rcases hv with h | h | h
      · rw [h]; exact (f5 _ (List.mem_of_getElem? ha)).same sq
      · rw [h]; exact (f5 _ (List.mem_of_getElem? hb)).same sq
      · rw [h]; exact (f5 _ (List.mem_of_getElem? hc)).same sq
    clear hP hy hx0 hx1 hf
    rintro _ H3 ⟨z, va, vb, vc, rfl, hz, hf⟩
    -- the rows
    refine ⟨fun σ' H' => ∃ (r : Addr) (ts : List Addr), σ' = [some (.ref a), some (.ref p), some (.ref y), some (.ref z), some (.ref r), none, none, none, none, none] ∧ H' z = some (.lst [va, vb, vc]) ∧ (∀ v ∈ [va, vb, vc], Fld H' v) ∧ H' r = some (.lst (ts.map V.ref)) ∧ Paired (RowAt H' [va, vb, vc]) ts [(c0, 2), (c1, 2), (c2, 1), (c3, 1), (c4, 1), (c5, 3), (c6, 2), (c7, 1), (c8, 1), (c9, 1), (c10, 1), (c11, 0), (c12, 0), (c13, 0), (c14, 0), (c15, 1), (c16, 1), (c17, 2), (c18, 0), (c19, 0)], ?_, ?_⟩
    · refine ⟨_, rfl, z, _, _, _, rfl, rfl, SqL.of hz, at_of (j := 0) rfl rfl, _, rfl, z, _, _, _, rfl, rfl, SqL.of hz, at_of (j := 1) rfl rfl, _, rfl, z, _, _, _, rfl, rfl, SqL.of hz, at_of (j := 2) rfl rfl, va, vb, vc, rfl, fun H' r ts sm nr er hp => ?_⟩
      exact ⟨r, ts, rfl, sm _ _ hz, fun v hv => (hf v hv).same sm, er, hp⟩
    clear hz hf
    rintro _ H4 ⟨r, ts, rfl, hz, hf, er, hp⟩
    have hts : ts.length = 20 := paired_len hp
    -- the loop
    refine ⟨fun σ' H' => True, ?_, ?_⟩
    · refine ⟨_, rfl, r, _, rfl, SqL.of er, for_it (walk_enum (K := K) (a := r) (xs := ts.map V.ref)) (fun i σ' H' => ∃ s5 s6 s7 s8 : Option V, σ' = [some (.ref a), some (.ref p), some (.ref y), some (.ref z), some (.ref r), s5, s6, s7, s8, none] ∧ Same H4 H')
        ⟨none, none, none, none, rfl, Same.refl _⟩ (fun i σ' H' _ ⟨_, _, _, _, _, sm⟩ => SqL.of (sm _ _ er)) ?_ (fun _ _ _ => trivial)⟩
      rintro i x _ H5 H6 hi ⟨s5, s6, s7, s8, rfl, sm⟩ ⟨T, x1, x2, rfl, nT, rfl, g1, g2⟩
      cases Option.some.inj g1
      have g2 : (ts.map V.ref)[i]? = some x2 := g2
      rw [List.length_map] at hi
      obtain ⟨t, ht, rfl⟩ : ∃ t, ts[i]? = some t ∧ V.ref t = x2 := by
        rw [List.getElem?_map, List.getElem?_eq_getElem hi] at g2
        exact ⟨ts[i], List.getElem?_eq_getElem hi, Option.some.inj g2⟩
      obtain ⟨⟨D, m⟩, hq⟩ : ∃ Q0, ([(c0, 2), (c1, 2), (c2, 1), (c3, 1), (c4, 1), (c5, 3), (c6, 2), (c7, 1), (c8, 1), (c9, 1), (c10, 1), (c11, 0), (c12, 0), (c13, 0), (c14, 0), (c15, 1), (c16, 1), (c17, 2), (c18, 0), (c19, 0)] : List (Addr × Nat))[i]? = some Q0 := ⟨_, List.getElem?_eq_getElem (by rw [hts] at hi; exact hi)⟩
      have row := paired_at hp ht hq
      have hD : ([c0, c1, c2, c3, c4, c5, c6, c7, c8, c9, c10, c11, c12, c13, c14, c15, c16, c17, c18, c19] : List Addr)[i]? = some D := by
        have e : ([(c0, 2), (c1, 2), (c2, 1), (c3, 1), (c4, 1), (c5, 3), (c6, 2), (c7, 1), (c8, 1), (c9, 1), (c10, 1), (c11, 0), (c12, 0), (c13, 0), (c14, 0), (c15, 1), (c16, 1), (c17, 2), (c18, 0), (c19, 0)] : List (Addr × Nat)).map Prod.fst = [c0, c1, c2, c3, c4, c5, c6, c7, c8, c9, c10, c11, c12, c13, c14, c15, c16, c17, c18, c19] := rfl
        rw [← e, List.getElem?_map, hq]; rfl
      obtain ⟨xv, kA, kB, kC⟩ := kit D (List.mem_of_getElem? hD)
      have s6' := sm.trans (same_new (o := HO.tup [V.int (i : Nat), V.ref t]) nT)
      have eT : (upd H5 T (HO.tup [V.int (i : Nat), V.ref t])) T = some (HO.tup [V.int (i : Nat), V.ref t]) := upd_same
      generalize upd H5 T (HO.tup [V.int (i : Nat), V.ref t]) = H6 at s6' eT ⊢
      obtain ⟨e, l, fs, r1, r2, r3⟩ := row
      have r1 : H4 t = some (.tup [.ref e, .ref l, .int (m : Int)]) := r1
      have r3 : H4 l = some (.lst ([va, vb, vc].take m)) := r3
      have r2 : ExAt H4 e D fs := r2
      refine ⟨T, _, rfl, .inl (.inl eT), rfl, _, _, rfl, _, _, rfl, t, _, rfl, .inl (.inl (s6' _ _ r1)), rfl, _, _, rfl, _, _, rfl, _, _, rfl, rfl, rfl, ?_⟩
      refine ⟨fun σ' H' => σ' = [some (.ref a), some (.ref p), some (.ref y), some (.ref z), some (.ref r), some (.int (i : Nat)), some (.ref e), some (.ref l), some (.int (m : Int)), none] ∧ Same H4 H', ?_, ?_⟩
      · refine ⟨_, rfl, _, rfl, _, rfl, (m : Int), rfl, z, _, rfl, SqL.of (s6' _ _ hz), fun w nw => ?_⟩
        have s7 := s6'.trans (same_new (o := HO.lst (cutV [va, vb, vc] none (some (m : Int)))) nw)
        have ew : (upd H6 w (HO.lst (cutV [va, vb, vc] none (some (m : Int))))) w = some (HO.lst (cutV [va, vb, vc] none (some (m : Int)))) := upd_same
        generalize upd H6 w (HO.lst (cutV [va, vb, vc] none (some (m : Int)))) = H7 at s7 ew ⊢
        rw [cut_to] at ew
        refine lists_ne (ys := [va, vb, vc].take m) (SqL.of (s7 _ _ r3)) (SqL.of ew) (fun v hv => (hf v (List.mem_of_mem_take hv)).same s7) ?_
        refine ⟨false, rfl, iteF ?_⟩
        refine ⟨_, rfl, e, D, fs, _, _, true, rfl, r2.same s7, xv, (fun u r => r), kB, _, rfl, iteF ?_⟩
        refine ⟨_, rfl, e, D, fs, _, _, true, rfl, r2.same s7, xv, (fun u r => r), kC, _, rfl, iteF ?_⟩
        exact ⟨rfl, s7⟩
      · rintro _ H7 ⟨rfl, s7⟩
        refine ⟨_, rfl, e, D, fs, rfl, r2.same s7, xv, kA, fun H8 b s8 nb eb => ?_⟩
        refine ⟨_, rfl, r, _, rfl, .inl (SqL.of ((s7.trans s8) _ _ er)), _, rfl, ?_, ?_, fun W nW => ?_⟩
        · rw [List.length_map, hts]; decide
        · rw [List.length_map, hts]; decide
        have hn : (((ts.map V.ref).length : Nat) : Int).toNat = 20 := by rw [List.length_map, hts]; rfl
        refine lc_range (lo := 0) (Pv := fun k Hc => Same H8 Hc ∧ Hc W = some (.lst ((List.range k).map fun k => V.bl (decide (V.int ((0 : Int) + (k : Nat)) = V.int ((i : Nat) : Int)))))) ⟨same_new nW, upd_same⟩ ?_ ?_
        · rintro k Hc hk ⟨sc, ec⟩
          refine ⟨rfl, ?_⟩
          refine ⟨_, rfl, _, rfl, rfl, _, ec, ?_, ?_, ?_⟩
          · rw [List.length_map, List.length_range]; exact small1000 (by omega)
          · intro b' o e'
            rw [upd_ne (ne_of_none e' nW)]
            exact sc _ _ e'
          · rw [upd_same, List.range_succ, List.map_append]
            rfl
        · rintro Hc ⟨sc, ec⟩
          rw [hn] at ec
          have kk := kinds_eq nd hD
          have eb' : Hc b = some (.lst ((List.range 20).map fun k => V.bl (decide (V.int ((0 : Int) + (k : Nat)) = V.int ((i : Nat) : Int))))) := by
            have z := sc _ _ eb
            rw [kk] at z
            exact z
          refine lists_ne (SqL.of eb') (SqL.of ec) (fun v hv => ?_) ?_
          · obtain ⟨k, _, rfl⟩ := List.mem_map.mp hv
            exact .inl (.inr (.inl ⟨_, rfl⟩))
          · refine ⟨false, rfl, iteF ?_⟩
            exact ⟨_, _, _, _, rfl, (s7.trans s8).trans sc⟩
    · intro σ' H' _
      exact q H'
end
end KQ

namespace KQ
open PySem PySem.Spec PyProof.Rows L2
/-! ### what the top has written -/
/-- an own exception class straight over the class at cK, which is straight over ValueError -/
structure KC (K : PySem.W.Frag) (cK C : Addr) : Prop where
  l : ∃ nm q N bs sn sub ab col dd k0 k1 k2 k3 k5, K.lookup C = some (excClassObj nm q C N bs [.ref cK, .type "ValueError", .type "Exception", .type "BaseException", .type "object"] true sn sub ab col dd k0 k1 k2 k3 k5 "ValueError.__new__")
  sa : PySem.W.findIn K (Value.ref C) "__setattr__" = some (some (.builtin "object.__setattr__"))
  ty : PySem.W.typeIn K (.ref C) = some (.type "type")
  kp : PySem.W.keepIn K (Value.ref C) = true
  hg : PySem.W.findIn K (.ref C) "__getattribute__" = some (some (.builtin "BaseException.__getattribute__"))
  hk : PySem.W.findIn K (.ref C) "__getattr__" = some none
  ha : PySem.W.findIn K (Value.ref C) "__class__" = some (some (.builtin "object.__class__"))
theorem KC.of {K : PySem.W.Frag} {cK C N : Addr} {nm q : Str} {bs : List Value} {sn : List Str} {sub : List Value} {ab : Bool} {col : Option Bool} {dd : Option Addr} {k0 k1 k2 k3 k5 : Option Value}
    (l : K.lookup C = some (excClassObj nm q C N bs [.ref cK, .type "ValueError", .type "Exception", .type "BaseException", .type "object"] true sn sub ab col dd k0 k1 k2 k3 k5 "ValueError.__new__"))
    (sa : PySem.W.findIn K (.ref C) "__setattr__" = some (some (.builtin "object.__setattr__"))) (ty : PySem.W.typeIn K (.ref C) = some (.type "type")) (kp : PySem.W.keepIn K (.ref C) = true)
    (hg : PySem.W.findIn K (.ref C) "__getattribute__" = some (some (.builtin "BaseException.__getattribute__"))) (hk : PySem.W.findIn K (.ref C) "__getattr__" = some none)
    (ha : PySem.W.findIn K (.ref C) "__class__" = some (some (.builtin "object.__class__"))) : KC K cK C := ⟨⟨_, _, _, _, _, _, _, _, _, _, _, _, _, _, l⟩, sa, ty, kp, hg, hk, ha⟩
theorem fun_ex {K : PySem.W.Frag} {x qual : Str} {st : Stmt} {f : Addr} {oc : Value} {od an : Option Addr} {osl : Array (Option Value)} {kV doc pm cdv ct : Value} (l : K.lookup f = some ⟨oc, od, .func (PySem.W.fnOf x qual (defArgs st) (defBody st) (defScope st) .none kV doc pm an cdv ct), osl⟩)
    (c : PySem.W.codeIn K cdv qual = true) (k : PySem.W.keepIn K (.ref f) = true) : ∃ d, Fun K x qual st f d := ⟨_, L2.fun_mk l c k⟩
theorem KC.cls {K : PySem.W.Frag} {cK C : Addr} (h : KC K cK C) : ∃ cd, PySem.W.clsIn K C = some cd ∧ cd.mro = [.ref C, .ref cK, .type "ValueError", .type "Exception", .type "BaseException", .type "object"] ∧ cd.hasDict = true := by
  obtain ⟨nm, q, N, bs, sn, sub, ab, col, dd, k0, k1, k2, k3, k5, hl⟩ := h.l
  refine ⟨_, by unfold PySem.W.clsIn; rw [hl] <;> rfl, rfl, rfl⟩
theorem KC.mro {K : PySem.W.Frag} {cK C : Addr} (h : KC K cK C) (b : Value) : PySem.W.mroIn K C b = some ([Value.ref C, .ref cK, .type "ValueError", .type "Exception", .type "BaseException", .type "object"].contains b) := by
  obtain ⟨cd, e, m, _⟩ := h.cls
  unfold PySem.W.mroIn
  rw [e, Option.bind_some, m]
  rfl
theorem KC.exC {K : PySem.W.Frag} {cK C : Addr} (h : KC K cK C) : PySem.W.subIn K (.ref C) (.type "BaseException") = some true := by
  show PySem.W.mroIn K C _ = _
  rw [h.mro]
  rfl
theorem KC.ox {K : PySem.W.Frag} {cK C : Addr} (h : KC K cK C) : OexC K C := by
  obtain ⟨nm, q, N, bs, sn, sub, ab, col, dd, k0, k1, k2, k3, k5, hl⟩ := h.l
  exact ⟨⟨nm, q, N, bs, _, sn, sub, ab, col, dd, k0, k1, k2, k3, k5, hl, rfl⟩, h.sa, h.exC, h.ty, h.kp⟩
theorem KC.xv {K : PySem.W.Frag} {cK C : Addr} (h : KC K cK C) (hn : PySem.W.specialIn K (.builtin "object.__class__") "__get__" = some (some (.builtin "getset_descriptor.__get__"))) (ht : PySem.W.takesIn K (.builtin "object.__class__") = some true) : ExcC K C := by
  refine ⟨h.hg, h.hk, h.exC, ?_, h.ha, hn, ht, ?_⟩
  · obtain ⟨cd, e, _, d⟩ := h.cls
    show (PySem.W.clsIn K C).any _ = true
    rw [e]
    exact d
  · rw [h.mro]
    rfl
theorem KC.kit {K : PySem.W.Frag} {cK C D : Addr} (h : KC K cK D) (hC : KC K cK C) (n : C ≠ cK) : PySem.W.kitOne K (.ref D) (.ref C) = some (decide (C = D)) := by
  unfold PySem.W.kitOne
  by_cases e : C = D
  · subst e
    rw [if_pos (beq_self_eq_true _), decide_eq_true rfl]
  · rw [if_neg (fun z => e (Value.ref.inj (beq_iff_eq.mp z)).symm), decide_eq_false e]
    show (if ((PySem.W.clsIn K C).isSome && PySem.W.typeIn K (.ref C) == some (.type "type")) = true then PySem.W.mroIn K D (.ref C) else none) = some false
    obtain ⟨cd, ec, _, _⟩ := hC.cls
    have e1 : (Value.ref C == Value.ref D) = false := beq_eq_false_iff_ne.mpr fun z => e (Value.ref.inj z)
    have e2 : (Value.ref C == Value.ref cK) = false := beq_eq_false_iff_ne.mpr fun z => n (Value.ref.inj z)
    rw [ec, hC.ty, if_pos (by rfl), h.mro, List.contains_cons, List.contains_cons, e1, e2]
    rfl
theorem KC.kitK {K : PySem.W.Frag} {cK D : Addr} (h : KC K cK D) (hs : (PySem.W.clsIn K cK).isSome = true) (ht : PySem.W.typeIn K (.ref cK) = some (.type "type")) : PySem.W.kitOne K (.ref D) (.ref cK) = some true := by
  unfold PySem.W.kitOne
  by_cases e : (Value.ref D == Value.ref cK) = true
  · rw [if_pos e]
  · rw [if_neg e]
    show (if ((PySem.W.clsIn K cK).isSome && PySem.W.typeIn K (.ref cK) == some (.type "type")) = true then PySem.W.mroIn K D (.ref cK) else none) = some true
    rw [hs, ht, if_pos (by rfl), h.mro, List.contains_cons, List.contains_cons, beq_self_eq_true, Bool.true_or, Bool.or_true]
theorem KC.kitV {K : PySem.W.Frag} {cK D : Addr} (h : KC K cK D) : PySem.W.kitOne K (.ref D) (.type "ValueError") = some true := by
  unfold PySem.W.kitOne
  rw [if_neg (by intro z; cases beq_iff_eq.mp z)]
  show (if PySem.W.kitMeta "ValueError" = true then PySem.W.mroIn K D (.type "ValueError") else none) = some true
  rw [if_pos (by decide +kernel), h.mro]
  rfl

theorem all_mk {l : PySem.W.OpenLaw} {w : World} {K : PySem.W.Frag} {h : Heap} {mg : Str → Option Value} {fa : Addr} (X : K.In h) (G : h.Ns mainGlobals mg) (hfa : mg "law" = some (.ref fa))
    {c0 c1 c2 c3 c4 c5 c6 c7 c8 c9 c10 c11 c12 c13 c14 c15 c16 c17 c18 c19 cK f0 f1 f2 f3 f4 f5 f6 f7 f8 f9 f10 f15 f16 f17 fPn fDr fPk fKi fMa fLa : Addr}
    (a0 : PySem.W.nsIn K mainGlobals "BadText" = some (some (.ref c0)))
    (a1 : PySem.W.nsIn K mainGlobals "BadNumber" = some (some (.ref c1)))
    (a2 : PySem.W.nsIn K mainGlobals "BadName" = some (some (.ref c2)))
    (a3 : PySem.W.nsIn K mainGlobals "BadLot" = some (some (.ref c3)))
    (a4 : PySem.W.nsIn K mainGlobals "Unlike" = some (some (.ref c4)))
    (a5 : PySem.W.nsIn K mainGlobals "TooMany" = some (some (.ref c5)))
    (a6 : PySem.W.nsIn K mainGlobals "Anticommute" = some (some (.ref c6)))
    (a7 : PySem.W.nsIn K mainGlobals "MinusOne" = some (some (.ref c7)))
    (a8 : PySem.W.nsIn K mainGlobals "BadGauge" = some (some (.ref c8)))
    (a9 : PySem.W.nsIn K mainGlobals "BadHidden" = some (some (.ref c9)))
    (a10 : PySem.W.nsIn K mainGlobals "Outside" = some (some (.ref c10)))
    (a11 : PySem.W.nsIn K mainGlobals "NotOne" = some (some (.ref c11)))
    (a12 : PySem.W.nsIn K mainGlobals "NotARound" = some (some (.ref c12)))
    (a13 : PySem.W.nsIn K mainGlobals "HasFlag" = some (some (.ref c13)))
    (a14 : PySem.W.nsIn K mainGlobals "HasLook" = some (some (.ref c14)))
    (a15 : PySem.W.nsIn K mainGlobals "TakenName" = some (some (.ref c15)))
    (a16 : PySem.W.nsIn K mainGlobals "NoName" = some (some (.ref c16)))
    (a17 : PySem.W.nsIn K mainGlobals "NotKept" = some (some (.ref c17)))
    (a18 : PySem.W.nsIn K mainGlobals "NothingToUndo" = some (some (.ref c18)))
    (a19 : PySem.W.nsIn K mainGlobals "NothingToRedo" = some (some (.ref c19)))
    (aK : PySem.W.nsIn K mainGlobals "KeptError" = some (some (.ref cK)))
    (kc0 : KC K cK c0)
    (kc1 : KC K cK c1)
    (kc2 : KC K cK c2)
    (kc3 : KC K cK c3)
    (kc4 : KC K cK c4)
    (kc5 : KC K cK c5)
    (kc6 : KC K cK c6)
    (kc7 : KC K cK c7)
    (kc8 : KC K cK c8)
    (kc9 : KC K cK c9)
    (kc10 : KC K cK c10)
    (kc11 : KC K cK c11)
    (kc12 : KC K cK c12)
    (kc13 : KC K cK c13)
    (kc14 : KC K cK c14)
    (kc15 : KC K cK c15)
    (kc16 : KC K cK c16)
    (kc17 : KC K cK c17)
    (kc18 : KC K cK c18)
    (kc19 : KC K cK c19)
    (ic0 : PySem.W.findIn K (.ref c0) "__init__" = some (some (.ref f0)))
    (ti0 : PySem.W.typeIn K (.ref f0) = some (.type "function"))
    (n0_0 : PySem.W.findIn K (.ref c0) "line" = some none)
    (n0_1 : PySem.W.findIn K (.ref c0) "column" = some none)
    (F0 : ∃ d, Fun K "__init__" "BadText.__init__" (inClass (topS 2) 0) f0 d)
    (ic1 : PySem.W.findIn K (.ref c1) "__init__" = some (some (.ref f1)))
    (ti1 : PySem.W.typeIn K (.ref f1) = some (.type "function"))
    (n1_0 : PySem.W.findIn K (.ref c1) "what" = some none)
    (n1_1 : PySem.W.findIn K (.ref c1) "number" = some none)
    (F1 : ∃ d, Fun K "__init__" "BadNumber.__init__" (inClass (topS 3) 0) f1 d)
    (ic2 : PySem.W.findIn K (.ref c2) "__init__" = some (some (.ref f2)))
    (ti2 : PySem.W.typeIn K (.ref f2) = some (.type "function"))
    (n2_0 : PySem.W.findIn K (.ref c2) "name" = some none)
    (F2 : ∃ d, Fun K "__init__" "BadName.__init__" (inClass (topS 4) 0) f2 d)
    (ic3 : PySem.W.findIn K (.ref c3) "__init__" = some (some (.ref f3)))
    (ti3 : PySem.W.typeIn K (.ref f3) = some (.type "function"))
    (n3_0 : PySem.W.findIn K (.ref c3) "lot" = some none)
    (F3 : ∃ d, Fun K "__init__" "BadLot.__init__" (inClass (topS 5) 0) f3 d)
    (ic4 : PySem.W.findIn K (.ref c4) "__init__" = some (some (.ref f4)))
    (ti4 : PySem.W.typeIn K (.ref f4) = some (.type "function"))
    (n4_0 : PySem.W.findIn K (.ref c4) "what" = some none)
    (F4 : ∃ d, Fun K "__init__" "Unlike.__init__" (inClass (topS 6) 0) f4 d)
    (ic5 : PySem.W.findIn K (.ref c5) "__init__" = some (some (.ref f5)))
    (ti5 : PySem.W.typeIn K (.ref f5) = some (.type "function"))
    (n5_0 : PySem.W.findIn K (.ref c5) "what" = some none)
    (n5_1 : PySem.W.findIn K (.ref c5) "many" = some none)
    (n5_2 : PySem.W.findIn K (.ref c5) "limit" = some none)
    (F5 : ∃ d, Fun K "__init__" "TooMany.__init__" (inClass (topS 7) 0) f5 d)
    (ic6 : PySem.W.findIn K (.ref c6) "__init__" = some (some (.ref f6)))
    (ti6 : PySem.W.typeIn K (.ref f6) = some (.type "function"))
    (n6_0 : PySem.W.findIn K (.ref c6) "one" = some none)
    (n6_1 : PySem.W.findIn K (.ref c6) "other" = some none)
    (F6 : ∃ d, Fun K "__init__" "Anticommute.__init__" (inClass (topS 8) 0) f6 d)
    (ic7 : PySem.W.findIn K (.ref c7) "__init__" = some (some (.ref f7)))
    (ti7 : PySem.W.typeIn K (.ref f7) = some (.type "function"))
    (n7_0 : PySem.W.findIn K (.ref c7) "indices" = some none)
    (F7 : ∃ d, Fun K "__init__" "MinusOne.__init__" (inClass (topS 9) 0) f7 d)
    (ic8 : PySem.W.findIn K (.ref c8) "__init__" = some (some (.ref f8)))
    (ti8 : PySem.W.typeIn K (.ref f8) = some (.type "function"))
    (n8_0 : PySem.W.findIn K (.ref c8) "index" = some none)
    (F8 : ∃ d, Fun K "__init__" "BadGauge.__init__" (inClass (topS 10) 0) f8 d)
    (ic9 : PySem.W.findIn K (.ref c9) "__init__" = some (some (.ref f9)))
    (ti9 : PySem.W.typeIn K (.ref f9) = some (.type "function"))
    (n9_0 : PySem.W.findIn K (.ref c9) "index" = some none)
    (F9 : ∃ d, Fun K "__init__" "BadHidden.__init__" (inClass (topS 11) 0) f9 d)
    (ic10 : PySem.W.findIn K (.ref c10) "__init__" = some (some (.ref f10)))
    (ti10 : PySem.W.typeIn K (.ref f10) = some (.type "function"))
    (n10_0 : PySem.W.findIn K (.ref c10) "string" = some none)
    (F10 : ∃ d, Fun K "__init__" "Outside.__init__" (inClass (topS 12) 0) f10 d)
    (ex11 : PySem.W.excIn K c11 [.type "ValueError", .type "Exception", .type "BaseException", .type "object"] "ValueError.__new__" = true)
    (ex12 : PySem.W.excIn K c12 [.type "ValueError", .type "Exception", .type "BaseException", .type "object"] "ValueError.__new__" = true)
    (ex13 : PySem.W.excIn K c13 [.type "ValueError", .type "Exception", .type "BaseException", .type "object"] "ValueError.__new__" = true)
    (ex14 : PySem.W.excIn K c14 [.type "ValueError", .type "Exception", .type "BaseException", .type "object"] "ValueError.__new__" = true)
    (ic15 : PySem.W.findIn K (.ref c15) "__init__" = some (some (.ref f15)))
    (ti15 : PySem.W.typeIn K (.ref f15) = some (.type "function"))
    (n15_0 : PySem.W.findIn K (.ref c15) "name" = some none)
    (F15 : ∃ d, Fun K "__init__" "TakenName.__init__" (inClass (topS 17) 0) f15 d)
    (ic16 : PySem.W.findIn K (.ref c16) "__init__" = some (some (.ref f16)))
    (ti16 : PySem.W.typeIn K (.ref f16) = some (.type "function"))
    (n16_0 : PySem.W.findIn K (.ref c16) "name" = some none)
    (F16 : ∃ d, Fun K "__init__" "NoName.__init__" (inClass (topS 18) 0) f16 d)
    (ic17 : PySem.W.findIn K (.ref c17) "__init__" = some (some (.ref f17)))
    (ti17 : PySem.W.typeIn K (.ref f17) = some (.type "function"))
    (n17_0 : PySem.W.findIn K (.ref c17) "promise" = some none)
    (n17_1 : PySem.W.findIn K (.ref c17) "witness" = some none)
    (F17 : ∃ d, Fun K "__init__" "NotKept.__init__" (inClass (topS 19) 0) f17 d)
    (ex18 : PySem.W.excIn K c18 [.type "ValueError", .type "Exception", .type "BaseException", .type "object"] "ValueError.__new__" = true)
    (ex19 : PySem.W.excIn K c19 [.type "ValueError", .type "Exception", .type "BaseException", .type "object"] "ValueError.__new__" = true)
    (hn : PySem.W.specialIn K (.builtin "object.__class__") "__get__" = some (some (.builtin "getset_descriptor.__get__")))
    (ht : PySem.W.takesIn K (.builtin "object.__class__") = some true)
    (tK : PySem.W.typeIn K (.ref cK) = some (.type "type"))
    (dK : PySem.W.hasDictIn K cK = true)
    (gPn : PySem.W.nsIn K mainGlobals "_law_pen" = some (some (.ref fPn)))
    (FPn : ∃ d, Fun K "_law_pen" "_law_pen" sPen fPn d)
    (gDr : PySem.W.nsIn K mainGlobals "_law_draw" = some (some (.ref fDr)))
    (FDr : ∃ d, Fun K "_law_draw" "_law_draw" sDraw fDr d)
    (gPk : PySem.W.nsIn K mainGlobals "_law_pick" = some (some (.ref fPk)))
    (FPk : ∃ d, Fun K "_law_pick" "_law_pick" sPick fPk d)
    (gKi : PySem.W.nsIn K mainGlobals "_law_kinds" = some (some (.ref fKi)))
    (FKi : ∃ d, Fun K "_law_kinds" "_law_kinds" sKinds fKi d)
    (gMa : PySem.W.nsIn K mainGlobals "_law_made" = some (some (.ref fMa)))
    (FMa : ∃ d, Fun K "_law_made" "_law_made" sMade fMa d)
    (gLa : PySem.W.nsIn K mainGlobals "law" = some (some (.ref fLa)))
    (FLa : ∃ d, Fun K "law" "law" sLaw fLa d)
    (z_isinstance : PySem.W.nsIn K mainGlobals "isinstance" = some none)
    (z_int : PySem.W.nsIn K mainGlobals "int" = some none)
    (z_list : PySem.W.nsIn K mainGlobals "list" = some none)
    (z_len : PySem.W.nsIn K mainGlobals "len" = some none)
    (z_enumerate : PySem.W.nsIn K mainGlobals "enumerate" = some none)
    (z_range : PySem.W.nsIn K mainGlobals "range" = some none)
    (z_ValueError : PySem.W.nsIn K mainGlobals "ValueError" = some none)
    (nd : ([c0, c1, c2, c3, c4, c5, c6, c7, c8, c9, c10, c11, c12, c13, c14, c15, c16, c17, c18, c19] : List Addr).Nodup)
    (nk : cK ∉ ([c0, c1, c2, c3, c4, c5, c6, c7, c8, c9, c10, c11, c12, c13, c14, c15, c16, c17, c18, c19] : List Addr)) :
    ∃ fd : FuncData, (∀ (s : Shared) (v : Value), BindsTo s fd ⟨[v], []⟩ [("_law_script", v)]) ∧ ∀ base : Heap, K.In base → base.Ns mainGlobals mg → FnOk l.prog w K mg base CX0 4 fa fd ["_law_script"] (spLaw K) := by
  have e := hfa.symm.trans (PySem.W.mg_of X G gLa)
  cases e
  obtain ⟨d0, F0⟩ := F0
  have b0 := F0.binds (ps := ["self", "line", "column"]) fun _ _ _ _ _ _ us hl => match us, hl with | [_, _, _], _ => rfl
  obtain ⟨d1, F1⟩ := F1
  have b1 := F1.binds (ps := ["self", "what", "number"]) fun _ _ _ _ _ _ us hl => match us, hl with | [_, _, _], _ => rfl
  obtain ⟨d2, F2⟩ := F2
  have b2 := F2.binds (ps := ["self", "name"]) fun _ _ _ _ _ _ us hl => match us, hl with | [_, _], _ => rfl
  obtain ⟨d3, F3⟩ := F3
  have b3 := F3.binds (ps := ["self", "lot"]) fun _ _ _ _ _ _ us hl => match us, hl with | [_, _], _ => rfl
  obtain ⟨d4, F4⟩ := F4
  have b4 := F4.binds (ps := ["self", "what"]) fun _ _ _ _ _ _ us hl => match us, hl with | [_, _], _ => rfl
  obtain ⟨d5, F5⟩ := F5
  have b5 := F5.binds (ps := ["self", "what", "many", "limit"]) fun _ _ _ _ _ _ us hl => match us, hl with | [_, _, _, _], _ => rfl
  obtain ⟨d6, F6⟩ := F6
  have b6 := F6.binds (ps := ["self", "one", "other"]) fun _ _ _ _ _ _ us hl => match us, hl with | [_, _, _], _ => rfl
  obtain ⟨d7, F7⟩ := F7
  have b7 := F7.binds (ps := ["self", "indices"]) fun _ _ _ _ _ _ us hl => match us, hl with | [_, _], _ => rfl
  obtain ⟨d8, F8⟩ := F8
  have b8 := F8.binds (ps := ["self", "index"]) fun _ _ _ _ _ _ us hl => match us, hl with | [_, _], _ => rfl
  obtain ⟨d9, F9⟩ := F9
  have b9 := F9.binds (ps := ["self", "index"]) fun _ _ _ _ _ _ us hl => match us, hl with | [_, _], _ => rfl
  obtain ⟨d10, F10⟩ := F10
  have b10 := F10.binds (ps := ["self", "string"]) fun _ _ _ _ _ _ us hl => match us, hl with | [_, _], _ => rfl
  obtain ⟨d15, F15⟩ := F15
  have b15 := F15.binds (ps := ["self", "name"]) fun _ _ _ _ _ _ us hl => match us, hl with | [_, _], _ => rfl
  obtain ⟨d16, F16⟩ := F16
  have b16 := F16.binds (ps := ["self", "name"]) fun _ _ _ _ _ _ us hl => match us, hl with | [_, _], _ => rfl
  obtain ⟨d17, F17⟩ := F17
  have b17 := F17.binds (ps := ["self", "promise", "witness"]) fun _ _ _ _ _ _ us hl => match us, hl with | [_, _, _], _ => rfl
  obtain ⟨dPn, FPn⟩ := FPn
  have bPn := FPn.binds (ps := ["_law_script"]) fun _ _ _ _ _ _ us hl => match us, hl with | [_], _ => rfl
  obtain ⟨dDr, FDr⟩ := FDr
  have bDr := FDr.binds (ps := ["_law_pen_here", "_law_many"]) fun _ _ _ _ _ _ us hl => match us, hl with | [_, _], _ => rfl
  obtain ⟨dPk, FPk⟩ := FPk
  have bPk := FPk.binds (ps := ["_law_pen_here", "_law_some"]) fun _ _ _ _ _ _ us hl => match us, hl with | [_, _], _ => rfl
  obtain ⟨dKi, FKi⟩ := FKi
  have bKi := FKi.binds (ps := ["_law_value"]) fun _ _ _ _ _ _ us hl => match us, hl with | [_], _ => rfl
  obtain ⟨dMa, FMa⟩ := FMa
  have bMa := FMa.binds (ps := ["_law_a", "_law_b", "_law_c"]) fun _ _ _ _ _ _ us hl => match us, hl with | [_, _, _], _ => rfl
  obtain ⟨dLa, FLa⟩ := FLa
  have M : Nms mg c0 c1 c2 c3 c4 c5 c6 c7 c8 c9 c10 c11 c12 c13 c14 c15 c16 c17 c18 c19 := ⟨PySem.W.mg_none_of X G z_isinstance, PySem.W.mg_of X G a0, PySem.W.mg_of X G a1, PySem.W.mg_of X G a2, PySem.W.mg_of X G a3, PySem.W.mg_of X G a4, PySem.W.mg_of X G a5, PySem.W.mg_of X G a6, PySem.W.mg_of X G a7, PySem.W.mg_of X G a8, PySem.W.mg_of X G a9, PySem.W.mg_of X G a10, PySem.W.mg_of X G a11, PySem.W.mg_of X G a12, PySem.W.mg_of X G a13, PySem.W.mg_of X G a14, PySem.W.mg_of X G a15, PySem.W.mg_of X G a16, PySem.W.mg_of X G a17, PySem.W.mg_of X G a18, PySem.W.mg_of X G a19⟩
  have T : Clss K c0 c1 c2 c3 c4 c5 c6 c7 c8 c9 c10 c11 c12 c13 c14 c15 c16 c17 c18 c19 f0 f1 f2 f3 f4 f5 f6 f7 f8 f9 f10 f15 f16 f17 d0 d1 d2 d3 d4 d5 d6 d7 d8 d9 d10 d15 d16 d17 := ⟨kc0.xv hn ht, kc0.ox, ic0, ti0, n0_0, n0_1, F0, b0, kc1.xv hn ht, kc1.ox, ic1, ti1, n1_0, n1_1, F1, b1, kc2.xv hn ht, kc2.ox, ic2, ti2, n2_0, F2, b2, kc3.xv hn ht, kc3.ox, ic3, ti3, n3_0, F3, b3, kc4.xv hn ht, kc4.ox, ic4, ti4, n4_0, F4, b4, kc5.xv hn ht, kc5.ox, ic5, ti5, n5_0, n5_1, n5_2, F5, b5, kc6.xv hn ht, kc6.ox, ic6, ti6, n6_0, n6_1, F6, b6, kc7.xv hn ht, kc7.ox, ic7, ti7, n7_0, F7, b7, kc8.xv hn ht, kc8.ox, ic8, ti8, n8_0, F8, b8, kc9.xv hn ht, kc9.ox, ic9, ti9, n9_0, F9, b9, kc10.xv hn ht, kc10.ox, ic10, ti10, n10_0, F10, b10, kc11.xv hn ht, ex11, kc11.kp, kc12.xv hn ht, ex12, kc12.kp, kc13.xv hn ht, ex13, kc13.kp, kc14.xv hn ht, ex14, kc14.kp, kc15.xv hn ht, kc15.ox, ic15, ti15, n15_0, F15, b15, kc16.xv hn ht, kc16.ox, ic16, ti16, n16_0, F16, b16, kc17.xv hn ht, kc17.ox, ic17, ti17, n17_0, n17_1, F17, b17, kc18.xv hn ht, ex18, kc18.kp, kc19.xv hn ht, ex19, kc19.kp⟩
  have sK : (PySem.W.clsIn K cK).isSome = true := by
    obtain ⟨cd, hc, _⟩ := PySem.W.any_some dK
    rw [hc]; rfl
  have all : ∀ D ∈ ([c0, c1, c2, c3, c4, c5, c6, c7, c8, c9, c10, c11, c12, c13, c14, c15, c16, c17, c18, c19] : List Addr), KC K cK D := by
    intro D hD
    simp only [List.mem_cons, List.not_mem_nil, or_false] at hD
    rcases hD with h | h | h | h | h | h | h | h | h | h | h | h | h | h | h | h | h | h | h | h
    · rw [h]; exact kc0
    · rw [h]; exact kc1
    · rw [h]; exact kc2
    · rw [h]; exact kc3
    · rw [h]; exact kc4
    · rw [h]; exact kc5
    · rw [h]; exact kc6
    · rw [h]; exact kc7
    · rw [h]; exact kc8
    · rw [h]; exact kc9
    · rw [h]; exact kc10
    · rw [h]; exact kc11
    · rw [h]; exact kc12
    · rw [h]; exact kc13
    · rw [h]; exact kc14
    · rw [h]; exact kc15
    · rw [h]; exact kc16
    · rw [h]; exact kc17
    · rw [h]; exact kc18
    · rw [h]; exact kc19
  have kit : ∀ D ∈ ([c0, c1, c2, c3, c4, c5, c6, c7, c8, c9, c10, c11, c12, c13, c14, c15, c16, c17, c18, c19] : List Addr), ExcC K D ∧ (∀ C ∈ ([c0, c1, c2, c3, c4, c5, c6, c7, c8, c9, c10, c11, c12, c13, c14, c15, c16, c17, c18, c19] : List Addr), PySem.W.kitOne K (.ref D) (.ref C) = some (decide (C = D))) ∧ PySem.W.kitOne K (.ref D) (.ref cK) = some true ∧ PySem.W.kitOne K (.ref D) (.type "ValueError") = some true := by
    intro D hD
    have kD := all D hD
    exact ⟨kD.xv hn ht, fun C hC => kD.kit (all C hC) (fun z => nk (z ▸ hC)), kD.kitK sK tK, kD.kitV⟩
  obtain ⟨oc, od, kV, dc, pm, an, cdv, ct, osl, rfl, lk, hcd⟩ := id FLa.ex
  exact ⟨_, fun s v => .of_eq rfl, fun base _ _ => ok_law FLa M T FPn bPn (PySem.W.mg_of X G gPn) FDr bDr (PySem.W.mg_of X G gDr) FPk bPk (PySem.W.mg_of X G gPk) FKi bKi (PySem.W.mg_of X G gKi) FMa bMa (PySem.W.mg_of X G gMa)
    (PySem.W.mg_none_of X G z_int) (PySem.W.mg_none_of X G z_list) (PySem.W.mg_none_of X G z_len) (PySem.W.mg_none_of X G z_enumerate) (PySem.W.mg_none_of X G z_range) (PySem.W.mg_none_of X G z_ValueError) (PySem.W.mg_of X G aK) nd kit⟩
theorem walk {l : PySem.W.OpenLaw} {q : Program} {loose : List Str} {XP : (Str → Option Value) → Heap → Prop} {YP : World → Heap → Prop} {d : DefRec} {K : Params → PySem.W.Frag} (hn : l.most = some 63) (hdf : d.params.defaults = [])
    (hY : ∀ (w : World) (h : Heap), YP w h → (K w.params).In h)
    (F : ∀ (w : World) (mg : Str → Option Value) (fa : Addr) (h : Heap), (K w.params).In h → h.Ns mainGlobals mg → mg d.name = some (.ref fa) →
      ∃ fd : FuncData, (∀ (s : Shared) (u : Value), BindsTo s fd ⟨[u], []⟩ [("_law_script", u)]) ∧ ∀ base : Heap, (K w.params).In base → base.Ns mainGlobals mg → FnOk l.prog w (K w.params) mg base CX0 4 fa fd ["_law_script"] (spLaw (K w.params))) :
    PySem.W.WalkO q loose XP YP l.row.toRowW d [] (fun f vs => PySem.call f vs) :=
  L2.walk_of (n := 63) (k := 4) (x := "_law_script") (CX := fun _ => CX0) (sp := fun w => spLaw (K w.params)) hn (by decide) hdf ⟨rfl, by decide, by decide⟩ hY F (fun _ _ a ns hl _ hS => ⟨a, ns, rfl, hS, hl, fun _ => rfl⟩) fun _ _ _ _ _ z => z
end KQ
open PySem PySem.W PyProof.Rows
set_option maxRecDepth 100000 in
set_option maxHeartbeats 0 in
theorem PySem.Challenge.cw_keptqubits_k00_errors_holds : PySem.Challenge.rw_keptqubits_k00_errors.Holds := by
  w_on; o_law; k_head; (case hw => w_witness2)
  k_fill
  refine KQ.walk (l := PySem.Challenge.rw_keptqubits_k00_errors) rfl rfl (fun w h Y => PySem.W.kIn_of Y) ?F
  case F =>
    intro w mg fa h KX G hmg
    refine' KQ.all_mk KX G hmg ?a0 ?a1 ?a2 ?a3 ?a4 ?a5 ?a6 ?a7 ?a8 ?a9 ?a10 ?a11 ?a12 ?a13 ?a14 ?a15 ?a16 ?a17 ?a18 ?a19 ?aK ?kc0 ?kc1 ?kc2 ?kc3 ?kc4 ?kc5 ?kc6 ?kc7 ?kc8 ?kc9 ?kc10 ?kc11 ?kc12 ?kc13 ?kc14 ?kc15 ?kc16 ?kc17 ?kc18 ?kc19 ?ic0 ?ti0 ?n0_0 ?n0_1 ?F0 ?ic1 ?ti1 ?n1_0 ?n1_1 ?F1 ?ic2 ?ti2 ?n2_0 ?F2 ?ic3 ?ti3 ?n3_0 ?F3 ?ic4 ?ti4 ?n4_0 ?F4 ?ic5 ?ti5 ?n5_0 ?n5_1 ?n5_2 ?F5 ?ic6 ?ti6 ?n6_0 ?n6_1 ?F6 ?ic7 ?ti7 ?n7_0 ?F7 ?ic8 ?ti8 ?n8_0 ?F8 ?ic9 ?ti9 ?n9_0 ?F9 ?ic10 ?ti10 ?n10_0 ?F10 ?ex11 ?ex12 ?ex13 ?ex14 ?ic15 ?ti15 ?n15_0 ?F15 ?ic16 ?ti16 ?n16_0 ?F16 ?ic17 ?ti17 ?n17_0 ?n17_1 ?F17 ?ex18 ?ex19 ?hn ?ht ?tK ?dK ?gPn ?FPn ?gDr ?FDr ?gPk ?FPk ?gKi ?FKi ?gMa ?FMa ?gLa ?FLa ?z_isinstance ?z_int ?z_list ?z_len ?z_enumerate ?z_range ?z_ValueError ?nd ?nk
    (case a0 => k_is)
    (case a1 => k_is)
    (case a2 => k_is)
    (case a3 => k_is)
    (case a4 => k_is)
    (case a5 => k_is)
    (case a6 => k_is)
    (case a7 => k_is)
    (case a8 => k_is)
    (case a9 => k_is)
    (case a10 => k_is)
    (case a11 => k_is)
    (case a12 => k_is)
    (case a13 => k_is)
    (case a14 => k_is)
    (case a15 => k_is)
    (case a16 => k_is)
    (case a17 => k_is)
    (case a18 => k_is)
    (case a19 => k_is)
    (case aK => k_is)
    (case kc0 => refine' KQ.KC.of ?l ?sa ?ty ?kp ?hg ?hk ?ha; (case l => k_is); (case sa => k_is); (case ty => k_is); (case kp => k_is); (case hg => k_is); (case hk => k_is); (case ha => k_is))
    (case kc1 => refine' KQ.KC.of ?l ?sa ?ty ?kp ?hg ?hk ?ha; (case l => k_is); (case sa => k_is); (case ty => k_is); (case kp => k_is); (case hg => k_is); (case hk => k_is); (case ha => k_is))
    (case kc2 => refine' KQ.KC.of ?l ?sa ?ty ?kp ?hg ?hk ?ha; (case l => k_is); (case sa => k_is); (case ty => k_is); (case kp => k_is); (case hg => k_is); (case hk => k_is); (case ha => k_is))
    (case kc3 => refine' KQ.KC.of ?l ?sa ?ty ?kp ?hg ?hk ?ha; (case l => k_is); (case sa => k_is); (case ty => k_is); (case kp => k_is); (case hg => k_is); (case hk => k_is); (case ha => k_is))
    (case kc4 => refine' KQ.KC.of ?l ?sa ?ty ?kp ?hg ?hk ?ha; (case l => k_is); (case sa => k_is); (case ty => k_is); (case kp => k_is); (case hg => k_is); (case hk => k_is); (case ha => k_is))
    (case kc5 => refine' KQ.KC.of ?l ?sa ?ty ?kp ?hg ?hk ?ha; (case l => k_is); (case sa => k_is); (case ty => k_is); (case kp => k_is); (case hg => k_is); (case hk => k_is); (case ha => k_is))
    (case kc6 => refine' KQ.KC.of ?l ?sa ?ty ?kp ?hg ?hk ?ha; (case l => k_is); (case sa => k_is); (case ty => k_is); (case kp => k_is); (case hg => k_is); (case hk => k_is); (case ha => k_is))
    (case kc7 => refine' KQ.KC.of ?l ?sa ?ty ?kp ?hg ?hk ?ha; (case l => k_is); (case sa => k_is); (case ty => k_is); (case kp => k_is); (case hg => k_is); (case hk => k_is); (case ha => k_is))
    (case kc8 => refine' KQ.KC.of ?l ?sa ?ty ?kp ?hg ?hk ?ha; (case l => k_is); (case sa => k_is); (case ty => k_is); (case kp => k_is); (case hg => k_is); (case hk => k_is); (case ha => k_is))
    (case kc9 => refine' KQ.KC.of ?l ?sa ?ty ?kp ?hg ?hk ?ha; (case l => k_is); (case sa => k_is); (case ty => k_is); (case kp => k_is); (case hg => k_is); (case hk => k_is); (case ha => k_is))
    (case kc10 => refine' KQ.KC.of ?l ?sa ?ty ?kp ?hg ?hk ?ha; (case l => k_is); (case sa => k_is); (case ty => k_is); (case kp => k_is); (case hg => k_is); (case hk => k_is); (case ha => k_is))
    (case kc11 => refine' KQ.KC.of ?l ?sa ?ty ?kp ?hg ?hk ?ha; (case l => k_is); (case sa => k_is); (case ty => k_is); (case kp => k_is); (case hg => k_is); (case hk => k_is); (case ha => k_is))
    (case kc12 => refine' KQ.KC.of ?l ?sa ?ty ?kp ?hg ?hk ?ha; (case l => k_is); (case sa => k_is); (case ty => k_is); (case kp => k_is); (case hg => k_is); (case hk => k_is); (case ha => k_is))
    (case kc13 => refine' KQ.KC.of ?l ?sa ?ty ?kp ?hg ?hk ?ha; (case l => k_is); (case sa => k_is); (case ty => k_is); (case kp => k_is); (case hg => k_is); (case hk => k_is); (case ha => k_is))
    (case kc14 => refine' KQ.KC.of ?l ?sa ?ty ?kp ?hg ?hk ?ha; (case l => k_is); (case sa => k_is); (case ty => k_is); (case kp => k_is); (case hg => k_is); (case hk => k_is); (case ha => k_is))
    (case kc15 => refine' KQ.KC.of ?l ?sa ?ty ?kp ?hg ?hk ?ha; (case l => k_is); (case sa => k_is); (case ty => k_is); (case kp => k_is); (case hg => k_is); (case hk => k_is); (case ha => k_is))
    (case kc16 => refine' KQ.KC.of ?l ?sa ?ty ?kp ?hg ?hk ?ha; (case l => k_is); (case sa => k_is); (case ty => k_is); (case kp => k_is); (case hg => k_is); (case hk => k_is); (case ha => k_is))
    (case kc17 => refine' KQ.KC.of ?l ?sa ?ty ?kp ?hg ?hk ?ha; (case l => k_is); (case sa => k_is); (case ty => k_is); (case kp => k_is); (case hg => k_is); (case hk => k_is); (case ha => k_is))
    (case kc18 => refine' KQ.KC.of ?l ?sa ?ty ?kp ?hg ?hk ?ha; (case l => k_is); (case sa => k_is); (case ty => k_is); (case kp => k_is); (case hg => k_is); (case hk => k_is); (case ha => k_is))
    (case kc19 => refine' KQ.KC.of ?l ?sa ?ty ?kp ?hg ?hk ?ha; (case l => k_is); (case sa => k_is); (case ty => k_is); (case kp => k_is); (case hg => k_is); (case hk => k_is); (case ha => k_is))
    (case ic0 => k_is)
    (case ti0 => k_is)
    (case n0_0 => k_is)
    (case n0_1 => k_is)
    (case F0 => refine' KQ.fun_ex ?l ?c ?k; (case l => k_is); (case c => k_is); (case k => k_is))
    (case ic1 => k_is)
    (case ti1 => k_is)
    (case n1_0 => k_is)
    (case n1_1 => k_is)
    (case F1 => refine' KQ.fun_ex ?l ?c ?k; (case l => k_is); (case c => k_is); (case k => k_is))
    (case ic2 => k_is)
    (case ti2 => k_is)
    (case n2_0 => k_is)
    (case F2 => refine' KQ.fun_ex ?l ?c ?k; (case l => k_is); (case c => k_is); (case k => k_is))
    (case ic3 => k_is)
    (case ti3 => k_is)
    (case n3_0 => k_is)
    (case F3 => refine' KQ.fun_ex ?l ?c ?k; (case l => k_is); (case c => k_is); (case k => k_is))
    (case ic4 => k_is)
    (case ti4 => k_is)
    (case n4_0 => k_is)
    (case F4 => refine' KQ.fun_ex ?l ?c ?k; (case l => k_is); (case c => k_is); (case k => k_is))
    (case ic5 => k_is)
    (case ti5 => k_is)
    (case n5_0 => k_is)
    (case n5_1 => k_is)
    (case n5_2 => k_is)
    (case F5 => refine' KQ.fun_ex ?l ?c ?k; (case l => k_is); (case c => k_is); (case k => k_is))
    (case ic6 => k_is)
    (case ti6 => k_is)
    (case n6_0 => k_is)
    (case n6_1 => k_is)
    (case F6 => refine' KQ.fun_ex ?l ?c ?k; (case l => k_is); (case c => k_is); (case k => k_is))
    (case ic7 => k_is)
    (case ti7 => k_is)
    (case n7_0 => k_is)
    (case F7 => refine' KQ.fun_ex ?l ?c ?k; (case l => k_is); (case c => k_is); (case k => k_is))
    (case ic8 => k_is)
    (case ti8 => k_is)
    (case n8_0 => k_is)
    (case F8 => refine' KQ.fun_ex ?l ?c ?k; (case l => k_is); (case c => k_is); (case k => k_is))
    (case ic9 => k_is)
    (case ti9 => k_is)
    (case n9_0 => k_is)
    (case F9 => refine' KQ.fun_ex ?l ?c ?k; (case l => k_is); (case c => k_is); (case k => k_is))
    (case ic10 => k_is)
    (case ti10 => k_is)
    (case n10_0 => k_is)
    (case F10 => refine' KQ.fun_ex ?l ?c ?k; (case l => k_is); (case c => k_is); (case k => k_is))
    (case ex11 => k_exc)
    (case ex12 => k_exc)
    (case ex13 => k_exc)
    (case ex14 => k_exc)
    (case ic15 => k_is)
    (case ti15 => k_is)
    (case n15_0 => k_is)
    (case F15 => refine' KQ.fun_ex ?l ?c ?k; (case l => k_is); (case c => k_is); (case k => k_is))
    (case ic16 => k_is)
    (case ti16 => k_is)
    (case n16_0 => k_is)
    (case F16 => refine' KQ.fun_ex ?l ?c ?k; (case l => k_is); (case c => k_is); (case k => k_is))
    (case ic17 => k_is)
    (case ti17 => k_is)
    (case n17_0 => k_is)
    (case n17_1 => k_is)
    (case F17 => refine' KQ.fun_ex ?l ?c ?k; (case l => k_is); (case c => k_is); (case k => k_is))
    (case ex18 => k_exc)
    (case ex19 => k_exc)
    (case hn => k_is)
    (case ht => k_is)
    (case tK => k_is)
    (case dK => k_is)
    (case gPn => k_is)
    (case FPn => refine' KQ.fun_ex ?l ?c ?k; (case l => k_is); (case c => k_is); (case k => k_is))
    (case gDr => k_is)
    (case FDr => refine' KQ.fun_ex ?l ?c ?k; (case l => k_is); (case c => k_is); (case k => k_is))
    (case gPk => k_is)
    (case FPk => refine' KQ.fun_ex ?l ?c ?k; (case l => k_is); (case c => k_is); (case k => k_is))
    (case gKi => k_is)
    (case FKi => refine' KQ.fun_ex ?l ?c ?k; (case l => k_is); (case c => k_is); (case k => k_is))
    (case gMa => k_is)
    (case FMa => refine' KQ.fun_ex ?l ?c ?k; (case l => k_is); (case c => k_is); (case k => k_is))
    (case gLa => k_is)
    (case FLa => refine' KQ.fun_ex ?l ?c ?k; (case l => k_is); (case c => k_is); (case k => k_is))
    (case z_isinstance => k_is)
    (case z_int => k_is)
    (case z_list => k_is)
    (case z_len => k_is)
    (case z_enumerate => k_is)
    (case z_range => k_is)
    (case z_ValueError => k_is)
    (case nd => decide)
    (case nk => decide)
