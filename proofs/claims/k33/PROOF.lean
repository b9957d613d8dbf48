import PyProof.Rows.All
import Wide.All
import OpenK.AllK
import Wide.FinOn
import HandS.ForMost
import HandS.Wide
import HandS.Codes
import HandS.Base
import HandS.Call
import HandS.List
import HandS.Text
import HandS.StrMore
import PyProof.Rows.StrStrike
import PyProof.Rows.StrCountLaw
import HandS.Strs
import HandS.Replace
import HandS.ReplaceLit
import HandS.Comp
import HandS.IsInst
import HandS.ExcInit
import HandS.ExcField
import HandS.WordsExc
import HandS.Style
import HandS.DeepEq
import HandS.CallLocal
import HandS.Lambda
import HandS.EndOwn
import HandS.Walk
import HandS.TryMany
import HandS.OwnEq
import HandS.ExcIs
import PyProof.ListStr
import HandS.Iter
import KE.GoesEnumKw
import KE.GoesEnum
import PyProof.Draws
import PyProof.Rows.CallKwBuiltin
import PyProof.Rows.CallKw2
import HandS.SortKw
import HandS.SetFor
import HandS.SetKeys
import PyProof.Rows.SetFrom
import PyProof.Rows.DictTallyStr
import HandS.DictComp
import HandS.Dict
import HandS.Conv
import HandS.Deep
import PyProof.StrOps2
import HandS.RaiseMore
import HandS.Exc
import PySem.Challenge.RW_keptqubits_k33_wrong_texts_of_sorts
set_option Elab.async false
set_option linter.all false
set_option maxRecDepth 100000
set_option maxHeartbeats 4000000
namespace KQ
open PySem PySem.Spec PyProof.Rows L2
/-! ### the text -/
def topS (i : Nat) : Stmt := PySem.Challenge.pw_keptqubits_k33_wrong_texts_of_sorts.main.body.getD i (.Pass ⟨0, 0, 0, 0⟩)
abbrev sPen : Stmt := topS 18
abbrev sDraw : Stmt := topS 19
abbrev sPick : Stmt := topS 20
theorem scPen : FnScope ["_law_script", "_law_fold", "_law_cell"] ["_law_script"] (defScope sPen) := ⟨rfl, rfl, rfl, by decide +kernel, rfl, by decide +kernel, by decide +kernel⟩
theorem scDraw : FnScope ["_law_pen_here", "_law_many", "_law_cell", "_law_digit", "_law_mixed"] ["_law_pen_here", "_law_many"] (defScope sDraw) := ⟨rfl, rfl, rfl, by decide +kernel, rfl, by decide +kernel, by decide +kernel⟩
theorem scPick : FnScope ["_law_pen_here", "_law_some"] ["_law_pen_here", "_law_some"] (defScope sPick) := ⟨rfl, rfl, rfl, by decide +kernel, rfl, by decide +kernel, by decide +kernel⟩
/-! ### the pen -/
theorem k12 : ¬ ("cells" : Str) = "at" := by decide +kernel
theorem k13 : ¬ ("cells" : Str) = "digits" := by decide +kernel
theorem k14 : ¬ ("cells" : Str) = "count" := by decide +kernel
theorem k15 : ¬ ("cells" : Str) = "fold" := by decide +kernel
theorem k21 : ¬ ("at" : Str) = "cells" := by decide +kernel
theorem k23 : ¬ ("at" : Str) = "digits" := by decide +kernel
theorem k24 : ¬ ("at" : Str) = "count" := by decide +kernel
theorem k25 : ¬ ("at" : Str) = "fold" := by decide +kernel
theorem k31 : ¬ ("digits" : Str) = "cells" := by decide +kernel
theorem k32 : ¬ ("digits" : Str) = "at" := by decide +kernel
theorem k34 : ¬ ("digits" : Str) = "count" := by decide +kernel
theorem k35 : ¬ ("digits" : Str) = "fold" := by decide +kernel
theorem k41 : ¬ ("count" : Str) = "cells" := by decide +kernel
theorem k42 : ¬ ("count" : Str) = "at" := by decide +kernel
theorem k43 : ¬ ("count" : Str) = "digits" := by decide +kernel
theorem k45 : ¬ ("count" : Str) = "fold" := by decide +kernel
theorem k51 : ¬ ("fold" : Str) = "cells" := by decide +kernel
theorem k52 : ¬ ("fold" : Str) = "at" := by decide +kernel
theorem k53 : ¬ ("fold" : Str) = "digits" := by decide +kernel
theorem k54 : ¬ ("fold" : Str) = "count" := by decide +kernel
def kvsP (c : Addr) (a d n f : Int) : List (Key × V) := [(.inr "cells", .ref c), (.inr "at", .int a), (.inr "digits", .int d), (.inr "count", .int n), (.inr "fold", .int f)]
section
variable (c : Addr) (a d n f z : Int)
theorem vCells : valV (kvsP c a d n f) (.inr "cells" : Key) = some (.ref c) := by simp [kvsP, valV, List.find?]
theorem vAt : valV (kvsP c a d n f) (.inr "at" : Key) = some (.int a) := by simp [kvsP, valV, List.find?, k12]
theorem vDigits : valV (kvsP c a d n f) (.inr "digits" : Key) = some (.int d) := by simp [kvsP, valV, List.find?, k13, k23]
theorem vCount : valV (kvsP c a d n f) (.inr "count" : Key) = some (.int n) := by simp [kvsP, valV, List.find?, k14, k24, k34]
theorem vFold : valV (kvsP c a d n f) (.inr "fold" : Key) = some (.int f) := by simp [kvsP, valV, List.find?, k15, k25, k35, k45]
theorem pAt : putK (kvsP c a d n f) (.inr "at" : Key) (.int z) = kvsP c z d n f := by simp [kvsP, putK, k12, k32, k42, k52]
theorem pDigits : putK (kvsP c a d n f) (.inr "digits" : Key) (.int z) = kvsP c a z n f := by simp [kvsP, putK, k13, k23, k43, k53]
theorem pCount : putK (kvsP c a d n f) (.inr "count" : Key) (.int z) = kvsP c a d z f := by simp [kvsP, putK, k14, k24, k34, k54]
theorem pFold : putK (kvsP c a d n f) (.inr "fold" : Key) (.int z) = kvsP c a d n z := by simp [kvsP, putK, k15, k25, k35, k45]
theorem mPen : mergeK [] [((.inr "cells" : Key), V.ref c), (.inr "at", .int a), (.inr "digits", .int d), (.inr "count", .int n), (.inr "fold", .int f)] = kvsP c a d n f := by
  simp [mergeK, kvsP, putK, k12, k13, k14, k15, k23, k24, k25, k34, k35, k45]
end
theorem getS {H : Hp} {a : Addr} {kvs : List (Key × V)} {x : Str} {v : V} (e : H a = some (.dK kvs)) (h : valV kvs (.inr x : Key) = some v) : DGet H a (.str x) (some v) := .inl ⟨kvs, .inr x, .inl e, rfl, h.symm⟩
theorem putS {H : Hp} {a : Addr} {kvs kvs' : List (Key × V)} {x : Str} {v : V} (e : H a = some (.dK kvs)) (hl : kvs.length < sizeLine) (h : putK kvs (.inr x : Key) v = kvs') : DPut H a (.str x) v (upd H a (.dK kvs')) := .inl ⟨kvs, .inr x, e, rfl, hl, by rw [h]⟩
theorem lenP {c : Addr} {a d n f : Int} : (kvsP c a d n f).length < sizeLine := small1000 (by show 5 ≤ 1000; decide)
/-- a pen stands at p, its cells at c, n draws so far -/
def PenAt (H : Hp) (p c : Addr) (n : Nat) : Prop := ∃ (ns : List Int) (a d f : Int), H p = some (.dK (kvsP c a d n f)) ∧ H c = some (.lst (ns.map V.int)) ∧ ns.length ≤ 63 ∧ 0 ≤ a ∧ 0 ≤ d ∧ 0 ≤ f ∧ f < 2147483587
theorem PenAt.ne {H : Hp} {p c : Addr} {n : Nat} (h : PenAt H p c n) : p ≠ c := by
  obtain ⟨ns, a, d, f, hp, hc, _⟩ := h
  exact ne_of hp hc (by intro z; cases z)
theorem PenAt.same {H H' : Hp} {p c : Addr} {n : Nat} (h : PenAt H p c n) (hp : H' p = H p) (hc : H' c = H c) : PenAt H' p c n := by
  obtain ⟨ns, a, d, f, e1, e2, r⟩ := h
  exact ⟨ns, a, d, f, hp.trans e1, hc.trans e2, r⟩
theorem PenAt.some {H : Hp} {p c : Addr} {n : Nat} (h : PenAt H p c n) : (∃ o, H p = some o) ∧ ∃ o, H c = some o := by
  obtain ⟨ns, a, d, f, e1, e2, r⟩ := h
  exact ⟨⟨_, e1⟩, ⟨_, e2⟩⟩
theorem PenAt.ext {H H' : Hp} {p c : Addr} {n : Nat} (h : PenAt H p c n) (s : Same H H') : PenAt H' p c n := by
  obtain ⟨⟨o, e1⟩, o', e2⟩ := h.some
  exact h.same ((s _ _ e1).trans e1.symm) ((s _ _ e2).trans e2.symm)
theorem sqL_pen {K : PySem.W.Frag} {H H' : Hp} {p y : Addr} {xs : List V} {kv : List (Key × V)} (hk : ∀ b, b ≠ p → H' b = H b) (hp : H p = some (.dK kv)) (h : SqL K H y xs) : SqL K H' y xs := by
  rcases h with (h | ⟨ob, h⟩) | h
  · exact .inl (.inl ((hk y (ne_of h hp (by intro z; cases z))).trans h))
  · exact .inl (.inr ⟨ob, (hk y (ne_of h hp (by intro z; cases z))).trans h⟩)
  · exact .inr h
theorem sqT_pen {K : PySem.W.Frag} {H H' : Hp} {p y : Addr} {xs : List V} {kv : List (Key × V)} (hk : ∀ b, b ≠ p → H' b = H b) (hp : H p = some (.dK kv)) (h : SqT K H y xs) : SqT K H' y xs := by
  rcases h with (h | ⟨ob, h⟩) | h
  · exact .inl (.inl ((hk y (ne_of h hp (by intro z; cases z))).trans h))
  · exact .inl (.inr ⟨ob, (hk y (ne_of h hp (by intro z; cases z))).trans h⟩)
  · exact .inr h
theorem ix_or {X : Cx} {r1 r2 : R2} (h1 : IxR X r1) (h2 : IxR X r2) : IxR X (fun x y H Q => r1 x y H Q ∨ r2 x y H Q) := by
  intro val sl pins st σ G x y v u Q J rx ry h hs
  rcases h with h | h
  · exact h1 val sl pins st σ G x y v u Q J rx ry h hs
  · exact h2 val sl pins st σ G x y v u Q J rx ry h hs
def spPen (K : PySem.W.Frag) : Sp := fun vs H Q _ => ∃ (a : Addr) (ns : List Int), vs = [.ref a] ∧ SqL K H a (ns.map V.int) ∧ ns.length ≤ 63 ∧
  ∀ H' p c, Same H H' → H p = none → H c = none → PenAt H' p c 0 → Q (.ref p) H'
def spDraw : Sp := fun vs H Q _ => ∃ (p c : Addr) (n : Nat) (m : Int), vs = [.ref p, .int m] ∧ PenAt H p c n ∧ n < 1000000 ∧ 0 < m ∧ m.natAbs < 2 ^ 200 ∧
  ∀ (r : Int) H', 0 ≤ r → r < m → PenAt H' p c (n + 1) → (∀ b, b ≠ p → H' b = H b) → Q (.int r) H'
def spPick (K : PySem.W.Frag) : Sp := fun vs H Q _ => ∃ (p c q : Addr) (n : Nat) (xs : List V), vs = [.ref p, .ref q] ∧ PenAt H p c n ∧ n < 1000000 ∧ (SqL K H q xs ∨ SqT K H q xs) ∧ xs ≠ [] ∧ xs.length ≤ 1000 ∧
  ∀ (i : Nat) (v : V) H', xs[i]? = some v → PenAt H' p c (n + 1) → (∀ b, b ≠ p → H' b = H b) → Q v H'
section
variable {P : Program} {w : World} {K : PySem.W.Frag} {mg : Str → Option Value} {base : Heap}
theorem ok_pen {f : Addr} {fd : FuncData} {k : Nat} (F : Fun K "_law_pen" "_law_pen" sPen f fd) (mi : mg "int" = none) (ml : mg "list" = none) : FnOk P w K mg base CX0 (k + 1) f fd ["_law_script"] (spPen K) := by
  refine F.ok scPen (fun vs H Q E h => ?_) (fun cdv A outer s H vs Q E hr h => ?_)
  · obtain ⟨a, ns, rfl, _⟩ := h
    rfl
  · obtain ⟨a, ns, rfl, hS, hlen, q⟩ := h
    refine ⟨_, pss_cons (ps_set (i := 1) scPen.nd rfl (.inl rfl) pe_int)
      (pss_cons (ps_for PassesOwn.never rfl (pi_list (pv 0)) (pg_name (i := 2) scPen.nd rfl (.inl rfl))
        (pss_one (ps_set (i := 1) scPen.nd rfl (.inl rfl) (pe_op op_mod (pe_callTy call_int1 (by rfl) mi (by decide +kernel) (pa_cons (pe_op op_add (pe_op op_mul (pv 1) pe_int) (pv 2)) pa_nil)) pe_int))))
      (pss_one (ps_ret (pe_disp (pps_cons pe_str (pe_callTy call_list_of (by rfl) ml (by decide +kernel) (pa_cons (pv 0) pa_nil)) (pps_cons pe_str pe_int (pps_cons pe_str pe_int (pps_cons pe_str pe_int (pps_cons pe_str (pv 1) pps_nil))))) (by rfl) (by rfl) (fun z => by cases z) (by decide))))), ?_⟩
    refine ⟨_, rfl, a, rfl, ⟨_, hS⟩, for_list (K := K) (a := a) (xs := ns.map V.int) (fun i σ H2 => ∃ (g : Int) (v : Option V), σ = [some (.ref a), some (.int g), v] ∧ H2 = H ∧ 0 ≤ g ∧ g < 1000000007)
      ⟨0, none, rfl, rfl, by decide, by decide⟩ (fun i σ H2 _ ⟨_, _, _, e, _⟩ => by rw [e]; exact hS) ?_ ?_⟩
    · rintro i y σ H2 hi ⟨g, v, rfl, rfl, h0, h1⟩
      obtain ⟨z, rfl⟩ : ∃ z, y = V.int z := by
        rw [List.getElem?_map] at hi
        cases e : ns[i]? with
        | none => rw [e] at hi; cases hi
        | some z => rw [e] at hi; exact ⟨z, (Option.some.inj hi).symm⟩
      refine ⟨_, rfl, _, _, rfl, rfl, .inr ⟨by decide, by decide⟩, _, rfl, _, _, rfl, rfl, .inl ⟨_, rfl, _, _, rfl, rfl, (by show (0 : Int) < 1000000007; decide), ?_⟩⟩
      exact ⟨_, _, rfl, rfl, Int.emod_nonneg _ (by decide), Int.emod_lt_of_pos _ (by decide)⟩
    · rintro σ H2 ⟨g, v, rfl, rfl, h0, h1⟩
      intro p np
      refine ⟨.ref a, rfl, a, ns.map V.int, rfl, .inl ?_, fun c nc => ?_⟩
      · exact Same.seq (H := H2) (fun b o e => by rw [upd_ne (ne_of_none e np)]; exact e) hS
      have ncp : c ≠ p := fun e => by rw [e, upd_same] at nc; cases nc
      have nc2 : H2 c = none := by rw [upd_ne ncp] at nc; exact nc
      refine ⟨_, rfl, ?_⟩
      refine ⟨by rw [upd_ne ncp.symm, upd_same], [((.inr "cells" : Key), V.ref c), (.inr "at", .int 0), (.inr "digits", .int 0), (.inr "count", .int 0), (.inr "fold", .int g)], rfl, (by show 5 ≤ 15; decide), ?_⟩
      rw [mPen]
      refine q _ p c (fun b o e => ?_) np nc2 ⟨ns, 0, 0, g, upd_same, ?_, hlen, by decide, by decide, h0, by omega⟩
      · rw [upd_ne (ne_of_none e np), upd_ne (ne_of_none e nc2), upd_ne (ne_of_none e np)]
        exact e
      · rw [upd_ne ncp, upd_same]
theorem ok_draw {f : Addr} {fd : FuncData} {k : Nat} (F : Fun K "_law_draw" "_law_draw" sDraw f fd) (mi : mg "int" = none) (ml : mg "len" = none) : FnOk P w K mg base CX0 (k + 1) f fd ["_law_pen_here", "_law_many"] spDraw := by
  refine F.ok scDraw (fun vs H Q E h => ?_) (fun cdv A outer s H vs Q E hr h => ?_)
  · obtain ⟨p, c, n, m, rfl, _⟩ := h
    rfl
  · obtain ⟨p, c, n, m, rfl, hP, hn, hm, hm9, q⟩ := h
    have hu := hu_of hr
    have hpc := hP.ne
    obtain ⟨ns, a0, d0, f0, hp, hc, hlen, ha, hd, hf0, hf1⟩ := hP
    refine ⟨_, pss_cons (ps_dput hu (pv 0) pe_str (pe_op op_add (pe_dget hu (pv 0) pe_str (fun _ _ => rfl)) pe_int) rfl)
      (C8.pss_cut (ps_if (pw_and (pt_cmpR op_eq (pe_dget hu (pv 0) pe_str (fun _ _ => rfl)) pe_int (nomark _))
            (pw_and1 (pt_cmpR op_lt (pe_dget hu (pv 0) pe_str (fun _ _ => rfl)) (pe_callB call_len_seq (by rfl) ml PySem.boot_len (pa_cons (pe_dget hu (pv 0) pe_str (fun _ _ => rfl)) pa_nil)) (nomark _)))).pt
          (pss_cons (ps_set (i := 2) scDraw.nd rfl (.inl rfl) (pe_ix ix_list (pe_dget hu (pv 0) pe_str (fun _ _ => rfl)) (pe_dget hu (pv 0) pe_str (fun _ _ => rfl)) (fun _ _ => rfl)))
          (pss_cons (ps_dput hu (pv 0) pe_str (pe_op op_add (pe_dget hu (pv 0) pe_str (fun _ _ => rfl)) pe_int) rfl)
          (pss_one (ps_if (pt_cmpR op_ge (pv 2) (pe_op op_pow pe_int pe_int) (nomark _))
            (pss_one (ps_dput hu (pv 0) pe_str (pe_op op_sub (pv 2) (pe_op op_pow pe_int pe_int)) rfl))
            (pss_one (ps_dput hu (pv 0) pe_str (pe_op op_mod (pe_callTy call_int1 (by rfl) mi (by decide +kernel) (pa_cons (pe_op op_add (pe_op op_mul (pe_dget hu (pv 0) pe_str (fun _ _ => rfl)) pe_int) (pv 2)) pa_nil)) pe_int) rfl))))))
          pss_nil)
      (pss_cons (ps_if (pt_cmpR op_gt (pe_dget hu (pv 0) pe_str (fun _ _ => rfl)) pe_int (nomark _))
          (pss_cons (ps_set (i := 3) scDraw.nd rfl (.inl rfl) (pe_op op_mod (pe_callTy call_int1 (by rfl) mi (by decide +kernel) (pa_cons (pe_dget hu (pv 0) pe_str (fun _ _ => rfl)) pa_nil)) (pv 1)))
          (pss_cons (ps_dput hu (pv 0) pe_str (pe_op op_fdivW (pe_dget hu (pv 0) pe_str (fun _ _ => rfl)) (pv 1)) rfl)
          (pss_one (ps_ret (pv 3)))))
          pss_nil)
      (pss_cons (ps_set (i := 4) scDraw.nd rfl (.inl rfl) (pe_op op_add (pe_op op_add (pe_dget hu (pv 0) pe_str (fun _ _ => rfl)) (pe_op op_mul (pe_dget hu (pv 0) pe_str (fun _ _ => rfl)) pe_int)) pe_int))
      (pss_one (ps_ret (pe_op op_mod (pe_op op_fdivW (pe_callTy call_int1 (by rfl) mi (by decide +kernel) (pa_cons (pe_op op_mod (pe_op op_pow (pv 4) pe_int) pe_int) pa_nil)) pe_int) (pv 1))))))), ?_⟩
    -- count
    refine ⟨_, rfl, p, _, rfl, getS hp (vCount ..), _, _, rfl, rfl, _, rfl, p, _, rfl, putS hp lenP (pCount ..), ?_⟩
    have up : ∀ {o : HO}, (upd H p o) p = some o := fun {o} => upd_same
    have uc : ∀ {o : HO}, (upd H p o) c = some (.lst (ns.map V.int)) := fun {o} => by rw [upd_ne hpc.symm]; exact hc
    -- the cell
    refine ⟨fun σ' H' => ∃ (a d g : Int) (v2 : Option V), σ' = [some (.ref p), some (.int m), v2, none, none] ∧ H' = upd H p (.dK (kvsP c a d ((n : Int) + 1) g)) ∧ 0 ≤ a ∧ 0 ≤ d ∧ 0 ≤ g ∧ g < 2147483587, ?_, ?_⟩
    · refine ⟨_, rfl, p, _, rfl, getS up (vDigits ..), rfl, _, rfl, ite2 (fun e1 => ?_) (fun e1 => ?_)⟩
      · refine ⟨_, rfl, p, _, rfl, getS up (vAt ..), _, rfl, p, _, rfl, getS up (vCells ..), c, _, rfl, .inl (SqL.of uc), _, _, rfl, rfl, _, rfl, ite2 (fun e2 => ?_) (fun e2 => ?_)⟩
        · have e2' : a0 < (ns.length : Int) := by
            have z := of_decide_eq_true e2
            rw [List.length_map] at z
            exact z
          have hat : (ns.map V.int)[a0.toNat]? = some (V.int (ns[a0.toNat]'(by omega))) := by
            rw [List.getElem?_map, List.getElem?_eq_getElem (by omega)]
            rfl
          refine ⟨_, rfl, p, _, rfl, getS up (vCells ..), _, rfl, p, _, rfl, getS up (vAt ..), c, _, _, _, rfl, rfl, SqL.of uc, at_of (by omega) hat, ?_⟩
          refine ⟨_, rfl, p, _, rfl, getS up (vAt ..), _, _, rfl, rfl, _, rfl, p, _, rfl, putS up lenP (pAt ..), ?_⟩
          rw [upd_upd]
          refine ⟨_, rfl, _, _, rfl, rfl, ⟨by decide, by decide, by decide⟩, _, _, rfl, rfl, _, rfl, ite2 (fun e3 => ?_) (fun e3 => ?_)⟩
          · refine ⟨_, rfl, _, _, rfl, rfl, ⟨by decide, by decide, by decide⟩, _, _, rfl, rfl, _, rfl, p, _, rfl, putS up lenP (pDigits ..), ?_⟩
            rw [upd_upd]
            have e3' := of_decide_eq_true e3
            exact ⟨_, _, _, _, rfl, rfl, by omega, by omega, hf0, hf1⟩
          · refine ⟨_, rfl, p, _, rfl, getS up (vFold ..), _, _, rfl, rfl, .inr ⟨by decide, by decide⟩, _, rfl, _, _, rfl, rfl, .inl ⟨_, rfl, _, _, rfl, rfl, (by show (0 : Int) < 2147483587; decide), _, rfl, p, _, rfl, putS up lenP (pFold ..), ?_⟩⟩
            rw [upd_upd]
            exact ⟨_, _, _, _, rfl, rfl, by omega, hd, Int.emod_nonneg _ (by decide), Int.emod_lt_of_pos _ (by decide)⟩
        · exact ⟨_, _, _, _, rfl, rfl, ha, hd, hf0, hf1⟩
      · refine iteF ?_
        exact ⟨_, _, _, _, rfl, rfl, ha, hd, hf0, hf1⟩
    · rintro σ' H' ⟨a, d, g, v2, rfl, rfl, ha', hd', hg0, hg1⟩
      have fin : ∀ (r a d g : Int), 0 ≤ r → r < m → 0 ≤ a → 0 ≤ d → 0 ≤ g → g < 2147483587 → Q (.int r) (upd H p (.dK (kvsP c a d ((n : Int) + 1) g))) := fun r a d g r0 r1 a0 d0 g0 g1 =>
        q r _ r0 r1 ⟨ns, a, d, g, up, uc, hlen, a0, d0, g0, g1⟩ fun b hb => upd_ne hb
      refine ⟨_, rfl, p, _, rfl, getS up (vDigits ..), _, _, rfl, rfl, _, rfl, ite2 (fun e1 => ?_) (fun e1 => ?_)⟩
      · refine ⟨_, rfl, p, _, rfl, getS up (vDigits ..), .inl ⟨_, rfl, _, rfl, _, _, rfl, rfl, hm, ?_⟩⟩
        refine ⟨_, rfl, p, _, rfl, getS up (vDigits ..), _, rfl, _, _, rfl, rfl, wide_div hm hm9 (by decide) (by decide), _, rfl, p, _, rfl, putS up lenP (pDigits ..), ?_⟩
        rw [upd_upd]
        refine ⟨_, rfl, ?_⟩
        exact fin _ _ _ _ (Int.emod_nonneg _ (by omega)) (Int.emod_lt_of_pos _ hm) ha' (Int.ediv_nonneg hd' (by omega)) hg0 hg1
      · refine ⟨_, rfl, p, _, rfl, getS up (vFold ..), _, rfl, p, _, rfl, getS up (vCount ..), _, _, rfl, rfl, .inr ⟨by decide, by decide⟩, _, _, rfl, rfl, _, _, rfl, rfl, ?_⟩
        refine ⟨_, rfl, _, _, rfl, rfl, ⟨by decide, by decide, ?_⟩, _, _, rfl, rfl, (by show (0 : Int) < 2305843009213693951; decide), .inl ⟨_, rfl, _, _, rfl, rfl, wide_div (b := 200) (by decide) (by decide) (by decide) (by decide), _, rfl, _, _, rfl, rfl, hm, ?_⟩⟩
        · omega
        · exact fin _ _ _ _ (Int.emod_nonneg _ (by omega)) (Int.emod_lt_of_pos _ hm) ha' hd' hg0 hg1
theorem ok_pick {f fD : Addr} {fd fdD : FuncData} {k : Nat} (F : Fun K "_law_pick" "_law_pick" sPick f fd) (FD : Fun K "_law_draw" "_law_draw" sDraw fD fdD) (bD : Binds K fdD ["_law_pen_here", "_law_many"] []) (gD : mg "_law_draw" = some (.ref fD)) (mi : mg "int" = none) (ml : mg "len" = none) :
    FnOk P w K mg base CX0 (k + 2) f fd ["_law_pen_here", "_law_some"] (spPick K) := by
  have GD : FnOk P w K mg base CX0 (k + 1) fD fdD ["_law_pen_here", "_law_many"] spDraw := ok_draw FD mi ml
  refine F.ok scPick (fun vs H Q E h => ?_) (fun cdv A outer s H vs Q E hr h => ?_)
  · obtain ⟨p, c, y, n, xs, rfl, _⟩ := h
    rfl
  · obtain ⟨p, c, y, n, xs, rfl, hP, hn, hS, h0, hl, q⟩ := h
    refine ⟨_, pss_one (ps_ret (pe_ix (ix_or ix_list ix_tup) (pv 1) (pe_call GD hr (by rfl) gD FD.kp bD .nil pass0 (pa_cons (pv 0) (pa_cons (pe_callB call_len_seq (by rfl) ml PySem.boot_len (pa_cons (pv 1) pa_nil)) pa_nil))) (fun _ _ => rfl))), ?_⟩
    have hpos : 0 < xs.length := List.length_pos_iff.mpr h0
    refine ⟨_, rfl, _, rfl, _, rfl, y, xs, rfl, hS, p, c, n, _, rfl, hP, hn, by omega, ?_, fun r H' r0 r1 hP' hk => ?_⟩
    · have e : (xs.length : Int).natAbs = xs.length := by omega
      rw [e]
      exact Nat.lt_of_le_of_lt hl (by decide)
    · obtain ⟨j, rfl⟩ : ∃ j : Nat, r = (j : Int) := ⟨r.toNat, by omega⟩
      have hj : j < xs.length := by omega
      have hx : xs[j]? = some xs[j] := List.getElem?_eq_getElem hj
      obtain ⟨ns, a0, d0, f0, ep, _⟩ := hP
      rcases hS with hS | hS
      · exact .inl ⟨y, xs, _, _, rfl, rfl, sqL_pen hk ep hS, atI_nat hx, q j _ H' hx hP' hk⟩
      · exact .inr ⟨y, xs, _, _, rfl, rfl, sqT_pen hk ep hS, atI_nat hx, q j _ H' hx hP' hk⟩
end
end KQ

namespace KQ
open PySem PySem.Spec PyProof.Rows L2
/-! ### texts as lists of signs -/
abbrev mS (L : List Nat) : Str := ⟨L.toArray⟩
theorem mS_len (L : List Nat) : (mS L).length = L.length := by simp [Str.length]
theorem mS_inj {L M : List Nat} (h : mS L = mS M) : L = M := by
  have := congrArg (fun x : Str => x.cps.toList) h
  simpa using this
theorem mS_app (L M : List Nat) : mS L ++ mS M = mS (L ++ M) := by
  show Str.mk (L.toArray ++ M.toArray) = _
  simp
theorem mS_eta (x : Str) : x = mS x.cps.toList := by
  show x = Str.mk x.cps.toList.toArray
  simp
theorem mS_of {x : Str} {L : List Nat} (h : x.cps.toList = L) : x = mS L := by rw [mS_eta x, h]
theorem mS_cut (L : List Nat) (lo hi : Option Int) : cutS (mS L) lo hi = mS ((L.drop (HT.sIx L.length 0 lo)).take (HT.sIx L.length L.length hi - HT.sIx L.length 0 lo)) := by
  unfold cutS
  rw [mS_len]
theorem cut_from (L : List Nat) (k : Nat) : cutS (mS L) (some (k : Int)) none = mS (L.drop k) := by
  rw [mS_cut, HT.sIx_nat, HT.sIx_none]
  by_cases h : k ≤ L.length
  · rw [Nat.min_eq_left h, List.take_of_length_le (by simp)]
  · rw [Nat.min_eq_right (by omega), List.drop_of_length_le (Nat.le_refl _), List.drop_of_length_le (by omega)]
    simp
theorem cut_to (L : List Nat) (k : Nat) : cutS (mS L) none (some (k : Int)) = mS (L.take k) := by
  rw [mS_cut, HT.sIx_nat, HT.sIx_none, List.drop_zero, Nat.sub_zero]
  by_cases h : k ≤ L.length
  · rw [Nat.min_eq_left h]
  · rw [Nat.min_eq_right (by omega), List.take_of_length_le (Nat.le_refl _), List.take_of_length_le (by omega)]
theorem cut_mid (L : List Nat) (k : Nat) : cutS (mS L) (some (k : Int)) (some ((k : Int) + 1)) = mS (L.drop k |>.take 1) := by
  have e : ((k : Int) + 1) = ((k + 1 : Nat) : Int) := by omega
  rw [e, mS_cut, HT.sIx_nat, HT.sIx_nat]
  by_cases h : k + 1 ≤ L.length
  · rw [Nat.min_eq_left h, Nat.min_eq_left (by omega)]
    congr 2
    omega
  · rw [Nat.min_eq_right (by omega), Nat.min_eq_right (by omega), List.drop_of_length_le (Nat.le_refl _), List.drop_of_length_le (by omega)]
    simp
theorem sw_one (L : List Nat) (c : Nat) : Txt.startswith (mS L) ⟨#[c]⟩ = decide (L.head? = some c) := by
  cases L with
  | nil => rfl
  | cons a L =>
    unfold Txt.startswith Builtin.Str.subAt
    show (decide (0 + 1 ≤ (mS (a :: L)).length) && ((a :: L).toArray.extract 0 (0 + 1) == #[c])) = _
    rw [mS_len]
    by_cases h : a = c
    · subst h
      simp
    · have : ¬ (some a = some c) := fun e => h (Option.some.inj e)
      simp [h]
theorem drop_take {p : Nat → Bool} (L : List Nat) : L.drop (L.takeWhile p).length = L.dropWhile p := by
  have h := List.takeWhile_append_dropWhile (p := p) (l := L)
  have h2 : (L.takeWhile p ++ L.dropWhile p).drop (L.takeWhile p).length = L.dropWhile p := List.drop_left
  rw [h] at h2
  exact h2
theorem lstrip_eq (L S : List Nat) : Txt.lstripChars (mS L) (mS S) = mS (L.dropWhile S.toArray.contains) := by
  have key : Builtin.Str.strSub (mS L) (L.takeWhile S.toArray.contains).length L.length = mS (L.dropWhile S.toArray.contains) := by
    refine mS_of ?_
    rw [PySem.StrLaws.strSub_toList]
    show ((L.drop _).take _) = _
    rw [drop_take, List.take_of_length_le]
    have h := congrArg List.length (List.takeWhile_append_dropWhile (p := S.toArray.contains) (l := L))
    rw [List.length_append] at h
    omega
  unfold Txt.lstripChars Txt.stripBy
  split
  · rename_i h
    have h0 : (L.takeWhile S.toArray.contains).length = 0 := by
      exact eq_of_beq ((Bool.and_eq_true _ _).mp h).1
    rw [← drop_take, h0, List.drop_zero]
  · show Builtin.Str.strSub (mS L) _ (mS L).length = _
    rw [mS_len]
    exact key
theorem strike (L : List Nat) (c : Nat) : Txt.replace (mS L) ⟨#[c]⟩ ⟨#[]⟩ = mS (L.filter (· != c)) := mS_of (by rw [replace_strikes])
/-! ### the letters and their bits -/
def isL (c : Nat) : Bool := (#[73, 88, 89, 90] : Array Nat).contains c
theorem isL_iff {c : Nat} : isL c = true ↔ c = 73 ∨ c = 88 ∨ c = 89 ∨ c = 90 := by
  unfold isL
  simp
def lx (c : Nat) : Nat := if c = 88 ∨ c = 89 then 1 else 0
def lz (c : Nat) : Nat := if c = 90 ∨ c = 89 then 1 else 0
def bv (f : Nat → Nat) : List Nat → Nat
  | [] => 0
  | c :: L => f c + 2 * bv f L
theorem bv_app (f : Nat → Nat) : ∀ (L : List Nat) (c : Nat), bv f (L ++ [c]) = bv f L + 2 ^ L.length * f c
  | [], c => by simp [bv]
  | a :: L, c => by
    show f a + 2 * bv f (L ++ [c]) = f a + 2 * bv f L + 2 ^ (L.length + 1) * f c
    rw [bv_app f L c, Nat.pow_succ, Nat.mul_add, Nat.add_assoc, Nat.mul_comm (2 ^ L.length) 2, Nat.mul_assoc]
theorem bv_take (f : Nat → Nat) {L : List Nat} {k c : Nat} (h : L[k]? = some c) : bv f (L.take (k + 1)) = bv f (L.take k) + 2 ^ k * f c := by
  have hk : k < L.length := by
    rcases Nat.lt_or_ge k L.length with h' | h'
    · exact h'
    · rw [List.getElem?_eq_none h'] at h; cases h
  have e : L.take (k + 1) = L.take k ++ [c] := by
    rw [List.take_succ, h]
    rfl
  rw [e, bv_app, List.length_take, Nat.min_eq_left (by omega)]
theorem bv_bit {f : Nat → Nat} (hf : ∀ c, f c < 2) : ∀ {L : List Nat} {k c : Nat}, L[k]? = some c → bv f L / 2 ^ k % 2 = f c
  | [], k, c, h => by simp at h
  | a :: L, 0, c, h => by
    have e : a = c := by simpa using h
    subst e
    have := hf a
    show (f a + 2 * bv f L) / 2 ^ 0 % 2 = f a
    rw [Nat.pow_zero, Nat.div_one]
    omega
  | a :: L, k + 1, c, h => by
    have h' : L[k]? = some c := by simpa using h
    have := hf a
    show (f a + 2 * bv f L) / 2 ^ (k + 1) % 2 = f c
    rw [Nat.pow_succ, Nat.mul_comm (2 ^ k) 2, ← Nat.div_div_eq_div_mul, show (f a + 2 * bv f L) / 2 = bv f L from by omega]
    exact bv_bit hf h'
theorem bv_lt {f : Nat → Nat} (hf : ∀ c, f c < 2) : ∀ L : List Nat, bv f L < 2 ^ L.length
  | [] => Nat.one_pos
  | a :: L => by
    have := bv_lt hf L
    have := hf a
    show f a + 2 * bv f L < 2 ^ (L.length + 1)
    rw [Nat.pow_succ]
    omega
theorem lx_lt (c : Nat) : lx c < 2 := by unfold lx; split <;> omega
theorem lz_lt (c : Nat) : lz c < 2 := by unfold lz; split <;> omega
theorem letter_back {c : Nat} (h : isL c = true) : ([73, 88, 90, 89] : List Nat)[lx c + 2 * lz c]? = some c := by
  rcases isL_iff.mp h with rfl | rfl | rfl | rfl <;> decide
/-! ### counting ones -/
def pc (n : Nat) : Nat := if h : n = 0 then 0 else n % 2 + pc (n / 2)
termination_by n
decreasing_by omega
theorem pc_zero : pc 0 = 0 := by unfold pc; rfl
theorem pc_two (m b : Nat) (hb : b < 2) : pc (2 * m + b) = b + pc m := by
  by_cases h : 2 * m + b = 0
  · have h1 : m = 0 := by omega
    have h2 : b = 0 := by omega
    subst h1 h2
    rw [pc_zero]
  · rw [pc, dif_neg h, show (2 * m + b) % 2 = b from by omega, show (2 * m + b) / 2 = m from by omega]
theorem and_two (a b i j : Nat) (hi : i < 2) (hj : j < 2) : (2 * a + i) &&& (2 * b + j) = 2 * (a &&& b) + (i &&& j) := by
  have h1 : ((2 * a + i) &&& (2 * b + j)) / 2 = a &&& b := by
    rw [Nat.and_div_two, show (2 * a + i) / 2 = a from by omega, show (2 * b + j) / 2 = b from by omega]
  have h2 : ((2 * a + i) &&& (2 * b + j)) % 2 = i &&& j := by
    have := Nat.and_mod_two_pow (a := 2 * a + i) (b := 2 * b + j) (n := 1)
    rw [Nat.pow_one] at this
    rw [this, show (2 * a + i) % 2 = i from by omega, show (2 * b + j) % 2 = j from by omega]
  omega
theorem or_two (a b i j : Nat) (hi : i < 2) (hj : j < 2) : (2 * a + i) ||| (2 * b + j) = 2 * (a ||| b) + (i ||| j) := by
  have h1 : ((2 * a + i) ||| (2 * b + j)) / 2 = a ||| b := by
    rw [Nat.or_div_two, show (2 * a + i) / 2 = a from by omega, show (2 * b + j) / 2 = b from by omega]
  have h2 : ((2 * a + i) ||| (2 * b + j)) % 2 = i ||| j := by
    have := Nat.or_mod_two_pow (a := 2 * a + i) (b := 2 * b + j) (n := 1)
    rw [Nat.pow_one] at this
    rw [this, show (2 * a + i) % 2 = i from by omega, show (2 * b + j) % 2 = j from by omega]
  omega
theorem pc_step : ∀ (n : Nat), 0 < n → pc (n &&& (n - 1)) + 1 = pc n := by
  intro n
  induction n using Nat.strongRecOn with
  | ind n ih =>
    intro hn
    by_cases h : n % 2 = 1
    · have e : n = 2 * (n / 2) + 1 := by omega
      have e2 : n - 1 = 2 * (n / 2) + 0 := by omega
      have e3 : n &&& (n - 1) = 2 * (n / 2) + 0 := by
        rw [e2]
        conv => lhs; lhs; rw [e]
        rw [and_two _ _ _ _ (by decide) (by decide), Nat.and_self]
        rfl
      rw [e3, pc_two _ _ (by decide)]
      conv => rhs; rw [e]
      rw [pc_two _ _ (by decide)]
      omega
    · have e : n = 2 * (n / 2) + 0 := by omega
      have e2 : n - 1 = 2 * (n / 2 - 1) + 1 := by omega
      have e3 : n &&& (n - 1) = 2 * (n / 2 &&& (n / 2 - 1)) + 0 := by
        rw [e2]
        conv => lhs; lhs; rw [e]
        rw [and_two _ _ _ _ (by decide) (by decide)]
        rfl
      have := ih (n / 2) (by omega) (by omega)
      rw [e3, pc_two _ _ (by decide)]
      conv => rhs; rw [e]
      rw [pc_two _ _ (by decide)]
      omega
def wt (L : List Nat) : Nat := L.length - L.count 73
theorem pc_or : ∀ {L : List Nat}, (∀ c ∈ L, isL c = true) → pc (bv lx L ||| bv lz L) + L.count 73 = L.length
  | [], _ => by
    show pc (0 ||| 0) + 0 = 0
    rw [show (0 ||| 0 : Nat) = 0 from rfl, pc_zero]
  | c :: L, h => by
    have ih := pc_or fun d hd => h d (List.mem_cons_of_mem _ hd)
    show pc ((lx c + 2 * bv lx L) ||| (lz c + 2 * bv lz L)) + (c :: L).count 73 = L.length + 1
    rw [Nat.add_comm (lx c), Nat.add_comm (lz c), or_two _ _ _ _ (lx_lt c) (lz_lt c), List.count_cons]
    have hc := isL_iff.mp (h c List.mem_cons_self)
    have two : (lx c ||| lz c) < 2 ∧ (lx c ||| lz c) + (if c == 73 then 1 else 0) = 1 := by
      rcases hc with rfl | rfl | rfl | rfl <;> decide
    rw [pc_two _ _ two.1]
    omega
theorem pc_wt {L : List Nat} (h : ∀ c ∈ L, isL c = true) : pc (bv lx L ||| bv lz L) = wt L := by
  have := pc_or h
  unfold wt
  omega
/-! ### a text's parts -/
def st1 (B : List Nat) : Nat := if B.head? = some 43 ∨ B.head? = some 45 then 1 else 0
def start (B : List Nat) : Nat := st1 B + (if (B.drop (st1 B)).head? = some 105 then 1 else 0)
def rest (B : List Nat) : List Nat := B.drop (start B)
def fine (B : List Nat) : Prop := (rest B).dropWhile isL = [] ∧ rest B ≠ []
instance (B : List Nat) : Decidable (fine B) := inferInstanceAs (Decidable (_ ∧ _))
def col (B : List Nat) : Nat := if fine B then 0 else B.length - ((rest B).dropWhile isL).length + 1
def ph (B : List Nat) : Nat := (if B.head? = some 45 then 2 else 0) + (if (B.drop (st1 B)).head? = some 105 then 1 else 0)
def headL : Nat → List Nat
  | 0 => []
  | 1 => [105]
  | 2 => [45]
  | _ => [45, 105]
theorem ph_lt (B : List Nat) : ph B < 4 := by
  unfold ph
  split <;> split <;> omega
theorem head_of (B : List Nat) : (B.take (start B)).filter (· != 43) = headL (ph B) := by
  cases B with
  | nil => rfl
  | cons a B =>
    unfold start ph
    by_cases h1 : a = 43
    · subst h1
      have e : st1 (43 :: B) = 1 := rfl
      rw [e]
      cases B with
      | nil => rfl
      | cons b B =>
        by_cases h2 : b = 105
        · subst h2
          rfl
        · have e2 : ((43 :: b :: B).drop 1).head? ≠ some 105 := fun z => h2 (Option.some.inj z)
          rw [if_neg e2, if_neg (by simp : ¬ ((43 :: b :: B).head? = some 45))]
          rfl
    · by_cases h3 : a = 45
      · subst h3
        have e : st1 (45 :: B) = 1 := rfl
        rw [e]
        cases B with
        | nil => rfl
        | cons b B =>
          by_cases h2 : b = 105
          · subst h2
            rfl
          · have e2 : ((45 :: b :: B).drop 1).head? ≠ some 105 := fun z => h2 (Option.some.inj z)
            rw [if_neg e2]
            rfl
      · have e : st1 (a :: B) = 0 := by
          unfold st1
          rw [if_neg]
          rintro (z | z)
          · exact h1 (Option.some.inj z)
          · exact h3 (Option.some.inj z)
        have e3 : ¬ ((a :: B).head? = some 45) := fun z => h3 (Option.some.inj z)
        rw [e, if_neg e3]
        by_cases h2 : a = 105
        · subst h2
          rfl
        · have e2 : ¬ (((a :: B).drop 0).head? = some 105) := fun z => h2 (Option.some.inj z)
          rw [if_neg e2]
          rfl
theorem start_le (B : List Nat) : start B ≤ B.length := by
  unfold start
  cases B with
  | nil => decide
  | cons a B =>
    have h1 : st1 (a :: B) ≤ 1 := by unfold st1; split <;> omega
    split
    · rename_i h
      have : st1 (a :: B) < (a :: B).length := by
        rcases Nat.lt_or_ge (st1 (a :: B)) (a :: B).length with z | z
        · exact z
        · rw [List.drop_of_length_le z] at h
          cases h
      omega
    · show _ ≤ B.length + 1
      omega
theorem dw_all : ∀ {L : List Nat}, (∀ c ∈ L, isL c = true) → L.dropWhile isL = []
  | [], _ => rfl
  | c :: L, h => by
    rw [List.dropWhile_cons_of_pos (h c List.mem_cons_self)]
    exact dw_all fun d hd => h d (List.mem_cons_of_mem _ hd)
/-- a head before letters -/
theorem read_head {L : List Nat} (hL : ∀ c ∈ L, isL c = true) (h0 : L ≠ []) (i : Nat) (T : List Nat) (p : Nat) (hT : ([([], 0), ([43], 0), ([45], 2), ([105], 1), ([43, 105], 1), ([45, 105], 3)] : List (List Nat × Nat))[i]? = some (T, p)) :
    rest (T ++ L) = L ∧ ph (T ++ L) = p ∧ fine (T ++ L) := by
  have hd : ∃ a M, L = a :: M ∧ a ≠ 43 ∧ a ≠ 45 ∧ a ≠ 105 := by
    cases L with
    | nil => exact absurd rfl h0
    | cons a M =>
      refine ⟨a, M, rfl, ?_, ?_, ?_⟩ <;> rintro rfl <;> have := isL_iff.mp (hL _ List.mem_cons_self) <;> omega
  obtain ⟨a, M, rfl, n1, n2, n3⟩ := hd
  have dw : (a :: M).dropWhile isL = [] := by
    exact dw_all hL
  have go : ∀ T p, start (T ++ (a :: M)) = T.length → ph (T ++ (a :: M)) = p → rest (T ++ (a :: M)) = a :: M ∧ ph (T ++ (a :: M)) = p ∧ fine (T ++ (a :: M)) := by
    intro T p hs hp
    have hr : rest (T ++ (a :: M)) = a :: M := by
      unfold rest
      rw [hs]
      exact List.drop_left
    refine ⟨hr, hp, ?_⟩
    unfold fine
    rw [hr]
    exact ⟨dw, by simp⟩
  have s1 : ∀ x : Nat, x ≠ 43 → x ≠ 45 → ∀ M, st1 (x :: M) = 0 := by
    intro x h1 h2 M
    unfold st1
    rw [if_neg]
    rintro (z | z)
    · exact h1 (Option.some.inj z)
    · exact h2 (Option.some.inj z)
  have no : ∀ M : List Nat, ¬ ((a :: M).head? = some 105) := fun M z => n3 (Option.some.inj z)
  match i, hT with
  | 0, e =>
    cases e
    refine go [] 0 ?_ ?_
    · show st1 (a :: M) + (if ((a :: M).drop (st1 (a :: M))).head? = some 105 then 1 else 0) = 0
      rw [s1 a n1 n2, List.drop_zero, if_neg (no M)]
    · have n4 : ¬ ((a :: M).head? = some 45) := fun z => n2 (Option.some.inj z)
      show (if (a :: M).head? = some 45 then 2 else 0) + (if ((a :: M).drop (st1 (a :: M))).head? = some 105 then 1 else 0) = 0
      rw [s1 a n1 n2, if_neg n4, List.drop_zero, if_neg (no M)]
  | 1, e =>
    cases e
    refine go [43] 0 ?_ ?_
    · show 1 + (if (a :: M).head? = some 105 then 1 else 0) = 1
      rw [if_neg (no M)]
    · show 0 + (if (a :: M).head? = some 105 then 1 else 0) = 0
      rw [if_neg (no M)]
  | 2, e =>
    cases e
    refine go [45] 2 ?_ ?_
    · show 1 + (if (a :: M).head? = some 105 then 1 else 0) = 1
      rw [if_neg (no M)]
    · show 2 + (if (a :: M).head? = some 105 then 1 else 0) = 2
      rw [if_neg (no M)]
  | 3, e =>
    cases e
    exact go [105] 1 rfl rfl
  | 4, e =>
    cases e
    exact go [43, 105] 1 rfl rfl
  | 5, e =>
    cases e
    exact go [45, 105] 3 rfl rfl
theorem col_zero {B : List Nat} : col B = 0 ↔ fine B := by
  unfold col
  split
  · exact ⟨fun _ => by assumption, fun _ => rfl⟩
  · exact ⟨fun z => by omega, fun z => absurd z (by assumption)⟩
theorem len_split (B : List Nat) : B.length = start B + ((rest B).takeWhile isL).length + ((rest B).dropWhile isL).length := by
  have h := congrArg List.length (List.takeWhile_append_dropWhile (p := isL) (l := rest B))
  rw [List.length_append] at h
  have h2 : (rest B).length = B.length - start B := List.length_drop
  have := start_le B
  omega
end KQ

namespace KQ
open PySem PySem.Spec PyProof.Rows L2
/-! ### texts of sorts: the first wrong word of a line -/
abbrev nT (k : Nat) : Str := toString (k : Int)
theorem nT_inj26 : ∀ i < 26, ∀ j < 26, nT i = nT j → i = j := by decide +kernel
theorem nT_free26 : ∀ i < 26, 45 ∉ TL.tl (nT i) := by decide +kernel
theorem nT_len26 : ∀ i < 26, (nT i).length ≤ 2 := by decide +kernel
theorem nT_ord26 : ∀ i < 26, ∀ j < 26, i ≠ j → ¬ (sortedS [nT i, nT j] = true ∧ sortedS [nT j, nT i] = true) := by decide +kernel
def numOf (n : Nat) (w : Str) : Option Nat := (List.range n).find? fun k => decide (nT k = w)
theorem numOf_some {n k : Nat} {w : Str} (h : numOf n w = some k) : k < n ∧ nT k = w := by
  have h1 := List.find?_some h
  have h2 := List.mem_of_find?_eq_some h
  exact ⟨List.mem_range.mp h2, of_decide_eq_true h1⟩
theorem numOf_nT {n k : Nat} (hk : k < n) (hn : n ≤ 26) : numOf n (nT k) = some k := by
  cases e : numOf n (nT k) with
  | some j =>
    obtain ⟨h1, h2⟩ := numOf_some e
    rw [nT_inj26 j (by omega) k (by omega) h2]
  | none =>
    have := List.find?_eq_none.mp e k (List.mem_range.mpr hk)
    exact absurd (decide_eq_true rfl) this
theorem numOf_free {n : Nat} (hn : n ≤ 26) {w : Str} (h : 45 ∈ TL.tl w) : numOf n w = none := by
  cases e : numOf n w with
  | none => rfl
  | some j =>
    obtain ⟨h1, h2⟩ := numOf_some e
    subst h2
    exact absurd h (nT_free26 j (by omega))
theorem nT_all_ne : ∀ i < 26, nT i ≠ Str.empty := by decide +kernel
theorem numOf_empty {n : Nat} (hn : n ≤ 26) : numOf n Str.empty = none := by
  cases e : numOf n Str.empty with
  | none => rfl
  | some j =>
    obtain ⟨h1, h2⟩ := numOf_some e
    exact absurd h2 (nT_all_ne j (by omega))
def nearP : Option Nat → Option Nat → Option (Nat × Nat)
  | some i, some j => if i = j then none else some (min i j, max i j)
  | _, _ => none
def nearOf (n : Nat) (w : Str) : Option (Nat × Nat) := nearP (numOf n (Txt.partition w "-").1) (numOf n (Txt.partition w "-").2.2)
theorem nearP_r (x : Option Nat) : nearP x none = none := by cases x <;> rfl
theorem nearP_l (x : Option Nat) : nearP none x = none := by cases x <;> rfl
def withinOf (n : Nat) (w : Str) : Option (Nat × Nat) := (numOf n w).map fun k => (k, k)
/-- the column of the first word that tells nothing, or what was told; 0 if there is none -/
def scan (f : Str → Option (Nat × Nat)) : List Str → List (Nat × Nat) → Nat → Nat
  | [], _, _ => 0
  | w :: ws, known, c => match f w with
    | none => c
    | some k => if k ∈ known then c else scan f ws (known ++ [k]) (c + 1)
def w15 : List Str := ["X", "Y", "Z", "XY", "XZ", "YX", "YZ", "ZX", "ZY", "XYZ", "XZY", "YXZ", "YZX", "ZXY", "ZYX"]
def colNum (n : Nat) : List Str → Nat
  | [] => 2
  | w :: r => if numOf (n + 1) w = none then 2 else if r ≠ [] then 3 else 0
def colLet : List Str → Nat
  | [] => 2
  | w :: r => if w ∉ w15 then 2 else if r ≠ [] then 3 else 0
/-- the one word that is right leads to q, a wrong or lacking one to a, one too many to b -/
def OnlyQ (rs : List Str) (a b : Prop) (q : Str → Prop) : List Str → Prop
  | [] => a
  | w :: r => if w ∈ rs then (if r = [] then q w else b) else a
theorem OnlyQ.ok {rs : List Str} {a b : Prop} {q : Str → Prop} {w : Str} (h : w ∈ rs) (hq : q w) : OnlyQ rs a b q [w] := by
  show if w ∈ rs then (if ([] : List Str) = [] then q w else b) else a
  rw [if_pos h, if_pos rfl]
  exact hq
theorem OnlyQ.more {rs : List Str} {a b : Prop} {q : Str → Prop} {w : Str} {r : List Str} (h : w ∈ rs) (h0 : r ≠ []) (hb : b) : OnlyQ rs a b q (w :: r) := by
  show if w ∈ rs then (if r = [] then q w else b) else a
  rw [if_pos h, if_neg h0]
  exact hb
theorem OnlyQ.out {rs : List Str} {a b : Prop} {q : Str → Prop} {w : Str} {r : List Str} (h : w ∉ rs) (ha : a) : OnlyQ rs a b q (w :: r) := by
  show if w ∈ rs then (if r = [] then q w else b) else a
  rw [if_neg h]
  exact ha
def wrong (n : Nat) : List Str → Nat
  | [] => 0
  | k :: rest =>
    if k = "weight" ∨ k = "run" then colNum n rest
    else if k = "letters" then colLet rest
    else if k = "near" then scan (nearOf n) rest [] 2
    else if k = "within" then scan (withinOf n) rest [] 2
    else 1
def neE (w : Str) : Bool := decide (w ≠ "")
def wordsOf (l : Str) : List Str := (Txt.split l " ").filter neE
def dueL (n : Nat) : List Str → Nat → Nat × Nat
  | [], _ => (0, 0)
  | l :: r, i => if 0 < wrong n (wordsOf l) then (i, wrong n (wordsOf l)) else dueL n r (i + 1)
/-! ### two words with - between them -/
theorem e_dash : TL.tl ("-" : Str) = [45] := by decide +kernel
theorem k_dash : ("-" : Str).cps.all (· < 256) = true := by decide +kernel
theorem dash_out {w : Str} (h : 45 ∉ TL.tl w) : Txt.split w "-" = [w] ∧ Txt.partition w "-" = (w, Str.empty, Str.empty) := by
  refine ⟨?_, TL.partition_none e_dash h⟩
  have := TL.split_join (y := "-") e_dash k_dash (parts := [w]) (by simp) (fun p hp => by rw [List.mem_singleton.mp hp]; exact h)
  exact this
theorem mem_cut {c : Nat} : ∀ {L : List Nat}, c ∈ L → ∃ A B, L = A ++ c :: B ∧ c ∉ A
  | [], h => by cases h
  | a :: L, h => by
    by_cases e : c = a
    · subst e
      exact ⟨[], L, rfl, by simp⟩
    · obtain ⟨A, B, e1, e2⟩ := mem_cut (L := L) (by
        rcases List.mem_cons.mp h with h | h
        · exact absurd h e
        · exact h)
      exact ⟨a :: A, B, by rw [e1]; rfl, by simp [e, e2]⟩
theorem dash_in {w : Str} (h : 45 ∈ TL.tl w) : ∃ a b : Str, 45 ∉ TL.tl a ∧ Txt.partition w "-" = (a, ("-" : Str), b) ∧ Txt.split w "-" = a :: Txt.split b "-" := by
  obtain ⟨A, B, e, hA⟩ := mem_cut h
  refine ⟨mS A, mS B, by simpa using hA, ?_, ?_⟩
  · have e1 : w = mS A ++ "-" ++ mS B := TL.ext_tl (by rw [e, TL.tl_append, TL.tl_append, e_dash]; simp)
    rw [e1]
    exact TL.partition_app e_dash (by simpa using hA)
  · refine TL.map_tl_inj ?_
    have hne : TL.tl ("-" : Str) ≠ [] := by rw [e_dash]; simp
    rw [List.map_cons, TL.split_spl w "-" hne (TL.kind_ok k_dash), TL.split_spl (mS B) "-" hne (TL.kind_ok k_dash), e, e_dash]
    have := TL.spl_part1 (s := 45) (S := []) (p := A) (rest := B) (acc := []) hA
    simpa using this
theorem split_ne (w : Str) : Txt.split w "-" ≠ [] := by
  by_cases h : 45 ∈ TL.tl w
  · obtain ⟨a, b, _, _, e⟩ := dash_in h
    rw [e]
    simp
  · rw [(dash_out h).1]
    simp
/-- what nearOf tells, by the parts -/
theorem near_parts {n : Nat} (hn : n ≤ 26) (w : Str) : nearOf n w = match Txt.split w "-" with
    | [a, b] => nearP (numOf n a) (numOf n b)
    | _ => none := by
  by_cases h : 45 ∈ TL.tl w
  · obtain ⟨a, b, ha, e1, e2⟩ := dash_in h
    unfold nearOf
    rw [e1, e2]
    by_cases hb : 45 ∈ TL.tl b
    · obtain ⟨a2, b2, _, _, e3⟩ := dash_in hb
      rw [e3]
      have := split_ne b2
      cases e : Txt.split b2 "-" with
      | nil => exact absurd e this
      | cons x y =>
        show nearP (numOf n a) (numOf n b) = none
        rw [numOf_free hn hb, nearP_r]
    · rw [(dash_out hb).1]
  · unfold nearOf
    rw [(dash_out h).1, (dash_out h).2]
    show nearP (numOf n w) (numOf n Str.empty) = none
    rw [numOf_empty hn, nearP_r]
theorem near_lt {n : Nat} {w : Str} {a b : Nat} (h : nearOf n w = some (a, b)) : a < b ∧ b < n := by
  unfold nearOf at h
  cases e1 : numOf n (Txt.partition w "-").1 with
  | none =>
    rw [e1, nearP_l] at h
    cases h
  | some i =>
    cases e2 : numOf n (Txt.partition w "-").2.2 with
    | none =>
      rw [e2, nearP_r] at h
      cases h
    | some j =>
      rw [e1, e2] at h
      have h' : (if i = j then none else some (min i j, max i j)) = some (a, b) := h
      by_cases e : i = j
      · rw [if_pos e] at h'
        cases h'
      · rw [if_neg e] at h'
        have h1 := (numOf_some e1).1
        have h2 := (numOf_some e2).1
        injection h' with h'
        injection h' with h3 h4
        omega
theorem near_ne {n : Nat} {w : Str} {a b : Nat} (h : nearOf n w = some (a, b)) : a ≠ b := by
  have := near_lt h
  omega
/-! ### ends in order -/
def keyT (p : Nat × Nat) : List Str := if p.1 = p.2 then [nT p.1] else if sortedS [nT p.1, nT p.2] = true then [nT p.1, nT p.2] else [nT p.2, nT p.1]
theorem keyT_mem (p : Nat × Nat) (x : Str) : x ∈ keyT p ↔ x = nT p.1 ∨ x = nT p.2 := by
  unfold keyT
  by_cases h : p.1 = p.2
  · rw [if_pos h, h]
    simp
  · rw [if_neg h]
    split
    · simp
    · simp [or_comm]
theorem keyT_inj {p q : Nat × Nat} (hp : p.1 ≤ p.2) (hq : q.1 ≤ q.2) (hp2 : p.2 < 26) (hq2 : q.2 < 26) (h : keyT p = keyT q) : p = q := by
  have a1 := (keyT_mem q (nT p.1)).mp (by rw [← h]; exact (keyT_mem p _).mpr (.inl rfl))
  have a2 := (keyT_mem q (nT p.2)).mp (by rw [← h]; exact (keyT_mem p _).mpr (.inr rfl))
  have b1 := (keyT_mem p (nT q.1)).mp (by rw [h]; exact (keyT_mem q _).mpr (.inl rfl))
  have b2 := (keyT_mem p (nT q.2)).mp (by rw [h]; exact (keyT_mem q _).mpr (.inr rfl))
  have I := fun i j (hi : i < 26) (hj : j < 26) => nT_inj26 i hi j hj
  have c1 : p.1 = q.1 ∨ p.1 = q.2 := a1.imp (I _ _ (by omega) (by omega)) (I _ _ (by omega) (by omega))
  have c2 : p.2 = q.1 ∨ p.2 = q.2 := a2.imp (I _ _ (by omega) (by omega)) (I _ _ (by omega) (by omega))
  have d1 : q.1 = p.1 ∨ q.1 = p.2 := b1.imp (I _ _ (by omega) (by omega)) (I _ _ (by omega) (by omega))
  have d2 : q.2 = p.1 ∨ q.2 = p.2 := b2.imp (I _ _ (by omega) (by omega)) (I _ _ (by omega) (by omega))
  obtain ⟨p1, p2⟩ := p
  obtain ⟨q1, q2⟩ := q
  simp only at c1 c2 d1 d2 hp hq
  have e1 : p1 = q1 := by omega
  have e2 : p2 = q2 := by omega
  rw [e1, e2]
theorem perm_two {a b : Str} {ys : List Str} (h : ys.Perm [a, b]) : ys = [a, b] ∨ ys = [b, a] := by
  have hl := h.length_eq
  match ys, hl with
  | [x, y], _ =>
    have h1 : x ∈ [a, b] := h.subset (by simp)
    have h2 : a ∈ [x, y] := h.symm.subset (by simp)
    have h3 : b ∈ [x, y] := h.symm.subset (by simp)
    have h4 : y ∈ [a, b] := h.subset (by simp)
    simp only [List.mem_cons, List.mem_nil_iff, or_false] at h1 h2 h3 h4
    rcases h1 with rfl | rfl
    · rcases h3 with h3 | h3
      · subst h3
        rcases h4 with rfl | rfl <;> exact .inl rfl
      · exact .inl (by rw [h3])
    · rcases h2 with h2 | h2
      · subst h2
        rcases h4 with rfl | rfl <;> exact .inr rfl
      · exact .inr (by rw [h2])
theorem sort_two {i j : Nat} (hi : i < 26) (hj : j < 26) (h : i ≠ j) {ys : List Str} (hp : ys.Perm [nT i, nT j]) (hs : sortedS ys = true) : ys = keyT (min i j, max i j) := by
  have no := nT_ord26 i hi j hj h
  have m1 : min i j ≠ max i j := by omega
  unfold keyT
  rw [if_neg m1]
  rcases Nat.lt_or_ge i j with l | l
  · rw [Nat.min_eq_left (by omega), Nat.max_eq_right (by omega)]
    rcases perm_two hp with rfl | rfl
    · rw [if_pos hs]
    · rw [if_neg (fun z => no ⟨z, hs⟩)]
  · rw [Nat.min_eq_right l, Nat.max_eq_left l]
    rcases perm_two hp with rfl | rfl
    · rw [if_neg (fun z => no ⟨hs, z⟩)]
    · rw [if_pos hs]
theorem sort_one {k : Nat} {ys : List Str} (hp : ys.Perm [nT k]) : ys = keyT (k, k) := by
  have := List.perm_singleton.mp hp
  rw [this]
  unfold keyT
  rw [if_pos rfl]
/-! ### a word of letters -/
theorem spl_count (c : Nat) : ∀ (L acc : List Nat), (TL.spl [c] 0 acc L).length = L.count c + 1
  | [], acc => by rw [TL.spl_nil]; rfl
  | d :: L, acc => by
    by_cases h : d = c
    · subst h
      have hp : TL.pre [d] (d :: L) = true := TL.pre_self [d] L
      rw [TL.spl_hit hp, List.length_cons, List.count_cons_self]
      show (TL.spl [d] 0 [] L).length + 1 = _
      rw [spl_count d L]
    · rw [TL.spl_miss (TL.pre_of_head _ _ h), spl_count c L, List.count_cons_of_ne (by simpa using h)]
theorem parts_len {x : Str} {k : Nat} : ∀ (cuts : List Nat) (a : Nat), (PySem.StrLaws.partsFrom x k a cuts).length = cuts.length + 1
  | [], a => rfl
  | c :: r, a => by
    show (_ :: PySem.StrLaws.partsFrom x k (c + k) r).length = _
    rw [List.length_cons, parts_len r, List.length_cons]
theorem count_sign (x : Str) (c : Nat) : Txt.count x ⟨#[c]⟩ = ((TL.tl x).count c : Nat) := by
  have hy : TL.tl (⟨#[c]⟩ : Str) ≠ [] := by simp
  obtain ⟨f, g, hn⟩ := PySem.StrLaws.occ_tight x ⟨#[c]⟩ (TL.len1 hy)
  have key := TL.parts_spl hy _ 0 f (Nat.zero_le _) g hn
  have h2 := congrArg List.length key
  rw [List.length_map, parts_len, List.drop_zero] at h2
  have h3 := spl_count c (TL.tl x) []
  unfold Txt.count
  have h4 : TL.tl (⟨#[c]⟩ : Str) = [c] := rfl
  rw [h4] at h2
  omega
def lts (L : List Nat) : Prop := ∀ c ∈ L, (c = 88 ∨ c = 89 ∨ c = 90) ∧ L.count c ≤ 1
theorem count_two {c : Nat} (A B D : List Nat) : 2 ≤ (A ++ c :: (B ++ c :: D)).count c := by
  rw [List.count_append, List.count_cons_self, List.count_append, List.count_cons_self]
  omega
theorem w15_tl : w15.map TL.tl = [[88], [89], [90], [88, 89], [88, 90], [89, 88], [89, 90], [90, 88], [90, 89], [88, 89, 90], [88, 90, 89], [89, 88, 90], [89, 90, 88], [90, 88, 89], [90, 89, 88]] := by decide +kernel
theorem w15_iff (w : Str) : w ∈ w15 ↔ TL.tl w ∈ w15.map TL.tl := by
  refine ⟨fun h => List.mem_map_of_mem h, fun h => ?_⟩
  obtain ⟨x, hx, e⟩ := List.mem_map.mp h
  rw [← TL.ext_tl e]
  exact hx
theorem lts_iff {w : Str} (h0 : w ≠ "") : lts (TL.tl w) ↔ w ∈ w15 := by
  rw [w15_iff, w15_tl]
  have hne : TL.tl w ≠ [] := fun e => h0 (TL.ext_tl (by rw [e]; decide +kernel))
  generalize TL.tl w = L at hne
  constructor
  · intro h
    have two : ∀ (A B D : List Nat) (c : Nat), L = A ++ c :: (B ++ c :: D) → False := fun A B D c e => by
      have h1 := (h c (by rw [e]; simp)).2
      have h2 := count_two (c := c) A B D
      rw [← e] at h2
      omega
    match L, hne with
    | [a], _ =>
      rcases (h a (by simp)).1 with rfl | rfl | rfl <;> simp
    | [a, b], _ =>
      have n1 : a ≠ b := fun e => by subst e; exact two [] [] [] a rfl
      have ha := (h a (by simp)).1
      have hb := (h b (by simp)).1
      rcases ha with rfl | rfl | rfl <;> rcases hb with rfl | rfl | rfl <;> simp at n1 ⊢
    | [a, b, c], _ =>
      have n1 : a ≠ b := fun e => by subst e; exact two [] [] [c] a rfl
      have n2 : a ≠ c := fun e => by subst e; exact two [] [b] [] a rfl
      have n3 : b ≠ c := fun e => by subst e; exact two [a] [] [] b rfl
      have ha := (h a (by simp)).1
      have hb := (h b (by simp)).1
      have hc := (h c (by simp)).1
      rcases ha with rfl | rfl | rfl <;> rcases hb with rfl | rfl | rfl <;> rcases hc with rfl | rfl | rfl <;> simp at n1 n2 n3 ⊢
    | a :: b :: c :: d :: r, _ =>
      exfalso
      have n1 : a ≠ b := fun e => by subst e; exact two [] [] (c :: d :: r) a rfl
      have n2 : a ≠ c := fun e => by subst e; exact two [] [b] (d :: r) a rfl
      have n3 : a ≠ d := fun e => by subst e; exact two [] [b, c] r a rfl
      have n4 : b ≠ c := fun e => by subst e; exact two [a] [] (d :: r) b rfl
      have n5 : b ≠ d := fun e => by subst e; exact two [a] [c] r b rfl
      have n6 : c ≠ d := fun e => by subst e; exact two [a, b] [] r c rfl
      have ha := (h a (by simp)).1
      have hb := (h b (by simp)).1
      have hc := (h c (by simp)).1
      have hd := (h d (by simp)).1
      omega
  · intro h
    simp only [List.mem_cons, List.mem_nil_iff, or_false] at h
    have all : ∀ M ∈ ([[88], [89], [90], [88, 89], [88, 90], [89, 88], [89, 90], [90, 88], [90, 89], [88, 89, 90], [88, 90, 89], [89, 88, 90], [89, 90, 88], [90, 88, 89], [90, 89, 88]] : List (List Nat)), ∀ c ∈ M, (c = 88 ∨ c = 89 ∨ c = 90) ∧ M.count c ≤ 1 := by decide +kernel
    exact all L (by simpa using h)
/-! ### how long texts are -/
def wtt (xs : List Str) : Nat := (xs.map fun x => x.length + 1).sum
theorem wtt_nil : wtt [] = 0 := rfl
theorem wtt_cons (x : Str) (xs : List Str) : wtt (x :: xs) = x.length + 1 + wtt xs := by
  unfold wtt
  rw [List.map_cons, List.sum_cons]
theorem wtt_app (xs ys : List Str) : wtt (xs ++ ys) = wtt xs + wtt ys := by
  induction xs with
  | nil => rw [List.nil_append, wtt_nil, Nat.zero_add]
  | cons x xs ih =>
    rw [List.cons_append, wtt_cons, wtt_cons, ih]
    omega
theorem wtt_filter (f : Str → Bool) (xs : List Str) : wtt (xs.filter f) ≤ wtt xs := by
  induction xs with
  | nil => exact Nat.le_refl _
  | cons x xs ih =>
    rw [List.filter_cons, wtt_cons]
    split
    · rw [wtt_cons]
      omega
    · omega
theorem wtt_mem {x : Str} {xs : List Str} (h : x ∈ xs) : x.length + 1 ≤ wtt xs := by
  induction xs with
  | nil => cases h
  | cons y xs ih =>
    rw [wtt_cons]
    rcases List.mem_cons.mp h with h | h
    · subst h
      omega
    · have := ih h
      omega
theorem wtt_len (xs : List Str) : xs.length ≤ wtt xs := by
  induction xs with
  | nil => exact Nat.le_refl _
  | cons y xs ih =>
    rw [wtt_cons, List.length_cons]
    omega
theorem wtt_take (k : Nat) (xs : List Str) : wtt (xs.take k) ≤ wtt xs := by
  have := wtt_app (xs.take k) (xs.drop k)
  rw [List.take_append_drop] at this
  omega
theorem wtt_drop (k : Nat) (xs : List Str) : wtt (xs.drop k) ≤ wtt xs := by
  have := wtt_app (xs.take k) (xs.drop k)
  rw [List.take_append_drop] at this
  omega
theorem spl_wtt (c : Nat) : ∀ (L acc : List Nat), ((TL.spl [c] 0 acc L).map fun p => p.length + 1).sum = acc.length + L.length + 1
  | [], acc => by rw [TL.spl_nil]; simp
  | d :: L, acc => by
    by_cases h : d = c
    · subst h
      have hp : TL.pre [d] (d :: L) = true := TL.pre_self [d] L
      rw [TL.spl_hit hp, List.map_cons, List.sum_cons]
      show acc.length + 1 + ((TL.spl [d] 0 [] L).map fun p => p.length + 1).sum = _
      rw [spl_wtt d L, List.length_cons, List.length_nil]
      omega
    · rw [TL.spl_miss (TL.pre_of_head _ _ h), spl_wtt c L, List.length_append, List.length_cons, List.length_cons, List.length_nil]
      omega
theorem wtt_split (x : Str) {c : Nat} (hc : c < 256) : wtt (Txt.split x ⟨#[c]⟩) = x.length + 1 := by
  have hy : TL.tl (⟨#[c]⟩ : Str) ≠ [] := by simp
  have hk : (⟨#[c]⟩ : Str).cps.all (· < 256) = true := by simp [hc]
  have e := TL.split_spl x ⟨#[c]⟩ hy (TL.kind_ok hk)
  have h2 := spl_wtt c (TL.tl x) []
  have h4 : TL.tl (⟨#[c]⟩ : Str) = [c] := rfl
  rw [h4] at e
  rw [← e, List.map_map] at h2
  unfold wtt
  have e3 : (fun x : Str => x.length + 1) = (fun p : List Nat => p.length + 1) ∘ TL.tl := by
    funext y
    show y.length + 1 = (TL.tl y).length + 1
    rw [TL.len_tl]
  rw [e3, h2, TL.len_tl]
  simp
end KQ

namespace KQ
open PySem PySem.Spec PyProof.Rows L2
/-! ### for i, x in enumerate(xs, start=k) -/
/-- the list at a as it stands at each turn, each item in a new pair with its number, the first one's k0 -/
def Itek (K : PySem.W.Frag) (a : Addr) (k0 : Int) : It :=
  ⟨fun i H => ∃ (xs : List V) (x : V), SqL K H a xs ∧ xs[i]? = some x, fun i H v H' => ∃ T x, v = .ref T ∧ H T = none ∧ H' = upd H T (.tup [.int (k0 + (i : Nat)), x]) ∧ ∀ xs, SqL K H a xs → xs[i]? = some x, fun i H => ∃ xs : List V, SqL K H a xs ∧ xs.length = i⟩
theorem turn_enumk {P : Program} {w : World} {K : PySem.W.Frag} {elts : List Expr} {kk : Nat} {tpos : Pos} (a e it : Addr) (k0 : Int) :
    Turn P w K (.Tuple elts kk tpos) (Itek K a k0) [e, it] e (fun i h => (∃ old, IsEnum h e it (k0 + ((i : Nat) : Int)) old) ∧ h.IsListIter it a i ∧ e ≠ it ∧ a ≠ it ∧ a ≠ e) where
  mem := List.mem_cons_self
  obj := fun i h st b hb => by
    obtain ⟨⟨old, he⟩, ⟨o, ho, _, hd⟩, _⟩ := st
    rcases List.mem_cons.mp hb with rfl | hb
    · exact ⟨_, he, fun v q => nomatch q⟩
    · rw [List.mem_singleton.mp hb]
      exact ⟨o, ho, fun v q => by rw [hd] at q; cases q⟩
  keep := fun i h h' st k => by
    obtain ⟨⟨old, he⟩, ⟨o, ho, r⟩, hne⟩ := st
    exact ⟨⟨old, k e List.mem_cons_self _ he⟩, ⟨o, k it (by simp) o ho, r⟩, hne⟩
  item := by
    intro X hP hw hK calm i pins s σ H E I fp st hg
    subst hP hw hK
    obtain ⟨⟨old, he⟩, hit, hne, ha, hae⟩ := st
    obtain ⟨xs, x, hq, hx⟩ := hg
    obtain ⟨its, rv, p, hz⟩ := I.list hq
    obtain ⟨u, hu, ru⟩ := rv.get hx
    have le : e < s.heap.objs.size := Heap.lt_size he
    have li : it < s.heap.objs.size := by
      obtain ⟨_, q, _⟩ := hit
      exact Heap.lt_size q
    have hlt : i < its.toArray.size := by
      have := (List.getElem?_eq_some_iff.mp hu).1
      simpa using this
    refine wpAny_pyNext_enum_itemC (Draws.list (A := X.A.in1) (by simpa using I.ok.hd calm) it a ha its.toArray) he ⟨hit, p.isList⟩ hlt hne (by simp [hne, Ne.symm hae]) fun v h1 tk hv hout hit1 hT hsz hk => ?_
    have ev : v = u := by
      have h9 : its.toArray[i]? = some v := hv
      have h8 : its.toArray[i]? = some u := by simpa using hu
      exact Option.some.inj (h9.symm.trans h8)
    subst ev
    refine ⟨_, rfl, wpAny_letOwnedTupleGo_enum (s := { s with heap := h1, toks := tk + 1 }) hout fun h2 he2 sb => ?_⟩
    have hT2 := (sb.2 _ (Nat.ne_of_gt le)).trans hT
    have fresh : H s.heap.objs.size = none := I.hok.fresh (Nat.le_refl _)
    have I1 : Inv X pins σ (upd H s.heap.objs.size (.tup [.int (k0 + (i : Nat)), x])) { s with heap := h2, toks := tk + 1 } :=
      I.turnedNew (ch := [e, it]) (fun b ob hb q => by
        have b1 : b ≠ e := fun z => hb (by simp [z])
        have b2 : b ≠ it := fun z => hb (by simp [z])
        exact (sb.2 b b1).trans (hk b ob b1 b2 q)) fp (Nat.le_refl _) ⟨by show 2 ≤ sizeLine; decide, [.int (k0 + (i : Nat)) tk, v], .cons ⟨_, rfl⟩ (.cons ru .nil), ⟨_, hT2, rfl, _, rfl⟩⟩
    have ei : k0 + ((i + 1 : Nat) : Int) = k0 + (i : Int) + 1 := by omega
    refine ⟨.ref s.heap.objs.size, _, I1, rfl, ⟨_, x, rfl, fresh, rfl, fun ys hy => by rw [I.list_inj hy hq]; exact hx⟩, ⟨⟨_, by rw [ei]; exact he2⟩, ?_, hne, ha, hae⟩, fun b hb => ?_⟩
    · obtain ⟨⟨o, ho, r⟩, _⟩ := hit1
      exact ⟨o, (sb.2 it (Ne.symm hne)).trans ho, r⟩
    · have lb : b < s.heap.objs.size := by
        rcases List.mem_cons.mp hb with rfl | hb
        · exact le
        · rw [List.mem_singleton.mp hb]
          exact li
      rw [upd_ne (Nat.ne_of_lt lb)]
      exact (fp b hb).1
  done := by
    intro X hP hw hK calm i pins s σ H E I fp st hg
    subst hP hw hK
    obtain ⟨⟨old, he⟩, hit, hne, ha, hae⟩ := st
    obtain ⟨xs, hq, hx⟩ := hg
    obtain ⟨its, rv, p, hz⟩ := I.list hq
    obtain ⟨f0, f1, f2, f3, f4, f5⟩ := fp it (by simp)
    have hl := rv.length
    have ei : i = its.toArray.size := by
      rw [List.size_toArray, ← hl]
      exact hx.symm
    subst ei
    refine wpAny_pyNext_enum_endD (Draws.list (A := X.A.in1) (by simpa using I.ok.hd calm) it a ha its.toArray) he ⟨hit, p.isList⟩ fun h' eb => ⟨rfl, I.turned (t' := s.toks) (fun b o hb q => eb b o hb q) f0 f1 f3 f4 f5⟩
  self := fun A i s Q E st h => by
    obtain ⟨⟨_, he⟩, _⟩ := st
    exact wpAny_pyIter_enum he h
theorem walk_enumk (K : PySem.W.Frag) (a : Addr) (k0 : Int) (xs : List V) : Walk (Itek K a k0) xs.length (fun H => SqL K H a xs) (YPair (fun i => some (.int (k0 + (i : Nat)))) (fun i => xs[i]?)) where
  goes := fun i H hi h => ⟨xs, xs[i], h, List.getElem?_eq_getElem hi⟩
  stops := fun H h => ⟨xs, h, rfl⟩
  yields := fun i H v H' hi h y => by
    obtain ⟨T, x, e1, e2, e3, e4⟩ := y
    exact ⟨T, _, x, e1, e2, e3, rfl, e4 xs h⟩
section
variable {M : Model} {A : Around} {E : Value → Shared → Prop} {s : Shared} {env : Env}
theorem callWith_typeK {pos : Pos} {T : String} {e : Expr} {rest : List Expr} {kws : List Keyword} {Q : Value → Shared → Prop}
    (h : wpAny M A (spliced (backTo pos (starEach (e :: rest) env))) (fun vs s₁ => wpAny M A (evalAll ((backToKw pos (keywordEach kws env)).map (·.2)))
      (fun kvs s₂ => wpAny M A (call (.type T) vs (((backToKw pos (keywordEach kws env)).filterMap (·.1)).zip kvs)) Q E s₂) E s₁) E s)
    (he : backTo pos (starEach (e :: rest) env) = (false, eval e env) :: backTo pos (starEach rest env) := by rfl) (hplain : (backTo pos (starEach (e :: rest) env)).any (·.1) = false := by rfl)
    (hall : (backToKw pos (keywordEach kws env)).all (·.1.isSome) = true := by rfl) (hkw : (backToKw pos (keywordEach kws env)).any (·.1.isNone) = false := by rfl) :
    wpAny M A (callWith pos (.type T) [] (backTo pos (starEach (e :: rest) env)) (backToKw pos (keywordEach kws env))) Q E s := by
  unfold callWith
  refine wpAny_bind (wpAny_holding (wpAny_mono (Q := fun a s₁ => wpAny M A (call (.type T) ([] ++ a.pos) a.kw) Q E s₁) ?_ (fun a s₁ h₁ => wpAny_bind (wpAny_standAt ?_)) fun _ _ x => x))
  · rw [he] at h ⊢
    exact evalArgs_kwB hall h
  · simp only [hplain, hkw, Bool.or_false]
    refine wpAny_bind (wpAny_pure ?_)
    exact wpAny_bind (wpAny_mono h₁ (fun r s₂ hr => wpAny_bind (wpAny_holding (wpAny_point (wpAny_pure hr)))) fun _ _ x => x)
end
def iEnumk (K : PySem.W.Frag) (ta : TA) (k0 : Int) : TI := fun σ H R => ta σ H fun vs H1 => ∃ a xs, vs = [.ref a] ∧ SqL K H1 a xs ∧ R (Itek K a k0) H1
theorem pi_enumk {X : Cx} {e : Expr} {ta : TA} {p pos tpos kpos cpos : Pos} {elts : List Expr} {kk ck : Nat} {k0 : Int} (hg : Gl X "enumerate") (hm : X.mg "enumerate" = none) (h0 : -(2 ^ 63) ≤ k0) (h1 : k0 < 2 ^ 63) (ha : PA X [e] ta)
    (he : backTo pos (starEach [e] X.env) = (false, eval e X.env) :: backTo pos (starEach [] X.env) := by rfl) (hpl : (backTo pos (starEach [e] X.env)).any (·.1) = false := by rfl) :
    PI X (.Tuple elts kk tpos) (.Call (.Name "enumerate" p) [e] [⟨some "start", .Constant (.int k0) ck cpos, kpos⟩] pos) (iEnumk X.K ta k0) := by
  refine ⟨fun pins s σ H R I h => ?_⟩
  refine wpAny_Call_Name_kw (ld_blt I hg hm boot_enumerate ?_)
  refine callWith_typeK (thn (ha.run pos pins s σ H _ I h) fun us s1 ⟨vs, H1, I1, r1, q1⟩ => ?_) he hpl
  refine kws_cons (wpAny_Constant_int ?_)
  refine kws_nil ?_
  obtain ⟨a, xs, ex, hq, q⟩ := q1
  subst ex
  cases r1 with
  | cons r rr =>
    cases rr
    cases r
    have I1' := I1.tok (s1.toks + 1)
    obtain ⟨its, rv, p', hz⟩ := I1'.list hq
    refine enum_begins_start (begins_list a its.toArray) p'.isList h0 h1 fun h' he hit hsz hk => wpAny_pyIter_enum he ?_
    have I2 : Inv X pins σ H1 { s1 with heap := h', toks := s1.toks + 1 } := I1.kept (t' := s1.toks + 1) hk
    have lt : a < s1.heap.objs.size := by
      obtain ⟨o, e, _⟩ := p'.isList
      exact Heap.lt_size e
    refine ⟨s1.heap.objs.size + 1, [s1.heap.objs.size + 1, s1.heap.objs.size], _, _, H1, rfl, I2, turn_enumk a (s1.heap.objs.size + 1) s1.heap.objs.size k0, ⟨⟨.none, by simpa using he⟩, ⟨_, hit, rfl, rfl⟩, Nat.succ_ne_self _, Nat.ne_of_lt lt, Nat.ne_of_lt (Nat.lt_succ_of_lt lt)⟩, fun b hb => ?_, q⟩
    have hle : s1.heap.objs.size ≤ b := by
      rcases List.mem_cons.mp hb with rfl | hb
      · exact Nat.le_add_right _ _
      · rw [List.mem_singleton.mp hb]
        exact Nat.le_refl _
    exact I1.fpOk hle (I1.hok.fresh hle)
end KQ

namespace KQ
open PySem PySem.Spec PyProof.Rows L2
/-! ### len(set(xs)), xs a list of texts -/
def uqS (xs : List Str) : List Str := xs.foldl (fun acc x => if acc.any (· == x) then acc else acc ++ [x]) []
theorem uqS_snoc (xs : List Str) (x : Str) : uqS (xs ++ [x]) = if (uqS xs).any (· == x) then uqS xs else uqS xs ++ [x] := by
  unfold uqS
  rw [List.foldl_append]
  rfl
theorem uqS_le (xs : List Str) : (uqS xs).length ≤ xs.length := by
  suffices h : ∀ (xs acc : List Str), (xs.foldl (fun acc x => if acc.any (· == x) then acc else acc ++ [x]) acc).length ≤ acc.length + xs.length by
    have := h xs []
    rw [List.length_nil, Nat.zero_add] at this
    exact this
  intro xs
  induction xs with
  | nil => intro acc; exact Nat.le_refl _
  | cons x xs ih =>
    intro acc
    rw [List.foldl_cons]
    have := ih (if acc.any (· == x) then acc else acc ++ [x])
    have h2 : (if acc.any (· == x) then acc else acc ++ [x]).length ≤ acc.length + 1 := by
      split
      · omega
      · rw [List.length_append]; exact Nat.le_refl _
    rw [List.length_cons]
    omega
section
variable {P : Program} {w : World} {A : Around} {R : Result → Shared → Prop} {I : Addr} {fp wr : List Addr} {G : Array GenState → Array GenState → Prop} {n : Nat} {Pv : Nat → Value → Prop} {St : Nat → Shared → Prop}
/-- the texts of a walk put into a set -/
theorem set_update_strs (W : WalksS P w A.in1 I fp wr G n Pv St) (S : Addr) (hSf : S ∉ fp) (xs : List Str) (hsz : xs.length = n) (hb : n + 1 < scanBound)
    (hval : ∀ i v, Pv i v → ∃ x t, xs[i]? = some x ∧ v = .str x t) :
    ∀ (k i : Nat) (s : Shared), n - i = k → i ≤ n → St i s → s.heap.SetOf (PySem.strKind P w) S (fun k' => (uqS (xs.take i)).any (· == k')) (uqS (xs.take i)).length →
      (∀ s', Moved (S :: wr) G s s' → s'.heap.SetOf (PySem.strKind P w) S (fun k' => (uqS xs).any (· == k')) (uqS xs).length → R (.ok (.ret .none)) s') →
      codeAny (model P w) A (.builtin "set.update.loop" ⟨[.ref S, .ref I], []⟩) R s := by
  have hSw : S ∉ wr := fun h => hSf (W.sub _ h)
  have hsub : ∀ b ∈ wr, b ∈ S :: wr := fun b hb => List.mem_cons_of_mem _ hb
  intro k
  induction k with
  | zero =>
    intro i s hk hi hst hS hR
    obtain rfl : i = n := by omega
    refine codeAny_builtin PyProof.Rows.F.entry_set_update_loop ?_
    rw [Around.under_plainId PyProof.Rows.F.plain_set_update_loop _]
    show wpAny _ A.in1 (pyNext (.ref I) >>= _) _ _ s
    refine wpAny_bind (W.done s _ _ hst fun s' hm => ?_)
    show wpAny _ A.in1 (ret Value.none) _ _ s'
    rw [List.take_of_length_le (Nat.le_of_eq hsz)] at hS
    obtain ⟨o, es, ep, t, ho, rest⟩ := hS
    exact wpAny_pure (hR s' (hm.mono hsub) ⟨o, es, ep, t, hm.heap S _ hSw ho, rest⟩)
  | succ k ih =>
    intro i s hk hi hst hS hR
    have hlt : i < n := by omega
    refine codeAny_builtin PyProof.Rows.F.entry_set_update_loop ?_
    rw [Around.under_plainId PyProof.Rows.F.plain_set_update_loop _]
    show wpAny _ A.in1 (pyNext (.ref I) >>= _) _ _ s
    refine wpAny_bind (W.item i s _ _ hlt hst fun v s' hP hst' hm => ?_)
    obtain ⟨x, t, hx, rfl⟩ := hval i v hP
    have hS' : s'.heap.SetOf (PySem.strKind P w) S (fun k' => (uqS (xs.take i)).any (· == k')) (uqS (xs.take i)).length := by
      obtain ⟨o, es, ep, tb, ho, rest⟩ := hS
      exact ⟨o, es, ep, tb, hm.heap S _ hSw ho, rest⟩
    show wpAny _ A.in1 (holding [Value.str x t] (setAdd S (.str x t)) >>= _) _ _ s'
    refine wpAny_bind (wpAny_holding ?_)
    unfold setAdd
    refine wpAny_holding ?_
    refine wpAny_bind ((PySem.strKind P w).pyHash (k := x) (strKind_is _ _ _ _) ?_)
    have hle := uqS_le (xs.take i)
    rw [List.length_take] at hle
    refine wpAny_setAddHashed_of (knd := PySem.strKind P w) (s := { s' with toks := s'.toks + 1 }) (strKind_is _ _ _ _) rfl hS' (by omega) fun h' hsb hS2 => ?_
    have et : xs.take (i + 1) = xs.take i ++ [x] := by
      rw [List.take_add_one, hx]
      rfl
    have hSi : h'.SetOf (PySem.strKind P w) S (fun k' => (uqS (xs.take (i + 1))).any (· == k')) (uqS (xs.take (i + 1))).length := by
      rw [et, uqS_snoc]
      refine SetOf_congr hS2 (fun k' => ?_) ?_
      · by_cases h : (uqS (xs.take i)).any (· == x) = true
        · rw [if_pos h]
          by_cases e : k' = x
          · subst e
            rw [h, Bool.true_or]
          · rw [decide_eq_false e, Bool.or_false]
        · rw [if_neg h, List.any_append]
          congr 1
          show decide (k' = x) = ((x == k') || false)
          rw [Bool.or_false]
          by_cases e : k' = x
          · subst e
            simp
          · rw [decide_eq_false e]
            exact (beq_eq_false_iff_ne.mpr (Ne.symm e)).symm
      · split
        · rfl
        · rw [List.length_append]
          rfl
    refine wpAny_pure ⟨plainId_quiet PyProof.Rows.F.plain_set_update_loop _, ih (i + 1) _ (by omega) hlt (W.frame _ s' _ _ hst' (Nat.le_succ _) fun b hb o e => ?_) hSi fun s'' hm'' hS'' => ?_⟩
    · rw [hsb.2 b (fun h : b = S => hSf (by rw [← h]; exact hb))]
      exact e
    · refine hR s'' (Moved.trans W.gtrans ((hm.mono hsub).then_heap (Nat.le_succ _) fun b o hb e => ?_) hm'') hS''
      rw [hsb.2 b (fun h : b = S => hb (by rw [h]; exact List.mem_cons_self))]
      exact e
end
section
variable {P : Program} {w : World} {A : Around} {E : Value → Shared → Prop} {s : Shared}
abbrev set0L (led : Bool) : Obj := { cls := .type "set", dict := none, data := .set #[] 0 (.fresh 0 0 led) }
theorem upd_set_lstS {l : Addr} {items : Array Value} {xs : List Str} {R : Result → Shared → Prop} {s0 : Obj} (led : Bool) (e0' : s0 = { cls := .type "set", dict := none, data := .set #[] 0 (.fresh 0 0 led) }) (hh : A.handled = none) (hl : s.heap.IsList l items) (hit : StrsAre items.toList xs) (hb : xs.length + 1 < scanBound)
    (h : ∀ (h' : Heap) (tk : Nat), h'.SetOf (PySem.strKind P w) s.heap.objs.size (fun k' => (uqS xs).any (· == k')) (uqS xs).length → (∀ b o, s.heap.get? b = some o → h'.get? b = some o) → R (.ok (.ret .none)) { s with heap := h', toks := tk }) :
    codeAny (model P w) A (.builtin "set.update.loop" ⟨[.ref s.heap.objs.size, .ref (s.heap.objs.size + 1)], []⟩) R
      { s with heap := (s.heap.push s0).push { cls := .type "list_iterator", data := .fields #[.ref l, .int 0 0] } } := by
  subst e0'
  have hsz : xs.length = items.size := by rw [← StrsAre.len_eq hit, Array.length_toList]
  have lt : l < s.heap.objs.size := by
    obtain ⟨o, e, _⟩ := hl
    exact Heap.lt_size e
  generalize es0 : ({ cls := .type "set", dict := none, data := .set #[] 0 (.fresh 0 0 led) } : Obj) = s0
  have hz : (s.heap.push s0).objs.size = s.heap.objs.size + 1 := Heap.size_push ..
  have W := (Walks.list (prog := P) (w := w) (A := A.in1) (by simpa using hh) (s.heap.objs.size + 1) l (Nat.ne_of_lt (Nat.lt_succ_of_lt lt)) items).toS
  have e0 : ((s.heap.push s0).push { cls := .type "list_iterator", data := .fields #[.ref l, .int 0 0] }).get? s.heap.objs.size = some s0 := Heap.get?_push_of_some _ (Heap.get?_push_size _ (by rw [← es0]; rfl))
  have e1 : ((s.heap.push s0).push { cls := .type "list_iterator", data := .fields #[.ref l, .int 0 0] }).get? (s.heap.objs.size + 1) = some { cls := .type "list_iterator", data := .fields #[.ref l, .int 0 0] } := by rw [← hz]; exact Heap.get?_push_size _ rfl
  have nm : s.heap.objs.size ∉ [s.heap.objs.size + 1, l] := fun z => by
    rcases List.mem_cons.mp z with z | z
    · exact absurd z (Nat.ne_of_lt (Nat.lt_succ_self _))
    · exact absurd (List.mem_singleton.mp z) (Nat.ne_of_gt lt)
  refine set_update_strs W s.heap.objs.size nm xs hsz (by omega) (fun i v hv => ?_) items.size 0 _ (by omega) (Nat.zero_le _)
    ⟨⟨_, e1, rfl, rfl⟩, (hl.push _).push _⟩ ?_ fun s' m hS => ?_
  · obtain ⟨x, t, e, e2⟩ := StrsAre.item hit i v (by rw [Array.getElem?_toList]; exact hv)
    exact ⟨x, t, e2, e⟩
  · exact SetOf_congr ((setObjOf_fresh (knd := PySem.strKind P w) led).setOf (e0.trans (congrArg some es0.symm)) (by unfold scanBound; omega)) (fun _ => rfl) rfl
  · obtain ⟨h', g', d', tk', os'⟩ := s'
    obtain rfl : g' = s.gens := m.gens
    obtain rfl : d' = s.drawn := m.drawn
    obtain rfl : os' = s.os := m.os
    refine h h' tk' hS fun b o e => ?_
    have := Heap.lt_size e
    refine m.heap b o (fun z => ?_) (Heap.get?_push_of_some _ (Heap.get?_push_of_some _ e))
    rcases List.mem_cons.mp z with z | z
    · exact absurd z (Nat.ne_of_lt this)
    · exact absurd (List.mem_singleton.mp z) (Nat.ne_of_lt (Nat.lt_succ_of_lt this))
theorem call_set_lstS {l : Addr} {items : Array Value} (xs : List Str) {Q : Value → Shared → Prop} (hh : A.handled = none) (hl : s.heap.IsList l items) (hit : StrsAre items.toList xs) (hb : xs.length + 1 < scanBound)
    (h : ∀ (h' : Heap) (tk : Nat), h'.SetOf (PySem.strKind P w) s.heap.objs.size (fun k' => (uqS xs).any (· == k')) (uqS xs).length → (∀ b o, s.heap.get? b = some o → h'.get? b = some o) → Q (.ref s.heap.objs.size) { s with heap := h', toks := tk }) :
    wpAny (model P w) A (call (.type "set") [.ref l]) Q E s := by
  obtain ⟨c, tl, hmro⟩ := PySem.F.called_set.mro
  have made := PySem.F.called_set.made
  have self := PySem.F.called_set.sub
  have noType := PySem.F.called_set.notType
  have creates := PySem.F.called_set.canCreate
  have made1 := PySem.F.typeCall_set_1 (.ref l)
  refine wpAny_call (codeAny_of_tree ?_)
  show wpAny _ _ (callAny (.type "set") _) _ _ _
  refine wpAny_pure ⟨Code.quiet_builtin _ (by decide +kernel), codeAny_builtin PySem.F.entry_type_call ?_⟩
  rw [Around.under_plain (weight_type_call_type "set" [.ref l] []) rfl]
  repeat (any_goals (first | assumption | wp_step))
  refine codeAny_mono (code_set_new_1 (.ref l) (E := E) (Q₁ := fun v t => ∃ led : Bool, v = .ref s.heap.objs.size ∧ t = { s with heap := s.heap.push (set0L led) }) fun led => ⟨led, rfl, rfl⟩) fun r t hr => ?_
  match r, hr with
  | .error _, hr => exact hr
  | .ok (.ret v), hr =>
    obtain ⟨led, rfl, rfl⟩ := hr
    have ty : Shared.TypeIs { s with heap := s.heap.push (set0L led) } (.ref s.heap.objs.size) "set" := ⟨_, Heap.get?_push_size _ rfl, rfl⟩
    have look := PySem.F.called_set.init.lookup
    have bind := PySem.F.called_set.init.bind (.ref s.heap.objs.size)
    repeat (any_goals (first | assumption | wp_step))
    refine codeAny_mono (codeAny_call_builtin (R := wants (fun v t => v = .none ∧ ∃ h' tk, t = { s with heap := h', toks := tk } ∧ h'.SetOf (PySem.strKind P w) s.heap.objs.size (fun k' => (uqS xs).any (· == k')) (uqS xs).length ∧ (∀ b o, s.heap.get? b = some o → h'.get? b = some o)) E)
      PySem.F.called_set.init.plain PySem.F.entry_set_init (check_set_init_1 ty ?_)) fun r2 t2 hr2 => ?_
    · obtain ⟨⟨ocls, odict, odata, osl⟩, hol, hcl, nl, hdl⟩ := id hl
      obtain rfl : ocls = .type "list" := hcl
      obtain rfl : odata = .seq items nl := hdl
      have hol' : (s.heap.push (set0L led)).get? l = some { cls := .type "list", dict := odict, data := .seq items nl, slots := osl } := Heap.get?_push_of_some _ hol
      have hl1 : (s.heap.push (set0L led)).IsList l items := ⟨_, hol', rfl, nl, rfl⟩
      have k1 := PySem.F.sub_list_set
      have k2 := PySem.F.sub_list_frozenset
      have k3 : (Value.type "list" == Value.type "dict") = false := by decide
      unfold Builtin.«set.__init__» noKeywords Builtin.Frozenset.updateFrom
      generalize hPI : pyIter = PI
      wp_walk
      subst hPI
      refine wpAny_pyIter_list hl1 ?_
      refine wpAny_bind (wpAny_runValue ?_)
      rw [show (s.heap.push (set0L led)).objs.size = s.heap.objs.size + 1 from Heap.size_push ..]
      refine upd_set_lstS led rfl (by simpa using hh) hl hit hb fun h' tk hS k => ?_
      refine wpAny_pure ?_
      exact wpAny_pure ⟨rfl, h', tk, rfl, hS, k⟩
    · match r2, hr2 with
      | .error _, hr2 => exact hr2
      | .ok (.ret v2), hr2 =>
        obtain ⟨rfl, h', tk, rfl, hS, k⟩ := hr2
        repeat (any_goals (first | assumption | wp_step))
        exact h h' tk hS k
end
section
variable {X : Cx}
def tLenSetL (K : PySem.W.Frag) (ta : TE) : TE := fun σ H Q => ta σ H fun x H1 => ∃ (l : Addr) (xs : List Str), x = .ref l ∧ SqL K H1 l (xs.map V.str) ∧ xs.length ≤ 40 ∧ Q (.int ((uqS xs).length : Nat)) H1
theorem pe_lenSetL {a : Expr} {ta : TE} {p p2 q pos : Pos} (hc : X.calm = true) (hg : Gl X "len") (hm : X.mg "len" = none) (hg2 : Gl X "set") (hm2 : X.mg "set" = none) (ha : PE X a ta)
    (na : starEach [a] X.env = (false, eval a X.env) :: starEach [] X.env := by rfl) : PE X (.Call (.Name "len" p) [.Call (.Name "set" p2) [a] [] q] [] pos) (tLenSetL X.K ta) := by
  refine ⟨fun pins s σ H Q I h => ?_⟩
  refine Call_ (ld_blt I hg hm PySem.boot_len ?_)
  refine PyProof.Rows.callWith_builtin1 (PyProof.Rows.args_cons ?_ rfl) rfl rfl
  refine Call_ (ld_blt I hg2 hm2 PyProof.Rows.boot_set ?_)
  refine PyProof.Rows.callWith_type1 (PyProof.Rows.args_cons (thn (ha.run pins s σ H _ I h) fun v s1 ⟨x, H1, I1, r1, q1⟩ => PyProof.Rows.args_nil ?_) na) na rfl
  obtain ⟨l, xs, rfl, hq, h1, q1⟩ := q1
  cases r1
  obtain ⟨its, r, pl, hz⟩ := I1.list hq
  refine call_set_lstS xs (I1.ok.hd hc) pl.isList (by simpa using strsAre_of r) (by unfold scanBound; omega) fun h' tk hS hk => ?_
  refine PyProof.Rows.args_nil ?_
  obtain ⟨o, es, ep, t, ho, hex, hd, _, _, _, hf, hn⟩ := hS
  have I2 : Inv X pins σ H1 { s1 with heap := h', toks := tk } := I1.kept fun b o e => hk b o e
  have := uqS_le xs
  exact call_len_set ho hex hd hf (by rw [hn]; omega) ⟨.int ((uqS xs).length : Nat), H1, I2.tok _, ⟨_, by rw [hn]⟩, q1⟩
end
end KQ

namespace KQ
open PySem PySem.Spec PyProof.Rows L2
section
variable {X : Cx}
/-- list(text) -/
theorem vals_signs {x : Str} : ∀ (n : Nat) (vs : List Value), vs.length = n → (∀ (j : Nat) (v : Value), vs[j]? = some v → ∃ c u, x.cps.toList[j]? = some c ∧ v = Value.str ⟨#[c]⟩ u) → n ≤ x.cps.toList.length → Vals ((x.cps.toList.take n).map fun c => V.str ⟨#[c]⟩) vs := by
  have go : ∀ (L : List Nat) (vs : List Value), vs.length ≤ L.length → (∀ (j : Nat) (v : Value), vs[j]? = some v → ∃ c u, L[j]? = some c ∧ v = Value.str ⟨#[c]⟩ u) → Vals ((L.take vs.length).map fun c => V.str ⟨#[c]⟩) vs := by
    intro L
    induction L with
    | nil =>
      intro vs hl _
      cases vs with
      | nil => exact .nil
      | cons v vs => simp at hl
    | cons c L ih =>
      intro vs hl h
      cases vs with
      | nil => exact .nil
      | cons v vs =>
        obtain ⟨c', u, e1, e2⟩ := h 0 v rfl
        have e3 : c = c' := by simpa using e1
        subst e3
        subst e2
        refine .cons ⟨u, rfl⟩ (ih vs (by simpa using hl) fun j w hj => ?_)
        have := h (j + 1) w (by simpa using hj)
        simpa using this
  intro n vs hl h hn
  subst hl
  exact go _ vs hn h
theorem call_list_txt (calm : X.calm = true) : CallR X (.type "list") (fun xs H Q => ∃ z : Str, xs = [.str z] ∧ z.cps.toList.length ≤ sizeLine ∧ ∀ l, H l = none → Q (.ref l) (upd H l (.lst (z.cps.toList.map fun c => V.str ⟨#[c]⟩)))) := by
  intro pins s σ H xs us Q I r want
  obtain ⟨z, rfl, hz, q⟩ := want
  obtain ⟨u, rfl, rx⟩ := vals1 r
  obtain ⟨t, rfl⟩ := rx
  refine PySem.call_list_str (I.ok.hd calm) z t (fun h' tk acc c' kp e items => ?_) (by simpa using hz)
  obtain ⟨n1, n2⟩ := items
  have hv := vals_signs (x := z) z.cps.toList.length acc.toList (by rw [Array.length_toList, n1]; simp) (fun j v hj => by
    obtain ⟨c, u, e1, e2⟩ := n2 j v (by simpa using hj)
    exact ⟨c, u, by simpa using e1, e2⟩) (Nat.le_refl _)
  rw [List.take_of_length_le (Nat.le_refl _)] at hv
  refine ⟨.ref s.heap.objs.size, _, I.laid (t' := tk) kp (Nat.le_refl _) (show ObjOk X.prog X.w _ h' _ (.lst _) from ⟨by rw [List.length_map]; exact hz, acc.toList, c', hv, by simpa using e⟩), rfl, q _ (I.hok.fresh (Nat.le_refl _))⟩
end
/-! ### the program's defs -/
abbrev sInitT : Stmt := inClass (topS 3) 0
abbrev sIsI : Stmt := topS 6
abbrev sSort : Stmt := topS 10
abbrev sInit : Stmt := inClass (topS 10) 0
abbrev sCommon : Stmt := topS 11
abbrev sRules : Stmt := topS 12
abbrev sLine : Stmt := topS 13
abbrev sOnly : Stmt := topS 14
abbrev sNb : Stmt := topS 15
abbrev sPair : Stmt := topS 16
theorem scInitT : FnScope ["self", "line", "column"] ["self", "line", "column"] (defScope sInitT) := ⟨rfl, rfl, rfl, by decide +kernel, rfl, by decide +kernel, by decide +kernel⟩
theorem scIsI : FnScope ["value"] ["value"] (defScope sIsI) := ⟨rfl, rfl, rfl, by decide +kernel, rfl, by decide +kernel, by decide +kernel⟩
theorem scOnly : FnScope ["line", "words", "right"] ["line", "words", "right"] (defScope sOnly) := ⟨rfl, rfl, rfl, by decide +kernel, rfl, by decide +kernel, by decide +kernel⟩
theorem scNb : FnScope ["limit", "number"] ["limit"] (defScope sNb) := ⟨rfl, rfl, rfl, by decide +kernel, rfl, by decide +kernel, by decide +kernel⟩
theorem scPair : FnScope ["size", "word", "one", "_", "other", "places"] ["size", "word"] (defScope sPair) := ⟨rfl, rfl, rfl, by decide +kernel, rfl, by decide +kernel, by decide +kernel⟩
theorem scLine : FnScope ["size", "line", "words", "kind", "numbers", "found", "column", "word", "told"] ["size", "line", "words"] (defScope sLine) := ⟨rfl, rfl, rfl, by decide +kernel, rfl, by decide +kernel, by decide +kernel⟩
theorem scRules : FnScope ["size", "text", "rules", "line", "row", "words", "word"] ["size", "text"] (defScope sRules) := ⟨rfl, rfl, rfl, by decide +kernel, rfl, by decide +kernel, by decide +kernel⟩
/-- built-in names -/
structure Bl (mg : Str → Option Value) : Prop where
  isi : mg "isinstance" = none
  int : mg "int" = none
  bool : mg "bool" = none
  str : mg "str" = none
  len : mg "len" = none
  range : mg "range" = none
  list : mg "list" = none
  tuple : mg "tuple" = none
  sorted : mg "sorted" = none
  set : mg "set" = none
  all : mg "all" = none
  min : mg "min" = none
  enum : mg "enumerate" = none
/-- no text -/
def Odd (H : Hp) (v : V) : Prop := v = .non ∨ (∃ b, v = .bl b) ∨ (∃ i, v = .int i) ∨ (∃ p xs, v = .ref p ∧ H p = some (.lst xs)) ∨ (∃ p xs, v = .ref p ∧ H p = some (.tup xs)) ∨ ∃ p kv, v = .ref p ∧ H p = some (.dK kv)
theorem Odd.ty {H : Hp} {v : V} (h : Odd H v) : ∃ n : String, (∀ K, TyX K H v (.type n)) ∧ kitB n "str" = some false := by
  rcases h with h | ⟨b, h⟩ | ⟨i, h⟩ | ⟨p, xs, h, e⟩ | ⟨p, xs, h, e⟩ | ⟨p, kv, h, e⟩ <;> subst h
  · exact ⟨_, fun K => .base .non, by decide +kernel⟩
  · exact ⟨_, fun K => .base (.bl b), by decide +kernel⟩
  · exact ⟨_, fun K => .base (.int i), by decide +kernel⟩
  · exact ⟨_, fun K => .base (.lst e), by decide +kernel⟩
  · exact ⟨_, fun K => .base (.tup e), by decide +kernel⟩
  · exact ⟨_, fun K => .base (.dK e), by decide +kernel⟩
theorem Odd.same {H H' : Hp} {v : V} (s : Same H H') (h : Odd H v) : Odd H' v := by
  rcases h with h | h | h | ⟨p, xs, h, e⟩ | ⟨p, xs, h, e⟩ | ⟨p, kv, h, e⟩
  · exact .inl h
  · exact .inr (.inl h)
  · exact .inr (.inr (.inl h))
  · exact .inr (.inr (.inr (.inl ⟨p, xs, h, s _ _ e⟩)))
  · exact .inr (.inr (.inr (.inr (.inl ⟨p, xs, h, s _ _ e⟩))))
  · exact .inr (.inr (.inr (.inr (.inr ⟨p, kv, h, s _ _ e⟩))))
def xdT (l c : V) : List (Str × V) := [("column", c), ("line", l)]
/-- BadText(l, c) leaves the call -/
def Rz (C : Addr) (l c : V) (H : Hp) (E : XK) : Prop := ∀ d H', Same H H' → H' d = some (.xd (xdT l c)) → E (.ref C) (some d) H'
def spInitT (C : Addr) : Sp := fun vs H Q _ => ∃ (a : Addr) (y0 y1 : V), vs = [.ref a, y0, y1] ∧ H a = some (exo a C none) ∧
  ∀ H' d, H d = none → d ≠ a → H' a = some (exo a C (some d)) → H' d = some (exd d (xdT y0 y1)) → (∀ b o, H b = some o → b ≠ a → H' b = some o) → Q .non H'
theorem same_new {H : Hp} {r : Addr} {o : HO} (n : H r = none) : Same H (upd H r o) := fun b u e => by
  rw [upd_ne (ne_of_none e n)]
  exact e
/-- what the top has written of BadText -/
structure BT (K : PySem.W.Frag) (mg : Str → Option Value) (C fB : Addr) (dB : FuncData) : Prop where
  ox : OexC K C
  ic : PySem.W.findIn K (.ref C) "__init__" = some (some (.ref fB))
  ti : PySem.W.typeIn K (.ref fB) = some (.type "function")
  n0 : PySem.W.findIn K (.ref C) "line" = some none
  n1 : PySem.W.findIn K (.ref C) "column" = some none
  g : mg "BadText" = some (.ref C)
  F : Fun K "__init__" "BadText.__init__" sInitT fB dB
  b : Binds K dB ["self", "line", "column"] []
theorem bootS : bootBuiltins "str" = some (.type "str") := by decide +kernel
theorem bootI : bootBuiltins "int" = some (.type "int") := by decide +kernel
theorem bootL : bootBuiltins "list" = some (.type "list") := by decide +kernel
theorem bootTu : bootBuiltins "tuple" = some (.type "tuple") := by decide +kernel
theorem bootSo : bootBuiltins "sorted" = some (.builtin "sorted") := by decide +kernel
theorem bootMin : bootBuiltins "min" = some (.builtin "min") := by decide +kernel
theorem bootAll : bootBuiltins "all" = some (.builtin "all") := by decide +kernel
section
variable {P : Program} {w : World} {K : PySem.W.Frag} {mg : Str → Option Value} {base : Heap}
theorem ok_initT {f C : Addr} {fd : FuncData} {k : Nat} (F : Fun K "__init__" "BadText.__init__" sInitT f fd) (T : OexC K C) (n0 : PySem.W.findIn K (.ref C) "line" = some none) (n1 : PySem.W.findIn K (.ref C) "column" = some none) :
    FnOk P w K mg base CX0 (k + 1) f fd ["self", "line", "column"] (spInitT C) := by
  refine F.ok scInitT (fun vs H Q E h => ?_) (fun cdv A outer s H vs Q E hr h => ?_)
  · obtain ⟨a, y0, y1, rfl, _⟩ := h
    rfl
  · obtain ⟨a, y0, y1, rfl, ha, q⟩ := h
    refine ⟨_, pss_cons (ps_ost (pv 0) (pv 1) rfl) (pss_one (ps_ost (pv 0) (pv 2) rfl)), ?_⟩
    refine ⟨_, rfl, _, rfl, a, C, rfl, T, n0, .inl ⟨ha, fun dx nx dne => ?_⟩⟩
    refine ⟨_, rfl, _, rfl, a, C, rfl, T, n1, .inr ⟨dx, _, upd_same, by rw [upd_ne dne]; exact upd_same, by show _ ≤ 900; exact Nat.le_of_ble_eq_true rfl, ?_⟩⟩
    exact q _ dx nx dne (by rw [upd_ne dne.symm]; exact upd_same) upd_same (fun b o e hb => by rw [upd_ne (ne_of_none e nx), upd_ne hb, upd_ne (ne_of_none e nx)]; exact e)
theorem raise_rd {C : Addr} {y0 y1 : V} {H : Hp} {W : XK} (h : Rz C y0 y1 H W) : ∀ a, H a = none → spInitT C (.ref a :: ([y0, y1] ++ [])) (upd H a (exo a C none))
    (fun v H2 => v = .non ∧ ∃ (d : Addr) (fs : List (Str × V)), H2 a = some (exo a C (some d)) ∧ H2 d = some (exd d fs) ∧ H d = none ∧ W (.ref C) (some d) (upd (del H2 a) d (.xd fs))) (fun _ _ _ => False) := by
  intro a na
  refine ⟨a, y0, y1, rfl, upd_same, fun H' d nd dne e1 e2 kp => ⟨rfl, d, _, e1, e2, ?_, ?_⟩⟩
  · rw [upd_ne dne] at nd
    exact nd
  · have nd' : H d = none := by
      rw [upd_ne dne] at nd
      exact nd
    refine h d _ (fun b o e => ?_) upd_same
    have hba : b ≠ a := ne_of_none e na
    rw [upd_ne (ne_of_none e nd'), del_ne hba]
    exact kp b o (by rw [upd_ne hba]; exact e) hba
theorem sizeBig {n : Nat} (h : n ≤ 1000) : n ≤ sizeLine := Nat.le_trans h (by decide)
end
end KQ

namespace KQ
open PySem PySem.Spec PyProof.Rows L2
/-! ### numbers by their texts -/
def numD (n : Nat) : List (Key × V) := (List.range n).map fun k => (.inr (nT k), .int (k : Int))
theorem numD_put : ∀ i < 26, putK (numD i) (.inr (nT i)) (.int (i : Int)) = numD (i + 1) := by decide +kernel
theorem numD_get (n : Nat) (w : Str) : valV (numD n) (.inr w : Key) = (numOf n w).map fun k : Nat => V.int (k : Int) := by
  unfold valV numD numOf
  rw [List.find?_map, Option.map_map]
  have e : ((fun kv : Key × V => decide (kv.1 = Sum.inr w)) ∘ fun k : Nat => ((Sum.inr (nT k) : Key), V.int (k : Int))) = fun k => decide (nT k = w) := by
    funext k
    exact decide_eq_decide.mpr ⟨fun e => Sum.inr.inj e, fun e => congrArg Sum.inr e⟩
  rw [e]
  rfl
theorem numD_len (n : Nat) : (numD n).length = n := by
  unfold numD
  rw [List.length_map, List.length_range]
theorem inS (w : Str) : ∀ rs : List Str, inV (V.str w) (rs.map V.str) = decide (w ∈ rs)
  | [] => rfl
  | r :: rs => by
    show ((r == w) || inV (V.str w) (rs.map V.str)) = _
    rw [inS w rs]
    by_cases h : r = w
    · subst h
      simp
    · have h' : ¬ w = r := Ne.symm h
      rw [beq_eq_false_iff_ne.mpr h, Bool.false_or]
      exact decide_eq_decide.mpr ⟨fun z => List.mem_cons_of_mem _ z, fun z => (List.mem_cons.mp z).resolve_left h'⟩
theorem flatS (rs : List Str) : (rs.map V.str).all flatV = true := by
  rw [List.all_map]
  exact List.all_eq_true.mpr fun _ _ => rfl
theorem perm_twoI {a b : Int} {ys : List Int} (h : ys.Perm [a, b]) : ys = [a, b] ∨ ys = [b, a] := by
  have hl := h.length_eq
  match ys, hl with
  | [x, y], _ =>
    have h1 : x ∈ [a, b] := h.subset (by simp)
    have h2 : a ∈ [x, y] := h.symm.subset (by simp)
    have h3 : b ∈ [x, y] := h.symm.subset (by simp)
    have h4 : y ∈ [a, b] := h.subset (by simp)
    simp only [List.mem_cons, List.mem_nil_iff, or_false] at h1 h2 h3 h4
    have : (x = a ∧ y = b) ∨ (x = b ∧ y = a) := by omega
    rcases this with ⟨rfl, rfl⟩ | ⟨rfl, rfl⟩
    · exact .inl rfl
    · exact .inr rfl
theorem sorted_two {i j : Nat} {ys : List Int} (h : ys.Perm [(i : Int), (j : Int)]) (hs : ys.Pairwise (· ≤ ·)) : ys = [((min i j : Nat) : Int), ((max i j : Nat) : Int)] := by
  rcases perm_twoI h with rfl | rfl
  · have : (i : Int) ≤ (j : Int) := by simpa using hs
    rw [Nat.min_eq_left (by omega), Nat.max_eq_right (by omega)]
  · have : (j : Int) ≤ (i : Int) := by simpa using hs
    rw [Nat.min_eq_right (by omega), Nat.max_eq_left (by omega)]
section
variable {J : It} {n : Nat} {G : Hp → Prop} {Y : Nat → Hp → V → Hp → Prop}
theorem dc_it (w : Walk J n G Y) {g : TG} {tt : TT} {tk tv : TE} {vs : List Nat} {σ : L2.St} {H1 : Hp} {D : Addr} {Qd : Hp → Prop} (Pv : Nat → Hp → Prop) (h0 : Pv 0 (upd H1 D (.dK []))) (hG : ∀ i H, i ≤ n → Pv i H → G H)
    (hs : ∀ i x H H', i < n → Pv i H → Y i H x H' → g x (wipe σ vs) H' fun σ2 H2 => wipe σ2 vs = wipe σ vs ∧ tt σ2 H2 fun b H3 =>
      if b = true then tk σ2 H3 fun y H4 => tv σ2 H4 fun z H5 => ∃ kvs k, y = kV k ∧ H5 D = some (.dK kvs) ∧ kvs.length < sizeLine ∧ Pv (i + 1) (upd H5 D (.dK (putK kvs k z))) else Pv (i + 1) H3) (hd : ∀ H, Pv n H → Qd H) :
    ∃ W : Nat → Nat → Hp → Prop, (∃ m, W 0 m (upd H1 D (.dK []))) ∧ ∀ i m H, W i m H →
      (J.stop i H ∧ Qd H) ∨ (J.go i H ∧ ∃ Nx : Hp → Prop, (∀ H', Nx H' → ∃ m', m' < m ∧ W (i + 1) m' H') ∧ ∀ x H', J.yld i H x H' → g x (wipe σ vs) H' fun σ2 H2 => wipe σ2 vs = wipe σ vs ∧ tt σ2 H2 fun b H3 =>
        if b = true then tk σ2 H3 fun y H4 => tv σ2 H4 fun z H5 => ∃ kvs k, y = kV k ∧ H5 D = some (.dK kvs) ∧ kvs.length < sizeLine ∧ Nx (upd H5 D (.dK (putK kvs k z))) else Nx H3) := by
  refine ⟨fun i m H => m = n - i ∧ i ≤ n ∧ Pv i H, ⟨n, by simp, Nat.zero_le _, h0⟩, ?_⟩
  rintro i m H ⟨rfl, hi, p⟩
  have q := hG i H hi p
  by_cases hlt : i < n
  · exact .inr ⟨w.goes i H hlt q, Pv (i + 1), fun H' p' => ⟨n - (i + 1), by omega, rfl, hlt, p'⟩, fun x H' y => hs i x H H' hlt p (w.yields i H x H' hlt q y)⟩
  · obtain rfl : i = n := by omega
    exact .inl ⟨w.stops H q, hd H p⟩
end
theorem bootB : bootBuiltins "bool" = some (.type "bool") := by decide +kernel
def spIsI : Sp := fun vs H Q _ => ∃ i : Int, vs = [.int i] ∧ Q (.bl true) H
def spNb : Sp := fun vs H Q _ => ∃ n : Nat, vs = [.int (n : Int)] ∧ n ≤ 25 ∧ ∀ H' p, Same H H' → H p = none → H' p = some (.dK (numD n)) → Q (.ref p) H'
def spOnly (K : PySem.W.Frag) (C : Addr) : Sp := fun vs H Q E => ∃ (l : Int) (pw pr : Addr) (k : Str) (rest rs : List Str), vs = [.int l, .ref pw, .ref pr] ∧ SqL K H pw ((k :: rest).map V.str) ∧ (SqL K H pr (rs.map V.str) ∨ SqT K H pr (rs.map V.str)) ∧
  OnlyQ rs (Rz C (.int l) (.int 2) H E) (Rz C (.int l) (.int 3) H E) (fun w => Q (.str w) H) rest
def spPair : Sp := fun vs H Q _ => ∃ (n : Nat) (w : Str), vs = [.int (n : Int), .str w] ∧ n ≤ 25 ∧ w.length ≤ sizeLine ∧
  ((nearOf n w = none ∧ ∀ H', Same H H' → Q .non H') ∨ ∃ i j, nearOf n w = some (i, j) ∧ ∀ H' t, Same H H' → H t = none → H' t = some (.tup [.int (i : Nat), .int (j : Nat)]) → Q (.ref t) H')
theorem same_upd {H H' : Hp} {p : Addr} {o : HO} (s : Same H H') (np : H p = none) : Same H (upd H' p o) := fun b u e => by
  rw [upd_ne (ne_of_none e np)]
  exact s _ _ e
theorem none_back {H H' : Hp} {p : Addr} (s : Same H H') (np : H' p = none) : H p = none := by
  cases e : H p with
  | none => rfl
  | some o => rw [s _ _ e] at np; cases np
section
variable {P : Program} {w : World} {K : PySem.W.Frag} {mg : Str → Option Value} {base : Heap}
theorem ok_nb {f : Addr} {fd : FuncData} {k : Nat} (F : Fun K "_numbers_below" "_numbers_below" sNb f fd) (B : Bl mg) : FnOk P w K mg base CX0 (k + 1) f fd ["limit"] spNb := by
  refine F.ok scNb (fun vs H Q E h => ?_) (fun cdv A outer s H vs Q E hr h => ?_)
  · obtain ⟨n, rfl, _⟩ := h
    rfl
  · obtain ⟨n, rfl, hn, q⟩ := h
    refine ⟨_, pss_one (ps_ret (pe_dc (own := [("number", 1)]) (g := gName 1) (tt := tYes) rfl scNb.nd (pi_range1 (by rfl) B.range (pa_cons (pv 0) pa_nil)) (blkOk_by (own := [("number", 1)]) (N := ["limit", "number"]) (sc := defScope sNb) (by decide +kernel))
      (fun _ _ _ _ _ => pg_name (i := 1) scNb.nd rfl (Or.inl rfl)) (fun _ _ _ _ _ => pts_nil) (fun _ _ _ _ _ => pe_callTy call_str_int (by rfl) B.str bootS (pa_cons (pv 1) pa_nil)) (fun _ _ _ _ _ => pv 1))), ?_⟩
    refine ⟨_, rfl, _, rfl, by omega, by omega, fun D nD => dc_it walk_range (fun i H' => Same H H' ∧ H' D = some (.dK (numD i))) ⟨same_new nD, upd_same⟩ (fun _ _ _ _ => trivial) ?_ ?_⟩
    · rintro i x H1 H2 hi ⟨s1, e1⟩ ⟨rfl, rfl⟩
      have e0 : (0 : Int) + (i : Nat) = (i : Nat) := by omega
      have hi' : i < n := by omega
      refine ⟨rfl, _, rfl, _, rfl, ?_, ?_⟩
      · show (0 + ((i : Nat) : Int)).natAbs.log2 < 1920
        rw [e0, Int.natAbs_natCast]
        exact Nat.lt_of_le_of_lt (Nat.log2_le_self i) (by omega)
      refine ⟨_, rfl, numD i, .inr (nT i), ?_, e1, ?_, same_upd s1 nD, ?_⟩
      · show V.str (toString (0 + ((i : Nat) : Int)) : Str) = V.str (nT i)
        rw [e0]
      · rw [numD_len]
        exact Nat.lt_of_lt_of_le (Nat.lt_of_lt_of_le hi' hn) (by decide)
      · rw [upd_same]
        show some (HO.dK (putK (numD i) (.inr (nT i)) (.int (0 + ((i : Nat) : Int))))) = _
        rw [e0, numD_put i (by omega)]
    · rintro H1 ⟨s1, e1⟩
      exact q _ D s1 nD (by simpa using e1)
theorem ok_isI {f : Addr} {fd : FuncData} {k : Nat} (F : Fun K "is_integer" "is_integer" sIsI f fd) (B : Bl mg) : FnOk P w K mg base CX0 (k + 1) f fd ["value"] spIsI := by
  refine F.ok scIsI (fun vs H Q E h => ?_) (fun cdv A outer s H vs Q E hr h => ?_)
  · obtain ⟨n, rfl, _⟩ := h
    rfl
  · obtain ⟨i, rfl, q⟩ := h
    refine ⟨_, pss_one (ps_ret (pe_and (pe_callB call_isi (by rfl) B.isi PyProof.Rows.boot_isinstance (pa_cons (pv 0) (pa_cons (pe_bltn (v := .ty "int") (by rfl) B.int bootI rfl) pa_nil)))
      (pe_one (pe_not (pe_callB call_isi (by rfl) B.isi PyProof.Rows.boot_isinstance (pa_cons (pv 0) (pa_cons (pe_bltn (v := .ty "bool") (by rfl) B.bool bootB rfl) pa_nil))))))), ?_⟩
    refine ⟨_, rfl, _, _, _, _, true, rfl, .ty "int", .base (.int _), kit_ty (by decide +kernel), true, rfl, ?_⟩
    exact ⟨_, rfl, _, _, _, _, false, rfl, .ty "bool", .base (.int _), kit_ty (by decide +kernel), _, rfl, q⟩
theorem ok_only {f C fB : Addr} {fd dB : FuncData} (F : Fun K "_only_word" "_only_word" sOnly f fd) (T : BT K mg C fB dB) (B : Bl mg) : FnOk P w K mg base (L2.CX P w) 3 f fd ["line", "words", "right"] (spOnly K C) := by
  have GB : FnOk P w K mg base CX0 1 fB dB ["self", "line", "column"] (spInitT C) := ok_initT T.F T.ox T.n0 T.n1
  refine F.okX scOnly (fun vs H Q E h => ?_) (fun cdv A outer s H vs Q E hr h => ?_)
  · obtain ⟨l, pw, pr, k, rest, rs, rfl, _⟩ := h
    rfl
  · obtain ⟨l, pw, pr, k, rest, rs, rfl, hw, hrs, h⟩ := h
    refine ⟨_, C8.pss_cut (ps_if (pw_or (pt_cmpR op_lt (pe_callB call_len_seq (by rfl) B.len PySem.boot_len (pa_cons (pv 1) pa_nil)) pe_int (nomark _)) (pw_or1 (pt_cmpR op_notIn_seq (pe_ix ix_list (pv 1) pe_int (fun _ _ => rfl)) (pv 2) (by rfl)))).pt
        (pss_one (ps_raise rfl (takes_of rfl rfl rfl rfl) (pmk_oex T.ox T.ic T.ti GB hr T.b .nil pass0 (by rfl) T.g (pa_cons (pv 0) (pa_cons pe_int pa_nil))))) pss_nil)
      (C8.pss_cut (ps_if (pt_cmpR op_gt (pe_callB call_len_seq (by rfl) B.len PySem.boot_len (pa_cons (pv 1) pa_nil)) pe_int (nomark _))
        (pss_one (ps_raise rfl (takes_of rfl rfl rfl rfl) (pmk_oex T.ox T.ic T.ti GB hr T.b .nil pass0 (by rfl) T.g (pa_cons (pv 0) (pa_cons pe_int pa_nil))))) pss_nil)
      (pss_one (ps_ret (pe_ix ix_list (pv 1) pe_int (fun _ _ => rfl))))), ?_⟩
    have hl : (((k :: rest).map V.str).length : Int) = (rest.length : Int) + 1 := by
      rw [List.length_map, List.length_cons]
      omega
    cases rest with
    | nil =>
      refine ⟨fun _ _ => False, ?_, fun _ _ z => z.elim⟩
      refine ⟨_, rfl, _, _, rfl, .inl hw, _, _, rfl, rfl, _, rfl, iteT ⟨_, rfl, by show 2 ≤ 1000; decide, raise_rd h⟩⟩
    | cons w r =>
      have hat : atI ((k :: w :: r).map V.str) 1 = some (.str w) := atI_nat (j := 1) rfl
      have n2 : ¬ ((r.length : Int) + 1 + 1 < 2) := by omega
      refine ⟨fun σ' H' => σ' = [some (.int l), some (.ref pw), some (.ref pr)] ∧ H' = H ∧ w ∈ rs, ?_, ?_⟩
      · refine ⟨_, rfl, _, _, rfl, .inl hw, _, _, rfl, rfl, _, rfl, ?_⟩
        rw [hl, decide_eq_false (by show ¬ (((w :: r).length : Int) + 1 < 2); rw [List.length_cons]; omega)]
        refine iteF ⟨_, rfl, pw, _, _, _, rfl, rfl, hw, hat, _, rfl, pr, _, rfl, hrs, rfl, flatS rs, _, rfl, ?_⟩
        show if (!inV (V.str w) (rs.map V.str)) = true then _ else _
        rw [inS]
        by_cases hm : w ∈ rs
        · rw [decide_eq_true hm]
          exact iteF ⟨rfl, rfl, hm⟩
        · rw [decide_eq_false hm]
          have h' : if w ∈ rs then (if r = [] then Q (.str w) H else Rz C (.int l) (.int 3) H E) else Rz C (.int l) (.int 2) H E := h
          rw [if_neg hm] at h'
          exact iteT ⟨_, rfl, by show 2 ≤ 1000; decide, raise_rd h'⟩
      rintro _ H1 ⟨rfl, eH, hm⟩
      subst eH
      replace h : if w ∈ rs then (if r = [] then Q (.str w) H1 else Rz C (.int l) (.int 3) H1 E) else Rz C (.int l) (.int 2) H1 E := h
      rw [if_pos hm] at h
      refine ⟨fun σ' H' => σ' = [some (.int l), some (.ref pw), some (.ref pr)] ∧ H' = H1 ∧ Q (.str w) H1, ?_, ?_⟩
      · refine ⟨_, rfl, _, _, rfl, .inl hw, _, _, rfl, rfl, _, rfl, ?_⟩
        rw [hl]
        cases r with
        | nil => exact iteF ⟨rfl, rfl, by simpa using h⟩
        | cons x r =>
          rw [decide_eq_true (by show (((w :: x :: r).length : Int) + 1) > 2; rw [List.length_cons, List.length_cons]; omega)]
          exact iteT ⟨_, rfl, by show 2 ≤ 1000; decide, raise_rd (by simpa using h)⟩
      rintro _ _ ⟨rfl, rfl, hq⟩
      exact ⟨_, rfl, pw, _, _, _, rfl, rfl, hw, hat, hq⟩
theorem ok_pair {f fN : Addr} {fd dN : FuncData} {k : Nat} (F : Fun K "_pair_of" "_pair_of" sPair f fd) (FN : Fun K "_numbers_below" "_numbers_below" sNb fN dN) (bN : Binds K dN ["limit"] []) (gN : mg "_numbers_below" = some (.ref fN)) (B : Bl mg) :
    FnOk P w K mg base CX0 (k + 2) f fd ["size", "word"] spPair := by
  have GN : FnOk P w K mg base CX0 (k + 1) fN dN ["limit"] spNb := ok_nb FN B
  refine F.ok scPair (fun vs H Q E h => ?_) (fun cdv A outer s H vs Q E hr h => ?_)
  · obtain ⟨n, w, rfl, _⟩ := h
    rfl
  · obtain ⟨n, w, rfl, hn, hz, h⟩ := h
    have hu := hu_of hr
    refine ⟨_, C8.pss_cut (ps_asg (pe_partition (pv 1) pe_str) (pg_tup (by rfl) (pgs_cons (pg_name (i := 2) scPair.nd rfl (.inl rfl)) (pgs_cons (pg_name (i := 3) scPair.nd rfl (.inl rfl)) (pgs_cons (pg_name (i := 4) scPair.nd rfl (.inl rfl)) pgs_nil)))))
      (C8.pss_cut (ps_set (i := 5) scPair.nd rfl (.inl rfl) (pe_lst (pa_cons (pe_dget1 hu (pe_call GN hr (by rfl) gN FN.kp bN .nil pass0 (pa_cons (pv 0) pa_nil)) (pv 2) ⟨rfl, rfl, rfl, rfl⟩) (pa_cons (pe_dget1 hu (pe_call GN hr (by rfl) gN FN.kp bN .nil pass0 (pa_cons (pv 0) pa_nil)) (pv 4) ⟨rfl, rfl, rfl, rfl⟩) pa_nil))))
      (C8.pss_cut (ps_if (pw_or (pt_cmpR op_in_seq pe_non (pv 5) (by rfl)) (pw_or1 (pt_cmpR op_eq (pe_ix ix_list (pv 5) pe_int (fun _ _ => rfl)) (pe_ix ix_list (pv 5) pe_int (fun _ _ => rfl)) (nomark _)))).pt (pss_one (ps_ret pe_non)) pss_nil)
      (pss_one (ps_ret (pe_callTy call_tuple_of (by rfl) B.tuple bootTu (pa_cons (pe_callB cr_sorted (by rfl) B.sorted bootSo (pa_cons (pv 5) pa_nil)) pa_nil)))))), ?_⟩
    generalize e1 : (Txt.partition w "-").1 = a
    generalize e2 : (Txt.partition w "-").2.2 = b
    have en : nearOf n w = nearP (numOf n a) (numOf n b) := by
      unfold nearOf
      rw [e1, e2]
    refine ⟨fun σ' H' => ∃ m, σ' = [some (.int (n : Nat)), some (.str w), some (.str a), some (.str m), some (.str b), none] ∧ Same H H', ?_, ?_⟩
    · refine ⟨_, rfl, ⟨_, rfl⟩, _, _, rfl, rfl, by decide +kernel, hz, fun p np => ⟨p, _, rfl, .inl (.inl upd_same), rfl, ?_⟩⟩
      rw [e1, e2]
      exact ⟨_, _, rfl, _, _, rfl, _, _, rfl, rfl, _, rfl, same_new np⟩
    rintro _ H1 ⟨m, rfl, s1⟩
    generalize hva : ((numOf n a).map fun k : Nat => V.int (k : Int)).getD .non = va
    generalize hvb : ((numOf n b).map fun k : Nat => V.int (k : Int)).getD .non = vb
    refine ⟨fun σ' H' => ∃ p, σ' = [some (.int (n : Nat)), some (.str w), some (.str a), some (.str m), some (.str b), some (.ref p)] ∧ Same H H' ∧ H' p = some (.lst [va, vb]), ?_, ?_⟩
    · refine ⟨_, rfl, n, rfl, hn, fun H2 p2 s2 np2 e2' => ⟨p2, rfl, .inl ⟨_, .inl e2'⟩, _, rfl, _, DGet.k (k := Sum.inr a) e2', _, rfl, n, rfl, hn, fun H3 p3 s3 np3 e3 => ⟨p3, rfl, .inl ⟨_, .inl e3⟩, _, rfl, _, DGet.k (k := Sum.inr b) e3, by show 2 ≤ sizeLine; decide, fun p np => ⟨p, rfl, ?_, ?_⟩⟩⟩⟩
      · exact same_upd (s1.trans (s2.trans s3)) (none_back (s1.trans (s2.trans s3)) np)
      · rw [upd_same, numD_get, numD_get, hva, hvb]
    rintro _ H2 ⟨p, rfl, s2, e2'⟩
    have at0 : atI [va, vb] 0 = some va := atI_nat (j := 0) rfl
    have at1 : atI [va, vb] 1 = some vb := atI_nat (j := 1) rfl
    have case_none : nearOf n w = none → Q .non H2 := fun e => by
      rcases h with ⟨_, q⟩ | ⟨i, j, e', _⟩
      · exact q _ s2
      · rw [e] at e'
        cases e'
    refine ⟨fun σ' H' => ∃ i j : Nat, va = .int i ∧ vb = .int j ∧ i ≠ j ∧ nearOf n w = some (min i j, max i j) ∧ σ' = [some (.int (n : Nat)), some (.str w), some (.str a), some (.str m), some (.str b), some (.ref p)] ∧ H' = H2, ?_, ?_⟩
    · cases ha : numOf n a with
      | none =>
        rw [ha] at hva en
        subst hva
        refine ⟨_, rfl, p, _, rfl, .inl (SqL.of e2'), rfl, ?_, _, rfl, iteT (case_none (en.trans (nearP_l _)))⟩
        subst hvb
        cases numOf n b <;> rfl
      | some i =>
        rw [ha] at hva en
        subst hva
        cases hb : numOf n b with
        | none =>
          rw [hb] at hvb en
          subst hvb
          exact ⟨_, rfl, p, _, rfl, .inl (SqL.of e2'), rfl, rfl, _, rfl, iteT (case_none (en.trans (nearP_r _)))⟩
        | some j =>
          rw [hb] at hvb en
          subst hvb
          refine ⟨_, rfl, p, _, rfl, .inl (SqL.of e2'), rfl, rfl, _, rfl, iteF ⟨_, rfl, p, _, _, _, rfl, rfl, SqL.of e2', at0, _, rfl, p, _, _, _, rfl, rfl, SqL.of e2', at1, rfl, _, rfl, ite2 (fun e => ?_) (fun e => ?_)⟩⟩
          · have := V.int.inj (of_decide_eq_true e)
            have e3 : i = j := by omega
            refine case_none (en.trans ?_)
            show (if i = j then none else some (min i j, max i j)) = none
            rw [if_pos e3]
          · have e3 : i ≠ j := fun z => e (decide_eq_true (by rw [z]))
            refine ⟨i, j, rfl, rfl, e3, en.trans ?_, rfl, rfl⟩
            show (if i = j then none else some (min i j, max i j)) = _
            rw [if_neg e3]
    rintro _ _ ⟨i, j, rfl, rfl, hij, e3, rfl, rfl⟩
    refine ⟨_, rfl, p, [(i : Int), (j : Int)], rfl, SqL.of e2', by show 2 < 64; decide, fun ys p2 hp hs np2 => ⟨p2, _, rfl, .inl ⟨SqL.of upd_same, fun t nt => ?_⟩⟩⟩
    have := sorted_two hp hs
    subst this
    rcases h with ⟨e', _⟩ | ⟨i', j', e', q⟩
    · rw [e3] at e'
      cases e'
    · rw [e3] at e'
      cases e'
      have s3 := same_upd s2 (o := .lst ([((min i j : Nat) : Int), ((max i j : Nat) : Int)].map V.int)) (none_back s2 np2)
      exact q _ t (same_upd s3 (none_back s3 nt)) (none_back s3 nt) upd_same
end
end KQ

namespace KQ
open PySem PySem.Spec PyProof.Rows L2
/-! ### what a line tells -/
structure LW (K : PySem.W.Frag) (mg : Str → Option Value) (A : Addr) : Prop where
  l : ∃ t0 t1 t2 t3 t4 t5 t6 t7 t8 t9 ta tb tc td te n sl, K.lookup A = some ⟨.type "tuple", none, .seq #[.str "X" t0, .str "Y" t1, .str "Z" t2, .str "XY" t3, .str "XZ" t4, .str "YX" t5, .str "YZ" t6, .str "ZX" t7, .str "ZY" t8, .str "XYZ" t9, .str "XZY" ta, .str "YXZ" tb, .str "YZX" tc, .str "ZXY" td, .str "ZYX" te] n, sl⟩
  g : mg "LETTER_WORDS" = some (.ref A)
theorem LW.sq {K : PySem.W.Frag} {mg : Str → Option Value} {A : Addr} (h : LW K mg A) (H : Hp) : SqT K H A (w15.map V.str) := by
  obtain ⟨t0, t1, t2, t3, t4, t5, t6, t7, t8, t9, ta, tb, tc, td, te, n, sl, e⟩ := h.l
  refine .inr ⟨_, _, n, e, rfl, rfl, by show 15 ≤ sizeLine; decide, ?_⟩
  exact .cons ⟨t0, rfl⟩ (.cons ⟨t1, rfl⟩ (.cons ⟨t2, rfl⟩ (.cons ⟨t3, rfl⟩ (.cons ⟨t4, rfl⟩ (.cons ⟨t5, rfl⟩ (.cons ⟨t6, rfl⟩ (.cons ⟨t7, rfl⟩ (.cons ⟨t8, rfl⟩ (.cons ⟨t9, rfl⟩ (.cons ⟨ta, rfl⟩ (.cons ⟨tb, rfl⟩ (.cons ⟨tc, rfl⟩ (.cons ⟨td, rfl⟩ (.cons ⟨te, rfl⟩ .nil))))))))))))))
theorem rz_same {C : Addr} {y0 y1 : V} {H H' : Hp} {E : XK} (h : Rz C y0 y1 H E) (s : Same H H') : Rz C y0 y1 H' E := fun d H2 s2 e => h d H2 (s.trans s2) e
def dat (p : Nat × Nat) : PyData := if p.1 = p.2 then .int (p.1 : Int) else .tuple [.int (p.1 : Int), .int (p.2 : Int)]
theorem dat_inj {p q : Nat × Nat} : PyData.eqv (dat p) (dat q) = decide (p = q) := by
  obtain ⟨p1, p2⟩ := p
  obtain ⟨q1, q2⟩ := q
  unfold dat
  by_cases hp : p1 = p2
  · by_cases hq : q1 = q2
    · rw [if_pos hp, if_pos hq]
      subst hp hq
      show ((p1 : Int) == (q1 : Int)) = _
      by_cases e : p1 = q1
      · subst e; simp
      · have : ¬ ((p1 : Int) = (q1 : Int)) := by omega
        rw [beq_eq_false_iff_ne.mpr this, decide_eq_false (fun z => e (by injection z))]
    · rw [if_pos hp, if_neg hq]
      show false = _
      rw [decide_eq_false]
      rintro ⟨⟩
      exact hq hp
  · by_cases hq : q1 = q2
    · rw [if_neg hp, if_pos hq]
      show false = _
      rw [decide_eq_false]
      rintro ⟨⟩
      exact hp hq
    · rw [if_neg hp, if_neg hq]
      show (((p1 : Int) == (q1 : Int)) && (((p2 : Int) == (q2 : Int)) && true)) = _
      by_cases e : p1 = q1
      · by_cases e2 : p2 = q2
        · subst e e2; simp
        · have : ¬ ((p2 : Int) = (q2 : Int)) := by omega
          rw [beq_eq_false_iff_ne.mpr this, decide_eq_false (fun z => e2 (by injection z))]
          simp
      · have : ¬ ((p1 : Int) = (q1 : Int)) := by omega
        rw [beq_eq_false_iff_ne.mpr this, decide_eq_false (fun z => e (by injection z))]
        rfl
theorem dat_any (ps : List (Nat × Nat)) (k : Nat × Nat) : ((ps.map dat).any fun z => PyData.eqv z (dat k)) = decide (k ∈ ps) := by
  induction ps with
  | nil => rfl
  | cons p ps ih =>
    rw [List.map_cons, List.any_cons, ih, dat_inj]
    by_cases e : p = k
    · subst e; simp
    · rw [decide_eq_false e, Bool.false_or]
      exact decide_eq_decide.mpr ⟨fun z => List.mem_cons_of_mem _ z, fun z => (List.mem_cons.mp z).resolve_left (Ne.symm e)⟩
theorem dat_lay (p : Nat × Nat) : (dat p).canLay0 = true ∧ (dat p).depth ≤ 1 := by
  unfold dat
  split
  · exact ⟨rfl, Nat.zero_le _⟩
  · exact ⟨rfl, Nat.le_refl _⟩
theorem sh_list {ds : List PyData} {n : Nat} (h : ∀ d ∈ ds, d.canLay0 = true ∧ d.depth ≤ n) (hn : n < 60) : SeqAt.shaped (.list ds) = true := by
  have h1 : PyData.canLayAll0 ds = true ∧ PyData.depthAll ds ≤ n := by
    induction ds with
    | nil => exact ⟨rfl, Nat.zero_le _⟩
    | cons d ds ih =>
      obtain ⟨i1, i2⟩ := ih fun d hd => h d (List.mem_cons_of_mem _ hd)
      obtain ⟨j1, j2⟩ := h d List.mem_cons_self
      refine ⟨?_, ?_⟩
      · show (PyData.canLay0 d && PyData.canLayAll0 ds) = true
        rw [i1, j1]
        rfl
      · show max (PyData.depth d) (PyData.depthAll ds) ≤ n
        omega
  show (PyData.canLayAll0 ds && decide (PyData.depthAll ds + 1 ≤ 64)) = true
  rw [h1.1, decide_eq_true (by omega)]
  rfl
theorem sh_dats (ps : List (Nat × Nat)) : SeqAt.shaped (.list (ps.map dat)) = true := sh_list (n := 1) (fun d hd => by
  obtain ⟨p, _, rfl⟩ := List.mem_map.mp hd
  exact dat_lay p) (by decide)
theorem sh_dat (p : Nat × Nat) : SeqAt.shaped (dat p) = true := by
  obtain ⟨h1, h2⟩ := dat_lay p
  unfold SeqAt.shaped
  rw [h1, decide_eq_true (by omega)]
  rfl
theorem same_tup {K : PySem.W.Frag} {H H' : Hp} {a : Addr} {xs : List V} (s : Same H H') (h : SqT K H a xs) : SqT K H' a xs := by
  rcases h with (h | ⟨ob, h⟩) | h
  · exact .inl (.inl (s _ _ h))
  · exact .inl (.inr ⟨ob, s _ _ h⟩)
  · exact .inr h
mutual
theorem Dp.up {K : PySem.W.Frag} {H H' : Hp} (s : Same H H') : ∀ (d : PyData) (v : V), Dp K H v d → Dp K H' v d
  | .none, _, h => by cases h; exact .non
  | .bool _, _, h => by cases h; exact .bl _
  | .int _, _, h => by cases h; exact .int _
  | .str _, _, h => by cases h; exact .str _
  | .list ds, _, h => by
    cases h with
    | lst h1 h2 => exact .lst (s.seq h1) (DpAll.up s ds _ h2)
  | .tuple ds, _, h => by
    cases h with
    | tup h1 h2 => exact .tup (same_tup s h1) (DpAll.up s ds _ h2)
  | .dict _, _, h => by cases h
theorem DpAll.up {K : PySem.W.Frag} {H H' : Hp} (s : Same H H') : ∀ (ds : List PyData) (vs : List V), DpAll K H vs ds → DpAll K H' vs ds
  | [], _, h => by cases h; exact .nil
  | d :: ds, _, h => by
    cases h with
    | cons h1 h2 => exact .cons (Dp.up s d _ h1) (DpAll.up s ds _ h2)
end
theorem DpAll.snoc {K : PySem.W.Frag} {H : Hp} {v : V} {d : PyData} : ∀ {vs : List V} {ds : List PyData}, DpAll K H vs ds → Dp K H v d → DpAll K H (vs ++ [v]) (ds ++ [d])
  | [], _, h, hd => by cases h; exact .cons hd .nil
  | x :: vs, _, h, hd => by
    cases h with
    | cons h1 h2 => exact .cons h1 (DpAll.snoc h2 hd)
def VAt (H : Hp) (v : V) (x : Nat × Nat) : Prop := if x.1 = x.2 then v = .int (x.1 : Int) else ∃ t, v = .ref t ∧ H t = some (.tup [.int (x.1 : Int), .int (x.2 : Int)])
def VsAt (H : Hp) : List V → List (Nat × Nat) → Prop
  | [], [] => True
  | v :: vs, x :: ps => VAt H v x ∧ VsAt H vs ps
  | _, _ => False
theorem VAt.dp {K : PySem.W.Frag} {H : Hp} {v : V} {x : Nat × Nat} (h : VAt H v x) : Dp K H v (dat x) := by
  unfold VAt at h
  unfold dat
  by_cases e : x.1 = x.2
  · rw [if_pos e] at h ⊢
    rw [h]
    exact .int _
  · rw [if_neg e] at h ⊢
    obtain ⟨t, rfl, ht⟩ := h
    exact .tup (.inl (.inl ht)) (.cons (.int _) (.cons (.int _) .nil))
theorem VsAt.dp {K : PySem.W.Frag} {H : Hp} : ∀ {vs : List V} {ps : List (Nat × Nat)}, VsAt H vs ps → DpAll K H vs (ps.map dat)
  | [], [], _ => .nil
  | v :: vs, x :: ps, h => .cons h.1.dp (VsAt.dp h.2)
  | [], _ :: _, h => h.elim
  | _ :: _, [], h => h.elim
theorem VAt.keep {H H' : Hp} (k : ∀ t xs, H t = some (.tup xs) → H' t = some (.tup xs)) {v : V} {x : Nat × Nat} (h : VAt H v x) : VAt H' v x := by
  unfold VAt at h ⊢
  by_cases e : x.1 = x.2
  · rw [if_pos e] at h ⊢
    exact h
  · rw [if_neg e] at h ⊢
    obtain ⟨t, e1, ht⟩ := h
    exact ⟨t, e1, k _ _ ht⟩
theorem VsAt.keep {H H' : Hp} (k : ∀ t xs, H t = some (.tup xs) → H' t = some (.tup xs)) : ∀ {vs : List V} {ps : List (Nat × Nat)}, VsAt H vs ps → VsAt H' vs ps
  | [], [], _ => trivial
  | v :: vs, x :: ps, h => ⟨h.1.keep k, VsAt.keep k h.2⟩
  | [], _ :: _, h => h.elim
  | _ :: _, [], h => h.elim
theorem VsAt.snoc {H : Hp} {v : V} {x : Nat × Nat} (hv : VAt H v x) : ∀ {vs : List V} {ps : List (Nat × Nat)}, VsAt H vs ps → VsAt H (vs ++ [v]) (ps ++ [x])
  | [], [], _ => ⟨hv, trivial⟩
  | _ :: _, _ :: _, h => ⟨h.1, VsAt.snoc hv h.2⟩
  | [], _ :: _, h => h.elim
  | _ :: _, [], h => h.elim
theorem VsAt.len {H : Hp} : ∀ {vs : List V} {ps : List (Nat × Nat)}, VsAt H vs ps → vs.length = ps.length
  | [], [], _ => rfl
  | _ :: _, _ :: _, h => congrArg (· + 1) (VsAt.len h.2)
  | [], _ :: _, h => h.elim
  | _ :: _, [], h => h.elim
theorem cutV_tail (x : V) (xs : List V) : cutV (x :: xs) (some 1) none = xs := by
  unfold cutV
  rw [show (some (1 : Int)) = some ((1 : Nat) : Int) from rfl, HT.sIx_nat, HT.sIx_none, List.length_cons, Nat.min_eq_left (by omega)]
  show xs.take (xs.length + 1 - 1) = xs
  rw [Nat.add_sub_cancel, List.take_length]
/-- a list of data of this shape -/
def DL (H : Hp) (p : Addr) : Prop := ∃ vs ps, H p = some (.lst vs) ∧ VsAt H vs ps ∧ vs.length ≤ 1000010
def ToldAt (H : Hp) (k : Str) (v : V) : Prop :=
  ((k = "weight" ∨ k = "run") ∧ ∃ i : Int, v = .int i) ∨ (k = "letters" ∧ ∃ s : Str, v = .str s) ∨ ((k = "near" ∨ k = "within") ∧ ∃ p, v = .ref p ∧ DL H p)
def spLine (K : PySem.W.Frag) (C : Addr) : Sp := fun vs H Q E => ∃ (n : Nat) (l : Int) (pw : Addr) (k : Str) (rest : List Str), vs = [.int (n : Int), .int l, .ref pw] ∧ n ≤ 24 ∧ SqL K H pw ((k :: rest).map V.str) ∧ (∀ w ∈ rest, w.length ≤ sizeLine) ∧ rest.length ≤ 1000001 ∧
  ((wrong n (k :: rest) = 0 ∧ ∀ H' v, Same H H' → ToldAt H' k v → (∀ a, v = .ref a → H a = none) → Q v H') ∨ (0 < wrong n (k :: rest) ∧ Rz C (.int l) (.int (wrong n (k :: rest) : Nat)) H E))
theorem scan_zero_or {f : Str → Option (Nat × Nat)} : ∀ {ws known} {c : Nat}, 0 < c → (scan f ws known c = 0 ∨ c ≤ scan f ws known c)
  | [], _, _, _ => .inl rfl
  | w :: ws, known, c, h => by
    unfold scan
    split
    · exact .inr (Nat.le_refl _)
    · split
      · exact .inr (Nat.le_refl _)
      · rcases scan_zero_or (f := f) (ws := ws) (known := known ++ [_]) (c := c + 1) (by omega) with h | h
        · exact .inl h
        · exact .inr (by omega)
section
variable {P : Program} {w : World} {K : PySem.W.Frag} {mg : Str → Option Value} {base : Heap}
theorem ok_line {f C fB fN fO fP A : Addr} {fd dB dN dO dP : FuncData} (F : Fun K "_read_line" "_read_line" sLine f fd) (FN : Fun K "_numbers_below" "_numbers_below" sNb fN dN) (bN : Binds K dN ["limit"] []) (gN : mg "_numbers_below" = some (.ref fN))
    (FO : Fun K "_only_word" "_only_word" sOnly fO dO) (bO : Binds K dO ["line", "words", "right"] []) (gO : mg "_only_word" = some (.ref fO)) (FP : Fun K "_pair_of" "_pair_of" sPair fP dP) (bP : Binds K dP ["size", "word"] []) (gP : mg "_pair_of" = some (.ref fP))
    (T : BT K mg C fB dB) (W : LW K mg A) (B : Bl mg) : FnOk P w K mg base (L2.CX P w) 4 f fd ["size", "line", "words"] (spLine K C) := by
  have GB : FnOk P w K mg base CX0 1 fB dB ["self", "line", "column"] (spInitT C) := ok_initT T.F T.ox T.n0 T.n1
  have GN : FnOk P w K mg base CX0 1 fN dN ["limit"] spNb := ok_nb FN B
  have GO : FnOk P w K mg base (L2.CX P w) 3 fO dO ["line", "words", "right"] (spOnly K C) := ok_only FO T B
  have GP : FnOk P w K mg base CX0 2 fP dP ["size", "word"] spPair := ok_pair FP FN bN gN B
  refine F.okX scLine (fun vs H Q E h => ?_) (fun cdv A' outer s H vs Q E hr h => ?_)
  · obtain ⟨n, l, pw, k, rest, rfl, _⟩ := h
    rfl
  · obtain ⟨n, l, pw, k, rest, rfl, hn, hw, hzs, hlen, h⟩ := h
    have hu := hu_of hr
    have hu65 : (A'.deeper (envOfC "_read_line" (defScope sLine) s.heap.objs.size f cdv)).units + 65 < cLine := by
      have := hr.un
      omega
    have r1 : Room 1 _ := hr.mono (by decide)
    have r2 : Room 2 _ := hr.mono (by decide)
    refine ⟨_, (C8.pss_cut (ps_set (i := 3) scLine.nd rfl (.inl rfl) (pe_ix ix_list (pv 2) pe_int (fun _ _ => rfl)))
      (C8.pss_cut (ps_if (pt_cmpR op_in_seq (pv 3) (pe_tup (pa_cons pe_str (pa_cons pe_str pa_nil))) (by with_unfolding_all rfl))
        (pss_cons (ps_set (i := 4) scLine.nd rfl (.inl rfl) (pe_call GN r1 (by rfl) gN FN.kp bN .nil pass0 (pa_cons (pe_op op_add (pv 0) pe_int) pa_nil)))
        (pss_one (ps_ret (pe_dget hu (pv 4) (pe_call GO hr (by rfl) gO FO.kp bO .nil (passes_call (takes_of rfl rfl rfl rfl) (fun _ _ _ _ h => h)) (pa_cons (pv 1) (pa_cons (pv 2) (pa_cons (pe_callTy (call_list_dK rfl) (by rfl) B.list bootL (pa_cons (pv 4) pa_nil)) pa_nil)))) (fun _ _ => rfl))))) pss_nil)
      (C8.pss_cut (ps_if (pt_cmpR op_eq (pv 3) pe_str (nomark _)) (pss_one (ps_ret (pe_call GO hr (by rfl) gO FO.kp bO .nil (passes_call (takes_of rfl rfl rfl rfl) (fun _ _ _ _ h => h)) (pa_cons (pv 1) (pa_cons (pv 2) (pa_cons (pe_glob (v := .ref A) (by rfl) W.g rfl) pa_nil)))))) pss_nil)
      (C8.pss_cut (ps_if (pt_cmpR op_notIn_seq (pv 3) (pe_tup (pa_cons pe_str (pa_cons pe_str pa_nil))) (by with_unfolding_all rfl)) (pss_one (ps_raise rfl (takes_of rfl rfl rfl rfl) (pmk_oex T.ox T.ic T.ti GB (hr.mono (by decide)) T.b .nil pass0 (by rfl) T.g (pa_cons (pv 1) (pa_cons pe_int pa_nil))))) pss_nil)
      (C8.pss_cut (ps_set (i := 5) scLine.nd rfl (.inl rfl) (pe_lst pa_nil))
      (C8.pss_cut (ps_for (passes_of rfl) rfl (pi_enumk (by rfl) B.enum (by decide) (by decide) (pa_cons (pe_slice sl_list (pv 2) (po_some pe_int) po_none) pa_nil)) (pg_tup rfl (pgs_cons (pg_name (i := 6) scLine.nd rfl (.inl rfl)) (pgs_cons (pg_name (i := 7) scLine.nd rfl (.inl rfl)) pgs_nil)))
        (C8.pss_cut (ps_set (i := 8) scLine.nd rfl (.inl rfl) (pe_ifExp (pt_cmpR op_eq (pv 3) pe_str (nomark _)) (pe_call GP r2 (by rfl) gP FP.kp bP .nil pass0 (pa_cons (pv 0) (pa_cons (pv 7) pa_nil))) (pe_dget1 hu (pe_call GN r1 (by rfl) gN FN.kp bN .nil pass0 (pa_cons (pv 0) pa_nil)) (pv 7) ⟨rfl, rfl, rfl, rfl⟩)))
        (C8.pss_cut (ps_if (pw_or (pt_cmpR op_isN (pv 8) pe_non (nomark _)) (pw_or1 (pt_cmpR (op_inD hu65) (pv 8) (pv 5) (by rfl)))).pt (pss_one (ps_raise rfl (takes_of rfl rfl rfl rfl) (pmk_oex T.ox T.ic T.ti GB (hr.mono (by decide)) T.b .nil pass0 (by rfl) T.g (pa_cons (pv 1) (pa_cons (pv 6) pa_nil))))) pss_nil)
        (pss_one (ps_expr (pe_bm PySem.F.plainAttrs_list PySem.F.slot_list_append PySem.F.type_list_append mt_append (pv 5) (pa_cons (pv 8) pa_nil)))))))
      (pss_one (ps_ret (pv 5))))))))), ?_⟩
    let S0 : Option V → Option V → List (Option V) := fun a b => [some (.int (n : Nat)), some (.int l), some (.ref pw), some (.str k), a, b, none, none, none]
    refine ⟨fun σ' H' => σ' = S0 none none ∧ H' = H, ⟨_, rfl, pw, _, _, _, rfl, rfl, hw, atI_nat (j := 0) rfl, rfl, rfl⟩, ?_⟩
    rintro _ H1 ⟨rfl, eH⟩
    subst eH
    have hin : ∀ a b : Str, inV (V.str k) [V.str a, V.str b] = decide (k = a ∨ k = b) := fun a b => by
      have := inS k [a, b]
      rw [show [V.str a, V.str b] = [a, b].map V.str from rfl, this]
      exact decide_eq_decide.mpr (by simp)
    -- weight, run
    refine ⟨fun σ' H' => σ' = S0 none none ∧ Same H1 H' ∧ ¬ (k = "weight" ∨ k = "run"), ?_, ?_⟩
    · refine ⟨_, rfl, by show 2 ≤ sizeLine; decide, fun r nr => ⟨r, _, rfl, .inr (SqT.of upd_same), rfl, rfl, _, rfl, ?_⟩⟩
      rw [if_neg Bool.false_ne_true, hin]
      by_cases hk : k = "weight" ∨ k = "run"
      · rw [decide_eq_true hk]
        refine iteT ⟨_, rfl, _, _, rfl, rfl, n + 1, rfl, by omega, fun H3 p s3 np e3 => ?_⟩
        have s13 : Same H1 H3 := (same_new nr).trans s3
        refine ⟨_, rfl, _, rfl, _, rfl, _, rfl, p, _, rfl, e3, fun q nq => ?_⟩
        have s4 := same_upd (o := .lst ((numD (n + 1)).map fun kv => kV kv.1)) s13 (none_back s13 nq)
        have el : (numD (n + 1)).map (fun kv => kV kv.1) = ((List.range (n + 1)).map nT).map V.str := by
          unfold numD
          rw [List.map_map, List.map_map]
          rfl
        have hmem : ∀ w, w ∈ (List.range (n + 1)).map nT ↔ numOf (n + 1) w ≠ none := fun w => by
          constructor
          · intro z
            obtain ⟨j, hj, rfl⟩ := List.mem_map.mp z
            rw [numOf_nT (List.mem_range.mp hj) (by omega)]
            exact fun z => nomatch z
          · intro z
            cases e : numOf (n + 1) w with
            | none => exact absurd e z
            | some j =>
              obtain ⟨h1, h2⟩ := numOf_some e
              exact List.mem_map.mpr ⟨j, List.mem_range.mpr h1, h2⟩
        refine ⟨l, pw, q, k, rest, (List.range (n + 1)).map nT, rfl, s4.seq hw, .inl (SqL.of (by rw [upd_same, el])), ?_⟩
        have hwr : wrong n (k :: rest) = colNum n rest := if_pos hk
        cases rest with
        | nil =>
          rcases h with ⟨z, _⟩ | ⟨_, q⟩
          · rw [hwr] at z
            cases z
          · rw [hwr] at q
            exact rz_same q s4
        | cons w r =>
          by_cases hm : w ∈ (List.range (n + 1)).map nT
          · have hm' := (hmem w).mp hm
            by_cases hr0 : r = []
            · subst hr0
              obtain ⟨j, ej⟩ := Option.ne_none_iff_exists'.mp hm'
              have hw0 : wrong n [k, w] = 0 := by
                rw [hwr]
                show (if numOf (n + 1) w = none then 2 else if ([] : List Str) ≠ [] then 3 else 0) = 0
                rw [if_neg hm', if_neg (by simp)]
              rcases h with ⟨_, q9⟩ | ⟨z, _⟩
              · refine .ok hm ⟨p, V.int (j : Int), rfl, ?_, q9 _ _ s4 (.inl ⟨hk, _, rfl⟩) (fun _ z => nomatch z)⟩
                refine .inl ⟨_, .inr w, .inl ((upd_ne (ne_of_none e3 nq)).trans e3), rfl, ?_⟩
                rw [numD_get, ej]
                rfl
              · rw [hw0] at z
                exact absurd z (Nat.lt_irrefl _)
            · have hw3 : wrong n (k :: w :: r) = 3 := by
                rw [hwr]
                show (if numOf (n + 1) w = none then 2 else if r ≠ [] then 3 else 0) = 3
                rw [if_neg hm', if_pos hr0]
              rcases h with ⟨z, _⟩ | ⟨_, q⟩
              · rw [hw3] at z
                cases z
              · rw [hw3] at q
                exact .more hm hr0 (rz_same q s4)
          · have hm' : numOf (n + 1) w = none := Classical.byContradiction fun z => hm ((hmem w).mpr z)
            have hw2 : wrong n (k :: w :: r) = 2 := by
              rw [hwr]
              show (if numOf (n + 1) w = none then 2 else if r ≠ [] then 3 else 0) = 2
              rw [if_pos hm']
            rcases h with ⟨z, _⟩ | ⟨_, q⟩
            · rw [hw2] at z
              cases z
            · rw [hw2] at q
              exact .out hm (rz_same q s4)
      · rw [decide_eq_false hk]
        exact iteF ⟨rfl, same_new nr, hk⟩
    rintro _ H2 ⟨rfl, s2, k1⟩
    -- letters
    refine ⟨fun σ' H' => σ' = S0 none none ∧ H' = H2 ∧ k ≠ "letters", ?_, ?_⟩
    · refine ⟨_, rfl, rfl, _, rfl, ite2 (fun e => ?_) (fun e => ⟨rfl, rfl, fun z => e (decide_eq_true (by rw [z]))⟩)⟩
      have hk : k = "letters" := V.str.inj (of_decide_eq_true e)
      have hwr : wrong n (k :: rest) = colLet rest := (if_neg k1).trans (if_pos hk)
      refine ⟨_, rfl, _, rfl, l, pw, A, k, rest, w15, rfl, s2.seq hw, .inr (W.sq _), ?_⟩
      cases rest with
      | nil =>
        rcases h with ⟨z, _⟩ | ⟨_, q⟩
        · rw [hwr] at z
          cases z
        · rw [hwr] at q
          exact rz_same q s2
      | cons w r =>
        by_cases hm : w ∈ w15
        · have hm' : ¬ w ∉ w15 := fun z => z hm
          by_cases hr0 : r = []
          · subst hr0
            have hw0 : wrong n [k, w] = 0 := by
              rw [hwr]
              show (if w ∉ w15 then 2 else if ([] : List Str) ≠ [] then 3 else 0) = 0
              rw [if_neg hm', if_neg (by simp)]
            rcases h with ⟨_, q9⟩ | ⟨z, _⟩
            · exact .ok hm (q9 _ _ s2 (.inr (.inl ⟨hk, _, rfl⟩)) (fun _ z => nomatch z))
            · rw [hw0] at z
              exact absurd z (Nat.lt_irrefl _)
          · have hw3 : wrong n (k :: w :: r) = 3 := by
              rw [hwr]
              show (if w ∉ w15 then 2 else if r ≠ [] then 3 else 0) = 3
              rw [if_neg hm', if_pos hr0]
            rcases h with ⟨z, _⟩ | ⟨_, q⟩
            · rw [hw3] at z
              cases z
            · rw [hw3] at q
              exact .more hm hr0 (rz_same q s2)
        · have hw2 : wrong n (k :: w :: r) = 2 := by
            rw [hwr]
            show (if w ∉ w15 then 2 else if r ≠ [] then 3 else 0) = 2
            rw [if_pos hm]
          rcases h with ⟨z, _⟩ | ⟨_, q⟩
          · rw [hw2] at z
            cases z
          · rw [hw2] at q
            exact .out hm (rz_same q s2)
    rintro _ _ ⟨rfl, eH, k2⟩
    subst eH
    -- no kind
    refine ⟨fun σ' H' => σ' = S0 none none ∧ Same H1 H' ∧ (k = "near" ∨ k = "within"), ?_, ?_⟩
    · refine ⟨_, rfl, by show 2 ≤ sizeLine; decide, fun r nr => ⟨r, _, rfl, .inr (SqT.of upd_same), rfl, rfl, _, rfl, ?_⟩⟩
      rw [if_pos rfl, hin]
      by_cases hk : k = "near" ∨ k = "within"
      · rw [decide_eq_true hk]
        exact iteF ⟨rfl, same_upd s2 (none_back s2 nr), hk⟩
      · rw [decide_eq_false hk]
        have hw1 : wrong n (k :: rest) = 1 := (if_neg k1).trans ((if_neg k2).trans ((if_neg fun z => hk (.inl z)).trans (if_neg fun z => hk (.inr z))))
        rcases h with ⟨z, _⟩ | ⟨_, q⟩
        · rw [hw1] at z
          cases z
        · rw [hw1] at q
          exact iteT ⟨_, rfl, by show 2 ≤ 1000; decide, raise_rd (rz_same q (same_upd s2 (none_back s2 nr)))⟩
    rintro _ H3 ⟨rfl, s3, hk⟩
    clear s2
    obtain ⟨g, hg1, hg2, hg3⟩ : ∃ g : Str → Option (Nat × Nat), wrong n (k :: rest) = scan g rest [] 2 ∧ (k = "near" → g = nearOf n) ∧ (k ≠ "near" → g = withinOf n) := by
      by_cases hk1 : k = "near"
      · exact ⟨nearOf n, (if_neg k1).trans ((if_neg k2).trans (if_pos hk1)), fun _ => rfl, fun z => absurd hk1 z⟩
      · exact ⟨withinOf n, (if_neg k1).trans ((if_neg k2).trans ((if_neg hk1).trans (if_pos (hk.resolve_left hk1)))), fun z => absurd z hk1, fun _ => rfl⟩
    rw [hg1] at h
    refine ⟨fun σ' H' => ∃ p, σ' = S0 none (some (.ref p)) ∧ Same H1 H' ∧ H' p = some (.lst []) ∧ H1 p = none, ?_, ?_⟩
    · exact ⟨by show 0 ≤ sizeLine; decide, fun p np => ⟨p, rfl, same_upd s3 (none_back s3 np), upd_same, none_back s3 np⟩⟩
    rintro _ H4 ⟨p, rfl, s4, e4, np⟩
    refine ⟨fun σ' H' => ∃ (a b c : Option V) (vs : List V) (ps : List (Nat × Nat)), σ' = [some (.int (n : Nat)), some (.int l), some (.ref pw), some (.str k), none, some (.ref p), a, b, c] ∧ Same H1 H' ∧ H' p = some (.lst vs) ∧ VsAt H' vs ps ∧ vs.length ≤ 1000010 ∧ scan g rest [] 2 = 0, ?_, ?_⟩
    rotate_left
    · rintro _ H5 ⟨a, b, c, vs, ps, rfl, s5, e5, d5, l5, z5⟩
      rcases h with ⟨_, q⟩ | ⟨z, _⟩
      · exact ⟨_, rfl, q _ _ s5 (.inr (.inr ⟨hk, p, rfl, vs, ps, e5, d5, l5⟩)) (fun a z => by cases z; exact np)⟩
      · rw [z5] at z
        exact absurd z (Nat.lt_irrefl _)
    refine ⟨_, rfl, _, rfl, pw, _, rfl, s4.seq hw, fun q nq => ⟨q, _, rfl, SqL.of upd_same, ?_⟩⟩
    rw [show (k :: rest).map V.str = V.str k :: rest.map V.str from rfl, cutV_tail]
    have hqp : q ≠ p := fun z => by rw [z, e4] at nq; cases nq
    generalize eH5 : upd H4 q (.lst (rest.map V.str)) = H5
    have s5 : Same H1 H5 := by
      rw [← eH5]
      exact same_upd s4 (none_back s4 nq)
    have e5 : H5 p = some (.lst []) := by rw [← eH5, upd_ne hqp.symm, e4]
    have q5 : H5 q = some (.lst (rest.map V.str)) := by rw [← eH5, upd_same]
    refine for_it (walk_enumk K q 2 (rest.map V.str)) (fun i σ' H' => ∃ (a b c : Option V) (vs : List V) (ps : List (Nat × Nat)), σ' = [some (.int (n : Nat)), some (.int l), some (.ref pw), some (.str k), none, some (.ref p), a, b, c] ∧
        (∀ b o, H5 b = some o → b ≠ p → H' b = some o) ∧ H' p = some (.lst vs) ∧ VsAt H' vs ps ∧ ps.length = i ∧ scan g rest [] 2 = scan g (rest.drop i) ps (2 + i))
      ⟨none, none, none, [], [], rfl, fun _ _ e _ => e, e5, trivial, rfl, rfl⟩ (fun i σ' H' _ ⟨a, b, c, vs, ps, _, k', _⟩ => SqL.of (k' q _ q5 hqp)) ?_ ?_
    rotate_left
    · rintro _ H6 ⟨a, b, c, vs, ps, rfl, k6, e6, v6, hl6, sc6⟩
      rw [List.length_map] at hl6
      refine ⟨a, b, c, vs, ps, rfl, fun b o e => k6 b o (s5 _ _ e) (ne_of_none e np), e6, v6, by rw [v6.len, hl6]; omega, sc6.trans ?_⟩
      rw [List.length_map, List.drop_length]
      rfl
    rintro i x _ H6 H7 hi ⟨a, b, c, vs, ps, rfl, k6, e6, v6, hl6, sc6⟩ ⟨T', y1, y2, rfl, nT', rfl, z1, z2⟩
    rw [List.length_map] at hi
    cases z1
    have hx : rest[i]? = some rest[i] := List.getElem?_eq_getElem hi
    have z2' : (rest.map V.str)[i]? = some y2 := z2
    rw [List.getElem?_map, hx] at z2'
    cases z2'
    have hTp : T' ≠ p := fun z => by rw [z, e6] at nT'; cases nT'
    generalize hwd : rest[i] = wd at hx
    have hzw : wd.length ≤ sizeLine := hzs wd (List.mem_of_getElem? hx)
    have hdr : rest.drop i = wd :: rest.drop (i + 1) := by rw [List.drop_eq_getElem_cons hi, hwd]
    refine ⟨T', _, rfl, .inl (.inl upd_same), rfl, _, _, rfl, _, _, rfl, rfl, ?_⟩
    have k7 : ∀ b o, H6 b = some o → (upd H6 T' (.tup [.int (2 + (i : Nat)), .str wd])) b = some o := fun b o e => by rw [upd_ne (ne_of_none e nT')]; exact e
    generalize eH7 : upd H6 T' (.tup [.int (2 + (i : Nat)), .str wd]) = H7 at k7
    have s7 : Same H1 H7 := fun b o e => k7 b o (k6 b o (s5 _ _ e) (ne_of_none e np))
    -- what the word tells
    refine ⟨fun σ' H' => ∃ v, σ' = [some (.int (n : Nat)), some (.int l), some (.ref pw), some (.str k), none, some (.ref p), some (.int (2 + (i : Nat))), some (.str wd), some v] ∧ Same H7 H' ∧ ((g wd = none ∧ v = .non) ∨ ∃ x, g wd = some x ∧ VAt H' v x), ?_, ?_⟩
    · refine ⟨_, rfl, rfl, _, rfl, ite2 (fun e => ?_) (fun e => ?_)⟩
      · have hk1 : k = "near" := V.str.inj (of_decide_eq_true e)
        rw [hg2 hk1]
        refine ⟨_, rfl, _, rfl, n, wd, rfl, by omega, hzw, ?_⟩
        cases e9 : nearOf n wd with
        | none => exact .inl ⟨rfl, fun H8 s8 => ⟨.non, rfl, s8, .inl ⟨rfl, rfl⟩⟩⟩
        | some x =>
          obtain ⟨x1, x2⟩ := x
          refine .inr ⟨x1, x2, rfl, fun H8 t s8 nt et => ⟨.ref t, rfl, s8, .inr ⟨_, rfl, ?_⟩⟩⟩
          have hne : x1 ≠ x2 := near_ne e9
          show if x1 = x2 then _ else _
          rw [if_neg hne]
          exact ⟨t, rfl, et⟩
      · have hk1 : k ≠ "near" := fun z => e (decide_eq_true (by rw [z]))
        rw [hg3 hk1]
        refine ⟨_, rfl, n, rfl, by omega, fun H8 p8 s8 np8 e8 => ⟨p8, rfl, .inl ⟨_, .inl e8⟩, _, rfl, _, DGet.k (k := Sum.inr wd) e8, _, rfl, s8, ?_⟩⟩
        rw [numD_get]
        unfold withinOf
        cases numOf n wd with
        | none => exact .inl ⟨rfl, rfl⟩
        | some j =>
          refine .inr ⟨(j, j), rfl, ?_⟩
          show if j = j then _ else _
          rw [if_pos rfl]
          rfl
    rintro _ H8 ⟨v, rfl, s8, hv⟩
    have e8 : H8 p = some (.lst vs) := s8 _ _ (k7 _ _ e6)
    have v8 : VsAt H8 vs ps := v6.keep fun t xs e => s8 _ _ (k7 _ _ e)
    have hps : vs.length < sizeLine := Nat.lt_of_le_of_lt (Nat.le_of_eq (v8.len.trans hl6)) (Nat.lt_of_lt_of_le hi (Nat.le_trans hlen (by decide)))
    have bad : scan g rest [] 2 = 2 + i → Rz C (.int l) (.int (2 + (i : Nat))) H8 E := fun z => by
      rcases h with ⟨z', _⟩ | ⟨_, q'⟩
      · rw [z] at z'
        omega
      · rw [z] at q'
        have e9 : ((2 + i : Nat) : Int) = 2 + (i : Int) := by omega
        rw [e9] at q'
        exact rz_same q' (s7.trans s8)
    rw [hdr] at sc6
    refine ⟨fun σ' H' => ∃ x, g wd = some x ∧ x ∉ ps ∧ VAt H8 v x ∧ σ' = [some (.int (n : Nat)), some (.int l), some (.ref pw), some (.str k), none, some (.ref p), some (.int (2 + (i : Nat))), some (.str wd), some v] ∧ H' = H8, ?_, ?_⟩
    · rcases hv with ⟨hg, rfl⟩ | ⟨x, hg, hv⟩
      · refine ⟨_, rfl, rfl, _, rfl, iteT ⟨_, rfl, _, rfl, by show 2 ≤ 1000; decide, raise_rd (bad (sc6.trans ?_))⟩⟩
        show (match g wd with | none => 2 + i | some k => if k ∈ ps then 2 + i else scan g (rest.drop (i + 1)) (ps ++ [k]) (2 + i + 1)) = 2 + i
        rw [hg]
      · have hnn : v ≠ .non := by
          rintro rfl
          unfold VAt at hv
          by_cases e : x.1 = x.2
          · rw [if_pos e] at hv
            cases hv
          · rw [if_neg e] at hv
            obtain ⟨t, z, _⟩ := hv
            cases z
        refine ⟨_, rfl, rfl, _, rfl, ?_⟩
        rw [decide_eq_false hnn]
        refine iteF ⟨_, rfl, _, rfl, dat x, ps.map dat, hv.dp, .lst (SqL.of e8) v8.dp, sh_dat x, sh_dats ps, _, rfl, ?_⟩
        rw [dat_any]
        by_cases hm : x ∈ ps
        · rw [decide_eq_true hm]
          refine iteT ⟨_, rfl, _, rfl, by show 2 ≤ 1000; decide, raise_rd (bad (sc6.trans ?_))⟩
          show (match g wd with | none => 2 + i | some k => if k ∈ ps then 2 + i else scan g (rest.drop (i + 1)) (ps ++ [k]) (2 + i + 1)) = 2 + i
          rw [hg]
          exact if_pos hm
        · rw [decide_eq_false hm]
          exact iteF ⟨x, hg, hm, hv, rfl, rfl⟩
    rintro _ _ ⟨x, hg, hm, hv8, rfl, rfl⟩
    refine ⟨_, rfl, .inl ⟨rfl, _, SqL.of e8⟩, _, rfl, p, vs, v, rfl, rfl, e8, hps, ?_⟩
    refine ⟨_, _, _, vs ++ [v], ps ++ [x], rfl, fun b o e hb => ?_, upd_same, ?_, ?_, ?_⟩
    · rw [upd_ne hb]
      exact s8 _ _ (k7 _ _ (k6 _ _ e hb))
    · refine (VsAt.snoc hv8 v8).keep fun t xs e => ?_
      rw [upd_ne (fun z => by rw [z, e8] at e; cases e)]
      exact e
    · rw [List.length_append, hl6]
      rfl
    · refine sc6.trans ?_
      show (match g wd with | none => 2 + i | some k => if k ∈ ps then 2 + i else scan g (rest.drop (i + 1)) (ps ++ [k]) (2 + i + 1)) = scan g (rest.drop (i + 1)) (ps ++ [x]) (2 + (i + 1))
      rw [hg]
      exact if_neg hm
end
end KQ

namespace KQ
open PySem PySem.Spec PyProof.Rows L2
def tTr (K : PySem.W.Frag) (ta : TE) : TT := fun σ H Q => ta σ H fun x H' => ∃ k, TruV K x H' k ∧ Q k H'
theorem pts_tr {X : Cx} {c : Expr} {ta : TE} (K : PySem.W.Frag) (hK : X.K = K) (ha : PE X c ta) (he : ∀ whole, isTrue c X.env whole = (do let v ← whole; standAt c.pos; holding [v] (truthy v))) : PTs X [c] (tTr K ta) := by
  subst hK
  exact pts_one (pt_truth ha he)
/-! ### a tuple whose methods are called: its object is told -/
theorem filt_step {α : Type} {xs : List α} {x : α} {i : Nat} (f : α → Bool) (h : xs[i]? = some x) : (xs.take (i + 1)).filter f = if f x = true then (xs.take i).filter f ++ [x] else (xs.take i).filter f := by
  rw [List.take_add_one, h, Option.toList_some, List.filter_append, List.filter_cons]
  cases f x with
  | true => rfl
  | false => exact List.append_nil _
theorem ne_len (w : Str) : (((w.length : Nat) : Int) != 0) = neE w := by
  unfold neE
  by_cases h : w = ""
  · subst h
    decide +kernel
  · rw [decide_eq_true h]
    refine bne_iff_ne.mpr fun z => h (TL.ext_tl ?_)
    have h1 : (TL.tl w).length = 0 := by rw [← TL.len_tl]; omega
    rw [List.length_eq_zero_iff.mp h1]
    decide +kernel
/-- the rules read so far; what they tell is not the list itself -/
def RulesAt (H : Hp) (p : Addr) : Prop := ∃ vs, H p = some (.lst vs) ∧ ∀ v ∈ vs, ∃ t k x, v = .ref t ∧ H t = some (.tup [.str k, x]) ∧ ToldAt H k x ∧ x ≠ .ref p
theorem DL.keep {H H' : Hp} {p a : Addr} {xs : List V} (hp : H p = some (.lst xs)) (k : ∀ b o, H b = some o → b ≠ p → H' b = some o) (ha : a ≠ p) (h : DL H a) : DL H' a := by
  obtain ⟨vs, ps, h1, h2, h3⟩ := h
  exact ⟨vs, ps, k _ _ h1 ha, h2.keep fun t ys e => k _ _ e (ne_of e hp (by intro z; cases z)), h3⟩
theorem ToldAt.keep {H H' : Hp} {p : Addr} {xs : List V} (hp : H p = some (.lst xs)) (k' : ∀ b o, H b = some o → b ≠ p → H' b = some o) {k : Str} {v : V} (hv : v ≠ .ref p) (h : ToldAt H k v) : ToldAt H' k v := by
  rcases h with h | h | ⟨hk, q, e, h⟩
  · exact .inl h
  · exact .inr (.inl h)
  · exact .inr (.inr ⟨hk, q, e, h.keep hp k' (fun z => hv (by rw [e, z]))⟩)
theorem DL.up {H H' : Hp} {a : Addr} (s : Same H H') (h : DL H a) : DL H' a := by
  obtain ⟨vs, ps, h1, h2, h3⟩ := h
  exact ⟨vs, ps, s _ _ h1, h2.keep fun t ys e => s _ _ e, h3⟩
theorem ToldAt.up {H H' : Hp} {k : Str} {v : V} (s : Same H H') (h : ToldAt H k v) : ToldAt H' k v := by
  rcases h with h | h | ⟨hk, p, e, h⟩
  · exact .inl h
  · exact .inr (.inl h)
  · exact .inr (.inr ⟨hk, p, e, h.up s⟩)
theorem RulesAt.up {H H' : Hp} {p : Addr} (s : Same H H') (h : RulesAt H p) : RulesAt H' p := by
  obtain ⟨vs, h1, h2⟩ := h
  refine ⟨vs, s _ _ h1, fun v hv => ?_⟩
  obtain ⟨t, k, x, e1, e2, e3, e4⟩ := h2 v hv
  exact ⟨t, k, x, e1, s _ _ e2, e3.up s, e4⟩
theorem RulesAt.snoc {H : Hp} {p t : Addr} {k : Str} {x : V} {vs : List V} (hp : H p = some (.lst vs)) (h : RulesAt H p) (ht : H t = some (.tup [.str k, x])) (hx : ToldAt H k x) (hn : x ≠ .ref p) : RulesAt (upd H p (.lst (vs ++ [.ref t]))) p := by
  obtain ⟨us, h1, h2⟩ := h
  rw [hp] at h1
  cases h1
  have k' : ∀ b o, H b = some o → b ≠ p → (upd H p (.lst (vs ++ [.ref t]))) b = some o := fun b o e hb => by rw [upd_ne hb]; exact e
  refine ⟨_, upd_same, fun v hv => ?_⟩
  rcases List.mem_append.mp hv with hv | hv
  · obtain ⟨t', k2, x2, e1, e2, e3, e4⟩ := h2 v hv
    exact ⟨t', k2, x2, e1, k' _ _ e2 (ne_of e2 hp (by intro z; cases z)), e3.keep hp k' e4, e4⟩
  · exact ⟨t, k, x, List.mem_singleton.mp hv, k' _ _ ht (ne_of ht hp (by intro z; cases z)), hx.keep hp k' hn, hn⟩
theorem dueL_pos {n : Nat} : ∀ {ls : List Str} {i : Nat}, 0 < i → (dueL n ls i = (0, 0) ∨ (0 < (dueL n ls i).1 ∧ 0 < (dueL n ls i).2))
  | [], _, _ => .inl rfl
  | l :: r, i, h => by
    unfold dueL
    split
    · exact .inr ⟨h, by assumption⟩
    · exact dueL_pos (by omega)
theorem wrong_nil (n : Nat) : wrong n [] = 0 := rfl
def spRules (K : PySem.W.Frag) (C : Addr) : Sp := fun vs H Q E => ∃ (n : Nat) (t : Str), vs = [.int (n : Int), .str t] ∧ n ≤ 24 ∧ t.length ≤ 1000000 ∧
  ((dueL n (Txt.split t "\n") 1 = (0, 0) ∧ ∀ H' p us, Same H H' → H p = none → RulesAt H' p → H' p = some (.lst us) → us.length ≤ 1000010 → Q (.ref p) H') ∨ ∃ l c : Nat, dueL n (Txt.split t "\n") 1 = (l, c) ∧ 0 < l ∧ Rz C (.int (l : Int)) (.int (c : Int)) H E)
theorem e_nl : ("\n" : Str) = ⟨#[10]⟩ := by decide +kernel
theorem e_sp : (" " : Str) = ⟨#[32]⟩ := by decide +kernel
theorem words_wtt (l : Str) : wtt (wordsOf l) ≤ l.length + 1 := by
  unfold wordsOf
  refine Nat.le_trans (wtt_filter _ _) ?_
  rw [e_sp, wtt_split l (by decide)]
  exact Nat.le_refl _
theorem line_len {t l : Str} (h : l ∈ Txt.split t "\n") : l.length ≤ t.length := by
  have h1 := wtt_mem h
  rw [e_nl, wtt_split t (by decide)] at h1
  omega
theorem lines_len (t : Str) : (Txt.split t "\n").length ≤ t.length + 1 := by
  have h1 := wtt_len (Txt.split t "\n")
  rw [e_nl, wtt_split t (by decide)] at h1
  rw [e_nl]
  exact h1
theorem mil {n : Nat} (h : n ≤ 1000010) : n ≤ sizeLine := Nat.le_trans h (by decide)
section
variable {P : Program} {w : World} {K : PySem.W.Frag} {mg : Str → Option Value} {base : Heap}
theorem ok_rules {f C fB fN fO fP fL A : Addr} {fd dB dN dO dP dL : FuncData} (F : Fun K "_read_rules" "_read_rules" sRules f fd) (FL : Fun K "_read_line" "_read_line" sLine fL dL) (bL : Binds K dL ["size", "line", "words"] []) (gL : mg "_read_line" = some (.ref fL))
    (FN : Fun K "_numbers_below" "_numbers_below" sNb fN dN) (bN : Binds K dN ["limit"] []) (gN : mg "_numbers_below" = some (.ref fN))
    (FO : Fun K "_only_word" "_only_word" sOnly fO dO) (bO : Binds K dO ["line", "words", "right"] []) (gO : mg "_only_word" = some (.ref fO)) (FP : Fun K "_pair_of" "_pair_of" sPair fP dP) (bP : Binds K dP ["size", "word"] []) (gP : mg "_pair_of" = some (.ref fP))
    (T : BT K mg C fB dB) (W : LW K mg A) (B : Bl mg) : FnOk P w K mg base (L2.CX P w) 5 f fd ["size", "text"] (spRules K C) := by
  have GL : FnOk P w K mg base (L2.CX P w) 4 fL dL ["size", "line", "words"] (spLine K C) := ok_line FL FN bN gN FO bO gO FP bP gP T W B
  refine F.okX scRules (fun vs H Q E h => ?_) (fun cdv A' outer s H vs Q E hr h => ?_)
  · obtain ⟨n, t, rfl, _⟩ := h
    rfl
  · obtain ⟨n, t, rfl, hn, hz, h⟩ := h
    refine ⟨_, (C8.pss_cut (ps_set (i := 2) scRules.nd rfl (.inl rfl) (pe_lst pa_nil))
      (C8.pss_cut (ps_for (passes_of rfl) rfl (pi_enumk (by rfl) B.enum (by decide) (by decide) (pa_cons (pe_split (pv 1) pe_str) pa_nil)) (pg_tup rfl (pgs_cons (pg_name (i := 3) scRules.nd rfl (.inl rfl)) (pgs_cons (pg_name (i := 4) scRules.nd rfl (.inl rfl)) pgs_nil)))
        (C8.pss_cut (ps_setLc (i := 5) (own := [("word", 6)]) (g := gName 6) (by rfl) scRules.nd rfl rfl (sw_true rfl rfl rfl (by decide +kernel)) (pi_list (pe_split (pv 4) pe_str)) (blkOk_by (own := [("word", 6)]) (N := ["size", "text", "rules", "line", "row", "words", "word"]) (sc := defScope sRules) (by decide +kernel))
          (fun _ _ _ _ _ => pg_name (i := 6) scRules.nd rfl (Or.inl rfl)) (fun _ _ _ _ _ => pts_tr K rfl (pv 6) (by intro _; rfl)) (fun _ _ _ _ _ => pv 6))
        (pss_one (ps_if (pt_truth (pv 5) (by intro _; rfl)) (pss_one (ps_expr (pe_bm PySem.F.plainAttrs_list PySem.F.slot_list_append PySem.F.type_list_append mt_append (pv 2) (pa_cons (pe_tup (pa_cons (pe_ix ix_list (pv 5) pe_int (fun _ _ => rfl)) (pa_cons (pe_call GL hr (by rfl) gL FL.kp bL .nil (passes_call (takes_of rfl rfl rfl rfl) (fun _ _ _ _ h => h)) (pa_cons (pv 0) (pa_cons (pv 3) (pa_cons (pv 5) pa_nil)))) pa_nil))) pa_nil)))) pss_nil))))
      (pss_one (ps_ret (pv 2))))), ?_⟩
    refine ⟨fun σ' H' => ∃ p, σ' = [some (.int (n : Nat)), some (.str t), some (.ref p), none, none, none, none] ∧ Same H H' ∧ H' p = some (.lst []) ∧ H p = none, ?_, ?_⟩
    · exact ⟨by show 0 ≤ sizeLine; decide, fun p np => ⟨p, rfl, same_new np, upd_same, np⟩⟩
    rintro _ H1 ⟨p, rfl, s1, e1, np⟩
    generalize els : Txt.split t "\n" = ls at h
    have hll : ls.length ≤ 1000001 := by
      rw [← els]
      exact Nat.le_trans (lines_len t) (by omega)
    refine ⟨fun σ' H' => ∃ (a b c d : Option V), σ' = [some (.int (n : Nat)), some (.str t), some (.ref p), a, b, c, d] ∧ Same H H' ∧ RulesAt H' p ∧ (∃ us, H' p = some (.lst us) ∧ us.length ≤ 1000010) ∧ dueL n ls 1 = (0, 0), ?_, ?_⟩
    rotate_left
    · rintro _ H2 ⟨a, b, c, d, rfl, s2, r2, ⟨us, eu, lu⟩, z⟩
      rcases h with ⟨_, q⟩ | ⟨l, c, z', hl, _⟩
      · exact ⟨_, rfl, q _ _ _ s2 np r2 eu lu⟩
      · rw [z] at z'
        cases z'
        exact absurd hl (Nat.lt_irrefl _)
    refine ⟨_, rfl, ⟨_, rfl⟩, _, _, rfl, rfl, by decide +kernel, mil (by omega), fun q nq => ⟨q, _, rfl, SqL.of upd_same, ?_⟩⟩
    rw [els]
    have hqp : q ≠ p := fun z => by rw [z, e1] at nq; cases nq
    generalize eH2 : upd H1 q (.lst (ls.map V.str)) = H2
    have s2 : Same H H2 := by
      rw [← eH2]
      exact same_upd s1 (none_back s1 nq)
    have e2 : H2 p = some (.lst []) := by rw [← eH2, upd_ne hqp.symm, e1]
    have q2 : H2 q = some (.lst (ls.map V.str)) := by rw [← eH2, upd_same]
    refine for_it (walk_enumk K q 1 (ls.map V.str)) (fun i σ' H' => ∃ (a b c d : Option V) (us : List V), σ' = [some (.int (n : Nat)), some (.str t), some (.ref p), a, b, c, d] ∧
        (∀ b o, H2 b = some o → b ≠ p → H' b = some o) ∧ H' p = some (.lst us) ∧ us.length ≤ i ∧ RulesAt H' p ∧ dueL n ls 1 = dueL n (ls.drop i) (1 + i))
      ⟨none, none, none, none, [], rfl, fun _ _ e _ => e, e2, Nat.le_refl _, ⟨[], e2, fun _ z => by cases z⟩, rfl⟩ (fun i σ' H' _ ⟨a, b, c, d, us, _, k', _⟩ => SqL.of (k' q _ q2 hqp)) ?_ ?_
    rotate_left
    · rintro _ H3 ⟨a, b, c, d, us, rfl, k3, e3, l3, r3, d3⟩
      refine ⟨a, b, c, d, rfl, fun b o e => k3 b o (s2 _ _ e) (ne_of_none e np), r3, ⟨us, e3, Nat.le_trans l3 (by rw [List.length_map]; omega)⟩, d3.trans ?_⟩
      rw [List.length_map, List.drop_length]
      rfl
    rintro i x _ H3 H4 hi ⟨a, b, c, d, us, rfl, k3, e3, l3, r3, d3⟩ ⟨T', y1, y2, rfl, nT', rfl, z1, z2⟩
    rw [List.length_map] at hi
    cases z1
    have hx : ls[i]? = some ls[i] := List.getElem?_eq_getElem hi
    have z2' : (ls.map V.str)[i]? = some y2 := z2
    rw [List.getElem?_map, hx] at z2'
    cases z2'
    have hdr : ls.drop i = ls[i] :: ls.drop (i + 1) := List.drop_eq_getElem_cons hi
    generalize ls[i] = row at hx hdr
    have hrow : row.length ≤ 1000000 := Nat.le_trans (line_len (by rw [els]; exact List.mem_of_getElem? hx)) hz
    refine ⟨T', _, rfl, .inl (.inl upd_same), rfl, _, _, rfl, _, _, rfl, rfl, ?_⟩
    have k4 : Same H3 (upd H3 T' (.tup [.int (1 + (i : Nat)), .str row])) := same_new nT'
    generalize eH4 : upd H3 T' (.tup [.int (1 + (i : Nat)), .str row]) = H4 at k4
    have s4 : Same H H4 := fun b o e => k4 b o (k3 b o (s2 _ _ e) (ne_of_none e np))
    have ww : ∀ w ∈ wordsOf row, w.length ≤ sizeLine ∧ w ≠ "" := fun w hw => by
      have h1 := wtt_mem hw
      have h2 := words_wtt row
      exact ⟨mil (by omega), of_decide_eq_true (List.mem_filter.mp hw).2⟩
    have wl : (wordsOf row).length ≤ 1000001 := by
      have h1 := wtt_len (wordsOf row)
      have h2 := words_wtt row
      omega
    -- its words
    refine ⟨fun σ' H' => ∃ (d : Option V) (D : Addr), σ' = [some (.int (n : Nat)), some (.str t), some (.ref p), some (.int (1 + (i : Nat))), some (.str row), some (.ref D), d] ∧ Same H4 H' ∧ H' D = some (.lst ((wordsOf row).map V.str)), ?_, ?_⟩
    · refine ⟨_, rfl, ⟨_, rfl⟩, _, _, rfl, rfl, by decide +kernel, mil (by omega), fun r nr => ⟨r, rfl, ⟨_, SqL.of upd_same⟩, fun D nD => ?_⟩⟩
      have hDr : D ≠ r := fun z => by rw [z, upd_same] at nD; cases nD
      have nD4 := none_back (same_new nr) nD
      refine lc_list (K := K) (a := r) (xs := (Txt.split row " ").map V.str) (fun j H' => Same H4 H' ∧ H' r = some (.lst ((Txt.split row " ").map V.str)) ∧ H' D = some (.lst ((((Txt.split row " ").take j).filter neE).map V.str)))
        ⟨same_upd (same_new nr) (none_back (same_new nr) nD), by rw [upd_ne hDr.symm, upd_same], upd_same⟩ (fun j H' _ h' => SqL.of h'.2.1) ?_ ?_
      · rintro j x H5 hj ⟨s5, er5, eD5⟩
        rw [List.getElem?_map] at hj
        cases hxj : (Txt.split row " ")[j]? with
        | none => rw [hxj] at hj; cases hj
        | some wj =>
          rw [hxj] at hj
          cases hj
          have hwj : wj.length ≤ 1000000 := by
            have h1 := wtt_mem (List.mem_of_getElem? hxj)
            rw [e_sp, wtt_split row (by decide)] at h1
            omega
          have hjl : j < (Txt.split row " ").length := (List.getElem?_eq_some_iff.mp hxj).1
          have hsl : (Txt.split row " ").length ≤ 1000001 := by
            have h1 := wtt_len (Txt.split row " ")
            have h2 := wtt_split row (c := 32) (by decide)
            rw [← e_sp] at h2
            omega
          refine ⟨rfl, _, rfl, _, ⟨mil (by omega), rfl⟩, ?_⟩
          rw [ne_len]
          have fs := filt_step neE hxj
          cases hne : neE wj with
          | true =>
            rw [if_pos hne] at fs
            refine ⟨_, rfl, _, eD5, ?_, fun b o e => ?_, ?_, ?_⟩
            · rw [List.length_map]
              refine Nat.lt_of_le_of_lt (List.length_filter_le _ _) ?_
              rw [List.length_take]
              exact Nat.lt_of_lt_of_le (show min j _ < 1000010 by omega) (by decide)
            · rw [upd_ne (ne_of_none e nD4)]
              exact s5 _ _ e
            · rw [upd_ne hDr.symm]
              exact er5
            · rw [upd_same, fs, List.map_append]
              rfl
          | false =>
            rw [if_neg (by rw [hne]; exact Bool.false_ne_true)] at fs
            exact ⟨s5, er5, by rw [fs]; exact eD5⟩
      · rintro H5 ⟨s5, er5, eD5⟩
        rw [List.length_map, List.take_length] at eD5
        exact ⟨_, D, rfl, s5, eD5⟩
    rintro _ H5 ⟨d', D, rfl, s5, eD⟩
    have e5 : H5 p = some (.lst us) := s5 _ _ (k4 _ _ e3)
    have r5 : RulesAt H5 p := r3.up (k4.trans s5)
    have k5 : ∀ b o, H2 b = some o → b ≠ p → H5 b = some o := fun b o e hb => s5 _ _ (k4 _ _ (k3 b o e hb))
    rw [hdr] at d3
    cases hwd : wordsOf row with
    | nil =>
      rw [hwd] at eD
      refine ⟨_, rfl, _, .inl ⟨_, SqL.of eD, rfl⟩, iteF ⟨_, _, _, _, us, rfl, k5, e5, Nat.le_succ_of_le l3, r5, d3.trans ?_⟩⟩
      show (if 0 < wrong n (wordsOf row) then _ else dueL n (ls.drop (i + 1)) (1 + i + 1)) = _
      rw [hwd, if_neg (by rw [wrong_nil]; exact Nat.lt_irrefl 0)]
      rfl
    | cons k rest =>
      rw [hwd] at eD ww wl
      have due_w : 0 < wrong n (k :: rest) → dueL n ls 1 = (1 + i, wrong n (k :: rest)) := fun z => d3.trans (by
        show (if 0 < wrong n (wordsOf row) then (1 + i, wrong n (wordsOf row)) else _) = _
        rw [hwd, if_pos z])
      have due_0 : wrong n (k :: rest) = 0 → dueL n ls 1 = dueL n (ls.drop (i + 1)) (1 + (i + 1)) := fun z => d3.trans (by
        show (if 0 < wrong n (wordsOf row) then _ else dueL n (ls.drop (i + 1)) (1 + i + 1)) = _
        rw [hwd, if_neg (by rw [z]; exact Nat.lt_irrefl 0)]
        rfl)
      refine ⟨_, rfl, _, .inl ⟨_, SqL.of eD, rfl⟩, iteT ?_⟩
      refine ⟨_, rfl, .inl ⟨rfl, _, SqL.of e5⟩, _, rfl, D, _, _, _, rfl, rfl, SqL.of eD, atI_nat (j := 0) rfl, _, rfl, _, rfl, _, rfl, n, 1 + (i : Nat), D, k, rest, rfl, hn, SqL.of eD, fun w hw => (ww w (List.mem_cons_of_mem _ hw)).1, (by
        have := wl
        rw [List.length_cons] at this
        omega), ?_⟩
      have s45 := s4.trans s5
      rcases Nat.eq_zero_or_pos (wrong n (k :: rest)) with z | z
      · refine .inl ⟨z, fun H6 v s6 tv hv => ?_⟩
        refine ⟨by show 2 ≤ sizeLine; decide, fun r nr => ⟨p, us, _, rfl, rfl, ?_, ?_, ?_⟩⟩
        · have e6 := s6 _ _ e5
          exact (upd_ne (ne_of_none e6 nr)).trans e6
        · exact Nat.lt_of_le_of_lt (Nat.le_trans l3 (Nat.le_of_lt (Nat.lt_of_lt_of_le hi hll))) (by decide)
        · have e6 := s6 _ _ e5
          have sr : Same H6 (upd H6 r (.tup [.str k, v])) := same_new nr
          have hvp : v ≠ .ref p := fun z => by
            have := hv p z
            rw [e5] at this
            cases this
          refine ⟨_, _, _, _, us ++ [.ref r], rfl, fun b o e hb => ?_, upd_same, ?_, ?_, due_0 z⟩
          · rw [upd_ne hb]
            exact sr _ _ (s6 _ _ (k5 b o e hb))
          · rw [List.length_append]
            exact Nat.succ_le_succ l3
          · exact RulesAt.snoc (sr _ _ e6) (r5.up (s6.trans sr)) upd_same (tv.up sr) hvp
      · refine .inr ⟨z, ?_⟩
        rcases h with ⟨z', _⟩ | ⟨l, c, z', hl, q'⟩
        · rw [due_w z] at z'
          have := congrArg Prod.fst z'
          simp only at this
          omega
        · rw [due_w z] at z'
          injection z' with z1 z2
          subst z1 z2
          have e9 : ((1 + i : Nat) : Int) = 1 + (i : Int) := by omega
          rw [e9] at q'
          exact rz_same q' s45
end
end KQ

namespace KQ
open PySem PySem.Spec PyProof.Rows L2
/-! ### what lines have in common -/
theorem pt_trK {X : Cx} {c : Expr} {ta : TE} (K : PySem.W.Frag) (hK : X.K = K) (ha : PE X c ta) (he : ∀ whole, isTrue c X.env whole = (do let v ← whole; standAt c.pos; holding [v] (truthy v))) : PT X c (tTr K ta) := by
  subst hK
  exact pt_truth ha he
theorem scCommon : FnScope ["first", "others", "one", "other"] ["first", "others"] (defScope sCommon) := ⟨rfl, rfl, rfl, by decide +kernel, rfl, by decide +kernel, by decide +kernel⟩
abbrev scOne : Scope := { kind := .function, names := [(".0", .local), ("one", .cell), ("others", .cell)], isGenerator := false, isCoroutine := false }
theorem VAt.sh {v : V} {H : Hp} {x : Nat × Nat} (_ : VAt H v x) : SeqAt.shaped (dat x) = true := sh_dat x
theorem VsAt.at {H : Hp} : ∀ {vs : List V} {ps : List (Nat × Nat)}, VsAt H vs ps → ∀ {i : Nat} {v : V}, vs[i]? = some v → ∃ x, VAt H v x
  | [], [], _, i, v, e => by cases e
  | _ :: _, x :: _, h, 0, v, e => by cases e; exact ⟨x, h.1⟩
  | _ :: _, _ :: _, h, i + 1, v, e => VsAt.at h.2 (i := i) e
  | [], _ :: _, h, _, _, _ => h.elim
  | _ :: _, [], h, _, _, _ => h.elim
def ComIn (K : PySem.W.Frag) (H : Hp) (f : V) (o : Addr) : Prop :=
  (∃ (z : Str) (os : List Str), f = .str z ∧ z.length ≤ 1000 ∧ os.length ≤ 1000010 ∧ SqL K H o (os.map V.str)) ∨ (∃ (a : Addr) (us : List Addr), f = .ref a ∧ DL H a ∧ us.length ≤ 1000010 ∧ SqL K H o (us.map V.ref) ∧ ∀ u ∈ us, DL H u)
def spCommon (K : PySem.W.Frag) : Sp := fun vs H Q _ => ∃ (y : V) (o : Addr), vs = [y, .ref o] ∧ ComIn K H y o ∧ ∀ H' p xs, Same H H' → H p = none → H' p = some (.tup xs) → Q (.ref p) H'
section
variable {P : Program} {w : World} {K : PySem.W.Frag} {mg : Str → Option Value} {base : Heap}
theorem ok_common {f : Addr} {fd : FuncData} {k : Nat} (F : Fun K "_common" "_common" sCommon f fd) (B : Bl mg) : FnOk P w K mg base CX0 (k + 1) f fd ["first", "others"] (spCommon K) := by
  refine F.ok scCommon (fun vs H Q E h => ?_) (fun cdv A' outer s H vs Q E hr h => ?_)
  · obtain ⟨y0, o, rfl, _⟩ := h
    rfl
  · obtain ⟨y0, o, rfl, h, q⟩ := h
    have hu65 : (A'.deeper (envOfC "_common" (defScope sCommon) s.heap.objs.size f cdv)).units + 65 < cLine := by
      have := hr.un
      omega
    rcases h with ⟨z, os, rfl, hz, ho, hO⟩ | ⟨a, us, rfl, hD, hus, hO, hU⟩
    · refine ⟨_, pss_one (ps_ret (pe_callTy call_tuple_of (by rfl) B.tuple bootTu (pa_cons (pe_lc (own := [("one", 2)]) (g := gName 2) (by rfl) scCommon.nd (pi_str (pv 0)) (blkOk_by (own := [("one", 2)]) (N := ["first", "others", "one", "other"]) (sc := defScope sCommon) (by decide +kernel))
          (fun _ _ _ _ _ => pg_name (i := 2) scCommon.nd rfl (Or.inr rfl)) (fun _ _ _ _ _ => pts_one (pt_not (pt_trK K rfl (pe_lc (wi := iList K (tVar 1)) (own := [("other", 3)]) (g := gName 3) (tt := tTest (tOp (fun x y H Q => ∃ i j, x = .str i ∧ y = .str j ∧ Q (.bl (!(!(Builtin.Str.occurrences j i 0 j.length 1).isEmpty))) H) (tVar 2) (tVar 3))) (by rfl) scCommon.nd (pi_list (pv 1)) (blkOk_by (own := [("other", 3)]) (N := ["first", "others", "one", "other"]) (sc := scOne) (by decide +kernel))
            (fun _ _ _ _ _ => pg_name (i := 3) scCommon.nd rfl (Or.inl rfl)) (fun _ _ _ _ _ => pts_one (pt_cmpR (r := (fun x y H Q => ∃ i j, x = .str i ∧ y = .str j ∧ Q (.bl (!(!(Builtin.Str.occurrences j i 0 j.length 1).isEmpty))) H)) op_notin_str (pv 2) (pv 3) (by rfl))) (fun _ _ _ _ _ => pv 3)) (by intro _; rfl)))) (fun _ _ _ _ _ => pv 2)) pa_nil))), ?_⟩
      have hz' : z.cps.size ≤ 1000 := hz
      refine ⟨_, rfl, z, rfl, fun D nD => lc_it walk_str (fun i H' => Same H H' ∧ ∃ acc, H' D = some (.lst acc) ∧ acc.length ≤ i) ⟨same_new nD, [], upd_same, Nat.le_refl _⟩ (fun _ _ _ _ => trivial) ?_ ?_⟩
      · rintro i x H1 H9 hi ⟨s1, acc, e1, l1⟩ ⟨e9, c, hc, rfl⟩
        have e9' := e9.symm
        subst e9'
        have hsz : z.cps.size < sizeLine := Nat.lt_of_le_of_lt hz' (by decide)
        refine ⟨rfl, _, rfl, o, rfl, ⟨_, s1.seq hO⟩, fun D2 nD2 => lc_list (K := K) (a := o) (xs := os.map V.str) (fun j H' => Same H1 H' ∧ ∃ acc2, H' D2 = some (.lst acc2) ∧ acc2.length ≤ j) ⟨same_new nD2, [], upd_same, Nat.le_refl _⟩ (fun j H' _ h' => (s1.trans h'.1).seq hO) ?_ ?_⟩
        · rintro j y H2 hj ⟨s2, acc2, e2, l2⟩
          have hjl : j < (os.map V.str).length := (List.getElem?_eq_some_iff.mp hj).1
          rw [List.length_map] at hjl
          have next : ∃ acc, H2 D2 = some (.lst acc) ∧ acc.length < sizeLine ∧ (Same H1 (upd H2 D2 (.lst (acc ++ [y]))) ∧ ∃ acc2, (upd H2 D2 (.lst (acc ++ [y]))) D2 = some (.lst acc2) ∧ acc2.length ≤ j + 1) :=
            ⟨acc2, e2, Nat.lt_of_le_of_lt (Nat.le_trans l2 (Nat.le_of_lt (Nat.lt_of_lt_of_le hjl (by assumption)))) (by decide), same_upd s2 nD2, _, upd_same, by rw [List.length_append]; exact Nat.succ_le_succ l2⟩
          rw [List.getElem?_map] at hj
          cases hx : os[j]? with
          | none => rw [hx] at hj; cases hj
          | some w =>
            rw [hx] at hj
            cases hj
            refine ⟨rfl, _, rfl, _, rfl, _, _, rfl, rfl, _, rfl, ?_⟩
            generalize (!(!(Builtin.Str.occurrences _ _ _ _ _).isEmpty)) = b
            cases b with
            | true => exact ⟨_, rfl, next⟩
            | false => exact ⟨s2, acc2, e2, Nat.le_succ_of_le l2⟩
        · rintro H2 ⟨s2, acc2, e2, l2⟩
          refine ⟨_, .inl ⟨_, SqL.of e2, rfl⟩, ite2 (fun _ => ?_) (fun _ => ?_)⟩
          · exact ⟨_, rfl, acc, s2 _ _ e1, Nat.lt_of_le_of_lt (Nat.le_trans l1 (Nat.le_of_lt hi)) (by assumption), same_upd (s1.trans s2) nD, _, upd_same, by rw [List.length_append]; exact Nat.succ_le_succ l1⟩
          · exact ⟨s1.trans s2, acc, s2 _ _ e1, Nat.le_succ_of_le l1⟩
      · rintro H1 ⟨s1, acc, e1, l1⟩
        refine ⟨D, _, rfl, .inl ⟨SqL.of e1, fun p np => ?_⟩⟩
        exact q _ p _ (same_upd s1 (none_back s1 np)) (none_back s1 np) upd_same
    · obtain ⟨vs, ps, e0, v0, hvs⟩ := hD
      refine ⟨_, pss_one (ps_ret (pe_callTy call_tuple_of (by rfl) B.tuple bootTu (pa_cons (pe_lc (own := [("one", 2)]) (g := gName 2) (by rfl) scCommon.nd (pi_list (pv 0)) (blkOk_by (own := [("one", 2)]) (N := ["first", "others", "one", "other"]) (sc := defScope sCommon) (by decide +kernel))
          (fun _ _ _ _ _ => pg_name (i := 2) scCommon.nd rfl (Or.inr rfl)) (fun _ _ _ _ _ => pts_one (pt_not (pt_trK K rfl (pe_lc (wi := iList K (tVar 1)) (own := [("other", 3)]) (g := gName 3) (tt := tTest (tOp (rNotInD K) (tVar 2) (tVar 3))) (by rfl) scCommon.nd (pi_list (pv 1)) (blkOk_by (own := [("other", 3)]) (N := ["first", "others", "one", "other"]) (sc := scOne) (by decide +kernel))
            (fun _ _ _ _ _ => pg_name (i := 3) scCommon.nd rfl (Or.inl rfl)) (fun _ _ _ _ _ => pts_one (pt_cmpR (r := (rNotInD K)) (op_notInD hu65) (pv 2) (pv 3) (by rfl))) (fun _ _ _ _ _ => pv 3)) (by intro _; rfl)))) (fun _ _ _ _ _ => pv 2)) pa_nil))), ?_⟩
      refine ⟨_, rfl, a, rfl, ⟨_, SqL.of e0⟩, fun D nD => lc_list (K := K) (a := a) (xs := vs) (fun i H' => Same H H' ∧ ∃ acc, H' D = some (.lst acc) ∧ acc.length ≤ i) ⟨same_new nD, [], upd_same, Nat.le_refl _⟩ (fun i H' _ h' => SqL.of (h'.1 _ _ e0)) ?_ ?_⟩
      · rintro i y H1 hy ⟨s1, acc, e1, l1⟩
        obtain ⟨x, hv⟩ := v0.at hy
        have hv1 : VAt H1 y x := hv.keep fun t ys e => s1 _ _ e
        have hi : i < vs.length := (List.getElem?_eq_some_iff.mp hy).1
        have hsz : vs.length < sizeLine := Nat.lt_of_le_of_lt hvs (by decide)
        refine ⟨rfl, _, rfl, o, rfl, ⟨_, s1.seq hO⟩, fun D2 nD2 => lc_list (K := K) (a := o) (xs := us.map V.ref) (fun j H' => Same H1 H' ∧ ∃ acc2, H' D2 = some (.lst acc2) ∧ acc2.length ≤ j) ⟨same_new nD2, [], upd_same, Nat.le_refl _⟩ (fun j H' _ h' => (s1.trans h'.1).seq hO) ?_ ?_⟩
        · rintro j y H2 hj ⟨s2, acc2, e2, l2⟩
          have hjl : j < (us.map V.ref).length := (List.getElem?_eq_some_iff.mp hj).1
          rw [List.length_map] at hjl
          have next : ∃ acc, H2 D2 = some (.lst acc) ∧ acc.length < sizeLine ∧ (Same H1 (upd H2 D2 (.lst (acc ++ [y]))) ∧ ∃ acc2, (upd H2 D2 (.lst (acc ++ [y]))) D2 = some (.lst acc2) ∧ acc2.length ≤ j + 1) :=
            ⟨acc2, e2, Nat.lt_of_le_of_lt (Nat.le_trans l2 (Nat.le_of_lt (Nat.lt_of_lt_of_le hjl (by assumption)))) (by decide), same_upd s2 nD2, _, upd_same, by rw [List.length_append]; exact Nat.succ_le_succ l2⟩
          rw [List.getElem?_map] at hj
          cases hx : us[j]? with
          | none => rw [hx] at hj; cases hj
          | some u =>
            rw [hx] at hj
            cases hj
            obtain ⟨vs2, ps2, d1, d2, _⟩ := ((hU u (List.mem_of_getElem? hx)).up s1).up s2
            refine ⟨rfl, _, rfl, _, rfl, dat x, ps2.map dat, (hv1.keep fun t ys e => s2 _ _ e).dp, .lst (SqL.of d1) d2.dp, sh_dat x, sh_dats ps2, _, rfl, ?_⟩
            generalize (!(ps2.map dat).any fun z => PyData.eqv z (dat x)) = b
            cases b with
            | true => exact ⟨_, rfl, next⟩
            | false => exact ⟨s2, acc2, e2, Nat.le_succ_of_le l2⟩
        · rintro H2 ⟨s2, acc2, e2, l2⟩
          refine ⟨_, .inl ⟨_, SqL.of e2, rfl⟩, ite2 (fun _ => ?_) (fun _ => ?_)⟩
          · exact ⟨_, rfl, acc, s2 _ _ e1, Nat.lt_of_le_of_lt (Nat.le_trans l1 (Nat.le_of_lt hi)) (by assumption), same_upd (s1.trans s2) nD, _, upd_same, by rw [List.length_append]; exact Nat.succ_le_succ l1⟩
          · exact ⟨s1.trans s2, acc, s2 _ _ e1, Nat.le_succ_of_le l1⟩
      · rintro H1 ⟨s1, acc, e1, l1⟩
        refine ⟨D, _, rfl, .inl ⟨SqL.of e1, fun p np => ?_⟩⟩
        exact q _ p _ (same_upd s1 (none_back s1 np)) (none_back s1 np) upd_same
end
end KQ

namespace KQ
open PySem PySem.Spec PyProof.Rows L2
/-! ### sorts made -/
theorem scInit : FnScope ["self", "size", "text", "rules", "nears", "most", "kind", "told"] ["self", "size", "text"] (defScope sInit) := ⟨rfl, rfl, rfl, by decide +kernel, rfl, by decide +kernel, by decide +kernel⟩
structure SCl (K : PySem.W.Frag) (mg : Str → Option Value) (C fI : Addr) : Prop where
  cl : Cls K C
  n_size : NoAttr K C "size"
  n_text : NoAttr K C "text"
  n_run : NoAttr K C "run"
  n_letters : NoAttr K C "letters"
  n_places : NoAttr K C "places"
  n_pairs : NoAttr K C "pairs"
  n_most : NoAttr K C "most"
  mkf : Mk K C fI
  g : mg "Sort" = some (.ref C)
theorem DL.ka {H H' : Hp} {a q : Addr} {C dx : Addr} {fs : List (Str × V)} (ha : H a = some (.ins C dx fs)) (k : ∀ b o, H b = some o → b ≠ a → H' b = some o) (h : DL H q) : DL H' q := by
  obtain ⟨vs, ps, h1, h2, h3⟩ := h
  exact ⟨vs, ps, k _ _ h1 (ne_of h1 ha (by intro z; cases z)), h2.keep fun t ys e => k _ _ e (ne_of e ha (by intro z; cases z)), h3⟩
theorem RulesAt.ka {H H' : Hp} {a p : Addr} {C dx : Addr} {fs : List (Str × V)} (ha : H a = some (.ins C dx fs)) (k : ∀ b o, H b = some o → b ≠ a → H' b = some o) (h : RulesAt H p) : RulesAt H' p := by
  obtain ⟨vs, h1, h2⟩ := h
  refine ⟨vs, k _ _ h1 (ne_of h1 ha (by intro z; cases z)), fun v hv => ?_⟩
  obtain ⟨t, kd, x, e1, e2, e3, e4⟩ := h2 v hv
  refine ⟨t, kd, x, e1, k _ _ e2 (ne_of e2 ha (by intro z; cases z)), ?_, e4⟩
  rcases e3 with h | h | ⟨hk, q, e, h⟩
  · exact .inl h
  · exact .inr (.inl h)
  · exact .inr (.inr ⟨hk, q, e, h.ka ha k⟩)
/-- what the rules of one kind tell -/
def tTold (K : PySem.W.Frag) (k : Str) : TE := tLc (iList K (tVar 3)) (gTup K 2 (gCons (gName 6) (gCons (gName 7) gNil))) (tTest (tOp rEq (tVar 6) (tC (.str k)))) (tVar 7) [6, 7]
theorem lc_told {K : PySem.W.Frag} {k : Str} {p : Addr} {H : Hp} {s0 s1 s2 s4 s5 s6 s7 : Option V} {us : List V} {Q : VK} (h : RulesAt H p) (hp : H p = some (.lst us)) (hl : us.length ≤ 1000010)
    (q : ∀ H' d xs, Same H H' → H d = none → H' d = some (.lst xs) → (∀ x ∈ xs, ToldAt H' k x) → xs.length ≤ 1000010 → Q (.ref d) H') : tTold K k [s0, s1, s2, some (.ref p), s4, s5, s6, s7] H Q := by
  obtain ⟨vs, h1, h2⟩ := h
  rw [hp] at h1
  cases h1
  refine ⟨_, rfl, p, rfl, ⟨_, SqL.of hp⟩, fun D nD => lc_list (K := K) (a := p) (xs := us) (fun i H' => Same H H' ∧ ∃ acc, H' D = some (.lst acc) ∧ acc.length ≤ i ∧ ∀ x ∈ acc, ToldAt H k x) ⟨same_new nD, [], upd_same, Nat.le_refl _, fun x hx => by cases hx⟩ (fun i H' _ h' => SqL.of (h'.1 _ _ hp)) ?_ ?_⟩
  · rintro i v H1 hv ⟨s1, acc, e1, l1, t1⟩
    obtain ⟨t, kd, x, rfl, e2, e3, e4⟩ := h2 v (List.mem_of_getElem? hv)
    have hi : i < us.length := (List.getElem?_eq_some_iff.mp hv).1
    refine ⟨t, _, rfl, .inl (.inl (s1 _ _ e2)), rfl, _, _, rfl, _, _, rfl, rfl, rfl, _, rfl, rfl, _, rfl, ite2 (fun e => ?_) (fun e => ⟨s1, acc, e1, Nat.le_succ_of_le l1, t1⟩)⟩
    have hk : kd = k := V.str.inj (of_decide_eq_true e)
    subst hk
    refine ⟨_, rfl, acc, e1, Nat.lt_of_le_of_lt (Nat.le_trans l1 (Nat.le_trans (Nat.le_of_lt hi) hl)) (by decide), same_upd s1 nD, _, upd_same, by rw [List.length_append]; exact Nat.succ_le_succ l1, fun y hy => ?_⟩
    rcases List.mem_append.mp hy with hy | hy
    · exact t1 y hy
    · rw [List.mem_singleton.mp hy]
      exact e3
  · rintro H1 ⟨s1, acc, e1, l1, t1⟩
    exact q _ D acc s1 nD e1 (fun x hx => (t1 x hx).up s1) (Nat.le_trans l1 hl)
theorem told_ints {H : Hp} {k : Str} (hk : k = "run" ∨ k = "weight") : ∀ {xs : List V}, (∀ x ∈ xs, ToldAt H k x) → ∃ ns : List Int, xs = ns.map V.int
  | [], _ => ⟨[], rfl⟩
  | x :: xs, h => by
    obtain ⟨ns, e⟩ := told_ints hk (fun y hy => h y (List.mem_cons_of_mem _ hy))
    have n1 : ¬ k = "letters" := by rcases hk with rfl | rfl <;> decide +kernel
    have n2 : ¬ (k = "near" ∨ k = "within") := by rcases hk with rfl | rfl <;> decide +kernel
    rcases h x List.mem_cons_self with ⟨_, i, z⟩ | ⟨z, _⟩ | ⟨z, _⟩
    · exact ⟨i :: ns, by rw [z, e]; rfl⟩
    · exact absurd z n1
    · exact absurd z n2
theorem told_strs {H : Hp} : ∀ {xs : List V}, (∀ x ∈ xs, ToldAt H "letters" x) → ∃ os : List Str, xs = os.map V.str
  | [], _ => ⟨[], rfl⟩
  | x :: xs, h => by
    obtain ⟨ns, e⟩ := told_strs (fun y hy => h y (List.mem_cons_of_mem _ hy))
    rcases h x List.mem_cons_self with ⟨z, _⟩ | ⟨_, s, z⟩ | ⟨z, _⟩
    · exact absurd z (by decide +kernel)
    · exact ⟨s :: ns, by rw [z, e]; rfl⟩
    · exact absurd z (by decide +kernel)
theorem told_refs {H : Hp} {k : Str} (hk : k = "near" ∨ k = "within") : ∀ {xs : List V}, (∀ x ∈ xs, ToldAt H k x) → ∃ us : List Addr, xs = us.map V.ref ∧ ∀ u ∈ us, DL H u
  | [], _ => ⟨[], rfl, fun _ z => by cases z⟩
  | x :: xs, h => by
    obtain ⟨us, e, hu⟩ := told_refs hk (fun y hy => h y (List.mem_cons_of_mem _ hy))
    have n1 : ¬ k = "letters" := by rcases hk with rfl | rfl <;> decide +kernel
    have n2 : ¬ (k = "weight" ∨ k = "run") := by rcases hk with rfl | rfl <;> decide +kernel
    rcases h x List.mem_cons_self with ⟨z, _⟩ | ⟨z, _⟩ | ⟨_, q, z, hq⟩
    · exact absurd z n2
    · exact absurd z n1
    · refine ⟨q :: us, by rw [z, e]; rfl, fun u hu2 => ?_⟩
      rcases List.mem_cons.mp hu2 with rfl | hu2
      · exact hq
      · exact hu u hu2
theorem vs_range {H : Hp} : ∀ L : List Nat, VsAt H (L.map fun k : Nat => V.int (k : Int)) (L.map fun k => (k, k))
  | [] => trivial
  | k :: L => ⟨(by show if k = k then _ else _; rw [if_pos rfl]), vs_range L⟩
theorem rg_nat (n : Nat) : rgV 0 (n : Int) = (List.range n).map fun k : Nat => V.int (k : Int) := by
  unfold rgV
  rw [show ((n : Int) - 0).toNat = n by omega]
  refine List.map_congr_left fun k _ => ?_
  rw [Int.zero_add]
theorem putF_len (f : Str) (v : V) : ∀ fs : List (Str × V), (putF f v fs).length ≤ fs.length + 1
  | [] => Nat.le_refl _
  | (g, x) :: r => by
    unfold putF
    split
    · exact Nat.le_succ _
    · exact Nat.succ_le_succ (putF_len f v r)
def spInitS (C CT : Addr) : Sp := fun vs H Q E => ∃ (a dx : Addr) (n : Nat) (v : V) (H0 : Hp), vs = [.ref a, .int (n : Int), v] ∧ H a = some (.ins C dx []) ∧ Same H0 H ∧ H0 a = none ∧ 1 ≤ n ∧ n ≤ 24 ∧
  ((∃ t : Str, v = .str t ∧ t.length ≤ 1000000 ∧ ((dueL n (Txt.split t "
") 1 = (0, 0) ∧ ∀ H', Same H0 H' → Q .non H') ∨ ∃ l c : Nat, dueL n (Txt.split t "
") 1 = (l, c) ∧ 0 < l ∧ Rz CT (.int (l : Int)) (.int (c : Int)) H0 E)) ∨
    (Odd H v ∧ Rz CT (.int 0) (.int 0) H0 E))
section
variable {P : Program} {w : World} {K : PySem.W.Frag} {mg : Str → Option Value} {base : Heap}
theorem ok_initS {f C CT fB fG fC fR fN fO fP fL A : Addr} {fd dB dG dC dR dN dO dP dL : FuncData} {tM : Tok} (F : Fun K "__init__" "Sort.__init__" sInit f fd) (S : SCl K mg C f) (FG : Fun K "is_integer" "is_integer" sIsI fG dG) (bG : Binds K dG ["value"] []) (gG : mg "is_integer" = some (.ref fG))
    (FC : Fun K "_common" "_common" sCommon fC dC) (bC : Binds K dC ["first", "others"] []) (gC : mg "_common" = some (.ref fC)) (FR : Fun K "_read_rules" "_read_rules" sRules fR dR) (bR : Binds K dR ["size", "text"] []) (gR : mg "_read_rules" = some (.ref fR))
    (FL : Fun K "_read_line" "_read_line" sLine fL dL) (bL : Binds K dL ["size", "line", "words"] []) (gL : mg "_read_line" = some (.ref fL)) (FN : Fun K "_numbers_below" "_numbers_below" sNb fN dN) (bN : Binds K dN ["limit"] []) (gN : mg "_numbers_below" = some (.ref fN))
    (FO : Fun K "_only_word" "_only_word" sOnly fO dO) (bO : Binds K dO ["line", "words", "right"] []) (gO : mg "_only_word" = some (.ref fO)) (FP : Fun K "_pair_of" "_pair_of" sPair fP dP) (bP : Binds K dP ["size", "word"] []) (gP : mg "_pair_of" = some (.ref fP))
    (T : BT K mg CT fB dB) (W : LW K mg A) (gM : mg "MOST_PLACES" = some (.int 24 tM)) (B : Bl mg) : FnOk P w K mg base (L2.CX P w) 6 f fd ["self", "size", "text"] (spInitS C CT) := by
  have GB : FnOk P w K mg base CX0 1 fB dB ["self", "line", "column"] (spInitT CT) := ok_initT T.F T.ox T.n0 T.n1
  have GG : FnOk P w K mg base CX0 1 fG dG ["value"] spIsI := ok_isI FG B
  have GC : FnOk P w K mg base CX0 1 fC dC ["first", "others"] (spCommon K) := ok_common FC B
  have GR : FnOk P w K mg base (L2.CX P w) 5 fR dR ["size", "text"] (spRules K CT) := ok_rules FR FL bL gL FN bN gN FO bO gO FP bP gP T W B
  refine F.okX scInit (fun vs H Q E h => ?_) (fun cdv A' outer s H vs Q E hr h => ?_)
  · obtain ⟨a, dx, n, v, H0, rfl, _⟩ := h
    rfl
  · obtain ⟨a, dx, n, v, H0, rfl, ea, s0, na, hn1, hn, h⟩ := h
    have r1 : Room 1 _ := hr.mono (by decide)
    refine ⟨_, (C8.pss_cut (ps_if (pw_or (pt_not (pt_val (pe_call GG r1 (by rfl) gG FG.kp bG .nil pass0 (pa_cons (pv 1) pa_nil)))) (pw_or1 (pt_not (pt_chain op_le op_le pe_int (pv 1) (pe_glob (v := .int 24) (by rfl) gM ⟨_, rfl⟩))))).pt (pss_one ps_never) pss_nil)
      (C8.pss_cut (ps_if (pt_not (pt_val (pe_callB call_isi (by rfl) B.isi PyProof.Rows.boot_isinstance (pa_cons (pv 2) (pa_cons (pe_bltn (v := .ty "str") (by rfl) B.str bootS rfl) pa_nil)))))
        (pss_one (ps_raise rfl (takes_of rfl rfl rfl rfl) (pmk_oex T.ox T.ic T.ti GB (hr.mono (by decide)) T.b .nil pass0 (by rfl) T.g (pa_cons pe_int (pa_cons pe_int pa_nil))))) pss_nil)
      (C8.pss_cut (ps_fld (pv 0) (pv 1) rfl)
      (C8.pss_cut (ps_fld (pv 0) (pv 2) rfl)
      (C8.pss_cut (ps_set (i := 3) scInit.nd rfl (.inl rfl) (pe_call GR hr (by rfl) gR FR.kp bR .nil (passes_call (takes_of rfl rfl rfl rfl) (fun _ _ _ _ h => h)) (pa_cons (pv 1) (pa_cons (pv 2) pa_nil))))
      (C8.pss_cut (ps_fld (pv 0) (pe_callB (r := rMin K) (cr_min rfl) (by rfl) B.min bootMin (pa_cons (pe_op op_cat (pe_lst (pa_cons (pv 1) pa_nil)) (pe_lc (wi := iList K (tVar 3)) (own := [("kind", 6), ("told", 7)]) (g := gTup K 2 (gCons (gName 6) (gCons (gName 7) gNil))) (tt := tTest (tOp rEq (tVar 6) (tC (.str "run")))) (by rfl) scInit.nd (pi_list (pv 3)) (blkOk_by (own := [("kind", 6), ("told", 7)]) (N := ["self", "size", "text", "rules", "nears", "most", "kind", "told"]) (sc := defScope sInit) (by decide +kernel))
          (fun _ _ _ _ _ => pg_tup rfl (pgs_cons (pg_name (i := 6) scInit.nd rfl (Or.inl rfl)) (pgs_cons (pg_name (i := 7) scInit.nd rfl (Or.inl rfl)) pgs_nil))) (fun _ _ _ _ _ => pts_one (pt_cmpR op_eq (pv 6) pe_str (nomark _))) (fun _ _ _ _ _ => pv 7))) pa_nil)) rfl)
      (C8.pss_cut (ps_fld (pv 0) (pe_call GC r1 (by rfl) gC FC.kp bC .nil pass0 (pa_cons pe_str (pa_cons (pe_lc (wi := iList K (tVar 3)) (own := [("kind", 6), ("told", 7)]) (g := gTup K 2 (gCons (gName 6) (gCons (gName 7) gNil))) (tt := tTest (tOp rEq (tVar 6) (tC (.str "letters")))) (by rfl) scInit.nd (pi_list (pv 3)) (blkOk_by (own := [("kind", 6), ("told", 7)]) (N := ["self", "size", "text", "rules", "nears", "most", "kind", "told"]) (sc := defScope sInit) (by decide +kernel))
          (fun _ _ _ _ _ => pg_tup rfl (pgs_cons (pg_name (i := 6) scInit.nd rfl (Or.inl rfl)) (pgs_cons (pg_name (i := 7) scInit.nd rfl (Or.inl rfl)) pgs_nil))) (fun _ _ _ _ _ => pts_one (pt_cmpR op_eq (pv 6) pe_str (nomark _))) (fun _ _ _ _ _ => pv 7)) pa_nil))) rfl)
      (C8.pss_cut (ps_fld (pv 0) (pe_call GC r1 (by rfl) gC FC.kp bC .nil pass0 (pa_cons (pe_listRg rfl (by rfl) B.list (prg_1 (by rfl) B.range (pv 1))) (pa_cons (pe_lc (wi := iList K (tVar 3)) (own := [("kind", 6), ("told", 7)]) (g := gTup K 2 (gCons (gName 6) (gCons (gName 7) gNil))) (tt := tTest (tOp rEq (tVar 6) (tC (.str "within")))) (by rfl) scInit.nd (pi_list (pv 3)) (blkOk_by (own := [("kind", 6), ("told", 7)]) (N := ["self", "size", "text", "rules", "nears", "most", "kind", "told"]) (sc := defScope sInit) (by decide +kernel))
          (fun _ _ _ _ _ => pg_tup rfl (pgs_cons (pg_name (i := 6) scInit.nd rfl (Or.inl rfl)) (pgs_cons (pg_name (i := 7) scInit.nd rfl (Or.inl rfl)) pgs_nil))) (fun _ _ _ _ _ => pts_one (pt_cmpR op_eq (pv 6) pe_str (nomark _))) (fun _ _ _ _ _ => pv 7)) pa_nil))) rfl)
      (C8.pss_cut (ps_setLc (wi := iList K (tVar 3)) (i := 4) (own := [("kind", 6), ("told", 7)]) (g := gTup K 2 (gCons (gName 6) (gCons (gName 7) gNil))) (tt := tTest (tOp rEq (tVar 6) (tC (.str "near")))) (by rfl) scInit.nd rfl rfl (sw_true rfl rfl rfl (by decide +kernel)) (pi_list (pv 3)) (blkOk_by (own := [("kind", 6), ("told", 7)]) (N := ["self", "size", "text", "rules", "nears", "most", "kind", "told"]) (sc := defScope sInit) (by decide +kernel))
          (fun _ _ _ _ _ => pg_tup rfl (pgs_cons (pg_name (i := 6) scInit.nd rfl (Or.inl rfl)) (pgs_cons (pg_name (i := 7) scInit.nd rfl (Or.inl rfl)) pgs_nil))) (fun _ _ _ _ _ => pts_one (pt_cmpR op_eq (pv 6) pe_str (nomark _))) (fun _ _ _ _ _ => pv 7))
      (C8.pss_cut (ps_fld (pv 0) (pe_ifExp (pt_truth (pv 4) (by intro _; rfl)) (pe_call GC r1 (by rfl) gC FC.kp bC .nil pass0 (pa_cons (pe_ix ix_list (pv 4) pe_int (fun _ _ => rfl)) (pa_cons (pv 4) pa_nil))) pe_non) rfl)
      (C8.pss_cut (ps_set (i := 5) scInit.nd rfl (.inl rfl) (pe_callB (r := rMin K) (cr_min rfl) (by rfl) B.min bootMin (pa_cons (pe_op op_cat (pe_lst (pa_cons (pv 1) pa_nil)) (pe_lc (wi := iList K (tVar 3)) (own := [("kind", 6), ("told", 7)]) (g := gTup K 2 (gCons (gName 6) (gCons (gName 7) gNil))) (tt := tTest (tOp rEq (tVar 6) (tC (.str "weight")))) (by rfl) scInit.nd (pi_list (pv 3)) (blkOk_by (own := [("kind", 6), ("told", 7)]) (N := ["self", "size", "text", "rules", "nears", "most", "kind", "told"]) (sc := defScope sInit) (by decide +kernel))
          (fun _ _ _ _ _ => pg_tup rfl (pgs_cons (pg_name (i := 6) scInit.nd rfl (Or.inl rfl)) (pgs_cons (pg_name (i := 7) scInit.nd rfl (Or.inl rfl)) pgs_nil))) (fun _ _ _ _ _ => pts_one (pt_cmpR op_eq (pv 6) pe_str (nomark _))) (fun _ _ _ _ _ => pv 7))) pa_nil)))
      (pss_one (ps_fld (pv 0) (pe_ifExp (pt_truth (pe_fld (pv 0) rfl) (by intro _; rfl)) (pv 5) pe_int) rfl))))))))))))), ?_⟩
    let σ0 : Option V → Option V → Option V → List (Option V) := fun x y z => [some (.ref a), some (.int (n : Nat)), some v, x, y, z, none, none]
    refine ⟨fun σ' H' => σ' = σ0 none none none ∧ H' = H, ?_, ?_⟩
    · refine ⟨_, rfl, _, rfl, _, rfl, iteF ⟨_, rfl, _, _, rfl, rfl, _, rfl, ?_⟩⟩
      rw [decide_eq_true (show (1 : Int) ≤ (n : Nat) by omega)]
      refine iteT ⟨_, _, rfl, rfl, _, rfl, ?_⟩
      rw [decide_eq_true (show ((n : Nat) : Int) ≤ 24 by omega)]
      exact iteF ⟨rfl, rfl⟩
    rintro _ H1 ⟨rfl, eH⟩
    subst eH
    refine ⟨fun σ' H' => σ' = σ0 none none none ∧ H' = H1 ∧ ∃ t : Str, v = .str t ∧ t.length ≤ 1000000 ∧ ((dueL n (Txt.split t "\n") 1 = (0, 0) ∧ ∀ H', Same H0 H' → Q .non H') ∨ ∃ l c : Nat, dueL n (Txt.split t "\n") 1 = (l, c) ∧ 0 < l ∧ Rz CT (.int (l : Int)) (.int (c : Int)) H0 E), ?_, ?_⟩
    · rcases h with ⟨t, rfl, hl, t2⟩ | ⟨ho, q⟩
      · exact ⟨_, rfl, _, _, _, _, true, rfl, .ty "str", .base (.str _), kit_ty (by decide +kernel), _, rfl, iteF ⟨rfl, rfl, t, rfl, hl, t2⟩⟩
      · obtain ⟨nm, ty, kt⟩ := ho.ty
        refine ⟨_, rfl, v, _, _, _, false, rfl, .ty "str", ty K, kit_ty kt, _, rfl, iteT ⟨by show 2 ≤ 1000; decide, raise_rd (rz_same q s0)⟩⟩
    clear h
    rintro _ H2 ⟨rfl, eH, t, rfl, hz, h⟩
    subst eH
    let σ1 : Option V → Option V → Option V → List (Option V) := fun x y z => [some (.ref a), some (.int (n : Nat)), some (.str t), x, y, z, none, none]
    have sT : ∀ {H' : Hp} {o : HO}, Same H0 H' → Same H0 (upd H' a o) := fun s' => same_upd s' na
    refine ⟨fun σ' H' => σ' = σ1 none none none ∧ ∃ fs, H' a = some (.ins C dx fs) ∧ fs.length ≤ 1 ∧ Same H0 H', ?_, ?_⟩
    · exact ⟨_, rfl, _, rfl, a, C, dx, _, rfl, ea, S.cl, S.n_size, by show 0 < 1000; decide, rfl, _, upd_same, Nat.le_refl _, sT s0⟩
    rintro _ H3 ⟨rfl, fs3, e3, l3, s3⟩
    refine ⟨fun σ' H' => σ' = σ1 none none none ∧ ∃ fs, H' a = some (.ins C dx fs) ∧ fs.length ≤ 2 ∧ Same H0 H', ?_, ?_⟩
    · exact ⟨_, rfl, _, rfl, a, C, dx, _, rfl, e3, S.cl, S.n_text, by omega, rfl, _, upd_same, Nat.le_trans (putF_len _ _ _) (by omega), sT s3⟩
    rintro _ H4 ⟨rfl, fs4, e4, l4, s4⟩
    -- the rules
    refine ⟨fun σ' H' => ∃ (p : Addr) (us : List V), σ' = σ1 (some (.ref p)) none none ∧ us.length ≤ 1000010 ∧ (∃ fs, H' a = some (.ins C dx fs) ∧ fs.length ≤ 2 ∧ Same H0 H' ∧ RulesAt H' p ∧ H' p = some (.lst us)) ∧ ∀ H', Same H0 H' → Q .non H', ?_, ?_⟩
    · refine ⟨_, rfl, _, rfl, n, t, rfl, hn, hz, ?_⟩
      rcases h with ⟨hd, q⟩ | ⟨l, c, hd, hl, q⟩
      · exact .inl ⟨hd, fun H5 p us s5 np r5 e5 l5 => ⟨p, us, rfl, l5, ⟨fs4, s5 _ _ e4, l4, s4.trans s5, r5, e5⟩, q⟩⟩
      · exact .inr ⟨l, c, hd, hl, rz_same q s4⟩
    rintro _ H5 ⟨p, us, rfl, hus, ⟨fs5, e5, l5, s5, r5, p5⟩, q⟩
    clear h
    have pa : ∀ {H' : Hp} {fs}, H' a = some (.ins C dx fs) → H' p = some (.lst us) → p ≠ a := fun h1 h2 => ne_of h2 h1 (by intro z; cases z)
    have stJ : ∀ {Ha Hb : Hp} {fs : List (Str × V)} {f : Str} {x : V}, Ha a = some (.ins C dx fs) → Same H0 Ha → RulesAt Ha p → Ha p = some (.lst us) → Same Ha Hb →
        Hb a = some (.ins C dx fs) ∧ (upd Hb a (.ins C dx (putF f x fs))) a = some (.ins C dx (putF f x fs)) ∧ Same H0 (upd Hb a (.ins C dx (putF f x fs))) ∧ RulesAt (upd Hb a (.ins C dx (putF f x fs))) p ∧ (upd Hb a (.ins C dx (putF f x fs))) p = some (.lst us) := by
      intro Ha Hb fs f x ha hs hr' hp s'
      have hb := s' _ _ ha
      refine ⟨hb, upd_same, sT (hs.trans s'), (hr'.up s').ka hb (fun b o e hba => by rw [upd_ne hba]; exact e), ?_⟩
      rw [upd_ne (pa ha hp)]
      exact s' _ _ hp
    -- run
    refine ⟨fun σ' H' => σ' = σ1 (some (.ref p)) none none ∧ ∃ fs, H' a = some (.ins C dx fs) ∧ fs.length ≤ 3 ∧ Same H0 H' ∧ RulesAt H' p ∧ H' p = some (.lst us), ?_, ?_⟩
    · refine ⟨_, rfl, by show 1 ≤ sizeLine; decide, fun l nl => ?_⟩
      refine lc_told (k := "run") (r5.up (same_new nl)) ((same_new nl) _ _ p5) hus fun H6 d xs s6 nd e6 t6 l6 => ?_
      obtain ⟨ns, rfl⟩ := told_ints (.inl rfl) t6
      have s56 : Same H5 H6 := (same_new nl).trans s6
      refine ⟨l, d, _, _, rfl, rfl, s6 _ _ upd_same, e6, Nat.le_trans (show 1 + (ns.map V.int).length ≤ 1000011 by omega) (by decide), fun r nr => ?_⟩
      refine ⟨r, (n : Int) :: ns, rfl, SqL.of upd_same, Nat.succ_pos _, fun m hm hle => ?_⟩
      obtain ⟨j1, j2, j3, j4, j5⟩ := stJ (f := "run") (x := .int m) e5 s5 r5 p5 (same_upd s56 (none_back s56 nr))
      exact ⟨_, rfl, a, C, dx, _, rfl, j1, S.cl, S.n_run, by omega, rfl, _, j2, Nat.le_trans (putF_len _ _ _) (by omega), j3, j4, j5⟩
    rintro _ H6 ⟨rfl, fs6, e6, l6, s6, r6, p6⟩
    -- letters
    refine ⟨fun σ' H' => σ' = σ1 (some (.ref p)) none none ∧ ∃ (fs : List (Str × V)) (tl : Addr) (ys : List V), H' a = some (.ins C dx fs) ∧ fs.length ≤ 4 ∧ fs.lookup ("letters" : Str) = some (V.ref tl) ∧ H' tl = some (.tup ys) ∧ Same H0 H' ∧ RulesAt H' p ∧ H' p = some (.lst us), ?_, ?_⟩
    · unfold sFld tCall tCons
      show tTold K "letters" (σ1 (some (.ref p)) none none) H6 _
      refine lc_told (k := "letters") r6 p6 hus fun H7 d xs s7 nd e7 t7 l7 => ?_
      obtain ⟨os, rfl⟩ := told_strs t7
      refine ⟨.str "XYZ", d, rfl, .inl ⟨"XYZ", os, rfl, by decide +kernel, by rw [List.length_map] at l7; exact l7, SqL.of e7⟩, fun H8 tl ys s8 nt et => ?_⟩
      obtain ⟨j1, j2, j3, j4, j5⟩ := stJ (f := "letters") (x := .ref tl) e6 s6 r6 p6 (s7.trans s8)
      refine ⟨_, rfl, a, C, dx, _, rfl, j1, S.cl, S.n_letters, by omega, rfl, _, tl, ys, j2, Nat.le_trans (putF_len _ _ _) (by omega), ?_, ?_, j3, j4, j5⟩
      · rw [lookup_putF, if_pos rfl]
      · rw [upd_ne (ne_of et j1 (by intro z; cases z))]
        exact et
    rintro _ H7 ⟨rfl, fs7, tl, ys, e7, l7, k7, t7, s7, r7, p7⟩
    -- places
    refine ⟨fun σ' H' => σ' = σ1 (some (.ref p)) none none ∧ ∃ fs : List (Str × V), H' a = some (.ins C dx fs) ∧ fs.length ≤ 5 ∧ fs.lookup ("letters" : Str) = some (V.ref tl) ∧ H' tl = some (.tup ys) ∧ Same H0 H' ∧ RulesAt H' p ∧ H' p = some (.lst us), ?_, ?_⟩
    · refine ⟨_, rfl, _, rfl, ⟨by decide, by decide, by omega, by omega, by omega⟩, fun r nr => ?_⟩
      rw [rg_nat]
      refine lc_told (k := "within") (r7.up (same_new nr)) ((same_new nr) _ _ p7) hus fun H8 d xs s8 nd e8 t8 l8 => ?_
      obtain ⟨ws, rfl, hw⟩ := told_refs (.inr rfl) t8
      refine ⟨.ref r, d, rfl, .inr ⟨r, ws, rfl, ⟨_, (List.range n).map fun k => (k, k), s8 _ _ upd_same, vs_range _, by rw [List.length_map, List.length_range]; omega⟩, by rw [List.length_map] at l8; exact l8, SqL.of e8, hw⟩, fun H9 tq zs s9 nt et => ?_⟩
      have s79 := ((same_new nr).trans s8).trans s9
      obtain ⟨j1, j2, j3, j4, j5⟩ := stJ (f := "places") (x := .ref tq) e7 s7 r7 p7 s79
      refine ⟨_, rfl, a, C, dx, _, rfl, j1, S.cl, S.n_places, by omega, rfl, _, j2, Nat.le_trans (putF_len _ _ _) (by omega), ?_, ?_, j3, j4, j5⟩
      · rw [lookup_putF, if_neg (by decide +kernel)]
        exact k7
      · rw [upd_ne (ne_of (s79 _ _ t7) j1 (by intro z; cases z))]
        exact s79 _ _ t7
    rintro _ H8 ⟨rfl, fs8, e8, l8, k8, t8, s8, r8, p8⟩
    clear e7 l7 k7 t7 s7 r7 p7
    -- pairs
    refine ⟨fun σ' H' => ∃ (d : Addr) (ws : List Addr), σ' = σ1 (some (.ref p)) (some (.ref d)) none ∧ Same H8 H' ∧ H' d = some (.lst (ws.map V.ref)) ∧ (∀ u ∈ ws, DL H' u) ∧ ws.length ≤ 1000010, ?_, ?_⟩
    · unfold tAsg
      show tTold K "near" (σ1 (some (.ref p)) none none) H8 _
      refine lc_told (k := "near") r8 p8 hus fun H9 d xs s9 nd e9 t9 l9 => ?_
      obtain ⟨ws, rfl, hw⟩ := told_refs (.inl rfl) t9
      exact ⟨d, ws, rfl, s9, e9, hw, by rw [List.length_map] at l9; exact l9⟩
    rintro _ H9 ⟨d, ws, rfl, s9, e9, hw, lw⟩
    refine ⟨fun σ' H' => σ' = σ1 (some (.ref p)) (some (.ref d)) none ∧ ∃ fs : List (Str × V), H' a = some (.ins C dx fs) ∧ fs.length ≤ 6 ∧ fs.lookup ("letters" : Str) = some (V.ref tl) ∧ H' tl = some (.tup ys) ∧ Same H0 H' ∧ RulesAt H' p ∧ H' p = some (.lst us), ?_, ?_⟩
    · have fin : ∀ (x : V) (H' : Hp), Same H9 H' → ∃ v, (σ1 (some (.ref p)) (some (.ref d)) none)[0]? = some (some v) ∧ ∃ (a1 C1 dx1 : Addr) (fs1 : List (Str × V)), v = .ref a1 ∧ H' a1 = some (.ins C1 dx1 fs1) ∧ Cls K C1 ∧ NoAttr K C1 "pairs" ∧ fs1.length < 1000 ∧
          (∃ fs : List (Str × V), (upd H' a1 (.ins C1 dx1 (putF "pairs" x fs1))) a = some (.ins C dx fs) ∧ fs.length ≤ 6 ∧ fs.lookup ("letters" : Str) = some (V.ref tl) ∧ (upd H' a1 (.ins C1 dx1 (putF "pairs" x fs1))) tl = some (.tup ys) ∧ Same H0 (upd H' a1 (.ins C1 dx1 (putF "pairs" x fs1))) ∧ RulesAt (upd H' a1 (.ins C1 dx1 (putF "pairs" x fs1))) p ∧ (upd H' a1 (.ins C1 dx1 (putF "pairs" x fs1))) p = some (.lst us)) := by
        intro x H' sx
        have s89 := s9.trans sx
        obtain ⟨j1, j2, j3, j4, j5⟩ := stJ (f := "pairs") (x := x) e8 s8 r8 p8 s89
        refine ⟨_, rfl, a, C, dx, _, rfl, j1, S.cl, S.n_pairs, by omega, _, j2, Nat.le_trans (putF_len _ _ _) (by omega), ?_, ?_, j3, j4, j5⟩
        · rw [lookup_putF, if_neg (by decide +kernel)]
          exact k8
        · rw [upd_ne (ne_of (s89 _ _ t8) j1 (by intro z; cases z))]
          exact s89 _ _ t8
      refine ⟨_, rfl, _, .inl ⟨_, SqL.of e9, rfl⟩, ?_⟩
      cases ws with
      | nil =>
        refine iteF ?_
        obtain ⟨v, h1, a1, C1, dx1, fs1, h2, h3, h4, h5, h6, h7⟩ := fin .non H9 (Same.refl _)
        exact ⟨v, h1, a1, C1, dx1, fs1, h2, h3, h4, h5, h6, rfl, h7⟩
      | cons u ws =>
        refine iteT ⟨_, rfl, d, _, _, _, rfl, rfl, SqL.of e9, atI_nat (j := 0) rfl, _, rfl, .ref u, d, rfl, .inr ⟨u, u :: ws, rfl, hw u List.mem_cons_self, lw, SqL.of e9, hw⟩, fun Hx tq zs sx nt et => ?_⟩
        obtain ⟨v, h1, a1, C1, dx1, fs1, h2, h3, h4, h5, h6, h7⟩ := fin (.ref tq) Hx sx
        exact ⟨v, h1, a1, C1, dx1, fs1, h2, h3, h4, h5, h6, rfl, h7⟩
    rintro _ Ha ⟨rfl, fsa, ea', la, ka, ta, sa, ra, pa'⟩
    -- most
    refine ⟨fun σ' H' => ∃ m : Int, σ' = σ1 (some (.ref p)) (some (.ref d)) (some (.int m)) ∧ Same Ha H', ?_, ?_⟩
    · refine ⟨_, rfl, by show 1 ≤ sizeLine; decide, fun l nl => ?_⟩
      refine lc_told (k := "weight") (ra.up (same_new nl)) ((same_new nl) _ _ pa') hus fun H6 d xs s6 nd e6 t6 l6 => ?_
      obtain ⟨ns, rfl⟩ := told_ints (.inr rfl) t6
      have s56 : Same Ha H6 := (same_new nl).trans s6
      refine ⟨l, d, _, _, rfl, rfl, s6 _ _ upd_same, e6, Nat.le_trans (show 1 + (ns.map V.int).length ≤ 1000011 by omega) (by decide), fun r nr => ?_⟩
      exact ⟨r, (n : Int) :: ns, rfl, SqL.of upd_same, Nat.succ_pos _, fun m hm hle => ⟨m, rfl, same_upd s56 (none_back s56 nr)⟩⟩
    rintro _ Hb ⟨m, rfl, sb⟩
    have eb := sb _ _ ea'
    refine ⟨_, rfl, a, C, dx, fsa, _, rfl, eb, S.cl, S.n_letters, ka, _, .inr (.inl ⟨ys, SqT.of (sb _ _ ta), rfl⟩), ite2 (fun _ => ?_) (fun _ => ?_)⟩
    · exact ⟨_, rfl, _, rfl, a, C, dx, _, rfl, eb, S.cl, S.n_most, by omega, q _ (sT (sa.trans sb))⟩
    · exact ⟨_, rfl, a, C, dx, _, rfl, eb, S.cl, S.n_most, by omega, q _ (sT (sa.trans sb))⟩
end
end KQ

namespace KQ
open PySem PySem.Spec PyProof.Rows L2
/-! ### plain texts: their signs, how long they are -/
def asc (x : Str) : Prop := ∀ c ∈ TL.tl x, c < 128
theorem asc_ok {x : Str} (h : asc x) : PyData.strOk x = true := by
  unfold PyData.strOk
  rw [← Array.all_toList]
  exact List.all_eq_true.mpr fun c hc => decide_eq_true (Nat.lt_trans (h c hc) (by decide))
theorem asc_app {x y : Str} (hx : asc x) (hy : asc y) : asc (x ++ y) := fun c hc => by
  rw [TL.tl_append] at hc
  rcases List.mem_append.mp hc with h | h
  · exact hx c h
  · exact hy c h
theorem spl_mem {S : List Nat} : ∀ {L acc : List Nat} {k : Nat} {p : List Nat}, p ∈ TL.spl S k acc L → ∀ c ∈ p, c ∈ acc ∨ c ∈ L
  | [], acc, k, p, h, c, hc => by
    rw [TL.spl_nil] at h
    rw [List.mem_singleton.mp h] at hc
    exact .inl hc
  | d :: L, acc, 0, p, h, c, hc => by
    by_cases hp : TL.pre S (d :: L) = true
    · rw [TL.spl_hit hp] at h
      rcases List.mem_cons.mp h with h | h
      · rw [h] at hc
        exact .inl hc
      · rcases spl_mem h c hc with z | z
        · cases z
        · exact .inr (List.mem_cons_of_mem _ z)
    · rw [TL.spl_miss (by simpa using hp)] at h
      rcases spl_mem h c hc with z | z
      · rcases List.mem_append.mp z with z | z
        · exact .inl z
        · exact .inr (by rw [List.mem_singleton.mp z]; exact List.mem_cons_self)
      · exact .inr (List.mem_cons_of_mem _ z)
  | d :: L, acc, k + 1, p, h, c, hc => by
    rcases spl_mem (L := L) (k := k) h c hc with z | z
    · exact .inl z
    · exact .inr (List.mem_cons_of_mem _ z)
theorem asc_split {x : Str} {d : Nat} (hd : d < 256) (h : asc x) : ∀ p ∈ Txt.split x ⟨#[d]⟩, asc p := fun p hp c hc => by
  have hy : TL.tl (⟨#[d]⟩ : Str) ≠ [] := by simp
  have hk : (⟨#[d]⟩ : Str).cps.all (· < 256) = true := by simp [hd]
  have e := TL.split_spl x ⟨#[d]⟩ hy (TL.kind_ok hk)
  have h1 : TL.tl p ∈ (Txt.split x ⟨#[d]⟩).map TL.tl := List.mem_map_of_mem hp
  rw [e] at h1
  rcases spl_mem h1 c hc with z | z
  · cases z
  · exact h c z
theorem joinL_mem {S : List Nat} : ∀ {ps : List (List Nat)} {c : Nat}, c ∈ TL.joinL S ps → c ∈ S ∨ ∃ p ∈ ps, c ∈ p
  | [], c, h => by cases h
  | [p], c, h => .inr ⟨p, List.mem_cons_self, h⟩
  | p :: q :: r, c, h => by
    have h' : c ∈ p ++ (S ++ TL.joinL S (q :: r)) := h
    rcases List.mem_append.mp h' with h | h
    · exact .inr ⟨p, List.mem_cons_self, h⟩
    · rcases List.mem_append.mp h with h | h
      · exact .inl h
      · rcases joinL_mem h with h | ⟨t, ht, h⟩
        · exact .inl h
        · exact .inr ⟨t, List.mem_cons_of_mem _ ht, h⟩
theorem joinL_len {S : List Nat} {k : Nat} (hS : S.length ≤ k) : ∀ {ps : List (List Nat)}, (TL.joinL S ps).length ≤ (ps.map fun p => p.length + k).sum
  | [] => Nat.zero_le _
  | [p] => by
    show p.length ≤ _
    simp
  | p :: q :: r => by
    have h := joinL_len hS (ps := q :: r)
    show (p ++ (S ++ TL.joinL S (q :: r))).length ≤ _
    rw [List.length_append, List.length_append, List.map_cons, List.sum_cons]
    omega
theorem asc_join {y : Str} {ps : List Str} (hy : asc y) (h : ∀ p ∈ ps, asc p) : asc (Txt.join y ps) := fun c hc => by
  rw [TL.join_eq, TL.tl_join] at hc
  rcases joinL_mem hc with z | ⟨t, ht, z⟩
  · exact hy c z
  · obtain ⟨p, hp, rfl⟩ := List.mem_map.mp ht
    exact h p hp c z
theorem sum_two (xs : List Str) (k : Nat) (hk : k ≤ 2) : (xs.map fun x => x.length + k).sum ≤ 2 * wtt xs := by
  induction xs with
  | nil => exact Nat.zero_le _
  | cons x xs ih =>
    rw [wtt_cons, List.map_cons, List.sum_cons]
    omega
theorem join_len {y : Str} {ps : List Str} (hy : y.length ≤ 2) : (Txt.join y ps).length ≤ 2 * wtt ps := by
  rw [TL.join_eq, TL.len_tl, TL.tl_join]
  refine Nat.le_trans (joinL_len (k := 2) (by rw [← TL.len_tl]; exact hy)) ?_
  rw [List.map_map]
  refine Nat.le_trans (Nat.le_of_eq ?_) (sum_two ps 2 (Nat.le_refl _))
  congr 1
theorem nT_asc26 : ∀ i < 26, ∀ c ∈ TL.tl (nT i), c < 128 := by decide +kernel
theorem asc_nT {i : Nat} (h : i < 26) : asc (nT i) := nT_asc26 i h
theorem dS_ok (xs : List Str) (h : ∀ x ∈ xs, asc x) : SeqAt.shaped (.list (xs.map PyData.str)) = true := sh_list (n := 0) (fun d hd => by
  obtain ⟨x, hx, rfl⟩ := List.mem_map.mp hd
  exact ⟨asc_ok (h x hx), Nat.le_refl _⟩) (by decide)
theorem dS_all {K : PySem.W.Frag} {H : Hp} : ∀ xs : List Str, DpAll K H (xs.map V.str) (xs.map PyData.str)
  | [] => .nil
  | x :: xs => .cons (.str x) (dS_all xs)
theorem eqv_nil (ds : List PyData) : PyData.eqv (.list ds) (.list []) = ds.isEmpty := by cases ds <;> rfl
end KQ

namespace KQ
open PySem PySem.Spec PyProof.Rows L2
/-! ### text * n, n at least 1 -/
theorem fold_rep (c : Nat) : ∀ (n : Nat) (a : Array Nat), (List.replicate n (#[c] : Array Nat)).foldl (· ++ ·) a = a ++ (List.replicate n c).toArray
  | 0, a => by simp
  | n + 1, a => by
    rw [List.replicate_succ, List.foldl_cons, fold_rep c n, List.replicate_succ]
    apply Array.ext'
    simp
/-- one sign, n times -/
theorem op_mul_sign {X : Cx} : OpR X (binaryOp .Mult) (fun x y H Q => ∃ c n : Nat, x = .str ⟨#[c]⟩ ∧ y = .int (n : Int) ∧ 0 < n ∧ n ≤ 10000 ∧ Q (.str ⟨(List.replicate n c).toArray⟩) H) := by
  intro pins s σ H x y v u Q I rx ry want
  obtain ⟨c, n, rfl, rfl, h0, hn, q⟩ := want
  obtain ⟨t, rfl⟩ := rx
  obtain ⟨t', rfl⟩ := ry
  have n1 : ¬ (n : Int) < 1 := by omega
  have len1 : (⟨#[c]⟩ : Str).length = 1 := rfl
  refine PySem.P.mul_str ?_ (fun _ _ => ?_) (fun _ _ => ?_) ?_
  · rw [decide_eq_false (by omega : ¬ (n : Int) < -(2 ^ 63)), decide_eq_false (by omega : ¬ (n : Int) ≥ 2 ^ 63)]
    rfl
  · rw [len1]
    intro z
    have h1 : (1 : Int) ≤ (2 ^ 63 - 1) / (n : Int) := (Int.le_ediv_iff_mul_le (by omega)).mpr (by omega)
    have z' : (2 ^ 63 - 1) / (n : Int) < 1 := z
    omega
  · rw [len1, Nat.one_mul, Int.toNat_natCast]
    show decide (n > 2 ^ 24) = false
    exact decide_eq_false (by omega)
  · rw [if_neg n1]
    by_cases e : n = 1
    · subst e
      rw [if_pos (show (((1 : Nat) : Int) == 1 || (⟨#[c]⟩ : Str).length == 0) = true from rfl)]
      exact ⟨.str ⟨#[c]⟩, H, I, ⟨t, rfl⟩, q⟩
    · have ne : ((n : Int) == 1 || (⟨#[c]⟩ : Str).length == 0) = false := by
        have h1 : ((n : Int) == 1) = false := beq_eq_false_iff_ne.mpr (by omega)
        rw [h1]
        rfl
      rw [ne]
      rw [if_neg Bool.false_ne_true, Int.toNat_natCast]
      have key : (List.replicate n (⟨#[c]⟩ : Str).cps).foldl (· ++ ·) #[] = (List.replicate n c).toArray := by
        rw [fold_rep]
        simp
      rw [key]
      refine ⟨?_, ⟨.str ⟨(List.replicate n c).toArray⟩, H, I.tok _, ⟨_, rfl⟩, q⟩⟩
      show (List.replicate n c).toArray.size ≤ sizeLine
      rw [List.size_toArray, List.length_replicate]
      exact Nat.le_trans hn (by decide)
theorem op_mul_sign0 {X : Cx} : OpR X (binaryOp .Mult) (fun x y H Q => ∃ c n : Nat, x = .str ⟨#[c]⟩ ∧ y = .int (n : Int) ∧ n ≤ 10000 ∧ Q (.str ⟨(List.replicate n c).toArray⟩) H) := by
  intro pins s σ H x y v u Q I rx ry want
  obtain ⟨c, n, rfl, rfl, hn, q⟩ := want
  by_cases h0 : 0 < n
  · exact op_mul_sign pins s σ H _ _ v u Q I rx ry ⟨c, n, rfl, rfl, h0, hn, q⟩
  · obtain rfl : n = 0 := by omega
    obtain ⟨t, rfl⟩ := rx
    obtain ⟨t', rfl⟩ := ry
    refine PySem.P.mul_str ?_ (fun _ _ => ?_) (fun _ _ => ?_) ?_
    · rfl
    · rename_i h1 _
      exact absurd (show ((0 : Nat) : Int) < 1 by decide) h1
    · rename_i h1 _
      exact absurd (show ((0 : Nat) : Int) < 1 by decide) h1
    · rw [if_pos (show ((0 : Nat) : Int) < 1 by decide)]
      exact ⟨Nat.zero_le _, ⟨.str Str.empty, H, I.tok _, ⟨_, rfl⟩, q⟩⟩
end KQ

namespace KQ
open PySem PySem.Spec PyProof.Rows L2
/-! ### the law's small defs -/
abbrev sShuf : Stmt := topS 21
abbrev sDRule : Stmt := topS 22
abbrev sItem : Stmt := topS 23
abbrev sSText : Stmt := topS 24
abbrev sIsNum : Stmt := topS 25
abbrev sFirst : Stmt := topS 26
abbrev sDue : Stmt := topS 27
abbrev sRef : Stmt := topS 28
abbrev sBent : Stmt := topS 29
abbrev sLaw : Stmt := topS 30
theorem scShuf : FnScope ["_law_pen_here", "_law_some", "_law_rest", "_law_found", "_law_lap"] ["_law_pen_here", "_law_some"] (defScope sShuf) := ⟨rfl, rfl, rfl, by decide +kernel, rfl, by decide +kernel, by decide +kernel⟩
theorem scDRule : FnScope ["_law_pen_here", "_law_size", "_law_kind", "_law_places", "_law_pairs", "_law_lap", "_law_pair"] ["_law_pen_here", "_law_size"] (defScope sDRule) := ⟨rfl, rfl, rfl, by decide +kernel, rfl, by decide +kernel, by decide +kernel⟩
theorem scItem : FnScope ["_law_rule", "_law_pair", "_law_item"] ["_law_rule"] (defScope sItem) := ⟨rfl, rfl, rfl, by decide +kernel, rfl, by decide +kernel, by decide +kernel⟩
theorem scSText : FnScope ["_law_pen_here", "_law_rules", "_law_lines", "_law_rule", "_law_gap"] ["_law_pen_here", "_law_rules"] (defScope sSText) := ⟨rfl, rfl, rfl, by decide +kernel, rfl, by decide +kernel, by decide +kernel⟩
theorem scIsNum : FnScope ["_law_word", "_law_most", "_law_k"] ["_law_word", "_law_most"] (defScope sIsNum) := ⟨rfl, rfl, rfl, by decide +kernel, rfl, by decide +kernel, by decide +kernel⟩
theorem scFirst : FnScope ["_law_words", "_law_size", "_law_kind", "_law_known", "_law_at", "_law_word", "_law_ends", "_law_is_right", "_law_rest", "_law_end", "_law_sign"] ["_law_words", "_law_size"] (defScope sFirst) := ⟨rfl, rfl, rfl, by decide +kernel, rfl, by decide +kernel, by decide +kernel⟩
theorem scDue : FnScope ["_law_text", "_law_size", "_law_at", "_law_line", "_law_words", "_law_word"] ["_law_text", "_law_size"] (defScope sDue) := ⟨rfl, rfl, rfl, by decide +kernel, rfl, by decide +kernel, by decide +kernel⟩
theorem scBent : FnScope ["_law_pen_here", "_law_text", "_law_size", "_law_lines", "_law_at", "_law_words", "_law_k", "_law_some", "_law_odd", "_law_way", "_law_word"] ["_law_pen_here", "_law_text", "_law_size"] (defScope sBent) := ⟨rfl, rfl, rfl, by decide +kernel, rfl, by decide +kernel, by decide +kernel⟩
theorem scRef : FnScope ["_law_call", "e"] ["_law_call"] (defScope sRef) := ⟨rfl, rfl, rfl, by decide +kernel, rfl, by decide +kernel, by decide +kernel⟩
theorem scLaw : FnScope ["_law_script", "_law_pen_here", "_law_size", "_law_lap", "_law_text", "_law_change", "_law_line", "_law_word", "_law_due_here", "_law_odd", "_law_rule"] ["_law_script"] (defScope sLaw) := ⟨rfl, rfl, rfl, by decide +kernel, rfl, by decide +kernel, by decide +kernel⟩
def spIsNum : Sp := fun vs H Q _ => ∃ (w : Str) (m : Int) (n : Nat), vs = [.str w, .int m] ∧ m + 1 = (n : Int) ∧ n ≤ 25 ∧ ∀ H', Same H H' → Q (.bl (numOf n w).isSome) H'
/-- what stood stands, but for the pen at p -/
def KB (p : Addr) (H H' : Hp) : Prop := ∀ b o, H b = some o → b ≠ p → H' b = some o
theorem KB.refl (p : Addr) (H : Hp) : KB p H H := fun _ _ e _ => e
theorem KB.trans {p : Addr} {H H1 H2 : Hp} (a : KB p H H1) (b : KB p H1 H2) : KB p H H2 := fun c o e n => b c o (a c o e n) n
theorem KB.of {p : Addr} {H H' : Hp} (s : Same H H') : KB p H H' := fun b o e _ => s b o e
theorem KB.eq {p : Addr} {H H' : Hp} (k : ∀ b, b ≠ p → H' b = H b) : KB p H H' := fun b o e n => (k b n).trans e
theorem KB.up {p : Addr} {H H' : Hp} {r : Addr} {o : HO} (k : KB p H H') (n : H r = none) : KB p H (upd H' r o) := fun b u e hb => by
  rw [upd_ne (ne_of_none e n)]
  exact k b u e hb
theorem KB.sm {p : Addr} {H H1 H2 : Hp} (a : KB p H H1) (b : Same H1 H2) : KB p H H2 := a.trans (KB.of b)
def spShuf (K : PySem.W.Frag) : Sp := fun vs H Q _ => ∃ (p c q : Addr) (n : Nat) (xs : List V), vs = [.ref p, .ref q] ∧ PenAt H p c n ∧ n + 40 < 1000000 ∧ SqL K H q xs ∧ xs.length ≤ 30 ∧
  ∀ H' r ys, ys.length = xs.length → (∀ y ∈ ys, y ∈ xs) → PenAt H' p c (n + xs.length) → KB p H H' → H r = none → H' r = some (.lst ys) → Q (.ref r) H'
section
variable {P : Program} {w : World} {K : PySem.W.Frag} {mg : Str → Option Value} {base : Heap}
theorem ok_isNum {f : Addr} {fd : FuncData} {k : Nat} (F : Fun K "_law_is_number" "_law_is_number" sIsNum f fd) (B : Bl mg) : FnOk P w K mg base CX0 (k + 1) f fd ["_law_word", "_law_most"] spIsNum := by
  refine F.ok scIsNum (fun vs H Q E h => ?_) (fun cdv A outer s H vs Q E hr h => ?_)
  · obtain ⟨w, m, n, rfl, _⟩ := h
    rfl
  · obtain ⟨w, m, n, rfl, hm, hn, q⟩ := h
    refine ⟨_, pss_one (ps_ret (pe_cmpR op_in_seq (pv 0) (pe_lc (own := [("_law_k", 2)]) (g := gName 2) (by rfl) scIsNum.nd (pi_range1 (by rfl) B.range (pa_cons (pe_op op_add (pv 1) pe_int) pa_nil)) (blkOk_by (own := [("_law_k", 2)]) (N := ["_law_word", "_law_most", "_law_k"]) (sc := defScope sIsNum) (by decide +kernel))
        (fun _ _ _ _ _ => pg_name (i := 2) scIsNum.nd rfl (Or.inl rfl)) (fun _ _ _ _ _ => pts_nil) (fun _ _ _ _ _ => pe_callTy call_str_int (by rfl) B.str bootS (pa_cons (pv 2) pa_nil))) (by rfl))), ?_⟩
    refine ⟨_, rfl, _, rfl, _, _, rfl, rfl, m + 1, rfl, by omega, by omega, ?_⟩
    rw [hm, Int.toNat_natCast]
    refine fun D nD => lc_range (lo := 0) (n := n) (fun i H' => Same H H' ∧ H' D = some (.lst (((List.range i).map nT).map V.str))) ⟨same_new nD, upd_same⟩ ?_ ?_
    · rintro i H1 hi ⟨s1, e1⟩
      have e0 : (0 : Int) + (i : Nat) = (i : Nat) := by omega
      refine ⟨rfl, _, rfl, _, rfl, ?_, _, e1, ?_, same_upd s1 nD, ?_⟩
      · show (0 + ((i : Nat) : Int)).natAbs.log2 < 1920
        rw [e0, Int.natAbs_natCast]
        exact Nat.lt_of_le_of_lt (Nat.log2_le_self i) (by omega)
      · rw [List.length_map, List.length_map, List.length_range]
        exact Nat.lt_of_lt_of_le (Nat.lt_of_lt_of_le hi hn) (by decide)
      · rw [upd_same, List.range_succ, List.map_append, List.map_append]
        show some (HO.lst (_ ++ [V.str (toString (0 + ((i : Nat) : Int)) : Str)])) = _
        rw [e0]
        rfl
    · rintro H1 ⟨s1, e1⟩
      refine ⟨D, _, rfl, .inl (SqL.of e1), rfl, flatS _, ?_⟩
      show Q (V.bl (inV (V.str w) (((List.range n).map nT).map V.str))) H1
      rw [inS]
      have : decide (w ∈ (List.range n).map nT) = (numOf n w).isSome := by
        cases e : numOf n w with
        | none =>
          refine decide_eq_false fun z => ?_
          obtain ⟨j, hj, rfl⟩ := List.mem_map.mp z
          rw [numOf_nT (List.mem_range.mp hj) (by omega)] at e
          cases e
        | some j =>
          obtain ⟨h1, h2⟩ := numOf_some e
          exact decide_eq_true (List.mem_map.mpr ⟨j, List.mem_range.mpr h1, h2⟩)
      rw [this]
      exact q _ s1
theorem ok_shuf {f fD : Addr} {fd fdD : FuncData} {k : Nat} (F : Fun K "_law_shuffled" "_law_shuffled" sShuf f fd) (FD : Fun K "_law_draw" "_law_draw" sDraw fD fdD) (bD : Binds K fdD ["_law_pen_here", "_law_many"] []) (gD : mg "_law_draw" = some (.ref fD)) (B : Bl mg) :
    FnOk P w K mg base CX0 (k + 2) f fd ["_law_pen_here", "_law_some"] (spShuf K) := by
  have GD : FnOk P w K mg base CX0 (k + 1) fD fdD ["_law_pen_here", "_law_many"] spDraw := ok_draw FD B.int B.len
  refine F.ok scShuf (fun vs H Q E h => ?_) (fun cdv A outer s H vs Q E hr h => ?_)
  · obtain ⟨p, c, q, n, xs, rfl, _⟩ := h
    rfl
  · obtain ⟨p, c, q0, n, xs, rfl, hP, hn, hS, hl, q⟩ := h
    refine ⟨_, C8.pss_cut (ps_par (i := 2) (j := 3) rfl scShuf.nd rfl rfl (by decide) rfl rfl (pa_cons (pe_callTy call_list_of (by rfl) B.list bootL (pa_cons (pv 1) pa_nil)) (pa_cons (pe_lst pa_nil) pa_nil)) rfl)
      (C8.pss_cut (ps_for PassesOwn.never rfl (pi_range1 (by rfl) B.range (pa_cons (pe_callB call_len_seq (by rfl) B.len PySem.boot_len (pa_cons (pv 1) pa_nil)) pa_nil)) (pg_name (i := 4) scShuf.nd rfl (.inl rfl))
        (pss_one (ps_expr (pe_bm PySem.F.plainAttrs_list PySem.F.slot_list_append PySem.F.type_list_append mt_append (pv 3) (pa_cons (pe_bm PySem.F.plainAttrs_list PySem.F.slot_list_pop PySem.F.type_list_pop mt_popAt (pv 2)
          (pa_cons (pe_call GD hr (by rfl) gD FD.kp bD .nil pass0 (pa_cons (pv 0) (pa_cons (pe_callB call_len_seq (by rfl) B.len PySem.boot_len (pa_cons (pv 2) pa_nil)) pa_nil))) pa_nil)) pa_nil)))))
      (pss_one (ps_ret (pv 3)))), ?_⟩
    obtain ⟨kv, hkv⟩ : ∃ kv, H p = some (.dK kv) := by
      obtain ⟨ns, a0, d0, f0, ep, _⟩ := hP
      exact ⟨_, ep⟩
    refine ⟨fun σ' H' => ∃ r1 r2, σ' = [some (.ref p), some (.ref q0), some (.ref r1), some (.ref r2), none] ∧ Same H H' ∧ H' r1 = some (.lst xs) ∧ H' r2 = some (.lst []) ∧ H r1 = none ∧ H r2 = none ∧ r1 ≠ r2, ?_, ?_⟩
    · refine ⟨_, rfl, q0, _, rfl, .inl hS, fun r1 n1 => ⟨by show 0 ≤ sizeLine; decide, fun r2 n2 => ?_⟩⟩
      have h12 : r1 ≠ r2 := fun z => by rw [← z, upd_same] at n2; cases n2
      exact ⟨_, _, rfl, r1, r2, rfl, same_upd (same_new n1) (none_back (same_new n1) n2), by rw [upd_ne h12, upd_same], upd_same, n1, none_back (same_new n1) n2, h12⟩
    rintro _ H1 ⟨r1, r2, rfl, s1, e1, e2, n1, n2, h12⟩
    have p1 : r1 ≠ p := fun z => by rw [z, hkv] at n1; cases n1
    have p2 : r2 ≠ p := fun z => by rw [z, hkv] at n2; cases n2
    refine ⟨fun σ' H' => ∃ (lap : Option V) (ys : List V), σ' = [some (.ref p), some (.ref q0), some (.ref r1), some (.ref r2), lap] ∧ ys.length = xs.length ∧ (∀ y ∈ ys, y ∈ xs) ∧ PenAt H' p c (n + xs.length) ∧ KB p H H' ∧ H' r2 = some (.lst ys), ?_, ?_⟩
    rotate_left
    · rintro _ H2 ⟨lap, ys, rfl, l2, m2, hP2, k2, e3⟩
      exact ⟨_, rfl, q _ r2 ys l2 m2 hP2 k2 n2 e3⟩
    refine ⟨_, rfl, _, _, rfl, .inl (s1.seq hS), xs.length, rfl, by omega, by omega, ?_⟩
    rw [Int.toNat_natCast]
    refine for_range (lo := 0) (n := xs.length) (fun i σ' H' => ∃ (lap : Option V) (ys zs : List V), σ' = [some (.ref p), some (.ref q0), some (.ref r1), some (.ref r2), lap] ∧ zs.length + i = xs.length ∧ ys.length = i ∧ (∀ y ∈ ys, y ∈ xs) ∧ (∀ y ∈ zs, y ∈ xs) ∧ PenAt H' p c (n + i) ∧ KB p H H' ∧ H' r1 = some (.lst zs) ∧ H' r2 = some (.lst ys))
      ⟨none, [], xs, rfl, rfl, rfl, (fun _ z => by cases z), fun _ z => z, hP.ext s1, KB.of s1, e1, e2⟩ ?_ ?_
    · rintro i _ H2 hi ⟨lap, ys, zs, rfl, hz, hy, my, mz, hP2, k2, f1, f2⟩
      have zpos : 0 < zs.length := by omega
      refine ⟨_, rfl, .inl ⟨rfl, _, SqL.of f2⟩, _, rfl, .inl ⟨rfl, _, SqL.of f1⟩, _, rfl, _, rfl, _, _, rfl, .inl (SqL.of f1), p, c, n + i, (zs.length : Nat), rfl, hP2, by omega, by omega, ?_, fun y H3 y0 y1 hP3 k3 => ?_⟩
      · rw [Int.natAbs_natCast]
        exact Nat.lt_of_le_of_lt (show zs.length ≤ 30 by omega) (by decide)
      obtain ⟨j, rfl⟩ : ∃ j : Nat, y = (j : Int) := ⟨y.toNat, by omega⟩
      have hj : j < zs.length := by omega
      have hzj : zs[j]? = some zs[j] := List.getElem?_eq_getElem hj
      have g1 : H3 r1 = some (.lst zs) := (k3 r1 p1).trans f1
      have g2 : H3 r2 = some (.lst ys) := (k3 r2 p2).trans f2
      refine ⟨r1, zs, (j : Int), j, zs[j], rfl, rfl, g1, by omega, by omega, ?_, hzj, ?_⟩
      · unfold seqIndex?
        have e1 : ¬ ((j : Int) < 0) := by omega
        simp [e1, hj]
      refine ⟨r2, ys, zs[j], rfl, rfl, by rw [upd_ne h12.symm]; exact g2, Nat.lt_of_le_of_lt (show ys.length ≤ 30 by omega) (by decide), ?_⟩
      refine ⟨_, ys ++ [zs[j]], zs.eraseIdx j, rfl, ?_, ?_, fun y hy' => ?_, fun y hy' => mz y (List.mem_of_mem_eraseIdx hy'), ?_, ?_, ?_, upd_same⟩
      · rw [List.length_eraseIdx, if_pos hj]
        omega
      · rw [List.length_append, hy]
        rfl
      · rcases List.mem_append.mp hy' with z | z
        · exact my y z
        · rw [List.mem_singleton.mp z]
          exact mz _ (List.getElem_mem hj)
      · refine PenAt.same hP3 (by rw [upd_ne p2.symm, upd_ne p1.symm]) ?_
        obtain ⟨ns, a0, d0, f0, ep, ec, _⟩ := hP
        rw [upd_ne (ne_of_none ec n2), upd_ne (ne_of_none ec n1)]
      · exact ((k2.trans (KB.eq k3)).up n1).up n2
      · rw [upd_ne h12, upd_same]
    · rintro _ H2 ⟨lap, ys, zs, rfl, hz, hy, my, mz, hP2, k2, f1, f2⟩
      exact ⟨lap, ys, rfl, hy, my, hP2, k2, f2⟩
end
end KQ

namespace KQ
open PySem PySem.Spec PyProof.Rows L2
/-! ### the law's first wrong word -/
theorem eqv_strs : ∀ a b : List Str, PyData.eqvAll (a.map PyData.str) (b.map PyData.str) = decide (a = b)
  | [], [] => rfl
  | [], _ :: _ => rfl
  | _ :: _, [] => rfl
  | x :: a, y :: b => by
    show ((x == y) && PyData.eqvAll (a.map PyData.str) (b.map PyData.str)) = _
    rw [eqv_strs a b]
    by_cases h : x = y
    · subst h
      rw [beq_self_eq_true, Bool.true_and]
      exact decide_eq_decide.mpr ⟨fun e => by rw [e], fun e => (List.cons.inj e).2⟩
    · rw [beq_eq_false_iff_ne.mpr h, Bool.false_and]
      exact (decide_eq_false fun e => h (List.cons.inj e).1).symm
def keyD (x : Nat × Nat) : PyData := .list ((keyT x).map PyData.str)
theorem key_any {ps : List (Nat × Nat)} {x : Nat × Nat} (h : ∀ y ∈ ps, y.1 ≤ y.2 ∧ y.2 < 26) (hx : x.1 ≤ x.2 ∧ x.2 < 26) : ((ps.map keyD).any fun z => PyData.eqv z (keyD x)) = decide (x ∈ ps) := by
  induction ps with
  | nil => rfl
  | cons p ps ih =>
    rw [List.map_cons, List.any_cons, ih fun y hy => h y (List.mem_cons_of_mem _ hy)]
    have hp := h p List.mem_cons_self
    have e : PyData.eqv (keyD p) (keyD x) = decide (keyT p = keyT x) := eqv_strs _ _
    rw [e]
    by_cases hpx : p = x
    · subst hpx
      simp
    · have : keyT p ≠ keyT x := fun z => hpx (keyT_inj hp.1 hx.1 hp.2 hx.2 z)
      rw [decide_eq_false this, Bool.false_or]
      exact decide_eq_decide.mpr ⟨fun z => List.mem_cons_of_mem _ z, fun z => (List.mem_cons.mp z).resolve_left (Ne.symm hpx)⟩
def KnAt (p : Addr) (H : Hp) : List V → List (Nat × Nat) → Prop
  | [], [] => True
  | v :: vs, x :: ps => (∃ r, v = .ref r ∧ r ≠ p ∧ H r = some (.lst ((keyT x).map V.str))) ∧ KnAt p H vs ps
  | _, _ => False
theorem KnAt.keep {p : Addr} {H H' : Hp} (k : ∀ b o, H b = some o → b ≠ p → H' b = some o) : ∀ {vs : List V} {ps : List (Nat × Nat)}, KnAt p H vs ps → KnAt p H' vs ps
  | [], [], _ => trivial
  | v :: vs, x :: ps, ⟨⟨r, e1, e2, e3⟩, h⟩ => ⟨⟨r, e1, e2, k _ _ e3 e2⟩, KnAt.keep k h⟩
  | [], _ :: _, h => h.elim
  | _ :: _, [], h => h.elim
theorem KnAt.snoc {p r : Addr} {H : Hp} {x : Nat × Nat} (hr : r ≠ p) (hv : H r = some (.lst ((keyT x).map V.str))) : ∀ {vs : List V} {ps : List (Nat × Nat)}, KnAt p H vs ps → KnAt p H (vs ++ [.ref r]) (ps ++ [x])
  | [], [], _ => ⟨⟨r, rfl, hr, hv⟩, trivial⟩
  | _ :: _, _ :: _, h => ⟨h.1, KnAt.snoc hr hv h.2⟩
  | [], _ :: _, h => h.elim
  | _ :: _, [], h => h.elim
theorem KnAt.dp {K : PySem.W.Frag} {p : Addr} {H : Hp} : ∀ {vs : List V} {ps : List (Nat × Nat)}, KnAt p H vs ps → DpAll K H vs (ps.map keyD)
  | [], [], _ => .nil
  | v :: vs, x :: ps, ⟨⟨r, e1, _, e3⟩, h⟩ => by
    subst e1
    exact .cons (.lst (SqL.of e3) (dS_all _)) (KnAt.dp h)
  | [], _ :: _, h => h.elim
  | _ :: _, [], h => h.elim
theorem KnAt.len {p : Addr} {H : Hp} : ∀ {vs : List V} {ps : List (Nat × Nat)}, KnAt p H vs ps → vs.length = ps.length
  | [], [], _ => rfl
  | _ :: _, _ :: _, h => congrArg (· + 1) (KnAt.len h.2)
  | [], _ :: _, h => h.elim
  | _ :: _, [], h => h.elim
theorem strs_lay {xs : List Str} (h : ∀ x ∈ xs, asc x) : (PyData.list (xs.map PyData.str)).canLay0 = true ∧ (PyData.list (xs.map PyData.str)).depth ≤ 1 := by
  have hs := dS_ok xs h
  refine ⟨SeqAt.canLay_of_shaped hs, ?_⟩
  show PyData.depthAll (xs.map PyData.str) + 1 ≤ 1
  have : PyData.depthAll (xs.map PyData.str) = 0 := by
    clear hs h
    induction xs with
    | nil => rfl
    | cons x xs ih =>
      show max 0 (PyData.depthAll (xs.map PyData.str)) = 0
      rw [ih]
      rfl
  omega
theorem key_asc {x : Nat × Nat} (h : x.1 ≤ x.2 ∧ x.2 < 26) : ∀ y ∈ keyT x, asc y := fun y hy => by
  rcases (keyT_mem x y).mp hy with rfl | rfl
  · exact asc_nT (by omega)
  · exact asc_nT h.2
theorem keys_sh {ps : List (Nat × Nat)} (h : ∀ y ∈ ps, y.1 ≤ y.2 ∧ y.2 < 26) : SeqAt.shaped (.list (ps.map keyD)) = true := sh_list (n := 1) (fun d hd => by
  obtain ⟨x, hx, rfl⟩ := List.mem_map.mp hd
  exact strs_lay (key_asc (h x hx))) (by decide)
/-- ends of a word that are right -/
def endsR (n m : Nat) (E : List Str) : Bool := (E.all fun e => (numOf n e).isSome) && decide (E.length = m)
theorem two_uq {a b : Str} (h : a ≠ b) : (uqS [a, b]).length = 2 := by
  have e : uqS [a, b] = [a, b] := by
    have h1 : uqS ([a] ++ [b]) = if (uqS [a]).any (· == b) then uqS [a] else uqS [a] ++ [b] := uqS_snoc [a] b
    have h2 : uqS [a] = [a] := rfl
    rw [h2] at h1
    have h3 : ([a].any fun x => x == b) = false := by
      show ((a == b) || false) = false
      rw [beq_eq_false_iff_ne.mpr h]
      rfl
    rw [h3] at h1
    exact h1
  rw [e]
  rfl
theorem one_uq (a : Str) : (uqS [a, a]).length = 1 := by
  have h1 : uqS ([a] ++ [a]) = if (uqS [a]).any (· == a) then uqS [a] else uqS [a] ++ [a] := uqS_snoc [a] a
  have h2 : uqS [a] = [a] := rfl
  rw [h2] at h1
  have h3 : ([a].any fun x => x == a) = true := by
    show ((a == a) || false) = true
    rw [beq_self_eq_true]
    rfl
  rw [h3] at h1
  rw [show [a, a] = [a] ++ [a] from rfl, h1]
  rfl
def Told1 (g : Option (Nat × Nat)) (n : Nat) (E : List Str) : Prop :=
  (∃ x, g = some x ∧ x.1 ≤ x.2 ∧ x.2 < n ∧ (uqS E).length = E.length ∧ ∀ ys : List Str, ys.Perm E → sortedS ys = true → ys = keyT x) ∨ (g = none ∧ (uqS E).length ≠ E.length)
theorem near_told {n : Nat} (hn : n ≤ 25) (w : Str) : (endsR n 2 (Txt.split w "-") = false ∧ nearOf n w = none) ∨ (endsR n 2 (Txt.split w "-") = true ∧ (∀ e ∈ Txt.split w "-", asc e) ∧ Told1 (nearOf n w) n (Txt.split w "-")) := by
  rw [near_parts (by omega) w]
  generalize Txt.split w "-" = E
  match E with
  | [] => exact .inl ⟨rfl, rfl⟩
  | [a] => exact .inl ⟨by unfold endsR; exact Bool.and_false _, rfl⟩
  | [a, b] =>
    cases ha : numOf n a with
    | none => exact .inl ⟨by show ((numOf n a).isSome && _ && _) = false; rw [ha]; rfl, by show nearP (numOf n a) (numOf n b) = none; rw [ha, nearP_l]⟩
    | some i =>
      cases hb : numOf n b with
      | none => exact .inl ⟨by show ((numOf n a).isSome && ((numOf n b).isSome && true) && _) = false; rw [ha, hb]; rfl, by show nearP (numOf n a) (numOf n b) = none; rw [hb, nearP_r]⟩
      | some j =>
        obtain ⟨i1, i2⟩ := numOf_some ha
        obtain ⟨j1, j2⟩ := numOf_some hb
        refine .inr ⟨by show ((numOf n a).isSome && ((numOf n b).isSome && true) && _) = true; rw [ha, hb]; rfl, fun e he => ?_, ?_⟩
        · rcases List.mem_cons.mp he with rfl | he
          · rw [← i2]
            exact asc_nT (by omega)
          · rw [List.mem_singleton.mp he, ← j2]
            exact asc_nT (by omega)
        · show Told1 (nearP (numOf n a) (numOf n b)) n [a, b]
          rw [ha, hb]
          show Told1 (if i = j then none else some (min i j, max i j)) n [a, b]
          by_cases e : i = j
          · rw [if_pos e]
            refine .inr ⟨rfl, ?_⟩
            have : a = b := by rw [← i2, ← j2, e]
            subst this
            rw [one_uq]
            exact (by decide : (1 : Nat) ≠ 2)
          · rw [if_neg e]
            have hab : a ≠ b := fun z => e (nT_inj26 i (by omega) j (by omega) (by rw [i2, j2, z]))
            refine .inl ⟨_, rfl, ?_, ?_, two_uq hab, fun ys hp hs => ?_⟩
            · show min i j ≤ max i j
              omega
            · show max i j < n
              omega
            · rw [← i2, ← j2] at hp
              exact sort_two (by omega) (by omega) e hp hs
  | a :: b :: c :: r => exact .inl ⟨by unfold endsR; rw [decide_eq_false (by simp), Bool.and_false], rfl⟩
theorem within_told {n : Nat} (hn : n ≤ 25) (w : Str) : (endsR n 1 [w] = false ∧ withinOf n w = none) ∨ (endsR n 1 [w] = true ∧ (∀ e ∈ [w], asc e) ∧ Told1 (withinOf n w) n [w]) := by
  unfold withinOf
  cases ha : numOf n w with
  | none => exact .inl ⟨by show ((numOf n w).isSome && true && true) = false; rw [ha]; rfl, rfl⟩
  | some i =>
    obtain ⟨i1, i2⟩ := numOf_some ha
    refine .inr ⟨by show ((numOf n w).isSome && true && true) = true; rw [ha]; rfl, fun e he => ?_, .inl ⟨(i, i), rfl, Nat.le_refl _, i1, rfl, fun ys hp hs => ?_⟩⟩
    · rw [List.mem_singleton.mp he, ← i2]
      exact asc_nT (by omega)
    · rw [← i2] at hp
      exact sort_one hp
def rNIS : R2 := fun x y H Q => ∃ (c : Nat) (z : Str), x = .str ⟨#[c]⟩ ∧ y = .str z ∧ Q (.bl (!decide (c ∈ z.cps.toList))) H
def rCnt : V → List V → Hp → VK → Prop := fun x xs H Q => ∃ a b, x = .str a ∧ xs = [.str b] ∧ Q (.int (Txt.count a b)) H
abbrev tSg (K : PySem.W.Frag) : TT := tOr (tTest (tOp rNIS (tVar 10) (tC (.str "XYZ")))) (tTest (tOp (rI0 fun i j => V.bl (decide (j < i))) (tBM K "str" rCnt (tOp (rIxL K) (tVar 8) (tC (.int 0))) (tCons (tVar 10) tNil)) (tC (.int 1))))
def spFirst (K : PySem.W.Frag) : Sp := fun vs H Q _ => ∃ (pw : Addr) (n : Nat) (k : Str) (rest : List Str), vs = [.ref pw, .int (n : Int)] ∧ 1 ≤ n ∧ n ≤ 24 ∧ SqL K H pw ((k :: rest).map V.str) ∧ (∀ w ∈ rest, w ≠ "" ∧ asc w ∧ w.length ≤ 1000000) ∧ rest.length ≤ 1000001 ∧
  ∀ H', Same H H' → Q (.int (wrong n (k :: rest) : Nat)) H'
section
variable {P : Program} {w : World} {K : PySem.W.Frag} {mg : Str → Option Value} {base : Heap}
theorem ok_first {f fI : Addr} {fd dI : FuncData} {k : Nat} (F : Fun K "_law_first_wrong" "_law_first_wrong" sFirst f fd) (FI : Fun K "_law_is_number" "_law_is_number" sIsNum fI dI) (bI : Binds K dI ["_law_word", "_law_most"] []) (gI : mg "_law_is_number" = some (.ref fI)) (B : Bl mg) :
    FnOk P w K mg base CX0 (k + 2) f fd ["_law_words", "_law_size"] (spFirst K) := by
  have GI : FnOk P w K mg base CX0 (k + 1) fI dI ["_law_word", "_law_most"] spIsNum := ok_isNum FI B
  refine F.ok scFirst (fun vs H Q E h => ?_) (fun cdv A outer s H vs Q E hr h => ?_)
  · obtain ⟨pw, n, k, rest, rfl, _⟩ := h
    rfl
  · obtain ⟨pw, n, k, rest, rfl, hn1, hn, hw, hws, hlen, q⟩ := h
    have hu : (A.deeper (envOfC "_law_first_wrong" (defScope sFirst) s.heap.objs.size f cdv)).units + 64 < cLine := hr.units
    have hu65 : (A.deeper (envOfC "_law_first_wrong" (defScope sFirst) s.heap.objs.size f cdv)).units + 65 < cLine := by
      have := hr.un
      omega
    refine ⟨_, (C8.pss_cut (ps_asg (pe_tup (pa_cons (pe_ix ix_list (pv 0) pe_int (fun _ _ => rfl)) (pa_cons (pe_slice sl_list (pv 0) (po_some pe_int) po_none) pa_nil))) (pg_tup rfl (pgs_cons (pg_name (i := 2) scFirst.nd rfl (.inl rfl)) (pgs_cons (pg_name (i := 8) scFirst.nd rfl (.inr rfl)) pgs_nil))))
      (C8.pss_cut (ps_if (pt_cmpR op_notIn_seq (pv 2) (pe_lst (pa_cons pe_str (pa_cons pe_str (pa_cons pe_str (pa_cons pe_str (pa_cons pe_str pa_nil)))))) (by with_unfolding_all rfl)) (pss_one (ps_ret pe_int)) pss_nil)
      (C8.pss_cut (ps_if (pt_cmpR op_in_seq (pv 2) (pe_lst (pa_cons pe_str (pa_cons pe_str pa_nil))) (by with_unfolding_all rfl))
        (C8.pss_cut (ps_set (i := 3) scFirst.nd rfl (.inl rfl) (pe_lst pa_nil))
        (C8.pss_cut (ps_for PassesOwn.never rfl (pi_enum (by rfl) B.enum (pa_cons (pv 8) pa_nil)) (pg_tup rfl (pgs_cons (pg_name (i := 4) scFirst.nd rfl (.inl rfl)) (pgs_cons (pg_name (i := 5) scFirst.nd rfl (.inl rfl)) pgs_nil)))
          (C8.pss_cut (ps_set (i := 6) scFirst.nd rfl (.inl rfl) (pe_ifExp (pt_cmpR op_eq (pv 2) pe_str (nomark _)) (pe_split (pv 5) pe_str) (pe_lst (pa_cons (pv 5) pa_nil))))
          (C8.pss_cut (ps_set (i := 7) scFirst.nd rfl (.inl rfl) (pe_callB (cr_all rfl) (by rfl) B.all bootAll (pa_cons (pe_lc (own := [("_law_end", 9)]) (g := gName 9) (by rfl) scFirst.nd (pi_list (pv 6)) (blkOk_by (own := [("_law_end", 9)]) (N := ["_law_words", "_law_size", "_law_kind", "_law_known", "_law_at", "_law_word", "_law_ends", "_law_is_right", "_law_rest", "_law_end", "_law_sign"]) (sc := defScope sFirst) (by decide +kernel))
          (fun _ _ _ _ _ => (pg_name (i := 9) scFirst.nd rfl (.inl rfl))) (fun _ _ _ _ _ => pts_nil) (fun _ _ _ _ _ => (pe_call GI hr (by rfl) gI FI.kp bI .nil pass0 (pa_cons (pv 9) (pa_cons (pe_op op_sub (pv 1) pe_int) pa_nil))))) pa_nil)))
          (C8.pss_cut (ps_set (i := 7) scFirst.nd rfl (.inl rfl) (pe_and (pv 7) (pe_one (pe_cmpR op_eq (pe_callB call_len_seq (by rfl) B.len PySem.boot_len (pa_cons (pv 6) pa_nil)) (pe_op op_add pe_int (pe_callTy call_int1 (by rfl) B.int bootI (pa_cons (pe_cmpR op_eq (pv 2) pe_str (nomark _)) pa_nil))) (nomark _)))))
          (C8.pss_cut (ps_if (pw_or (pt_not (pt_val (pv 7))) (pw_or (pt_cmpR (op_inD hu65) (pe_callB cr_sortedS (by rfl) B.sorted bootSo (pa_cons (pv 6) pa_nil)) (pv 3) (by rfl)) (pw_or1 (pt_cmpR op_ne (pe_lenSetL rfl (by rfl) B.len (by rfl) B.set (pv 6)) (pe_callB call_len_seq (by rfl) B.len PySem.boot_len (pa_cons (pv 6) pa_nil)) (nomark _))))).pt (pss_one (ps_ret (pe_op op_add (pv 4) pe_int))) pss_nil)
          (pss_one (ps_expr (pe_bm PySem.F.plainAttrs_list PySem.F.slot_list_append PySem.F.type_list_append mt_append (pv 3) (pa_cons (pe_callB cr_sortedS (by rfl) B.sorted bootSo (pa_cons (pv 6) pa_nil)) pa_nil)))))))))
        (pss_one (ps_ret pe_int)))) pss_nil)
      (C8.pss_cut (ps_if (pt_cmpR (op_eqD hu) (pv 8) (pe_lst pa_nil) (nomark _)) (pss_one (ps_ret pe_int)) pss_nil)
      (C8.pss_cut (ps_if (pt_cmpR op_eq (pv 2) pe_str (nomark _)) (pss_one (ps_set (i := 7) scFirst.nd rfl (.inl rfl) (pe_cmpR (op_eqD hu) (pe_lc (own := [("_law_sign", 10)]) (g := gName 10) (tt := tSg K) (by rfl) scFirst.nd (pi_str (pe_ix ix_list (pv 8) pe_int (fun _ _ => rfl))) (blkOk_by (own := [("_law_sign", 10)]) (N := ["_law_words", "_law_size", "_law_kind", "_law_known", "_law_at", "_law_word", "_law_ends", "_law_is_right", "_law_rest", "_law_end", "_law_sign"]) (sc := defScope sFirst) (by decide +kernel))
          (fun _ _ _ _ _ => (pg_name (i := 10) scFirst.nd rfl (.inl rfl))) (fun _ _ _ _ _ => pts_one (PW.pt (pw_or (pt_cmpR (r := rNIS) op_notIn_sign (pv 10) pe_str (by rfl)) (pw_or1 (pt_cmpR op_gt (pe_bm PySem.F.plainAttrs_str PySem.F.slot_str_count PySem.F.type_str_count mt_count (pe_ix (r := rIxL K) ix_list (pv 8) pe_int (fun _ _ => rfl)) (pa_cons (pv 10) pa_nil)) pe_int (nomark _)))))) (fun _ _ _ _ _ => pv 10)) (pe_lst pa_nil) (nomark _))))
        (pss_one (ps_set (i := 7) scFirst.nd rfl (.inl rfl) (pe_call GI hr (by rfl) gI FI.kp bI .nil pass0 (pa_cons (pe_ix ix_list (pv 8) pe_int (fun _ _ => rfl)) (pa_cons (pv 1) pa_nil))))))
      (pss_one (ps_ret (pe_ifExp (pt_not (pt_val (pv 7))) pe_int (pe_ifExp (pt_cmpR op_gt (pe_callB call_len_seq (by rfl) B.len PySem.boot_len (pa_cons (pv 8) pa_nil)) pe_int (nomark _)) pe_int pe_int))))))))), ?_⟩
    let σ0 : Option V → Addr → Option V → Option V → Option V → Option V → Option V → List (Option V) := fun x r a b c d e => [some (.ref pw), some (.int (n : Nat)), some (.str k), x, a, b, c, d, some (.ref r), e, none]
    refine ⟨fun σ' H' => ∃ r, σ' = σ0 none r none none none none none ∧ Same H H' ∧ H' r = some (.lst (rest.map V.str)), ?_, ?_⟩
    · refine ⟨_, rfl, pw, _, _, _, rfl, rfl, hw, atI_nat (j := 0) rfl, _, rfl, _, rfl, pw, _, rfl, hw, fun r nr => ⟨by show 2 ≤ sizeLine; decide, fun t nt => ⟨t, _, rfl, .inl (.inl upd_same), rfl, _, _, rfl, _, _, rfl, rfl, r, rfl, ?_, ?_⟩⟩⟩
      · exact same_upd (same_new nr) (none_back (same_new nr) nt)
      · have : t ≠ r := fun z => by rw [z, upd_same] at nt; cases nt
        rw [upd_ne this.symm, upd_same, show (k :: rest).map V.str = V.str k :: rest.map V.str from rfl, cutV_tail]
    rintro _ H1 ⟨R, rfl, s1, eR⟩
    have hin : ∀ L : List Str, inV (V.str k) (L.map V.str) = decide (k ∈ L) := fun L => inS k L
    -- no kind
    refine ⟨fun σ' H' => σ' = σ0 none R none none none none none ∧ Same H H' ∧ H' R = some (.lst (rest.map V.str)) ∧ k ∈ (["weight", "letters", "near", "within", "run"] : List Str), ?_, ?_⟩
    · refine ⟨_, rfl, by show 5 ≤ sizeLine; decide, fun r nr => ⟨r, _, rfl, .inl (SqL.of upd_same), rfl, rfl, _, rfl, ?_⟩⟩
      rw [if_pos rfl, show [V.str "weight", V.str "letters", V.str "near", V.str "within", V.str "run"] = (["weight", "letters", "near", "within", "run"] : List Str).map V.str from rfl, hin]
      have s2 := same_upd (o := .lst ((["weight", "letters", "near", "within", "run"] : List Str).map V.str)) s1 (none_back s1 nr)
      by_cases hk : k ∈ (["weight", "letters", "near", "within", "run"] : List Str)
      · rw [decide_eq_true hk]
        exact iteF ⟨rfl, s2, by rw [upd_ne (ne_of_none eR nr)]; exact eR, hk⟩
      · rw [decide_eq_false hk]
        have hw1 : wrong n (k :: rest) = 1 := by
          simp only [List.mem_cons, List.mem_nil_iff, or_false, not_or] at hk
          obtain ⟨h1, h2, h3, h4, h5⟩ := hk
          exact (if_neg (fun z => z.elim h1 h5)).trans ((if_neg h2).trans ((if_neg h3).trans (if_neg h4)))
        rw [hw1] at q
        exact iteT (q _ s2)
    rintro _ H2 ⟨rfl, s2, eR2, hk5⟩
    clear s1 eR
    -- near, within
    refine ⟨fun σ' H' => σ' = σ0 none R none none none none none ∧ Same H H' ∧ H' R = some (.lst (rest.map V.str)) ∧ k ∉ (["near", "within"] : List Str), ?_, ?_⟩
    · refine ⟨_, rfl, by show 2 ≤ sizeLine; decide, fun r nr => ⟨r, _, rfl, .inl (SqL.of upd_same), rfl, rfl, _, rfl, ?_⟩⟩
      rw [if_neg Bool.false_ne_true, show [V.str "near", V.str "within"] = (["near", "within"] : List Str).map V.str from rfl, hin]
      have s3 := same_upd (o := .lst ((["near", "within"] : List Str).map V.str)) s2 (none_back s2 nr)
      have eR3 : (upd H2 r (.lst ((["near", "within"] : List Str).map V.str))) R = some (.lst (rest.map V.str)) := by rw [upd_ne (ne_of_none eR2 nr)]; exact eR2
      by_cases hk : k ∈ (["near", "within"] : List Str)
      · rw [decide_eq_true hk]
        refine iteT ?_
        generalize upd H2 r (.lst ((["near", "within"] : List Str).map V.str)) = H3 at s3 eR3
        have hk' : k = "near" ∨ k = "within" := by simpa using hk
        obtain ⟨g, m, hg1, hg2, hg3⟩ : ∃ (g : Str → Option (Nat × Nat)) (m : Nat), wrong n (k :: rest) = scan g rest [] 2 ∧ (k = "near" → g = nearOf n ∧ m = 2) ∧ (k ≠ "near" → g = withinOf n ∧ m = 1) := by
          have k1 : ¬ (k = "weight" ∨ k = "run") := by rcases hk' with rfl | rfl <;> decide +kernel
          have k2 : ¬ k = "letters" := by rcases hk' with rfl | rfl <;> decide +kernel
          by_cases hk1 : k = "near"
          · exact ⟨nearOf n, 2, (if_neg k1).trans ((if_neg k2).trans (if_pos hk1)), fun _ => ⟨rfl, rfl⟩, fun z => absurd hk1 z⟩
          · exact ⟨withinOf n, 1, (if_neg k1).trans ((if_neg k2).trans ((if_neg hk1).trans (if_pos (hk'.resolve_left hk1)))), fun z => absurd z hk1, fun _ => ⟨rfl, rfl⟩⟩
        rw [hg1] at q
        refine ⟨fun σ' H' => ∃ p, σ' = σ0 (some (.ref p)) R none none none none none ∧ Same H H' ∧ H' R = some (.lst (rest.map V.str)) ∧ H' p = some (.lst []) ∧ H p = none ∧ R ≠ p, ?_, ?_⟩
        · refine ⟨by show 0 ≤ sizeLine; decide, fun p np => ⟨p, rfl, same_upd s3 (none_back s3 np), ?_, upd_same, none_back s3 np, ne_of_none eR3 np⟩⟩
          rw [upd_ne (ne_of_none eR3 np)]
          exact eR3
        rintro _ H4 ⟨p, rfl, s4, eR4, e4, np, hRp⟩
        refine ⟨fun σ' H' => ∃ a b c d, σ' = σ0 (some (.ref p)) R a b c d none ∧ Same H H' ∧ scan g rest [] 2 = 0, ?_, ?_⟩
        rotate_left
        · rintro _ H5 ⟨a, b, c, d, rfl, s5, z5⟩
          rw [z5] at q
          exact q _ s5
        refine ⟨_, rfl, R, _, rfl, SqL.of eR4, for_it walk_enum (fun i σ' H' => ∃ (a b c d : Option V) (vs : List V) (ps : List (Nat × Nat)), σ' = σ0 (some (.ref p)) R a b c d none ∧
            (∀ b o, H4 b = some o → b ≠ p → H' b = some o) ∧ H' p = some (.lst vs) ∧ KnAt p H' vs ps ∧ ps.length = i ∧ (∀ y ∈ ps, y.1 ≤ y.2 ∧ y.2 < n) ∧ scan g rest [] 2 = scan g (rest.drop i) ps (2 + i))
          ⟨none, none, none, none, [], [], rfl, fun _ _ e _ => e, e4, trivial, rfl, (fun _ z => by cases z), rfl⟩ (fun i σ' H' _ ⟨a, b, c, d, vs, ps, _, k', _⟩ => SqL.of (k' R _ eR4 hRp)) ?_ ?_⟩
        rotate_left
        · rintro _ H6 ⟨a, b, c, d, vs, ps, rfl, k6, e6, v6, hl6, _, sc6⟩
          refine ⟨a, b, c, d, rfl, fun b o e => k6 b o (s4 _ _ e) (ne_of_none e np), sc6.trans ?_⟩
          rw [List.length_map, List.drop_length]
          rfl
        rintro i x _ H6 H7 hi ⟨a, b, c, d, vs, ps, rfl, k6, e6, v6, hl6, hps, sc6⟩ ⟨T', y1, y2, rfl, nT', rfl, z1, z2⟩
        rw [List.length_map] at hi
        cases z1
        have hx : rest[i]? = some rest[i] := List.getElem?_eq_getElem hi
        have z2' : (rest.map V.str)[i]? = some y2 := z2
        rw [List.getElem?_map, hx] at z2'
        cases z2'
        have hTp : T' ≠ p := fun z => by rw [z, e6] at nT'; cases nT'
        have hdr : rest.drop i = rest[i] :: rest.drop (i + 1) := List.drop_eq_getElem_cons hi
        generalize rest[i] = wd at hx hdr
        obtain ⟨hw0, hwa, hwl⟩ := hws wd (List.mem_of_getElem? hx)
        refine ⟨T', _, rfl, .inl (.inl upd_same), rfl, _, _, rfl, _, _, rfl, rfl, ?_⟩
        have k7 : Same H6 (upd H6 T' (.tup [.int (i : Nat), .str wd])) := same_new nT'
        generalize upd H6 T' (.tup [.int (i : Nat), .str wd]) = H7 at k7
        -- its ends
        obtain ⟨Ends, hE, hE2⟩ : ∃ Ends : List Str, Ends = (if k = "near" then Txt.split wd "-" else [wd]) ∧ ((endsR n m Ends = false ∧ g wd = none) ∨ (endsR n m Ends = true ∧ (∀ e ∈ Ends, asc e) ∧ Told1 (g wd) n Ends)) := by
          by_cases hk1 : k = "near"
          · obtain ⟨e1, e2⟩ := hg2 hk1
            rw [e1, e2]
            exact ⟨_, rfl, by rw [if_pos hk1]; exact near_told (by omega) wd⟩
          · obtain ⟨e1, e2⟩ := hg3 hk1
            rw [e1, e2]
            exact ⟨_, rfl, by rw [if_neg hk1]; exact within_told (by omega) wd⟩
        have hEl : Ends.length ≤ 1000001 := by
          rw [hE]
          split
          · have h1 := wtt_len (Txt.split wd "-")
            have h2 := wtt_split wd (c := 45) (by decide)
            rw [show (⟨#[45]⟩ : Str) = "-" by decide +kernel] at h2
            omega
          · exact Nat.le_trans (Nat.le_refl 1) (by decide)
        refine ⟨fun σ' H' => ∃ D, σ' = σ0 (some (.ref p)) R (some (.int (i : Nat))) (some (.str wd)) (some (.ref D)) d none ∧ Same H7 H' ∧ H' D = some (.lst (Ends.map V.str)), ?_, ?_⟩
        · refine ⟨_, rfl, rfl, _, rfl, ite2 (fun e => ?_) (fun e => ?_)⟩
          · have hk1 : k = "near" := V.str.inj (of_decide_eq_true e)
            rw [if_pos hk1] at hE
            refine ⟨_, rfl, ⟨_, rfl⟩, _, _, rfl, rfl, by decide +kernel, mil (by omega), fun D nD => ⟨D, rfl, same_new nD, ?_⟩⟩
            rw [upd_same, hE]
          · have hk1 : k ≠ "near" := fun z => e (decide_eq_true (by rw [z]))
            rw [if_neg hk1] at hE
            refine ⟨_, rfl, by show 1 ≤ sizeLine; decide, fun D nD => ⟨D, rfl, same_new nD, ?_⟩⟩
            rw [upd_same, hE]
            rfl
        rintro _ H8 ⟨D, rfl, s8, eD⟩
        refine ⟨fun σ' H' => σ' = σ0 (some (.ref p)) R (some (.int (i : Nat))) (some (.str wd)) (some (.ref D)) (some (.bl (Ends.all fun e => (numOf n e).isSome))) none ∧ Same H8 H', ?_, ?_⟩
        · refine ⟨_, rfl, D, rfl, ⟨_, SqL.of eD⟩, fun L nL => lc_list (K := K) (a := D) (xs := Ends.map V.str) (fun j H' => Same H8 H' ∧ H' L = some (.lst ((((Ends.take j).map fun e => (numOf n e).isSome)).map V.bl))) ⟨same_new nL, upd_same⟩ (fun j H' _ h' => SqL.of (h'.1 _ _ eD)) ?_ ?_⟩
          · rintro j x Ha hj ⟨sa, ea⟩
            rw [List.getElem?_map] at hj
            cases hxj : Ends[j]? with
            | none => rw [hxj] at hj; cases hj
            | some en =>
              rw [hxj] at hj
              cases hj
              have hjl : j < Ends.length := (List.getElem?_eq_some_iff.mp hxj).1
              refine ⟨rfl, _, rfl, _, rfl, _, _, rfl, rfl, en, _, n, rfl, by omega, by omega, fun Hb sb => ⟨_, sb _ _ ea, ?_, same_upd (sa.trans sb) nL, ?_⟩⟩
              · rw [List.length_map, List.length_map, List.length_take]
                exact Nat.lt_of_le_of_lt (show min j Ends.length ≤ 1000001 by omega) (by decide)
              · rw [upd_same, List.take_add_one, hxj, List.map_append, List.map_append]
                rfl
          · rintro Ha ⟨sa, ea⟩
            rw [List.length_map, List.take_length] at ea
            refine ⟨L, _, rfl, SqL.of ea, ?_, sa⟩
            rw [List.all_map]
            rfl
        rintro _ H9 ⟨rfl, s9⟩
        have eD9 := s9 _ _ eD
        refine ⟨fun σ' H' => σ' = σ0 (some (.ref p)) R (some (.int (i : Nat))) (some (.str wd)) (some (.ref D)) (some (.bl (endsR n m Ends))) none ∧ H' = H9, ?_, ?_⟩
        · refine ⟨_, rfl, _, rfl, ?_⟩
          unfold endsR
          cases hal : (Ends.all fun e => (numOf n e).isSome) with
          | false => exact iteF ⟨rfl, rfl⟩
          | true =>
            refine iteT ⟨_, rfl, _, _, rfl, .inl (SqL.of eD9), _, rfl, rfl, .inr ⟨_, rfl, _, _, rfl, rfl, rfl, ?_⟩⟩
            rw [List.length_map]
            have em : ((1 : Int) + (if decide (V.str k = V.str "near") = true then 1 else 0)) = (m : Nat) := by
              by_cases hk1 : k = "near"
              · rw [(hg2 hk1).2, decide_eq_true (by rw [hk1])]
                rfl
              · rw [(hg3 hk1).2, decide_eq_false (fun z => hk1 (V.str.inj z))]
                rfl
            have : decide (V.int (Ends.length : Nat) = V.int (m : Nat)) = decide (Ends.length = m) := decide_eq_decide.mpr ⟨fun e => by have := V.int.inj e; omega, fun e => by rw [e]⟩
            refine ⟨congrArg (fun z => σ0 (some (.ref p)) R (some (.int (i : Nat))) (some (.str wd)) (some (.ref D)) (some z) none) (?_ : V.bl (decide (V.int (Ends.length : Nat) = V.int (1 + (if decide (V.str k = V.str "near") = true then 1 else 0)))) = _), rfl⟩
            rw [em, this]
            rfl
        rintro _ Hz ⟨rfl, eH⟩
        have eH' := eH.symm
        subst eH'
        have s79 := (k7.trans s8).trans s9
        have e9 : H9 p = some (.lst vs) := s79 _ _ e6
        have v9 : KnAt p H9 vs ps := v6.keep fun b o e _ => s79 _ _ e
        have hps26 : ∀ y ∈ ps, y.1 ≤ y.2 ∧ y.2 < 26 := fun y hy => ⟨(hps y hy).1, by have := (hps y hy).2; omega⟩
        have k9 : ∀ b o, H4 b = some o → b ≠ p → H9 b = some o := fun b o e hb => s79 _ _ (k6 b o e hb)
        rw [hdr] at sc6
        have ans : scan g rest [] 2 = 2 + i → ∀ H', Same H9 H' → Q (.int ((i : Nat) + 2 : Int)) H' := fun z H' sx => by
          rw [z] at q
          have e2 : ((2 + i : Nat) : Int) = (i : Nat) + 2 := by omega
          rw [e2] at q
          exact q _ fun b o e => sx _ _ (k9 b o (s4 _ _ e) (ne_of_none e np))
        have badN : g wd = none → scan g rest [] 2 = 2 + i := fun hg => sc6.trans (by
          show (match g wd with | none => 2 + i | some k => if k ∈ ps then 2 + i else scan g (rest.drop (i + 1)) (ps ++ [k]) (2 + i + 1)) = 2 + i
          rw [hg])
        refine ⟨fun σ' H' => ∃ x, g wd = some x ∧ x ∉ ps ∧ x.1 ≤ x.2 ∧ x.2 < n ∧ (∀ ys : List Str, ys.Perm Ends → sortedS ys = true → ys = keyT x) ∧ Ends.length < 64 ∧ σ' = σ0 (some (.ref p)) R (some (.int (i : Nat))) (some (.str wd)) (some (.ref D)) (some (.bl (endsR n m Ends))) none ∧ Same H9 H', ?_, ?_⟩
        · rcases hE2 with ⟨h1, h2⟩ | ⟨h1, hEa, h2⟩
          · refine ⟨_, rfl, _, rfl, ?_⟩
            rw [h1]
            refine iteT ⟨_, rfl, _, _, rfl, rfl, ?_⟩
            exact ans (badN h2) _ (Same.refl _)
          · have hm2 : Ends.length ≤ 2 := by
              have : (decide (Ends.length = m)) = true := (Bool.and_eq_true_iff.mp h1).2
              have hm : m ≤ 2 := by
                by_cases hk1 : k = "near"
                · rw [(hg2 hk1).2]
                  exact Nat.le_refl _
                · rw [(hg3 hk1).2]
                  decide
              have := of_decide_eq_true this
              omega
            refine ⟨_, rfl, _, rfl, ?_⟩
            rw [h1]
            refine iteF ⟨_, rfl, D, Ends, rfl, SqL.of eD9, by omega, fun ys r1 hp hs nr1 => ?_⟩
            have sx := same_new (o := .lst (ys.map V.str)) nr1
            have hya : ∀ y ∈ ys, asc y := fun y hy => hEa y (hp.subset hy)
            refine ⟨_, rfl, .list (ys.map PyData.str), ps.map keyD, .lst (SqL.of upd_same) (dS_all _), .lst (SqL.of (sx _ _ e9)) (v9.keep fun b o e _ => sx _ _ e).dp, dS_ok ys hya, keys_sh hps26, _, rfl, ?_⟩
            rcases h2 with ⟨x, hg, hx1, hx2, huq, hk⟩ | ⟨hg, huq⟩
            · have := hk ys hp hs
              subst this
              rw [show PyData.list ((keyT x).map PyData.str) = keyD x from rfl, key_any hps26 ⟨hx1, by omega⟩]
              by_cases hm : x ∈ ps
              · rw [decide_eq_true hm]
                refine iteT ⟨_, rfl, _, _, rfl, rfl, ?_⟩
                refine ans (sc6.trans ?_) _ sx
                show (match g wd with | none => 2 + i | some k => if k ∈ ps then 2 + i else scan g (rest.drop (i + 1)) (ps ++ [k]) (2 + i + 1)) = 2 + i
                rw [hg]
                exact if_pos hm
              · rw [decide_eq_false hm]
                refine iteF ⟨_, rfl, D, Ends, rfl, SqL.of (sx _ _ eD9), by omega, _, rfl, _, _, rfl, .inl (SqL.of (sx _ _ eD9)), rfl, _, rfl, ?_⟩
                rw [List.length_map, huq, decide_eq_true rfl]
                exact iteF ⟨x, hg, hm, hx1, hx2, hk, by omega, rfl, sx⟩
            · refine ite2 (fun _ => ⟨_, rfl, _, _, rfl, rfl, ans (badN hg) _ sx⟩) (fun _ => ?_)
              refine ⟨_, rfl, D, Ends, rfl, SqL.of (sx _ _ eD9), by omega, _, rfl, _, _, rfl, .inl (SqL.of (sx _ _ eD9)), rfl, _, rfl, ?_⟩
              rw [List.length_map, decide_eq_false (fun z => huq (by have := V.int.inj z; omega))]
              exact iteT ⟨_, rfl, _, _, rfl, rfl, ans (badN hg) _ sx⟩
        rintro _ Ha ⟨x, hg, hm, hx1, hx2, hk, h64, rfl, sa⟩
        have ea := sa _ _ e9
        refine ⟨_, rfl, .inl ⟨rfl, _, SqL.of ea⟩, _, rfl, D, Ends, rfl, SqL.of (sa _ _ eD9), h64, fun ys r1 hp hs nr1 => ?_⟩
        have := hk ys hp hs
        subst this
        have r1p : r1 ≠ p := fun z => by rw [z, ea] at nr1; cases nr1
        refine ⟨p, vs, _, rfl, rfl, by rw [upd_ne r1p.symm]; exact ea, Nat.lt_of_le_of_lt (show vs.length ≤ 1000001 by rw [v9.len, hl6]; omega) (by decide), ?_⟩
        have kx : ∀ b o, Ha b = some o → b ≠ p → (upd (upd Ha r1 (.lst ((keyT x).map V.str))) p (.lst (vs ++ [.ref r1]))) b = some o := fun b o e hb => by
          rw [upd_ne hb, upd_ne (ne_of_none e nr1)]
          exact e
        refine ⟨_, _, _, _, vs ++ [.ref r1], ps ++ [x], rfl, fun b o e hb => kx b o (sa _ _ (k9 b o e hb)) hb, upd_same, ?_, ?_, fun y hy => ?_, ?_⟩
        · refine KnAt.snoc r1p ?_ ((v9.keep fun b o e _ => sa _ _ e).keep kx)
          rw [upd_ne r1p, upd_same]
        · rw [List.length_append, hl6]
          rfl
        · rcases List.mem_append.mp hy with z | z
          · exact hps y z
          · rw [List.mem_singleton.mp z]
            exact ⟨hx1, hx2⟩
        · refine sc6.trans ?_
          show (match g wd with | none => 2 + i | some k => if k ∈ ps then 2 + i else scan g (rest.drop (i + 1)) (ps ++ [k]) (2 + i + 1)) = scan g (rest.drop (i + 1)) (ps ++ [x]) (2 + (i + 1))
          rw [hg]
          exact if_neg hm
      · rw [decide_eq_false hk]
        exact iteF ⟨rfl, s3, eR3, hk⟩
    rintro _ H3 ⟨rfl, s3, eR3, hk2⟩
    clear s2 eR2
    -- no word behind the first
    refine ⟨fun σ' H' => ∃ w r, rest = w :: r ∧ σ' = σ0 none R none none none none none ∧ Same H H' ∧ H' R = some (.lst (rest.map V.str)), ?_, ?_⟩
    · refine ⟨_, rfl, by show 0 ≤ sizeLine; decide, fun e ne => ⟨.list (rest.map PyData.str), .list [], .lst (SqL.of (by rw [upd_ne (ne_of_none eR3 ne)]; exact eR3)) (dS_all _), .lst (SqL.of upd_same) .nil, dS_ok rest fun x hx => (hws x hx).2.1, by decide +kernel, _, rfl, ?_⟩⟩
      rw [eqv_nil]
      have s4 := same_upd (o := .lst []) s3 (none_back s3 ne)
      cases rest with
      | nil =>
        have hw2 : wrong n [k] = 2 := by
          simp only [List.mem_cons, List.mem_nil_iff, or_false, not_or] at hk5 hk2
          obtain ⟨h1, h2⟩ := hk2
          by_cases hz : k = "weight" ∨ k = "run"
          · exact if_pos hz
          · have hl : k = "letters" := by
              rcases hk5 with z | z | z | z | z
              · exact absurd (.inl z) hz
              · exact z
              · exact absurd z h1
              · exact absurd z h2
              · exact absurd (.inr z) hz
            exact (if_neg hz).trans (if_pos hl)
        rw [hw2] at q
        exact iteT (q _ s4)
      | cons w r =>
        exact iteF ⟨w, r, rfl, rfl, s4, by rw [upd_ne (ne_of_none eR3 ne)]; exact eR3⟩
    rintro _ H4 ⟨w, r, rfl, rfl, s4, eR4⟩
    clear s3 eR3
    have hat : atI ((w :: r).map V.str) 0 = some (.str w) := atI_nat (j := 0) rfl
    obtain ⟨hw0, hwa, hwl⟩ := hws w List.mem_cons_self
    refine ⟨fun σ' H' => ∃ b : Bool, σ' = σ0 none R none none none (some (.bl b)) none ∧ Same H H' ∧ H' R = some (.lst ((w :: r).map V.str)) ∧ wrong n (k :: w :: r) = if b = true then (if r ≠ [] then 3 else 0) else 2, ?_, ?_⟩
    · refine ⟨_, rfl, rfl, _, rfl, ite2 (fun e => ?_) (fun e => ?_)⟩
      · have hk : k = "letters" := V.str.inj (of_decide_eq_true e)
        have k1 : ¬ (k = "weight" ∨ k = "run") := by rw [hk]; decide +kernel
        have hwr : wrong n (k :: w :: r) = (if w ∉ w15 then 2 else if r ≠ [] then 3 else 0) := (if_neg k1).trans (if_pos hk)
        let bad : Nat → Bool := fun c => !decide (c = 88 ∨ c = 89 ∨ c = 90) || decide (1 < (TL.tl w).count c)
        refine ⟨_, rfl, R, _, _, _, rfl, rfl, SqL.of eR4, hat, w, rfl, fun D nD => lc_it walk_str (fun i H' => Same H4 H' ∧ H' D = some (.lst ((((TL.tl w).take i).filter bad).map fun c => V.str ⟨#[c]⟩))) ⟨same_new nD, upd_same⟩ (fun _ _ _ _ => trivial) ?_ ?_⟩
        · rintro i x Ha Hb hi ⟨sa, ea⟩ ⟨e9, c, hc, rfl⟩
          have e9' := e9.symm
          subst e9'
          have hcl : (TL.tl w)[i]? = some c := by
            rw [← hc]
            simp [TL.tl]
          have hsz : w.cps.size ≤ 1000000 := hwl
          have fs := filt_step bad hcl
          have next : ∀ b, bad c = b → (if b = true then (∃ v, (some (some (V.str ⟨#[c]⟩)) : Option (Option V)) = some (some v) ∧ ∃ acc, Ha D = some (.lst acc) ∧ acc.length < sizeLine ∧ (Same H4 (upd Ha D (.lst (acc ++ [v]))) ∧ (upd Ha D (.lst (acc ++ [v]))) D = some (.lst ((((TL.tl w).take (i + 1)).filter bad).map fun c => V.str ⟨#[c]⟩)))) else (Same H4 Ha ∧ Ha D = some (.lst ((((TL.tl w).take (i + 1)).filter bad).map fun c => V.str ⟨#[c]⟩)))) := by
            intro b hb
            cases b with
            | true =>
              rw [if_pos rfl]
              rw [if_pos hb] at fs
              refine ⟨_, rfl, _, ea, ?_, same_upd sa nD, ?_⟩
              · rw [List.length_map]
                refine Nat.lt_of_le_of_lt (List.length_filter_le _ _) ?_
                rw [List.length_take]
                exact Nat.lt_of_le_of_lt (show min i _ ≤ 1000000 by omega) (by decide)
              · rw [upd_same, fs, List.map_append]
                rfl
            | false =>
              rw [if_neg Bool.false_ne_true]
              rw [if_neg (by rw [hb]; exact Bool.false_ne_true)] at fs
              exact ⟨sa, by rw [fs]; exact ea⟩
          have hmem : decide (c ∈ ("XYZ" : Str).cps.toList) = decide (c = 88 ∨ c = 89 ∨ c = 90) := by
            rw [show ("XYZ" : Str).cps.toList = [88, 89, 90] by decide +kernel]
            exact decide_eq_decide.mpr (by simp)
          refine ⟨rfl, _, rfl, c, "XYZ", rfl, rfl, _, rfl, ?_⟩
          rw [hmem]
          by_cases h1 : c = 88 ∨ c = 89 ∨ c = 90
          · rw [decide_eq_true h1]
            refine iteF ⟨_, rfl, R, _, _, _, rfl, rfl, SqL.of (sa _ _ eR4), hat, rfl, _, rfl, w, ⟨#[c]⟩, rfl, rfl, _, _, rfl, rfl, _, rfl, ?_⟩
            have hb : bad c = decide ((1 : Int) < Txt.count w ⟨#[c]⟩) := by
              show (!decide (c = 88 ∨ c = 89 ∨ c = 90) || decide (1 < (TL.tl w).count c)) = _
              rw [decide_eq_true h1, count_sign]
              exact decide_eq_decide.mpr (by omega)
            exact next _ hb
          · rw [decide_eq_false h1]
            refine iteT (next true ?_)
            show (!decide (c = 88 ∨ c = 89 ∨ c = 90) || decide (1 < (TL.tl w).count c)) = true
            rw [decide_eq_false h1]
            rfl
        · rintro Ha ⟨sa, ea⟩
          have el : (TL.tl w).take w.cps.size = TL.tl w := List.take_of_length_le (Nat.le_of_eq (by simp [TL.tl]))
          rw [el] at ea
          have hmap : (((TL.tl w).filter bad).map fun c => V.str ⟨#[c]⟩) = (((TL.tl w).filter bad).map fun c => (⟨#[c]⟩ : Str)).map V.str := by rw [List.map_map]; rfl
          rw [hmap] at ea
          refine ⟨by show 0 ≤ sizeLine; decide, fun e ne => ⟨.list ((((TL.tl w).filter bad).map fun c => (⟨#[c]⟩ : Str)).map PyData.str), .list [], .lst (SqL.of (by rw [upd_ne (ne_of_none ea ne)]; exact ea)) (dS_all _), .lst (SqL.of upd_same) .nil, dS_ok _ fun x hx => ?_, by decide +kernel, ?_⟩⟩
          · obtain ⟨c, hc, rfl⟩ := List.mem_map.mp hx
            intro c' hc'
            have : c' = c := by simpa [TL.tl] using hc'
            rw [this]
            exact hwa c (List.mem_filter.mp hc).1
          rw [eqv_nil]
          have s5 := s4.trans sa
          refine ⟨_, rfl, same_upd s5 (none_back s5 ne), by rw [upd_ne (ne_of_none (sa _ _ eR4) ne)]; exact sa _ _ eR4, ?_⟩
          rw [hwr]
          have key : ((((TL.tl w).filter bad).map fun c => (⟨#[c]⟩ : Str)).map PyData.str).isEmpty = decide (w ∈ w15) := by
            rw [List.isEmpty_map, List.isEmpty_map]
            have h2 : ((TL.tl w).filter bad).isEmpty = true ↔ w ∈ w15 := by
              rw [← lts_iff hw0, List.isEmpty_iff, List.filter_eq_nil_iff]
              constructor
              · intro h c hc
                have hb : ¬ (!decide (c = 88 ∨ c = 89 ∨ c = 90) || decide (1 < (TL.tl w).count c)) = true := h c hc
                refine ⟨Classical.byContradiction fun z => hb ?_, Classical.byContradiction fun z => hb ?_⟩
                · rw [decide_eq_false z]
                  rfl
                · rw [decide_eq_true (show 1 < (TL.tl w).count c by omega), Bool.or_true]
              · intro h c hc z
                obtain ⟨h1, h2⟩ := h c hc
                have hb : (!decide (c = 88 ∨ c = 89 ∨ c = 90) || decide (1 < (TL.tl w).count c)) = true := z
                rw [decide_eq_true h1, decide_eq_false (show ¬ 1 < (TL.tl w).count c by omega)] at hb
                cases hb
            by_cases hm : w ∈ w15
            · rw [decide_eq_true hm]
              exact h2.mpr hm
            · rw [decide_eq_false hm]
              exact Bool.eq_false_iff.mpr fun z => hm (h2.mp z)
          rw [key]
          by_cases hm : w ∈ w15
          · rw [if_neg (fun z => z hm), decide_eq_true hm, if_pos rfl]
          · rw [if_pos hm, decide_eq_false hm, if_neg Bool.false_ne_true]
      · have hk : k ≠ "letters" := fun z => e (decide_eq_true (by rw [z]))
        have hk1 : k = "weight" ∨ k = "run" := by
          simp only [List.mem_cons, List.mem_nil_iff, or_false, not_or] at hk5 hk2
          rcases hk5 with z | z | z | z | z
          · exact .inl z
          · exact absurd z hk
          · exact absurd z hk2.1
          · exact absurd z hk2.2
          · exact .inr z
        have hwr : wrong n (k :: w :: r) = (if numOf (n + 1) w = none then 2 else if r ≠ [] then 3 else 0) := if_pos hk1
        refine ⟨_, rfl, R, _, _, _, rfl, rfl, SqL.of eR4, hat, _, rfl, w, _, n + 1, rfl, rfl, by omega, fun H5 s5 => ⟨_, rfl, s4.trans s5, s5 _ _ eR4, ?_⟩⟩
        rw [hwr]
        cases numOf (n + 1) w with
        | none => rfl
        | some j => rfl
    rintro _ H5 ⟨b, rfl, s5, eR5, hwr⟩
    rw [hwr] at q
    refine ⟨_, rfl, _, rfl, ?_⟩
    cases b with
    | false => exact iteT (q _ s5)
    | true =>
      refine iteF ⟨_, rfl, _, _, rfl, .inl (SqL.of eR5), _, _, rfl, rfl, _, rfl, ?_⟩
      rw [if_pos rfl] at q
      rw [List.length_map]
      cases r with
      | nil => exact iteF (q _ s5)
      | cons x r =>
        rw [decide_eq_true (show (1 : Int) < ((w :: x :: r).length : Nat) by rw [List.length_cons, List.length_cons]; omega)]
        rw [if_pos (by simp)] at q
        exact iteT (q _ s5)
end
end KQ

namespace KQ
open PySem PySem.Spec PyProof.Rows L2
/-! ### the law's first wrong line -/
def spDue : Sp := fun vs H Q _ => ∃ (t : Str) (n : Nat), vs = [.str t, .int (n : Int)] ∧ 1 ≤ n ∧ n ≤ 24 ∧ asc t ∧ t.length ≤ 1000000 ∧
  ∀ H' tp, Same H H' → H tp = none → H' tp = some (.tup [.int ((dueL n (Txt.split t "\n") 1).1 : Nat), .int ((dueL n (Txt.split t "\n") 1).2 : Nat)]) → Q (.ref tp) H'
theorem ne_neE (w : Str) : (!decide (V.str w = V.str "")) = neE w := by
  unfold neE
  by_cases h : w = ""
  · subst h
    decide +kernel
  · rw [decide_eq_true h, decide_eq_false (fun z => h (V.str.inj z))]
    rfl
section
variable {P : Program} {w : World} {K : PySem.W.Frag} {mg : Str → Option Value} {base : Heap}
theorem ok_due {f fF fI : Addr} {fd dF dI : FuncData} {k : Nat} (F : Fun K "_law_due" "_law_due" sDue f fd) (FF : Fun K "_law_first_wrong" "_law_first_wrong" sFirst fF dF) (bF : Binds K dF ["_law_words", "_law_size"] []) (gF : mg "_law_first_wrong" = some (.ref fF))
    (FI : Fun K "_law_is_number" "_law_is_number" sIsNum fI dI) (bI : Binds K dI ["_law_word", "_law_most"] []) (gI : mg "_law_is_number" = some (.ref fI)) (B : Bl mg) : FnOk P w K mg base CX0 (k + 3) f fd ["_law_text", "_law_size"] spDue := by
  have GF : FnOk P w K mg base CX0 (k + 2) fF dF ["_law_words", "_law_size"] (spFirst K) := ok_first FF FI bI gI B
  refine F.ok scDue (fun vs H Q E h => ?_) (fun cdv A outer s H vs Q E hr h => ?_)
  · obtain ⟨t, n, rfl, _⟩ := h
    rfl
  · obtain ⟨t, n, rfl, hn1, hn, ha, hz, q⟩ := h
    have hu : (A.deeper (envOfC "_law_due" (defScope sDue) s.heap.objs.size f cdv)).units + 64 < cLine := hr.units
    refine ⟨_, C8.pss_cut (ps_for PassesOwn.never rfl (pi_enum (by rfl) B.enum (pa_cons (pe_split (pv 0) pe_str) pa_nil)) (pg_tup rfl (pgs_cons (pg_name (i := 2) scDue.nd rfl (.inl rfl)) (pgs_cons (pg_name (i := 3) scDue.nd rfl (.inl rfl)) pgs_nil)))
        (C8.pss_cut (ps_setLc (wi := iList K (tM1 (fun x xs H Q => ∃ a b, x = .str a ∧ xs = [.str b] ∧ (b.length == 0) = false ∧ a.length + 2 ≤ sizeLine ∧ rNewStrs (Txt.split a b) H Q) (tVar 3) (tC (.str " ")))) (i := 4) (own := [("_law_word", 5)]) (g := gName 5) (tt := tTest (tOp rNe (tVar 5) (tC (.str "")))) (by rfl) scDue.nd rfl rfl (sw_true rfl rfl rfl (by decide +kernel)) (pi_list (pe_split (pv 3) pe_str)) (blkOk_by (own := [("_law_word", 5)]) (N := ["_law_text", "_law_size", "_law_at", "_law_line", "_law_words", "_law_word"]) (sc := defScope sDue) (by decide +kernel))
          (fun _ _ _ _ _ => pg_name (i := 5) scDue.nd rfl (Or.inl rfl)) (fun _ _ _ _ _ => pts_one (pt_cmpR op_ne (pv 5) pe_str (nomark _))) (fun _ _ _ _ _ => pv 5))
        (pss_one (ps_if (PW.pt (pw_and (pt_cmpR (op_neD hu) (pv 4) (pe_lst pa_nil) (nomark _)) (pw_and1 (pt_cmpR op_gt (pe_call GF hr (by rfl) gF FF.kp bF .nil pass0 (pa_cons (pv 4) (pa_cons (pv 1) pa_nil))) pe_int (nomark _)))))
          (pss_one (ps_ret (pe_tup (pa_cons (pe_op op_add (pv 2) pe_int) (pa_cons (pe_call GF hr (by rfl) gF FF.kp bF .nil pass0 (pa_cons (pv 4) (pa_cons (pv 1) pa_nil))) pa_nil))))) pss_nil))))
      (pss_one (ps_ret (pe_tup (pa_cons pe_int (pa_cons pe_int pa_nil))))), ?_⟩
    generalize els : Txt.split t "\n" = ls at q
    refine ⟨fun σ' H' => ∃ a b c d, σ' = [some (.str t), some (.int (n : Nat)), a, b, c, d] ∧ Same H H' ∧ dueL n ls 1 = (0, 0), ?_, ?_⟩
    rotate_left
    · rintro _ H2 ⟨a, b, c, d, rfl, s2, z⟩
      rw [z] at q
      exact ⟨by show 2 ≤ sizeLine; decide, fun tp nt => q _ tp (same_upd s2 (none_back s2 nt)) (none_back s2 nt) upd_same⟩
    refine ⟨_, rfl, ⟨_, rfl⟩, _, _, rfl, rfl, by decide +kernel, mil (by omega), fun R nR => ⟨R, _, rfl, SqL.of upd_same, ?_⟩⟩
    rw [els]
    have s1 : Same H (upd H R (.lst (ls.map V.str))) := same_new nR
    have eR : (upd H R (.lst (ls.map V.str))) R = some (.lst (ls.map V.str)) := upd_same
    generalize upd H R (.lst (ls.map V.str)) = H1 at s1 eR
    refine for_it walk_enum (fun i σ' H' => ∃ (a b c d : Option V), σ' = [some (.str t), some (.int (n : Nat)), a, b, c, d] ∧ Same H1 H' ∧ dueL n ls 1 = dueL n (ls.drop i) (1 + i)) ⟨none, none, none, none, rfl, Same.refl _, rfl⟩ (fun i σ' H' _ ⟨a, b, c, d, _, k', _⟩ => SqL.of (k' R _ eR)) ?_ ?_
    rotate_left
    · rintro _ H2 ⟨a, b, c, d, rfl, s2, z⟩
      refine ⟨a, b, c, d, rfl, s1.trans s2, z.trans ?_⟩
      rw [List.length_map, List.drop_length]
      rfl
    rintro i x _ H2 H3 hi ⟨a, b, c, d, rfl, s2, d2⟩ ⟨T', y1, y2, rfl, nT', rfl, z1, z2⟩
    rw [List.length_map] at hi
    cases z1
    have hx : ls[i]? = some ls[i] := List.getElem?_eq_getElem hi
    have z2' : (ls.map V.str)[i]? = some y2 := z2
    rw [List.getElem?_map, hx] at z2'
    cases z2'
    have hdr : ls.drop i = ls[i] :: ls.drop (i + 1) := List.drop_eq_getElem_cons hi
    generalize ls[i] = row at hx hdr
    have hmem : row ∈ Txt.split t "\n" := by rw [els]; exact List.mem_of_getElem? hx
    have hrow : row.length ≤ 1000000 := Nat.le_trans (line_len hmem) hz
    have hra : asc row := by
      rw [e_nl] at hmem
      exact asc_split (by decide) ha row hmem
    refine ⟨T', _, rfl, .inl (.inl upd_same), rfl, _, _, rfl, _, _, rfl, rfl, ?_⟩
    have s3 : Same H2 (upd H2 T' (.tup [.int (i : Nat), .str row])) := same_new nT'
    generalize upd H2 T' (.tup [.int (i : Nat), .str row]) = H3 at s3
    have ww : ∀ w ∈ wordsOf row, w ≠ "" ∧ asc w ∧ w.length ≤ 1000000 := fun w hw => by
      have hm := List.mem_filter.mp hw
      have h1 := wtt_mem hm.1
      rw [e_sp, wtt_split row (by decide)] at h1
      refine ⟨of_decide_eq_true hm.2, ?_, by omega⟩
      have hm1 := hm.1
      rw [e_sp] at hm1
      exact asc_split (by decide) hra w hm1
    have wl : (wordsOf row).length ≤ 1000001 := by
      have h1 := wtt_len (wordsOf row)
      have h2 := words_wtt row
      omega
    -- its words
    refine ⟨fun σ' H' => ∃ (d : Option V) (D : Addr), σ' = [some (.str t), some (.int (n : Nat)), some (.int (i : Nat)), some (.str row), some (.ref D), d] ∧ Same H3 H' ∧ H' D = some (.lst ((wordsOf row).map V.str)), ?_, ?_⟩
    · refine ⟨_, rfl, ⟨_, rfl⟩, _, _, rfl, rfl, by decide +kernel, mil (by omega), fun r nr => ⟨r, rfl, ⟨_, SqL.of upd_same⟩, fun D nD => ?_⟩⟩
      have hDr : D ≠ r := fun z => by rw [z, upd_same] at nD; cases nD
      have nD4 := none_back (same_new nr) nD
      refine lc_list (K := K) (a := r) (xs := (Txt.split row " ").map V.str) (fun j H' => Same H3 H' ∧ H' r = some (.lst ((Txt.split row " ").map V.str)) ∧ H' D = some (.lst ((((Txt.split row " ").take j).filter neE).map V.str)))
        ⟨same_upd (same_new nr) (none_back (same_new nr) nD), by rw [upd_ne hDr.symm, upd_same], upd_same⟩ (fun j H' _ h' => SqL.of h'.2.1) ?_ ?_
      · rintro j x H5 hj ⟨s5, er5, eD5⟩
        rw [List.getElem?_map] at hj
        cases hxj : (Txt.split row " ")[j]? with
        | none => rw [hxj] at hj; cases hj
        | some wj =>
          rw [hxj] at hj
          cases hj
          have hjl : j < (Txt.split row " ").length := (List.getElem?_eq_some_iff.mp hxj).1
          have hsl : (Txt.split row " ").length ≤ 1000001 := by
            have h1 := wtt_len (Txt.split row " ")
            have h2 := wtt_split row (c := 32) (by decide)
            rw [← e_sp] at h2
            omega
          refine ⟨rfl, _, rfl, rfl, _, rfl, ?_⟩
          rw [ne_neE]
          have fs := filt_step neE hxj
          cases hne : neE wj with
          | true =>
            rw [if_pos hne] at fs
            refine ⟨_, rfl, _, eD5, ?_, fun b o e => ?_, ?_, ?_⟩
            · rw [List.length_map]
              refine Nat.lt_of_le_of_lt (List.length_filter_le _ _) ?_
              rw [List.length_take]
              exact Nat.lt_of_lt_of_le (show min j _ < 1000010 by omega) (by decide)
            · rw [upd_ne (ne_of_none e nD4)]
              exact s5 _ _ e
            · rw [upd_ne hDr.symm]
              exact er5
            · rw [upd_same, fs, List.map_append]
              rfl
          | false =>
            rw [if_neg (by rw [hne]; exact Bool.false_ne_true)] at fs
            exact ⟨s5, er5, by rw [fs]; exact eD5⟩
      · rintro H5 ⟨s5, er5, eD5⟩
        rw [List.length_map, List.take_length] at eD5
        exact ⟨_, D, rfl, s5, eD5⟩
    rintro _ H5 ⟨d', D, rfl, s5, eD⟩
    have s15 : Same H1 H5 := s2.trans (s3.trans s5)
    rw [hdr] at d2
    refine ⟨_, rfl, by show 0 ≤ sizeLine; decide, fun e ne => ⟨.list ((wordsOf row).map PyData.str), .list [], .lst (SqL.of (by rw [upd_ne (ne_of_none eD ne)]; exact eD)) (dS_all _), .lst (SqL.of upd_same) .nil, dS_ok _ fun x hx => (ww x hx).2.1, by decide +kernel, _, rfl, ?_⟩⟩
    have eD6 : (upd H5 e (.lst [])) D = some (.lst ((wordsOf row).map V.str)) := by rw [upd_ne (ne_of_none eD ne)]; exact eD
    have s6 : Same H1 (upd H5 e (.lst [])) := same_upd s15 (none_back s15 ne)
    generalize upd H5 e (.lst []) = H6 at eD6 s6
    rw [eqv_nil, List.isEmpty_map]
    cases hwd : wordsOf row with
    | nil =>
      refine iteF ⟨_, _, _, _, rfl, s6, d2.trans ?_⟩
      show (if 0 < wrong n (wordsOf row) then _ else dueL n (ls.drop (i + 1)) (1 + i + 1)) = _
      rw [hwd, if_neg (by rw [wrong_nil]; exact Nat.lt_irrefl 0)]
      rfl
    | cons k rest =>
      rw [hwd] at eD6 ww wl
      have hrl : rest.length ≤ 1000001 := by
        rw [List.length_cons] at wl
        omega
      refine iteT ⟨_, rfl, _, rfl, D, n, k, rest, rfl, hn1, hn, SqL.of eD6, fun w hw => ww w (List.mem_cons_of_mem _ hw), hrl, fun H7 s7 => ⟨_, _, rfl, rfl, _, rfl, ite2 (fun e => ?_) (fun e => ?_)⟩⟩
      · have hpos : 0 < wrong n (k :: rest) := by
          have := of_decide_eq_true e
          omega
        refine ⟨_, rfl, _, _, rfl, rfl, _, rfl, _, rfl, D, n, k, rest, rfl, hn1, hn, SqL.of (s7 _ _ eD6), fun w hw => ww w (List.mem_cons_of_mem _ hw), hrl, fun H8 s8 => ⟨by show 2 ≤ sizeLine; decide, fun tp nt => ?_⟩⟩
        have hd : dueL n ls 1 = (1 + i, wrong n (k :: rest)) := d2.trans (by
          show (if 0 < wrong n (wordsOf row) then (1 + i, wrong n (wordsOf row)) else _) = _
          rw [hwd, if_pos hpos])
        have s18 : Same H H8 := s1.trans (s6.trans (s7.trans s8))
        rw [hd] at q
        refine q _ tp (same_upd s18 (none_back s18 nt)) (none_back s18 nt) ?_
        rw [upd_same]
        have e1 : ((1 + i : Nat) : Int) = (i : Nat) + 1 := by omega
        show some (HO.tup [.int ((i : Nat) + 1 : Int), .int (wrong n (k :: rest) : Nat)]) = some (HO.tup [.int ((1 + i : Nat) : Int), .int (wrong n (k :: rest) : Nat)])
        rw [e1]
      · have hz0 : ¬ 0 < wrong n (k :: rest) := fun z => e (decide_eq_true (by show (0 : Int) < (wrong n (k :: rest) : Nat); omega))
        refine ⟨_, _, _, _, rfl, s6.trans s7, d2.trans ?_⟩
        show (if 0 < wrong n (wordsOf row) then _ else dueL n (ls.drop (i + 1)) (1 + i + 1)) = _
        rw [hwd, if_neg hz0]
        rfl
end
end KQ

namespace KQ
open PySem PySem.Spec PyProof.Rows L2
/-! ### rules drawn -/
theorem wtt_bound {b : Nat} : ∀ {ws : List Str}, (∀ w ∈ ws, w.length ≤ b) → wtt ws ≤ ws.length * (b + 1)
  | [], _ => Nat.zero_le _
  | w :: ws, h => by
    have h1 := wtt_bound fun x hx => h x (List.mem_cons_of_mem _ hx)
    have h2 := h w List.mem_cons_self
    rw [wtt_cons, List.length_cons, Nat.succ_mul]
    omega
theorem join_len1 {y : Str} {ps : List Str} (hy : y.length ≤ 1) : (Txt.join y ps).length ≤ wtt ps := by
  rw [TL.join_eq, TL.len_tl, TL.tl_join]
  refine Nat.le_trans (joinL_len (k := 1) (by rw [← TL.len_tl]; exact hy)) ?_
  rw [List.map_map]
  exact Nat.le_of_eq rfl
theorem sum_sep (k : Nat) (hk : k ≤ 2) : ∀ xs : List Str, (xs.map (·.length)).sum + xs.length * k ≤ 2 * wtt xs
  | [] => by simp
  | x :: xs => by
    have := sum_sep k hk xs
    rw [wtt_cons, List.map_cons, List.sum_cons, List.length_cons, Nat.succ_mul]
    omega
theorem cutV_to (xs : List V) (k : Nat) : cutV xs none (some (k : Int)) = xs.take k := by
  unfold cutV
  rw [HT.sIx_none, HT.sIx_nat, List.drop_zero, Nat.sub_zero]
  by_cases h : k ≤ xs.length
  · rw [Nat.min_eq_left h]
  · rw [Nat.min_eq_right (by omega), List.take_of_length_le (Nat.le_refl _), List.take_of_length_le (by omega)]
theorem cutV_from (xs : List V) (k : Nat) : cutV xs (some (k : Int)) none = xs.drop k := by
  unfold cutV
  rw [HT.sIx_none, HT.sIx_nat]
  by_cases h : k ≤ xs.length
  · rw [Nat.min_eq_left h]
    exact List.take_of_length_le (by rw [List.length_drop]; exact Nat.le_refl _)
  · rw [Nat.min_eq_right (by omega), List.drop_of_length_le (Nat.le_refl _), List.drop_of_length_le (by omega), List.take_nil]
def Small (i : Int) : Prop := 0 ≤ i ∧ i ≤ 30
/-- two whole numbers in a list -/
def PairV (H : Hp) (v : V) : Prop := ∃ r i j, v = .ref r ∧ H r = some (.lst [.int i, .int j]) ∧ Small i ∧ Small j
def ItemV (v : V) : Prop := (∃ i, v = .int i ∧ Small i) ∨ ∃ s : Str, v = .str s ∧ s.length ≤ 12 ∧ asc s
def RuleAt (H : Hp) (t : Addr) : Prop := ∃ (k : Str) (q : Addr) (its : List V), H t = some (.tup [.str k, .ref q]) ∧ k.length ≤ 7 ∧ asc k ∧ H q = some (.lst its) ∧ its.length ≤ 30 ∧
  ((k = "near" ∧ ∀ v ∈ its, PairV H v) ∨ (k ≠ "near" ∧ ∀ v ∈ its, ItemV v))
theorem PairV.kb {H H' : Hp} {p : Addr} {kv : List (Key × V)} (hp : H p = some (.dK kv)) (k : KB p H H') {v : V} (h : PairV H v) : PairV H' v := by
  obtain ⟨r, i, j, e1, e2, h3⟩ := h
  exact ⟨r, i, j, e1, k _ _ e2 (ne_of e2 hp (by intro z; cases z)), h3⟩
theorem RuleAt.kb {H H' : Hp} {p t : Addr} {kv : List (Key × V)} (hp : H p = some (.dK kv)) (k : KB p H H') (h : RuleAt H t) : RuleAt H' t := by
  obtain ⟨kd, q, its, e1, e2, e3, e4, e5, e6⟩ := h
  refine ⟨kd, q, its, k _ _ e1 (ne_of e1 hp (by intro z; cases z)), e2, e3, k _ _ e4 (ne_of e4 hp (by intro z; cases z)), e5, ?_⟩
  rcases e6 with ⟨h1, h2⟩ | h
  · exact .inl ⟨h1, fun v hv => (h2 v hv).kb hp k⟩
  · exact .inr h
/-- .. all of it new since N -/
def RuleN (N H : Hp) (t : Addr) : Prop := ∃ (k : Str) (q : Addr) (its : List V), H t = some (.tup [.str k, .ref q]) ∧ k.length ≤ 7 ∧ asc k ∧ H q = some (.lst its) ∧ N q = none ∧ its.length ≤ 30 ∧
  ((k = "near" ∧ ∀ v ∈ its, PairV H v ∧ ∀ r, v = .ref r → N r = none) ∨ (k ≠ "near" ∧ ∀ v ∈ its, ItemV v))
theorem RuleN.at {N H : Hp} {t : Addr} (h : RuleN N H t) : RuleAt H t := by
  obtain ⟨kd, q, its, e1, e2, e3, e4, _, e5, e6⟩ := h
  exact ⟨kd, q, its, e1, e2, e3, e4, e5, e6.imp (fun z => ⟨z.1, fun v hv => (z.2 v hv).1⟩) id⟩
theorem RuleN.low {N M H : Hp} {t : Addr} (m : ∀ a, N a = none → M a = none) (h : RuleN N H t) : RuleN M H t := by
  obtain ⟨kd, q, its, e1, e2, e3, e4, e7, e5, e6⟩ := h
  exact ⟨kd, q, its, e1, e2, e3, e4, m _ e7, e5, e6.imp (fun z => ⟨z.1, fun v hv => ⟨(z.2 v hv).1, fun r e => m _ ((z.2 v hv).2 r e)⟩⟩) id⟩
theorem RuleN.kb {N H H' : Hp} {p t : Addr} {kv : List (Key × V)} (hp : H p = some (.dK kv)) (k : KB p H H') (h : RuleN N H t) : RuleN N H' t := by
  obtain ⟨kd, q, its, e1, e2, e3, e4, e7, e5, e6⟩ := h
  refine ⟨kd, q, its, k _ _ e1 (ne_of e1 hp (by intro z; cases z)), e2, e3, k _ _ e4 (ne_of e4 hp (by intro z; cases z)), e7, e5, ?_⟩
  rcases e6 with ⟨h1, h2⟩ | h
  · exact .inl ⟨h1, fun v hv => ⟨(h2 v hv).1.kb hp k, (h2 v hv).2⟩⟩
  · exact .inr h
/-- a list that stood in N may change -/
theorem RuleN.off {N H : Hp} {D t : Addr} {xs ys : List V} (hD : H D = some (.lst xs)) (hN : N D ≠ none) (h : RuleN N H t) : RuleN N (upd H D (.lst ys)) t := by
  obtain ⟨kd, q, its, e1, e2, e3, e4, e7, e5, e6⟩ := h
  have hq : q ≠ D := fun z => hN (by rw [← z]; exact e7)
  refine ⟨kd, q, its, (upd_ne (ne_of e1 hD (by intro z; cases z))).trans e1, e2, e3, (upd_ne hq).trans e4, e7, e5, ?_⟩
  rcases e6 with ⟨h1, h2⟩ | h
  · refine .inl ⟨h1, fun v hv => ⟨?_, (h2 v hv).2⟩⟩
    obtain ⟨⟨r, i, j, z1, z2, z3⟩, z4⟩ := h2 v hv
    have hr : r ≠ D := fun z => hN (by rw [← z]; exact z4 r z1)
    exact ⟨r, i, j, z1, (upd_ne hr).trans z2, z3⟩
  · exact .inr h
theorem pen_dict {H : Hp} {p c : Addr} {n : Nat} (h : PenAt H p c n) : ∃ kv, H p = some (.dK kv) := by
  obtain ⟨ns, a0, d0, f0, ep, _⟩ := h
  exact ⟨_, ep⟩
theorem PairV.dp {K : PySem.W.Frag} {H : Hp} : ∀ {vs : List V}, (∀ v ∈ vs, PairV H v) → ∃ ds, DpAll K H vs ds ∧ ∀ d ∈ ds, d.canLay0 = true ∧ d.depth ≤ 1
  | [], _ => ⟨[], .nil, fun _ z => by cases z⟩
  | v :: vs, h => by
    obtain ⟨ds, h1, h2⟩ := PairV.dp (K := K) (H := H) (vs := vs) fun x hx => h x (List.mem_cons_of_mem _ hx)
    obtain ⟨r, i, j, rfl, e2, _⟩ := h v List.mem_cons_self
    refine ⟨.list [.int i, .int j] :: ds, .cons (.lst (SqL.of e2) (.cons (.int _) (.cons (.int _) .nil))) h1, fun d hd => ?_⟩
    rcases List.mem_cons.mp hd with rfl | hd
    · exact ⟨rfl, Nat.le_refl _⟩
    · exact h2 d hd
theorem asc_lit {x : Str} (h : x.cps.toList.all (· < 128) = true) : asc x := fun c hc => of_decide_eq_true (List.all_eq_true.mp h c hc)
theorem letters_of : ∀ {L : List V}, (∀ v ∈ L, ∃ c, c < 128 ∧ v = .str ⟨#[c]⟩) → ∃ ws : List Str, L = ws.map V.str ∧ ∀ w ∈ ws, w.length ≤ 1 ∧ asc w
  | [], _ => ⟨[], rfl, fun _ z => by cases z⟩
  | v :: L, h => by
    obtain ⟨ws, e, hw⟩ := letters_of fun x hx => h x (List.mem_cons_of_mem _ hx)
    obtain ⟨c, hc, rfl⟩ := h v List.mem_cons_self
    refine ⟨⟨#[c]⟩ :: ws, by rw [e]; rfl, fun w hw' => ?_⟩
    rcases List.mem_cons.mp hw' with rfl | hw'
    · refine ⟨Nat.le_refl _, fun c' hc' => ?_⟩
      have : c' = c := by simpa [TL.tl] using hc'
      omega
    · exact hw w hw'
theorem rg_natL (n : Nat) : rgV 0 (n : Int) = (List.range n).map fun k : Nat => V.int (k : Int) := by
  unfold rgV
  rw [show ((n : Int) - 0).toNat = n by omega]
  refine List.map_congr_left fun k _ => ?_
  rw [Int.zero_add]
def spDRule : Sp := fun vs H Q _ => ∃ (p c : Addr) (n size : Nat), vs = [.ref p, .int (size : Int)] ∧ PenAt H p c n ∧ n + 400 < 1000000 ∧ 1 ≤ size ∧ size ≤ 24 ∧
  ∀ H' t m, PenAt H' p c m → m ≤ n + 200 → KB p H H' → RuleN H H' t → H t = none → Q (.ref t) H'
section
variable {P : Program} {w : World} {K : PySem.W.Frag} {mg : Str → Option Value} {base : Heap}
theorem ok_drule {f fD fP fS : Addr} {fd dD dP dS : FuncData} {k : Nat} (F : Fun K "_law_drawn_rule" "_law_drawn_rule" sDRule f fd) (FD : Fun K "_law_draw" "_law_draw" sDraw fD dD) (bD : Binds K dD ["_law_pen_here", "_law_many"] []) (gD : mg "_law_draw" = some (.ref fD))
    (FP : Fun K "_law_pick" "_law_pick" sPick fP dP) (bP : Binds K dP ["_law_pen_here", "_law_some"] []) (gP : mg "_law_pick" = some (.ref fP)) (FS : Fun K "_law_shuffled" "_law_shuffled" sShuf fS dS) (bS : Binds K dS ["_law_pen_here", "_law_some"] []) (gS : mg "_law_shuffled" = some (.ref fS)) (B : Bl mg) :
    FnOk P w K mg base CX0 (k + 3) f fd ["_law_pen_here", "_law_size"] spDRule := by
  have GD : FnOk P w K mg base CX0 (k + 1) fD dD ["_law_pen_here", "_law_many"] spDraw := ok_draw FD B.int B.len
  have GP : FnOk P w K mg base CX0 (k + 2) fP dP ["_law_pen_here", "_law_some"] (spPick K) := ok_pick FP FD bD gD B.int B.len
  have GS : FnOk P w K mg base CX0 (k + 2) fS dS ["_law_pen_here", "_law_some"] (spShuf K) := ok_shuf FS FD bD gD B
  refine F.ok scDRule (fun vs H Q E h => ?_) (fun cdv A outer s H vs Q E hr h => ?_)
  · obtain ⟨p, c, n, size, rfl, _⟩ := h
    rfl
  · obtain ⟨p, c, n, size, rfl, hP, hn, hs1, hs, q⟩ := h
    have r1 : Room (k + 1) _ := hr.mono (by omega)
    have hu65 : (A.deeper (envOfC "_law_drawn_rule" (defScope sDRule) s.heap.objs.size f cdv)).units + 65 < cLine := by
      have := hr.un
      omega
    refine ⟨_, (C8.pss_cut (ps_set (i := 2) scDRule.nd rfl (.inl rfl) (pe_call GP hr (by rfl) gP FP.kp bP .nil pass0 (pa_cons (pv 0) (pa_cons (pe_lst (pa_cons pe_str (pa_cons pe_str (pa_cons pe_str (pa_cons pe_str (pa_cons pe_str (pa_cons pe_str pa_nil))))))) pa_nil))))
      (C8.pss_cut (ps_if (pt_cmpR op_in_seq (pv 2) (pe_lst (pa_cons pe_str (pa_cons pe_str pa_nil))) (by with_unfolding_all rfl)) (pss_one (ps_ret (pe_tup (pa_cons (pv 2) (pa_cons (pe_lst (pa_cons (pe_call GD r1 (by rfl) gD FD.kp bD .nil pass0 (pa_cons (pv 0) (pa_cons (pe_op op_add (pe_callB (call_min2 rfl) (by rfl) B.min bootMin (pa_cons (pv 1) (pa_cons pe_int pa_nil))) pe_int) pa_nil))) pa_nil)) pa_nil))))) pss_nil)
      (C8.pss_cut (ps_if (pt_cmpR op_eq (pv 2) pe_str (nomark _)) (pss_one (ps_ret (pe_tup (pa_cons (pv 2) (pa_cons (pe_lst (pa_cons (pe_join pe_str (pe_slice sl_list (pe_call GS hr (by rfl) gS FS.kp bS .nil pass0 (pa_cons (pv 0) (pa_cons (pe_callTy (call_list_txt rfl) (by rfl) B.list bootL (pa_cons pe_str pa_nil)) pa_nil))) po_none (po_some (pe_op op_add pe_int (pe_call GD r1 (by rfl) gD FD.kp bD .nil pass0 (pa_cons (pv 0) (pa_cons pe_int pa_nil))))))) pa_nil)) pa_nil))))) pss_nil)
      (C8.pss_cut (ps_set (i := 3) scDRule.nd rfl (.inl rfl) (pe_listRg rfl (by rfl) B.list (prg_1 (by rfl) B.range (pv 1))))
      (C8.pss_cut (ps_if (pt_cmpR op_eq (pv 2) pe_str (nomark _)) (pss_one (ps_ret (pe_tup (pa_cons (pv 2) (pa_cons (pe_slice sl_list (pe_call GS hr (by rfl) gS FS.kp bS .nil pass0 (pa_cons (pv 0) (pa_cons (pv 3) pa_nil))) po_none (po_some (pe_call GD r1 (by rfl) gD FD.kp bD .nil pass0 (pa_cons (pv 0) (pa_cons (pe_op op_add (pv 1) pe_int) pa_nil))))) pa_nil))))) pss_nil)
      (C8.pss_cut (ps_set (i := 4) scDRule.nd rfl (.inl rfl) (pe_lst pa_nil))
      (C8.pss_cut (ps_for PassesOwn.never rfl (pi_range1 (by rfl) B.range (pa_cons (pe_call GD r1 (by rfl) gD FD.kp bD .nil pass0 (pa_cons (pv 0) (pa_cons pe_int pa_nil))) pa_nil)) (pg_name (i := 5) scDRule.nd rfl (.inl rfl))
        (C8.pss_cut (ps_set (i := 6) scDRule.nd rfl (.inl rfl) (pe_slice sl_list (pe_call GS hr (by rfl) gS FS.kp bS .nil pass0 (pa_cons (pv 0) (pa_cons (pv 3) pa_nil))) po_none (po_some pe_int)))
        (pss_one (ps_if (PW.pt (pw_and (pt_cmpR op_eq (pe_callB call_len_seq (by rfl) B.len PySem.boot_len (pa_cons (pv 6) pa_nil)) pe_int (nomark _)) (pw_and (pt_cmpR (op_notInD hu65) (pv 6) (pv 4) (by rfl)) (pw_and1 (pt_cmpR (op_notInD hu65) (pe_revL (pv 6)) (pv 4) (by rfl))))))
          (pss_one (ps_expr (pe_bm PySem.F.plainAttrs_list PySem.F.slot_list_append PySem.F.type_list_append mt_append (pv 4) (pa_cons (pv 6) pa_nil)))) pss_nil))))
      (pss_one (ps_ret (pe_tup (pa_cons (pv 2) (pa_cons (pv 4) pa_nil)))))))))))), ?_⟩
    have none_kb : ∀ {H' : Hp} {t : Addr}, KB p H H' → (∃ kv, H' p = some (.dK kv)) → H' t = none → H t = none := fun {H' t} kb hp nt => by
      obtain ⟨kv, hp⟩ := hp
      cases e : H t with
      | none => rfl
      | some o =>
        have : H' t = some o := kb _ _ e (fun z => by rw [z, hp] at nt; cases nt)
        rw [nt] at this
        cases this
    refine ⟨fun σ' H' => ∃ k : Str, σ' = [some (.ref p), some (.int (size : Nat)), some (.str k), none, none, none, none] ∧ PenAt H' p c (n + 1) ∧ KB p H H' ∧ k.length ≤ 7 ∧ asc k ∧ (k = "weight" ∨ k = "letters" ∨ k = "near" ∨ k = "within" ∨ k = "run"), ?_, ?_⟩
    · refine ⟨_, rfl, by show 6 ≤ sizeLine; decide, fun r nr => ⟨p, c, r, n, _, rfl, hP.ext (same_new nr), by omega, .inl (SqL.of upd_same), by simp, by show 6 ≤ 1000; decide, fun j v H1 hj hP1 k1 => ?_⟩⟩
      have kb : KB p H H1 := (KB.of (same_new nr)).trans (KB.eq k1)
      have := List.mem_of_getElem? hj
      simp only [List.mem_cons, List.mem_nil_iff, or_false] at this
      rcases this with rfl | rfl | rfl | rfl | rfl | rfl
      · exact ⟨_, rfl, hP1, kb, by decide +kernel, asc_lit (by decide +kernel), by simp⟩
      · exact ⟨_, rfl, hP1, kb, by decide +kernel, asc_lit (by decide +kernel), by simp⟩
      · exact ⟨_, rfl, hP1, kb, by decide +kernel, asc_lit (by decide +kernel), by simp⟩
      · exact ⟨_, rfl, hP1, kb, by decide +kernel, asc_lit (by decide +kernel), by simp⟩
      · exact ⟨_, rfl, hP1, kb, by decide +kernel, asc_lit (by decide +kernel), by simp⟩
      · exact ⟨_, rfl, hP1, kb, by decide +kernel, asc_lit (by decide +kernel), by simp⟩
    rintro _ H1 ⟨k, rfl, hP1, kb1, hkl, hka, hk5⟩
    have fin : ∀ (H3 : Hp) (L : Addr) (its : List V) (m : Nat), PenAt H3 p c m → m ≤ n + 200 → KB p H H3 → H3 L = some (.lst its) → H L = none → its.length ≤ 30 → ((k = "near" ∧ ∀ v ∈ its, PairV H3 v ∧ ∀ r, v = .ref r → H r = none) ∨ (k ≠ "near" ∧ ∀ v ∈ its, ItemV v)) →
        2 ≤ sizeLine ∧ ∀ t, H3 t = none → Q (.ref t) (upd H3 t (.tup [.str k, .ref L])) := by
      intro H3 L its m hP3 hm kb eL hLn hl hit
      refine ⟨by decide, fun t nt => ?_⟩
      obtain ⟨kv, hp⟩ := pen_dict hP3
      have sn : Same H3 (upd H3 t (.tup [.str k, .ref L])) := same_new nt
      refine q _ t m (hP3.ext sn) hm (kb.sm sn) ⟨k, L, its, upd_same, hkl, hka, sn _ _ eL, hLn, hl, ?_⟩ (none_kb kb ⟨_, hp⟩ nt)
      rcases hit with ⟨h1, h2⟩ | h
      · exact .inl ⟨h1, fun v hv => ⟨(h2 v hv).1.kb hp (KB.of sn), (h2 v hv).2⟩⟩
      · exact .inr h
    -- weight, run
    refine ⟨fun σ' H' => σ' = [some (.ref p), some (.int (size : Nat)), some (.str k), none, none, none, none] ∧ PenAt H' p c (n + 1) ∧ KB p H H' ∧ ¬ (k = "weight" ∨ k = "run"), ?_, ?_⟩
    · refine ⟨_, rfl, by show 2 ≤ sizeLine; decide, fun r nr => ⟨r, _, rfl, .inl (SqL.of upd_same), rfl, rfl, _, rfl, ?_⟩⟩
      rw [if_neg Bool.false_ne_true, show [V.str "weight", V.str "run"] = (["weight", "run"] : List Str).map V.str from rfl, inS]
      have hP2 := hP1.ext (same_new (o := .lst ((["weight", "run"] : List Str).map V.str)) nr)
      have kb2 := kb1.sm (same_new (o := .lst ((["weight", "run"] : List Str).map V.str)) nr)
      by_cases hk : k ∈ (["weight", "run"] : List Str)
      · rw [decide_eq_true hk]
        have hnn : k ≠ "near" := by
          simp only [List.mem_cons, List.mem_nil_iff, or_false] at hk
          rcases hk with rfl | rfl <;> decide +kernel
        refine iteT ⟨_, rfl, _, rfl, _, rfl, _, _, rfl, _, _, rfl, rfl, p, c, n + 1, _, rfl, hP2, by omega, ?_, ?_, fun y H3 y0 y1 hP3 k3 => ?_⟩
        · split <;> omega
        · refine Nat.lt_of_le_of_lt (?_ : _ ≤ 30) (by decide)
          split <;> omega
        refine ⟨by show 1 ≤ sizeLine; decide, fun L nL => ?_⟩
        have kb3 := kb2.trans (KB.eq k3)
        refine fin _ L [.int y] (n + 2) (hP3.ext (same_new nL)) (by omega) (kb3.sm (same_new nL)) upd_same (none_kb kb3 (pen_dict hP3) nL) (Nat.succ_le_succ (Nat.zero_le _)) (.inr ⟨hnn, fun v hv => ?_⟩)
        rw [List.mem_singleton.mp hv]
        refine .inl ⟨y, rfl, y0, ?_⟩
        have : y < 5 + 1 := Int.lt_of_lt_of_le y1 (by split <;> omega)
        omega
      · rw [decide_eq_false hk]
        exact iteF ⟨rfl, hP2, kb2, by simpa using hk⟩
    rintro _ H2 ⟨rfl, hP2, kb2, hk1⟩
    clear hP1 kb1
    -- letters
    refine ⟨fun σ' H' => σ' = [some (.ref p), some (.int (size : Nat)), some (.str k), none, none, none, none] ∧ H' = H2 ∧ k ≠ "letters", ?_, ?_⟩
    · refine ⟨_, rfl, rfl, _, rfl, ite2 (fun e => ?_) (fun e => ⟨rfl, rfl, fun z => e (decide_eq_true (by rw [z]))⟩)⟩
      have hk : k = "letters" := V.str.inj (of_decide_eq_true e)
      have hnn : k ≠ "near" := by rw [hk]; decide +kernel
      refine ⟨_, rfl, ⟨_, rfl⟩, _, rfl, "XYZ", rfl, by decide +kernel, fun l nl => ⟨p, c, l, n + 1, _, rfl, hP2.ext (same_new nl), by omega, SqL.of upd_same, by decide +kernel, fun H3 r ys hl hm hP3 k3 nr er => ?_⟩⟩
      have kb3 := (kb2.sm (same_new nl)).trans k3
      have len3 : ((("XYZ" : Str).cps.toList.map fun c => V.str ⟨#[c]⟩)).length = 3 := by decide +kernel
      rw [len3] at hl hP3
      refine ⟨_, rfl, p, c, _, 3, rfl, hP3, by omega, by decide, by decide, fun y H4 y0 y1 hP4 k4 => ⟨_, _, rfl, rfl, _, rfl, r, ys, rfl, ?_, fun l2 nl2 => ?_⟩⟩
      · obtain ⟨kv, hp⟩ := pen_dict hP3
        exact SqL.of ((k4 r (fun z => by rw [z, hp] at er; cases er)).trans er)
      obtain ⟨j, rfl⟩ : ∃ j : Nat, y = (j : Int) := ⟨y.toNat, by omega⟩
      have ej : (1 : Int) + (j : Nat) = ((1 + j : Nat) : Int) := by omega
      rw [ej, cutV_to]
      obtain ⟨ws, hws, hww⟩ := letters_of (L := ys.take (1 + j)) (fun v hv => by
        have := hm v (List.mem_of_mem_take hv)
        obtain ⟨c', hc', rfl⟩ := List.mem_map.mp this
        refine ⟨c', ?_, rfl⟩
        have e3 : ("XYZ" : Str).cps.toList = [88, 89, 90] := by decide +kernel
        rw [e3] at hc'
        simp only [List.mem_cons, List.mem_nil_iff, or_false] at hc'
        omega)
      have hwl : ws.length ≤ 3 := by
        have := congrArg List.length hws
        rw [List.length_take, List.length_map] at this
        omega
      have hwt : wtt ws ≤ 6 := Nat.le_trans (wtt_bound fun w hw => (hww w hw).1) (by omega)
      refine ⟨"", l2, ws, rfl, rfl, .inl (SqL.of (by rw [upd_same, hws])), ?_, by show 1 ≤ sizeLine; decide, fun L nL => ?_⟩
      · have h1 := sum_sep 0 (by decide) ws
        have e0 : ("" : Str).length = 0 := by decide +kernel
        rw [e0]
        omega
      have kb4 := (kb3.trans (KB.eq k4)).sm (same_new (o := .lst (ys.take (1 + j))) nl2)
      have hP4' := hP4.ext (same_new (o := .lst (ys.take (1 + j))) nl2)
      refine fin _ L _ (n + 1 + 3 + 1) (hP4'.ext (same_new nL)) (by omega) (kb4.sm (same_new nL)) upd_same (none_kb kb4 (pen_dict hP4') nL) (Nat.succ_le_succ (Nat.zero_le _)) (.inr ⟨hnn, fun v hv => ?_⟩)
      rw [List.mem_singleton.mp hv]
      refine .inr ⟨_, rfl, ?_, asc_join (fun c hc => ?_) fun w hw => (hww w hw).2⟩
      · have := join_len (y := "") (ps := ws) (by decide +kernel)
        omega
      · have e0 : TL.tl ("" : Str) = [] := by decide +kernel
        rw [e0] at hc
        cases hc
    rintro _ Hz ⟨rfl, eH, hk2⟩
    have eH' := eH.symm
    subst eH'
    -- places
    refine ⟨fun σ' H' => ∃ PL, σ' = [some (.ref p), some (.int (size : Nat)), some (.str k), some (.ref PL), none, none, none] ∧ PenAt H' p c (n + 1) ∧ KB p H H' ∧ H' PL = some (.lst ((List.range size).map fun j : Nat => V.int (j : Int))), ?_, ?_⟩
    · refine ⟨_, rfl, _, rfl, ⟨by decide, by decide, by omega, by omega, by omega⟩, fun PL nPL => ⟨PL, rfl, hP2.ext (same_new nPL), kb2.sm (same_new nPL), ?_⟩⟩
      rw [upd_same, rg_natL]
    rintro _ H3 ⟨PL, rfl, hP3, kb3, ePL⟩
    have pl_p : ∀ {H' : Hp} {m : Nat}, PenAt H' p c m → H3 PL = some (.lst ((List.range size).map fun j : Nat => V.int (j : Int))) → PL ≠ p := fun _ e z => by
      obtain ⟨kv, hp⟩ := pen_dict hP3
      rw [z, hp] at e
      cases e
    have hPLp := pl_p hP3 ePL
    have small_of : ∀ v ∈ ((List.range size).map fun j : Nat => V.int (j : Int)), ∃ i, v = .int i ∧ Small i := fun v hv => by
      obtain ⟨j, hj, rfl⟩ := List.mem_map.mp hv
      have := List.mem_range.mp hj
      exact ⟨_, rfl, by omega, by omega⟩
    have len_pl : ((List.range size).map fun j : Nat => V.int (j : Int)).length = size := by rw [List.length_map, List.length_range]
    -- within
    refine ⟨fun σ' H' => σ' = [some (.ref p), some (.int (size : Nat)), some (.str k), some (.ref PL), none, none, none] ∧ H' = H3 ∧ k ≠ "within", ?_, ?_⟩
    · refine ⟨_, rfl, rfl, _, rfl, ite2 (fun e => ?_) (fun e => ⟨rfl, rfl, fun z => e (decide_eq_true (by rw [z]))⟩)⟩
      have hk : k = "within" := V.str.inj (of_decide_eq_true e)
      have hnn : k ≠ "near" := by rw [hk]; decide +kernel
      refine ⟨_, rfl, _, rfl, _, rfl, p, c, PL, n + 1, _, rfl, hP3, by omega, SqL.of ePL, by rw [len_pl]; omega, fun H4 r ys hl hm hP4 k4 nr er => ?_⟩
      rw [len_pl] at hl hP4
      refine ⟨_, rfl, _, rfl, _, _, rfl, rfl, p, c, _, _, rfl, hP4, by omega, by omega, Nat.lt_of_le_of_lt (show ((size : Int) + 1).natAbs ≤ 30 by omega) (by decide), fun y H5 y0 y1 hP5 k5 => ⟨_, rfl, r, ys, rfl, ?_, fun L nL => ?_⟩⟩
      · obtain ⟨kv, hp⟩ := pen_dict hP4
        exact SqL.of ((k5 r (fun z => by rw [z, hp] at er; cases er)).trans er)
      obtain ⟨j, rfl⟩ : ∃ j : Nat, y = (j : Int) := ⟨y.toNat, by omega⟩
      rw [cutV_to]
      have kb5 := (kb3.trans k4).trans (KB.eq k5)
      refine fin _ L _ _ (hP5.ext (same_new nL)) (by omega) (kb5.sm (same_new nL)) upd_same (none_kb kb5 (pen_dict hP5) nL) ?_ (.inr ⟨hnn, fun v hv => .inl (small_of v (hm v (List.mem_of_mem_take hv)))⟩)
      rw [List.length_take]
      omega
    rintro _ Hz ⟨rfl, eH, hk3⟩
    have eH' := eH.symm
    subst eH'
    -- near
    have hnear : k = "near" := by
      rcases hk5 with z | z | z | z | z
      · exact absurd (.inl z) hk1
      · exact absurd z hk2
      · exact z
      · exact absurd z hk3
      · exact absurd (.inr z) hk1
    refine ⟨fun σ' H' => ∃ PA, σ' = [some (.ref p), some (.int (size : Nat)), some (.str k), some (.ref PL), some (.ref PA), none, none] ∧ PenAt H' p c (n + 1) ∧ KB p H H' ∧ H' PL = some (.lst ((List.range size).map fun j : Nat => V.int (j : Int))) ∧ H' PA = some (.lst []) ∧ H PA = none ∧ PA ≠ PL ∧ PA ≠ p, ?_, ?_⟩
    · refine ⟨by show 0 ≤ sizeLine; decide, fun PA nPA => ⟨PA, rfl, hP3.ext (same_new nPA), kb3.sm (same_new nPA), by rw [upd_ne (ne_of_none ePL nPA)]; exact ePL, upd_same, none_kb kb3 (pen_dict hP3) nPA, (ne_of_none ePL nPA).symm, fun z => ?_⟩⟩
      obtain ⟨kv, hp⟩ := pen_dict hP3
      rw [z, hp] at nPA
      cases nPA
    rintro _ H4 ⟨PA, rfl, hP4, kb4, ePL4, ePA, nPA, hAL, hAp⟩
    refine ⟨fun σ' H' => ∃ (lap pr : Option V) (vs : List V) (m : Nat), σ' = [some (.ref p), some (.int (size : Nat)), some (.str k), some (.ref PL), some (.ref PA), lap, pr] ∧ PenAt H' p c m ∧ m ≤ n + 150 ∧ KB p H H' ∧ H' PA = some (.lst vs) ∧ vs.length ≤ 5 ∧ ∀ v ∈ vs, PairV H' v ∧ ∀ r, v = .ref r → H r = none, ?_, ?_⟩
    rotate_left
    · rintro _ H5 ⟨lap, pr, vs, m, rfl, hP5, hm, kb5, e5, l5, v5⟩
      exact ⟨_, rfl, _, rfl, fin H5 PA vs m hP5 (by omega) kb5 e5 nPA (by omega) (.inl ⟨hnear, v5⟩)⟩
    refine ⟨_, rfl, p, c, n + 1, 5, rfl, hP4, by omega, by decide, by decide, fun y H5 y0 y1 hP5 k5 => ?_⟩
    obtain ⟨j, rfl⟩ : ∃ j : Nat, y = (j : Int) := ⟨y.toNat, by omega⟩
    have kb5 := kb4.trans (KB.eq k5)
    have ePL5 : H5 PL = some (.lst ((List.range size).map fun j : Nat => V.int (j : Int))) := (k5 PL hPLp).trans ePL4
    have ePA5 : H5 PA = some (.lst []) := (k5 PA hAp).trans ePA
    refine ⟨(j : Int), rfl, by omega, by omega, ?_⟩
    rw [Int.toNat_natCast]
    refine for_range (lo := 0) (n := j) (fun i σ' H' => ∃ (lap pr : Option V) (vs : List V), σ' = [some (.ref p), some (.int (size : Nat)), some (.str k), some (.ref PL), some (.ref PA), lap, pr] ∧ PenAt H' p c (n + 1 + 1 + size * i) ∧ KB p H H' ∧ H' PL = some (.lst ((List.range size).map fun j : Nat => V.int (j : Int))) ∧ H' PA = some (.lst vs) ∧ vs.length ≤ i ∧ (∀ v ∈ vs, PairV H' v) ∧ (∀ v ∈ vs, v ≠ .ref PA) ∧ ∀ v ∈ vs, ∀ r, v = .ref r → H r = none)
      ⟨none, none, [], rfl, hP5, kb5, ePL5, ePA5, Nat.le_refl _, (fun _ z => by cases z), (fun _ z => by cases z), fun _ z => by cases z⟩ ?_ ?_
    rotate_left
    · rintro _ H6 ⟨lap, pr, vs, rfl, hP6, kb6, _, e6, l6, v6, _, w6⟩
      refine ⟨lap, pr, vs, _, rfl, hP6, ?_, kb6, e6, by omega, fun v hv => ⟨v6 v hv, w6 v hv⟩⟩
      have : size * j ≤ 24 * 5 := Nat.mul_le_mul hs (by omega)
      omega
    rintro i _ H6 hi ⟨lap, pr, vs, rfl, hP6, kb6, ePL6, e6, l6, v6, n6, w6⟩
    have hsi : size * i ≤ 24 * 5 := Nat.mul_le_mul hs (by omega)
    -- a pair
    refine ⟨fun σ' H' => ∃ (r : Addr) (xs : List V), σ' = [some (.ref p), some (.int (size : Nat)), some (.str k), some (.ref PL), some (.ref PA), some (.int (0 + (i : Nat))), some (.ref r)] ∧ PenAt H' p c (n + 1 + 1 + size * (i + 1)) ∧ KB p H6 H' ∧ H' r = some (.lst xs) ∧ H6 r = none ∧ xs.length ≤ 2 ∧ ∀ v ∈ xs, ∃ i, v = .int i ∧ Small i, ?_, ?_⟩
    · refine ⟨_, rfl, _, rfl, p, c, PL, _, _, rfl, hP6, by omega, SqL.of ePL6, by rw [len_pl]; omega, fun H7 r ys hl hm hP7 k7 nr er => ⟨_, rfl, r, ys, rfl, SqL.of er, fun r2 nr2 => ?_⟩⟩
      rw [len_pl] at hP7
      rw [show (some (2 : Int)) = some ((2 : Nat) : Int) from rfl, cutV_to]
      refine ⟨r2, _, rfl, ?_, k7.sm (same_new nr2), upd_same, ?_, ?_, fun v hv => small_of v (hm v (List.mem_of_mem_take hv))⟩
      · have e : n + 1 + 1 + size * (i + 1) = n + 1 + 1 + size * i + size := by rw [Nat.mul_succ]; omega
        rw [e]
        exact hP7.ext (same_new nr2)
      · obtain ⟨kv, hp⟩ := pen_dict hP7
        cases e : H6 r2 with
        | none => rfl
        | some o =>
          have : H7 r2 = some o := k7 _ _ e (fun z => by rw [z, hp] at nr2; cases nr2)
          rw [nr2] at this
          cases this
      · rw [List.length_take]
        omega
    rintro _ H7 ⟨r, xs, rfl, hP7, k7, er, nr6, lx, sx⟩
    have hrA : r ≠ PA := fun z => by rw [z, e6] at nr6; cases nr6
    obtain ⟨kv6, hp6⟩ := pen_dict hP6
    obtain ⟨kv7, hp7⟩ := pen_dict hP7
    have kb7 : KB p H H7 := kb6.trans k7
    have ePL7 : H7 PL = some (.lst ((List.range size).map fun j : Nat => V.int (j : Int))) := k7 _ _ ePL6 hPLp
    have e7 : H7 PA = some (.lst vs) := k7 _ _ e6 hAp
    have v7 : ∀ v ∈ vs, PairV H7 v := fun v hv => (v6 v hv).kb hp6 k7
    have skip : ∀ H' : Hp, Same H7 H' → ∃ (lap pr : Option V) (vs : List V), [some (.ref p), some (.int (size : Nat)), some (.str k), some (.ref PL), some (.ref PA), some (.int (0 + (i : Nat))), some (.ref r)] = [some (.ref p), some (.int (size : Nat)), some (.str k), some (.ref PL), some (.ref PA), lap, pr] ∧ PenAt H' p c (n + 1 + 1 + size * (i + 1)) ∧ KB p H H' ∧ H' PL = some (.lst ((List.range size).map fun j : Nat => V.int (j : Int))) ∧ H' PA = some (.lst vs) ∧ vs.length ≤ i + 1 ∧ (∀ v ∈ vs, PairV H' v) ∧ (∀ v ∈ vs, v ≠ .ref PA) ∧ ∀ v ∈ vs, ∀ r, v = .ref r → H r = none :=
      fun H' s' => ⟨_, _, vs, rfl, hP7.ext s', kb7.sm s', s' _ _ ePL7, s' _ _ e7, by omega, fun v hv => (v7 v hv).kb hp7 (KB.of s'), n6, w6⟩
    refine ⟨_, rfl, _, _, rfl, .inl (SqL.of er), rfl, _, rfl, ite2 (fun e => ?_) (fun e => skip H7 (Same.refl _))⟩
    have l2 : xs.length = 2 := by
      have := V.int.inj (of_decide_eq_true e)
      omega
    obtain ⟨x1, x2, rfl⟩ : ∃ x1 x2, xs = [x1, x2] := by
      match xs, l2 with
      | [a, b], _ => exact ⟨a, b, rfl⟩
    obtain ⟨i1, rfl, hi1⟩ := sx x1 (by simp)
    obtain ⟨i2, rfl, hi2⟩ := sx x2 (by simp)
    obtain ⟨ds, dp, dl⟩ := PairV.dp (K := K) v7
    refine ⟨_, rfl, _, rfl, .list [.int i1, .int i2], ds, .lst (SqL.of er) (.cons (.int _) (.cons (.int _) .nil)), .lst (SqL.of e7) dp, rfl, sh_list dl (by decide), _, rfl, ?_⟩
    refine ite2 (fun _ => ?_) (fun _ => skip H7 (Same.refl _))
    refine ⟨_, rfl, r, _, rfl, SqL.of er, fun rr nrr => ?_⟩
    have s8 : Same H7 (upd H7 rr (.lst [V.int i1, V.int i2].reverse)) := same_new nrr
    have e8r : (upd H7 rr (.lst [V.int i1, V.int i2].reverse)) rr = some (.lst [V.int i2, V.int i1]) := upd_same
    generalize upd H7 rr (.lst [V.int i1, V.int i2].reverse) = H8 at s8 e8r
    refine ⟨_, rfl, .list [.int i2, .int i1], ds, .lst (SqL.of e8r) (.cons (.int _) (.cons (.int _) .nil)), .lst (SqL.of (s8 _ _ e7)) (DpAll.up s8 _ _ dp), rfl, sh_list dl (by decide), _, rfl, ?_⟩
    refine ite2 (fun _ => ?_) (fun _ => skip H8 s8)
    refine ⟨_, rfl, .inl ⟨rfl, _, SqL.of (s8 _ _ e7)⟩, _, rfl, PA, vs, _, rfl, rfl, s8 _ _ e7, Nat.lt_of_le_of_lt (show vs.length ≤ 5 by omega) (by decide), ?_⟩
    have kA : ∀ b o, H8 b = some o → b ≠ PA → (upd H8 PA (.lst (vs ++ [.ref r]))) b = some o := fun b o e hb => by rw [upd_ne hb]; exact e
    have pk : ∀ {v : V}, v ≠ .ref PA → PairV H8 v → PairV (upd H8 PA (.lst (vs ++ [.ref r]))) v := fun {v} hv h => by
      obtain ⟨r', a, b, e1, e2, h3⟩ := h
      exact ⟨r', a, b, e1, kA _ _ e2 (fun z => hv (by rw [e1, z])), h3⟩
    refine ⟨_, _, vs ++ [.ref r], rfl, ?_, fun b o e hb => ?_, kA _ _ (s8 _ _ ePL7) hAL.symm, upd_same, ?_, fun v hv => ?_, fun v hv => ?_, fun v hv r' er' => ?_⟩
    · have h8 := hP7.ext s8
      refine h8.same (by rw [upd_ne hAp.symm]) ?_
      obtain ⟨ns, a0, d0, f0, ep, ec, _⟩ := h8
      have ecz : H c = some (.lst (ns.map V.int)) ∨ c ≠ PA := .inr (fun z => by
        obtain ⟨ns', a0', d0', f0', ep', ec', _⟩ := hP
        rw [z, nPA] at ec'
        cases ec')
      rcases ecz with z | z
      · rw [upd_ne (ne_of_none z nPA)]
      · rw [upd_ne z]
    · rw [upd_ne (ne_of_none e nPA)]
      exact s8 _ _ (kb7 b o e hb)
    · rw [List.length_append]
      exact Nat.succ_le_succ l6
    · rcases List.mem_append.mp hv with hv | hv
      · exact pk (n6 v hv) ((v7 v hv).kb hp7 (KB.of s8))
      · rw [List.mem_singleton.mp hv]
        exact pk (fun z => hrA (V.ref.inj z)) ⟨r, i1, i2, rfl, s8 _ _ er, hi1, hi2⟩
    · rcases List.mem_append.mp hv with hv | hv
      · exact n6 v hv
      · rw [List.mem_singleton.mp hv]
        exact fun z => hrA (V.ref.inj z)
    · rcases List.mem_append.mp hv with hv | hv
      · exact w6 v hv r' er'
      · have := V.ref.inj ((List.mem_singleton.mp hv).symm.trans er')
        rw [← this]
        exact none_kb kb6 ⟨_, hp6⟩ nr6
end
end KQ

namespace KQ
open PySem PySem.Spec PyProof.Rows L2
/-! ### texts of rules -/
theorem nT_asc32 : ∀ i < 32, ∀ c ∈ TL.tl (nT i), c < 128 := by decide +kernel
theorem nT_len32 : ∀ i < 32, (nT i).length ≤ 2 := by decide +kernel
theorem small_txt {i : Int} (h : Small i) : ∃ x : Str, (toString i : Str) = x ∧ x.length ≤ 2 ∧ asc x ∧ i.natAbs.log2 < 1920 := by
  obtain ⟨h1, h2⟩ := h
  obtain ⟨j, rfl⟩ : ∃ j : Nat, i = (j : Int) := ⟨i.toNat, by omega⟩
  refine ⟨nT j, rfl, nT_len32 j (by omega), nT_asc32 j (by omega), ?_⟩
  rw [Int.natAbs_natCast]
  exact Nat.lt_of_le_of_lt (Nat.log2_le_self j) (by omega)
theorem len_app (x y : Str) : (x ++ y).length = x.length + y.length := by
  rw [TL.len_tl, TL.tl_append, List.length_append, ← TL.len_tl, ← TL.len_tl]
theorem dash1 : ("-" : Str).length = 1 := by decide +kernel
theorem cr_strE {X : Cx} : CallR X (.type "str") (fun xs H Q => (∃ i : Int, xs = [.int i] ∧ i.natAbs.log2 < 1920 ∧ Q (.str (toString i)) H) ∨ ∃ a, xs = [.str a] ∧ Q (.str a) H) := by
  intro pins s σ H xs us Q I r h
  rcases h with h | h
  · exact call_str_int pins s σ H xs us Q I r h
  · exact SkE.call_str_str pins s σ H xs us Q I r h
def cutW (ws : List Str) (lo hi : Option Int) : List Str := (ws.drop (HT.sIx ws.length 0 lo)).take (HT.sIx ws.length ws.length hi - HT.sIx ws.length 0 lo)
theorem cutV_map (ws : List Str) (lo hi : Option Int) : cutV (ws.map V.str) lo hi = (cutW ws lo hi).map V.str := by
  unfold cutV cutW
  rw [List.length_map, List.map_take, List.map_drop]
theorem wtt_cutW (ws : List Str) (lo hi : Option Int) : wtt (cutW ws lo hi) ≤ wtt ws := Nat.le_trans (wtt_take _ _) (wtt_drop _ _)
theorem mem_cutW {ws : List Str} {lo hi : Option Int} {x : Str} (h : x ∈ cutW ws lo hi) : x ∈ ws := List.mem_of_mem_drop (List.mem_of_mem_take h)
theorem len_cutW (ws : List Str) (lo hi : Option Int) : (cutW ws lo hi).length ≤ ws.length := by
  unfold cutW
  rw [List.length_take, List.length_drop]
  omega
def spItem : Sp := fun vs H Q _ => ∃ t : Addr, vs = [.ref t] ∧ RuleAt H t ∧ ∀ H' r (ws : List Str), Same H H' → H' r = some (.lst (ws.map V.str)) → H r = none → ws.length ≤ 30 → (∀ w ∈ ws, w.length ≤ 12 ∧ asc w) → Q (.ref r) H'
def spSText (K : PySem.W.Frag) : Sp := fun vs H Q _ => ∃ (p c q : Addr) (n : Nat) (ts : List Addr), vs = [.ref p, .ref q] ∧ PenAt H p c n ∧ n + 100 < 1000000 ∧ SqL K H q (ts.map V.ref) ∧ ts.length ≤ 3 ∧ (∀ t ∈ ts, RuleAt H t) ∧
  ∀ H' x m, PenAt H' p c m → m ≤ n + 20 → KB p H H' → x.length ≤ 6100 → asc x → Q (.str x) H'
def spBent : Sp := fun vs H Q _ => ∃ (p c : Addr) (n size : Nat) (t : Str), vs = [.ref p, .str t, .int (size : Int)] ∧ PenAt H p c n ∧ n + 100 < 1000000 ∧ t.length ≤ 100000 ∧ asc t ∧ 1 ≤ size ∧ size ≤ 24 ∧
  ∀ H' x m, PenAt H' p c m → m ≤ n + 10 → KB p H H' → x.length ≤ 8 * t.length + 60 → asc x → Q (.str x) H'
section
variable {P : Program} {w : World} {K : PySem.W.Frag} {mg : Str → Option Value} {base : Heap}
theorem ok_item {f : Addr} {fd : FuncData} {k : Nat} (F : Fun K "_law_item_words" "_law_item_words" sItem f fd) (B : Bl mg) : FnOk P w K mg base CX0 (k + 1) f fd ["_law_rule"] spItem := by
  refine F.ok scItem (fun vs H Q E h => ?_) (fun cdv A outer s H vs Q E hr h => ?_)
  · obtain ⟨t, rfl, _⟩ := h
    rfl
  · obtain ⟨t, rfl, ⟨k, q0, its, e1, e2, e3, e4, e5, e6⟩, q⟩ := h
    refine ⟨_, C8.pss_cut (ps_if (pt_cmpR op_eq (pe_ix ix_tup (pv 0) pe_int (fun _ _ => rfl)) pe_str (nomark _)) (pss_one (ps_ret (pe_lc (own := [("_law_pair", 1)]) (g := gName 1) (by rfl) scItem.nd (pi_list (pe_ix ix_tup (pv 0) pe_int (fun _ _ => rfl))) (blkOk_by (own := [("_law_pair", 1)]) (N := ["_law_rule", "_law_pair", "_law_item"]) (sc := defScope sItem) (by decide +kernel)) (fun _ _ _ _ _ => pg_name (i := 1) scItem.nd rfl (.inl rfl)) (fun _ _ _ _ _ => pts_nil)
        (fun _ _ _ _ _ => pe_op op_add_str (pe_op op_add_str (pe_callTy call_str_int (by rfl) B.str bootS (pa_cons (pe_ix (r := rIxL K) ix_list (pv 1) pe_int (fun _ _ => rfl)) pa_nil)) pe_str) (pe_callTy call_str_int (by rfl) B.str bootS (pa_cons (pe_ix (r := rIxL K) ix_list (pv 1) pe_int (fun _ _ => rfl)) pa_nil)))))) pss_nil)
      (pss_one (ps_ret (pe_lc (own := [("_law_item", 2)]) (g := gName 2) (by rfl) scItem.nd (pi_list (pe_ix ix_tup (pv 0) pe_int (fun _ _ => rfl))) (blkOk_by (own := [("_law_item", 2)]) (N := ["_law_rule", "_law_pair", "_law_item"]) (sc := defScope sItem) (by decide +kernel)) (fun _ _ _ _ _ => pg_name (i := 2) scItem.nd rfl (.inl rfl)) (fun _ _ _ _ _ => pts_nil)
        (fun _ _ _ _ _ => pe_callTy cr_strE (by rfl) B.str bootS (pa_cons (pv 2) pa_nil))))), ?_⟩
    have i0 : atI [V.str k, V.ref q0] 0 = some (.str k) := atI_nat (j := 0) rfl
    have i1 : atI [V.str k, V.ref q0] 1 = some (.ref q0) := atI_nat (j := 1) rfl
    refine ⟨fun σ' H' => σ' = [some (.ref t), none, none] ∧ H' = H ∧ k ≠ "near", ?_, ?_⟩
    · refine ⟨_, rfl, t, _, _, _, rfl, rfl, SqT.of e1, i0, rfl, _, rfl, ite2 (fun e => ?_) (fun e => ⟨rfl, rfl, fun z => e (decide_eq_true (by rw [z]))⟩)⟩
      have hk : k = "near" := V.str.inj (of_decide_eq_true e)
      have hv := (e6.resolve_right fun z => z.1 hk).2
      refine ⟨_, rfl, t, _, _, _, rfl, rfl, SqT.of e1, i1, q0, rfl, ⟨_, SqL.of e4⟩, fun D nD => lc_list (K := K) (a := q0) (xs := its) (fun i H' => Same H H' ∧ ∃ ws : List Str, H' D = some (.lst (ws.map V.str)) ∧ ws.length = i ∧ ∀ w ∈ ws, w.length ≤ 12 ∧ asc w) ⟨same_new nD, [], upd_same, rfl, (fun _ z => by cases z)⟩ (fun i H' _ h' => SqL.of (h'.1 _ _ e4)) ?_ ?_⟩
      · rintro i v H1 hi ⟨s1, ws, d1, d2, d3⟩
        obtain ⟨r, a, b, rfl, er, ha, hb⟩ := hv v (List.mem_of_getElem? hi)
        obtain ⟨xa, ea, la, aa, lga⟩ := small_txt ha
        obtain ⟨xb, eb, lb, ab, lgb⟩ := small_txt hb
        have hil : i < its.length := (List.getElem?_eq_some_iff.mp hi).1
        have sq := SqL.of (K := K) (s1 _ _ er)
        refine ⟨rfl, _, rfl, r, _, _, _, rfl, rfl, sq, atI_nat (j := 0) rfl, _, rfl, lga, ?_⟩
        rw [ea]
        refine ⟨_, _, rfl, rfl, ?_, _, rfl, r, _, _, _, rfl, rfl, sq, atI_nat (j := 1) rfl, _, rfl, lgb, ?_⟩
        · rw [dash1]
          exact Nat.le_trans (show xa.length + 1 ≤ 10 by omega) (by decide)
        rw [eb]
        have l1 : (xa ++ "-" : Str).length ≤ 3 := by
          rw [len_app, dash1]
          omega
        refine ⟨_, _, rfl, rfl, Nat.le_trans (show (xa ++ "-" : Str).length + xb.length ≤ 10 by omega) (by decide), _, d1, ?_, same_upd s1 nD, ws ++ [xa ++ "-" ++ xb], ?_, ?_, fun w hw => ?_⟩
        · rw [List.length_map, d2]
          exact Nat.lt_of_le_of_lt (show i ≤ 30 by omega) (by decide)
        · rw [upd_same, List.map_append]
          rfl
        · rw [List.length_append, d2]
          rfl
        · rcases List.mem_append.mp hw with hw | hw
          · exact d3 w hw
          · rw [List.mem_singleton.mp hw]
            exact ⟨by rw [len_app]; omega, asc_app (asc_app aa (asc_lit (by decide +kernel))) ab⟩
      · rintro H1 ⟨s1, ws, d1, d2, d3⟩
        exact q _ D ws s1 d1 nD (by omega) d3
    rintro _ Hz ⟨rfl, eH, hk⟩
    have eH' := eH.symm
    subst eH'
    have hv := (e6.resolve_left fun z => hk z.1).2
    refine ⟨_, rfl, t, _, _, _, rfl, rfl, SqT.of e1, i1, q0, rfl, ⟨_, SqL.of e4⟩, fun D nD => lc_list (K := K) (a := q0) (xs := its) (fun i H' => Same H H' ∧ ∃ ws : List Str, H' D = some (.lst (ws.map V.str)) ∧ ws.length = i ∧ ∀ w ∈ ws, w.length ≤ 12 ∧ asc w) ⟨same_new nD, [], upd_same, rfl, (fun _ z => by cases z)⟩ (fun i H' _ h' => SqL.of (h'.1 _ _ e4)) ?_ ?_⟩
    · rintro i v H1 hi ⟨s1, ws, d1, d2, d3⟩
      have hil : i < its.length := (List.getElem?_eq_some_iff.mp hi).1
      have next : ∀ x : Str, x.length ≤ 12 → asc x → ∃ acc, H1 D = some (.lst acc) ∧ acc.length < sizeLine ∧ (Same H (upd H1 D (.lst (acc ++ [.str x]))) ∧ ∃ ws : List Str, (upd H1 D (.lst (acc ++ [.str x]))) D = some (.lst (ws.map V.str)) ∧ ws.length = i + 1 ∧ ∀ w ∈ ws, w.length ≤ 12 ∧ asc w) := by
        intro x lx ax
        refine ⟨_, d1, ?_, same_upd s1 nD, ws ++ [x], ?_, ?_, fun w hw => ?_⟩
        · rw [List.length_map, d2]
          exact Nat.lt_of_le_of_lt (show i ≤ 30 by omega) (by decide)
        · rw [upd_same, List.map_append]
          rfl
        · rw [List.length_append, d2]
          rfl
        · rcases List.mem_append.mp hw with hw | hw
          · exact d3 w hw
          · rw [List.mem_singleton.mp hw]
            exact ⟨lx, ax⟩
      rcases hv v (List.mem_of_getElem? hi) with ⟨a, rfl, ha⟩ | ⟨x, rfl, lx, ax⟩
      · obtain ⟨xa, ea, la, aa, lga⟩ := small_txt ha
        refine ⟨rfl, _, rfl, .inl ⟨a, rfl, lga, ?_⟩⟩
        rw [ea]
        exact next xa (by omega) aa
      · exact ⟨rfl, _, rfl, .inr ⟨x, rfl, next x lx ax⟩⟩
    · rintro H1 ⟨s1, ws, d1, d2, d3⟩
      exact q _ D ws s1 d1 nD (by omega) d3
theorem ok_stext {f fD fI : Addr} {fd dD dI : FuncData} {k : Nat} (F : Fun K "_law_sort_text" "_law_sort_text" sSText f fd) (FD : Fun K "_law_draw" "_law_draw" sDraw fD dD) (bD : Binds K dD ["_law_pen_here", "_law_many"] []) (gD : mg "_law_draw" = some (.ref fD))
    (FI : Fun K "_law_item_words" "_law_item_words" sItem fI dI) (bI : Binds K dI ["_law_rule"] []) (gI : mg "_law_item_words" = some (.ref fI)) (B : Bl mg) : FnOk P w K mg base CX0 (k + 2) f fd ["_law_pen_here", "_law_rules"] (spSText K) := by
  have GD : FnOk P w K mg base CX0 (k + 1) fD dD ["_law_pen_here", "_law_many"] spDraw := ok_draw FD B.int B.len
  have GI : FnOk P w K mg base CX0 (k + 1) fI dI ["_law_rule"] spItem := ok_item FI B
  refine F.ok scSText (fun vs H Q E h => ?_) (fun cdv A outer s H vs Q E hr h => ?_)
  · obtain ⟨p, c, q0, n, ts, rfl, _⟩ := h
    rfl
  · obtain ⟨p, c, q0, n, ts, rfl, hP, hn, hS, hl, hR, q⟩ := h
    refine ⟨_, (C8.pss_cut (ps_set (i := 2) scSText.nd rfl (.inl rfl) (pe_lst pa_nil))
      (C8.pss_cut (ps_for PassesOwn.never rfl (pi_list (pv 1)) (pg_name (i := 3) scSText.nd rfl (.inl rfl))
        (C8.pss_cut (ps_set (i := 4) scSText.nd rfl (.inl rfl) (pe_op op_mul_sign0 pe_str (pe_op op_add pe_int (pe_call GD hr (by rfl) gD FD.kp bD .nil pass0 (pa_cons (pv 0) (pa_cons pe_int pa_nil))))))
        (C8.pss_cut (ps_expr (pe_bm PySem.F.plainAttrs_list PySem.F.slot_list_append PySem.F.type_list_append mt_append (pv 2) (pa_cons (pe_op op_add_str (pe_op op_add_str (pe_op op_mul_sign0 pe_str (pe_call GD hr (by rfl) gD FD.kp bD .nil pass0 (pa_cons (pv 0) (pa_cons pe_int pa_nil)))) (pe_join (pv 4) (pe_op op_cat (pe_lst (pa_cons (pe_ix ix_tup (pv 3) pe_int (fun _ _ => rfl)) pa_nil)) (pe_call GI hr (by rfl) gI FI.kp bI .nil pass0 (pa_cons (pv 3) pa_nil))))) (pe_op op_mul_sign0 pe_str (pe_call GD hr (by rfl) gD FD.kp bD .nil pass0 (pa_cons (pv 0) (pa_cons pe_int pa_nil))))) pa_nil)))
        (pss_one (ps_if (pt_cmpR op_eq (pe_call GD hr (by rfl) gD FD.kp bD .nil pass0 (pa_cons (pv 0) (pa_cons pe_int pa_nil))) pe_int (nomark _)) (pss_one (ps_expr (pe_bm PySem.F.plainAttrs_list PySem.F.slot_list_append PySem.F.type_list_append mt_append (pv 2) (pa_cons (pe_op op_mul_sign0 pe_str (pe_call GD hr (by rfl) gD FD.kp bD .nil pass0 (pa_cons (pv 0) (pa_cons pe_int pa_nil)))) pa_nil)))) pss_nil)))))
      (pss_one (ps_ret (pe_join pe_str (pv 2)))))), ?_⟩
    obtain ⟨kv, hp⟩ := pen_dict hP
    refine ⟨fun σ' H' => ∃ L, σ' = [some (.ref p), some (.ref q0), some (.ref L), none, none] ∧ Same H H' ∧ H' L = some (.lst []) ∧ H L = none, ?_, ?_⟩
    · exact ⟨by show 0 ≤ sizeLine; decide, fun L nL => ⟨L, rfl, same_new nL, upd_same, nL⟩⟩
    rintro _ H1 ⟨L, rfl, s1, eL, nL⟩
    have hLp : L ≠ p := fun z => by rw [z, hp] at nL; cases nL
    refine ⟨fun σ' H' => ∃ (a b : Option V) (ls : List Str) (m : Nat), σ' = [some (.ref p), some (.ref q0), some (.ref L), a, b] ∧ PenAt H' p c m ∧ m ≤ n + 20 ∧ KB p H H' ∧ H' L = some (.lst (ls.map V.str)) ∧ ls.length ≤ 6 ∧ ∀ x ∈ ls, x.length ≤ 1000 ∧ asc x, ?_, ?_⟩
    rotate_left
    · rintro _ H2 ⟨a, b, ls, m, rfl, hP2, hm, kb2, e2, l2, a2⟩
      have hw : wtt ls ≤ 6006 := Nat.le_trans (wtt_bound fun x hx => (a2 x hx).1) (by omega)
      have e1 : ("\n" : Str).length = 1 := by decide +kernel
      refine ⟨⟨_, rfl⟩, _, rfl, "\n", L, ls, rfl, rfl, .inl (SqL.of e2), ?_, q H2 _ m hP2 hm kb2 (Nat.le_trans (join_len1 (by rw [e1]; exact Nat.le_refl _)) (by omega)) (asc_join (asc_lit (by decide +kernel)) fun x hx => (a2 x hx).2)⟩
      have := sum_sep 1 (by decide) ls
      rw [e1]
      omega
    refine ⟨_, rfl, q0, rfl, ⟨_, s1.seq hS⟩, for_list (K := K) (a := q0) (xs := ts.map V.ref) (fun i σ' H' => ∃ (a b : Option V) (ls : List Str) (m : Nat), σ' = [some (.ref p), some (.ref q0), some (.ref L), a, b] ∧ PenAt H' p c m ∧ m ≤ n + 6 * i ∧ KB p H H' ∧ H' L = some (.lst (ls.map V.str)) ∧ ls.length ≤ 2 * i ∧ ∀ x ∈ ls, x.length ≤ 1000 ∧ asc x)
      ⟨none, none, [], n, rfl, hP.ext s1, by omega, KB.of s1, eL, Nat.le_refl _, fun _ z => by cases z⟩ (fun i σ' H' _ ⟨a, b, ls, m, _, _, _, kb', _⟩ => ?_) ?_ ?_⟩
    · rcases hS with (h | ⟨ob, h⟩) | h
      · exact .inl (.inl (kb' _ _ h (ne_of h hp (by intro z; cases z))))
      · exact .inl (.inr ⟨ob, kb' _ _ h (ne_of h hp (by intro z; cases z))⟩)
      · exact .inr h
    rotate_left
    · rintro _ H2 ⟨a, b, ls, m, rfl, hP2, hm, kb2, e2, l2, a2⟩
      rw [List.length_map] at hm l2
      exact ⟨a, b, ls, m, rfl, hP2, by omega, kb2, e2, by omega, a2⟩
    rintro i v _ H2 hi ⟨a, b, ls, m, rfl, hP2, hm, kb2, e2, l2, a2⟩
    rw [List.getElem?_map] at hi
    cases hti : ts[i]? with
    | none => rw [hti] at hi; cases hi
    | some t =>
      rw [hti] at hi
      cases hi
      have hil : i < ts.length := (List.getElem?_eq_some_iff.mp hti).1
      have hRt := (hR t (List.mem_of_getElem? hti)).kb hp kb2
      have esp : TL.tl (" " : Str) = [32] := by decide +kernel
      have rep : ∀ j : Nat, j ≤ 3 → (⟨(List.replicate j 32).toArray⟩ : Str).length ≤ 3 ∧ asc ⟨(List.replicate j 32).toArray⟩ := fun j hj => by
        refine ⟨by rw [mS_len, List.length_replicate]; exact hj, fun c' hc' => ?_⟩
        have : c' ∈ List.replicate j 32 := by simpa [TL.tl] using hc'
        rw [(List.mem_replicate.mp this).2]
        decide
      -- the gap
      refine ⟨fun σ' H' => ∃ (g : Str) (m' : Nat), σ' = [some (.ref p), some (.ref q0), some (.ref L), some (.ref t), some (.str g)] ∧ PenAt H' p c m' ∧ m' ≤ n + 6 * i + 1 ∧ KB p H2 H' ∧ g.length ≤ 2 ∧ asc g, ?_, ?_⟩
      · refine ⟨_, rfl, p, c, m, 2, rfl, hP2, by omega, by decide, by decide, fun y H3 y0 y1 hP3 k3 => ?_⟩
        obtain ⟨j, rfl⟩ : ∃ j : Nat, y = (j : Int) := ⟨y.toNat, by omega⟩
        refine ⟨_, _, rfl, rfl, 32, 1 + j, ?_, ?_, by omega, _, m + 1, rfl, hP3, by omega, KB.eq k3, ?_, (rep (1 + j) (by omega)).2⟩
        · rw [e_sp]
        · show V.int (1 + (j : Int)) = V.int ((1 + j : Nat) : Int)
          congr 1
        · rw [mS_len, List.length_replicate]
          omega
      rintro _ H3 ⟨g, m3, rfl, hP3, hm3, kb3, lg, ag⟩
      obtain ⟨kv2, hp2⟩ := pen_dict hP2
      have e3 : H3 L = some (.lst (ls.map V.str)) := kb3 _ _ e2 hLp
      have hRt3 := hRt.kb hp2 kb3
      obtain ⟨kd, qq, its, t1, t2, t3, t4⟩ := id hRt3
      -- the line
      refine ⟨fun σ' H' => ∃ (x : Str) (m' : Nat), σ' = [some (.ref p), some (.ref q0), some (.ref L), some (.ref t), some (.str g)] ∧ PenAt H' p c m' ∧ m' ≤ n + 6 * i + 3 ∧ KB p H H' ∧ H' L = some (.lst ((ls ++ [x]).map V.str)) ∧ x.length ≤ 1000 ∧ asc x, ?_, ?_⟩
      · refine ⟨_, rfl, .inl ⟨rfl, _, SqL.of e3⟩, _, rfl, p, c, m3, 2, rfl, hP3, by omega, by decide, by decide, fun y H4 y0 y1 hP4 k4 => ?_⟩
        obtain ⟨j, rfl⟩ : ∃ j : Nat, y = (j : Int) := ⟨y.toNat, by omega⟩
        obtain ⟨kv3, hp3⟩ := pen_dict hP3
        obtain ⟨kv4, hp4⟩ := pen_dict hP4
        have hRt4 := hRt3.kb hp3 (KB.eq k4)
        have tne : t ≠ p := ne_of t1 hp3 (by intro z; cases z)
        refine ⟨32, j, by rw [e_sp], rfl, by omega, _, rfl, ⟨_, rfl⟩, _, rfl, t, _, _, _, rfl, rfl, SqT.of ((k4 t tne).trans t1), atI_nat (j := 0) rfl, by show 1 ≤ sizeLine; decide, fun r1 n1 => ⟨_, rfl, t, rfl, hRt4.kb hp4 (KB.of (same_new n1)), fun H5 r2 ws s5 er2 nr2 lws hws => ?_⟩⟩
        have s45 : Same H4 H5 := (same_new n1).trans s5
        have er1 : H5 r1 = some (.lst [.str kd]) := s5 _ _ upd_same
        refine ⟨r1, r2, _, _, rfl, rfl, er1, er2, ?_, fun r3 n3 => ?_⟩
        · rw [List.length_map]
          exact Nat.le_trans (show 1 + ws.length ≤ 31 by omega) (by decide)
        have hwt : wtt (kd :: ws) ≤ 400 := by
          rw [wtt_cons]
          have := wtt_bound fun x hx => (hws x hx).1
          have h2 : ws.length * (12 + 1) ≤ 30 * 13 := Nat.mul_le_mul lws (Nat.le_refl _)
          omega
        have hjl : (Txt.join g (kd :: ws)).length ≤ 800 := Nat.le_trans (join_len lg) (by omega)
        have hja : asc (Txt.join g (kd :: ws)) := asc_join ag fun x hx => by
          rcases List.mem_cons.mp hx with rfl | hx
          · exact t3
          · exact (hws x hx).2
        refine ⟨g, r3, kd :: ws, rfl, rfl, .inl (SqL.of upd_same), ?_, ?_⟩
        · have h1 := sum_sep 2 (by decide) (kd :: ws)
          have h2 : (kd :: ws).length * g.length ≤ (kd :: ws).length * 2 := Nat.mul_le_mul (Nat.le_refl _) lg
          omega
        have hP5 := hP4.ext (same_upd (o := .lst ([V.str kd] ++ ws.map V.str)) s45 (none_back s45 n3))
        have kb5 : KB p H3 (upd H5 r3 (.lst ([V.str kd] ++ ws.map V.str))) := (KB.eq k4).sm (same_upd s45 (none_back s45 n3))
        generalize upd H5 r3 (.lst ([V.str kd] ++ ws.map V.str)) = H6 at hP5 kb5
        have rj := rep j (by omega)
        refine ⟨_, _, rfl, rfl, ?_, ?_⟩
        · exact Nat.le_trans (show _ + _ ≤ 803 by omega) (by decide)
        refine ⟨_, rfl, p, c, m3 + 1, 2, rfl, hP5, by omega, by decide, by decide, fun y2 H7 z0 z1 hP7 k7 => ?_⟩
        obtain ⟨j2, rfl⟩ : ∃ j2 : Nat, y2 = (j2 : Int) := ⟨y2.toNat, by omega⟩
        have rj2 := rep j2 (by omega)
        have kb7 : KB p H3 H7 := kb5.trans (KB.eq k7)
        refine ⟨32, j2, by rw [e_sp], rfl, by omega, _, _, rfl, rfl, ?_, ?_⟩
        · rw [len_app]
          exact Nat.le_trans (show _ + _ + _ ≤ 806 by omega) (by decide)
        refine ⟨L, _, _, rfl, rfl, kb7 _ _ e3 hLp, ?_, ?_⟩
        · rw [List.length_map]
          exact Nat.lt_of_le_of_lt (show ls.length ≤ 6 by omega) (by decide)
        refine ⟨_, m3 + 1 + 1, rfl, ?_, by omega, ?_, ?_, ?_, asc_app (asc_app rj.2 hja) rj2.2⟩
        · refine hP7.same (by rw [upd_ne hLp.symm]) ?_
          obtain ⟨ns, a0, d0, f0, ep, ec, _⟩ := hP
          rw [upd_ne (ne_of_none ec nL)]
        · intro b' o' e' hb'
          rw [upd_ne (ne_of_none e' nL)]
          exact kb7 _ _ (kb3 _ _ (kb2 _ _ e' hb') hb') hb'
        · rw [upd_same, List.map_append]
          rfl
        · rw [len_app, len_app]
          omega
      rintro _ H4 ⟨x, m4, rfl, hP4, hm4, kb4, e4, lx, ax⟩
      -- an empty one
      have old : ∀ y ∈ ls ++ [x], y.length ≤ 1000 ∧ asc y := fun y hy => by
        rcases List.mem_append.mp hy with z | z
        · exact a2 y z
        · rw [List.mem_singleton.mp z]
          exact ⟨lx, ax⟩
      have lold : (ls ++ [x]).length ≤ 2 * i + 1 := by
        rw [List.length_append]
        exact Nat.succ_le_succ l2
      refine ⟨_, rfl, p, c, m4, 4, rfl, hP4, by omega, by decide, by decide, fun y H5 y0 y1 hP5 k5 => ⟨rfl, _, rfl, ite2 (fun _ => ?_) (fun _ => ?_)⟩⟩
      · have e5 : H5 L = some (.lst ((ls ++ [x]).map V.str)) := (k5 L hLp).trans e4
        refine ⟨_, rfl, .inl ⟨rfl, _, SqL.of e5⟩, _, rfl, p, c, m4 + 1, 3, rfl, hP5, by omega, by decide, by decide, fun y2 H6 z0 z1 hP6 k6 => ?_⟩
        obtain ⟨j2, rfl⟩ : ∃ j2 : Nat, y2 = (j2 : Int) := ⟨y2.toNat, by omega⟩
        have rj2 := rep j2 (by omega)
        have kb6 : KB p H H6 := (kb4.trans (KB.eq k5)).trans (KB.eq k6)
        refine ⟨32, j2, by rw [e_sp], rfl, by omega, L, _, _, rfl, rfl, (k6 L hLp).trans e5, ?_, ?_⟩
        · rw [List.length_map]
          exact Nat.lt_of_le_of_lt (show (ls ++ [x]).length ≤ 7 by omega) (by decide)
        refine ⟨_, _, (ls ++ [x]) ++ [⟨(List.replicate j2 32).toArray⟩], m4 + 1 + 1, rfl, ?_, by omega, ?_, ?_, ?_, fun y hy => ?_⟩
        · refine hP6.same (by rw [upd_ne hLp.symm]) ?_
          obtain ⟨ns, a0, d0, f0, ep, ec, _⟩ := hP
          rw [upd_ne (ne_of_none ec nL)]
        · intro b' o' e' hb'
          rw [upd_ne (ne_of_none e' nL)]
          exact kb6 _ _ e' hb'
        · simp only [upd_same, List.map_append]
          rfl
        · rw [List.length_append]
          show (ls ++ [x]).length + 1 ≤ 2 * (i + 1)
          omega
        · rcases List.mem_append.mp hy with z | z
          · exact old y z
          · rw [List.mem_singleton.mp z]
            exact ⟨by omega, rj2.2⟩
      · exact ⟨_, _, ls ++ [x], m4 + 1, rfl, hP5, by omega, kb4.trans (KB.eq k5), (k5 L hLp).trans e4, by omega, old⟩
end
end KQ

namespace KQ
open PySem PySem.Spec PyProof.Rows L2
/-! ### a text with one word changed -/
def more13 : List Str := ["X", "XX", "XYZ", "xz", "I", "Weight", "1-", "0-1-2", "+1", "99", "1\t", "letters", "within"]
theorem more13_ok : ∀ x ∈ more13, x.length ≤ 11 ∧ x.cps.toList.all (· < 128) = true := by decide +kernel
section
variable {P : Program} {w : World} {K : PySem.W.Frag} {mg : Str → Option Value} {base : Heap}
theorem ok_bent {f fD fP : Addr} {fd dD dP : FuncData} {k : Nat} (F : Fun K "_law_bent" "_law_bent" sBent f fd) (FD : Fun K "_law_draw" "_law_draw" sDraw fD dD) (bD : Binds K dD ["_law_pen_here", "_law_many"] []) (gD : mg "_law_draw" = some (.ref fD))
    (FP : Fun K "_law_pick" "_law_pick" sPick fP dP) (bP : Binds K dP ["_law_pen_here", "_law_some"] []) (gP : mg "_law_pick" = some (.ref fP)) (B : Bl mg) : FnOk P w K mg base CX0 (k + 3) f fd ["_law_pen_here", "_law_text", "_law_size"] spBent := by
  have GD : FnOk P w K mg base CX0 (k + 1) fD dD ["_law_pen_here", "_law_many"] spDraw := ok_draw FD B.int B.len
  have GP : FnOk P w K mg base CX0 (k + 2) fP dP ["_law_pen_here", "_law_some"] (spPick K) := ok_pick FP FD bD gD B.int B.len
  refine F.ok scBent (fun vs H Q E h => ?_) (fun cdv A outer s H vs Q E hr h => ?_)
  · obtain ⟨p, c, n, size, t, rfl, _⟩ := h
    rfl
  · obtain ⟨p, c, n, size, t, rfl, hP, hn, hz, ha, hs1, hs, q⟩ := h
    have r1 : Room (k + 1) _ := hr.mono (by omega)
    refine ⟨_, (C8.pss_cut (ps_set (i := 3) scBent.nd rfl (.inl rfl) (pe_split (pv 1) pe_str))
      (C8.pss_cut (ps_set (i := 4) scBent.nd rfl (.inl rfl) (pe_call GD r1 (by rfl) gD FD.kp bD .nil pass0 (pa_cons (pv 0) (pa_cons (pe_callB call_len_seq (by rfl) B.len PySem.boot_len (pa_cons (pv 3) pa_nil)) pa_nil))))
      (C8.pss_cut (ps_setLc (wi := iList K (tM1 (fun x xs H Q => ∃ a b, x = .str a ∧ xs = [.str b] ∧ (b.length == 0) = false ∧ a.length + 2 ≤ sizeLine ∧ rNewStrs (Txt.split a b) H Q) (tOp (rIxL K) (tVar 3) (tVar 4)) (tC (.str " ")))) (i := 5) (own := [("_law_word", 10)]) (g := gName 10) (tt := tTest (tOp rNe (tVar 10) (tC (.str "")))) (by rfl) scBent.nd rfl rfl (sw_true rfl rfl rfl (by decide +kernel)) (pi_list (pe_split (pe_ix ix_list (pv 3) (pv 4) (fun _ _ => rfl)) pe_str)) (blkOk_by (own := [("_law_word", 10)]) (N := ["_law_pen_here", "_law_text", "_law_size", "_law_lines", "_law_at", "_law_words", "_law_k", "_law_some", "_law_odd", "_law_way", "_law_word"]) (sc := defScope sBent) (by decide +kernel))
          (fun _ _ _ _ _ => pg_name (i := 10) scBent.nd rfl (Or.inl rfl)) (fun _ _ _ _ _ => pts_one (pt_cmpR op_ne (pv 10) pe_str (nomark _))) (fun _ _ _ _ _ => pv 10))
      (C8.pss_cut (ps_set (i := 6) scBent.nd rfl (.inl rfl) (pe_call GD r1 (by rfl) gD FD.kp bD .nil pass0 (pa_cons (pv 0) (pa_cons (pe_op op_add (pe_callB call_len_seq (by rfl) B.len PySem.boot_len (pa_cons (pv 5) pa_nil)) pe_int) pa_nil))))
      (C8.pss_cut (ps_set (i := 7) scBent.nd rfl (.inl rfl) (pe_lst (pa_cons pe_str (pa_cons pe_str (pa_cons pe_str (pa_cons pe_str (pa_cons pe_str (pa_cons (pe_callTy call_str_int (by rfl) B.str bootS (pa_cons (pv 2) pa_nil)) (pa_cons (pe_callTy call_str_int (by rfl) B.str bootS (pa_cons (pe_op op_sub (pv 2) pe_int) pa_nil)) (pa_cons pe_str (pa_cons pe_str (pa_cons pe_str (pa_cons pe_str (pa_cons pe_str (pa_cons pe_str pa_nil)))))))))))))))
      (C8.pss_cut (ps_set (i := 7) scBent.nd rfl (.inl rfl) (pe_op op_cat (pv 7) (pe_lst (pa_cons pe_str (pa_cons pe_str (pa_cons pe_str (pa_cons pe_str (pa_cons pe_str (pa_cons pe_str (pa_cons pe_str (pa_cons pe_str (pa_cons pe_str (pa_cons pe_str (pa_cons pe_str (pa_cons pe_str (pa_cons pe_str pa_nil))))))))))))))))
      (C8.pss_cut (ps_set (i := 8) scBent.nd rfl (.inl rfl) (pe_call GP hr (by rfl) gP FP.kp bP .nil pass0 (pa_cons (pv 0) (pa_cons (pv 7) pa_nil))))
      (C8.pss_cut (ps_set (i := 9) scBent.nd rfl (.inl rfl) (pe_call GD r1 (by rfl) gD FD.kp bD .nil pass0 (pa_cons (pv 0) (pa_cons pe_int pa_nil))))
      (C8.pss_cut (ps_if (pt_cmpR op_eq (pv 9) pe_int (nomark _)) (pss_one (ps_set (i := 5) scBent.nd rfl (.inl rfl) (pe_op op_cat (pe_op op_cat (pe_slice sl_list (pv 5) po_none (po_some (pv 6))) (pe_lst (pa_cons (pv 8) pa_nil))) (pe_slice sl_list (pv 5) (po_some (pv 6)) po_none))))
        (pss_one (ps_if (pt_cmpR op_eq (pv 9) pe_int (nomark _)) (pss_one (ps_set (i := 5) scBent.nd rfl (.inl rfl) (pe_op op_cat (pe_slice sl_list (pv 5) po_none (po_some (pv 6))) (pe_slice sl_list (pv 5) (po_some (pe_op op_add (pv 6) pe_int)) po_none))))
        (pss_one (ps_if (pt_cmpR op_eq (pv 9) pe_int (nomark _)) (pss_one (ps_set (i := 5) scBent.nd rfl (.inl rfl) (pe_op op_cat (pe_op op_cat (pe_slice sl_list (pv 5) po_none (po_some (pv 6))) (pe_lst (pa_cons (pv 8) pa_nil))) (pe_slice sl_list (pv 5) (po_some (pe_op op_add (pv 6) pe_int)) po_none))))
        (pss_one (ps_set (i := 5) scBent.nd rfl (.inl rfl) (pe_op op_cat (pe_op op_cat (pe_slice sl_list (pv 5) po_none (po_some (pv 6))) (pe_slice sl_list (pe_slice sl_list (pv 5) po_none (po_some (pv 6))) (po_some (pe_un un_neg pe_int)) po_none)) (pe_slice sl_list (pv 5) (po_some (pv 6)) po_none)))))))))
      (pss_one (ps_ret (pe_join pe_str (pe_op op_cat (pe_op op_cat (pe_slice sl_list (pv 3) po_none (po_some (pv 4))) (pe_lst (pa_cons (pe_join pe_str (pv 5)) pa_nil))) (pe_slice sl_list (pv 3) (po_some (pe_op op_add (pv 4) pe_int)) po_none)))))))))))))), ?_⟩
    have hnl : ("\n" : Str).length = 1 := by decide +kernel
    have hwl : wtt (Txt.split t "\n") = t.length + 1 := by
      rw [e_nl]
      exact wtt_split t (by decide)
    have hla : ∀ l ∈ Txt.split t "\n", asc l := fun l hl => by
      rw [e_nl] at hl
      exact asc_split (by decide) ha l hl
    have hll := wtt_len (Txt.split t "\n")
    generalize els : Txt.split t "\n" = ls at hwl hla hll
    have hpos : 0 < ls.length := by
      cases ls with
      | nil => rw [wtt_nil] at hwl; omega
      | cons a b => exact Nat.succ_pos _
    let σ0 : Addr → List (Option V) → List (Option V) := fun L r => [some (.ref p), some (.str t), some (.int (size : Nat)), some (.ref L)] ++ r
    refine ⟨fun σ' H' => ∃ L, σ' = σ0 L [none, none, none, none, none, none, none] ∧ PenAt H' p c n ∧ KB p H H' ∧ H' L = some (.lst (ls.map V.str)) ∧ L ≠ p, ?_, ?_⟩
    · refine ⟨_, rfl, ⟨_, rfl⟩, _, _, rfl, rfl, by decide +kernel, mil (by omega), fun L nL => ⟨L, rfl, hP.ext (same_new nL), KB.of (same_new nL), by rw [upd_same, els], fun z => ?_⟩⟩
      obtain ⟨kv, hp⟩ := pen_dict hP
      rw [z, hp] at nL
      cases nL
    rintro _ H1 ⟨L, rfl, hP1, kb1, eL, hLp⟩
    refine ⟨fun σ' H' => ∃ at' : Nat, at' < ls.length ∧ σ' = σ0 L [some (.int (at' : Nat)), none, none, none, none, none, none] ∧ PenAt H' p c (n + 1) ∧ KB p H H' ∧ H' L = some (.lst (ls.map V.str)), ?_, ?_⟩
    · refine ⟨_, rfl, _, rfl, _, _, rfl, .inl (SqL.of eL), p, c, n, _, rfl, hP1, by omega, ?_, ?_, fun y H2 y0 y1 hP2 k2 => ?_⟩
      · rw [List.length_map]
        omega
      · rw [Int.natAbs_natCast, List.length_map]
        exact Nat.lt_of_le_of_lt (show ls.length ≤ 100001 by omega) (by decide)
      rw [List.length_map] at y1
      obtain ⟨j, rfl⟩ : ∃ j : Nat, y = (j : Int) := ⟨y.toNat, by omega⟩
      exact ⟨j, by omega, rfl, hP2, kb1.trans (KB.eq k2), (k2 L hLp).trans eL⟩
    rintro _ H2 ⟨at', hat, rfl, hP2, kb2, eL2⟩
    have hrowx : ls[at']? = some ls[at'] := List.getElem?_eq_getElem hat
    generalize hrow : ls[at'] = row at hrowx
    have hrm : row ∈ ls := List.mem_of_getElem? hrowx
    have hra := hla row hrm
    have hrl : row.length + 1 ≤ t.length + 1 := by
      rw [← hwl]
      exact wtt_mem hrm
    have ww : wtt (wordsOf row) ≤ t.length + 1 := Nat.le_trans (words_wtt row) hrl
    have wa : ∀ x ∈ wordsOf row, asc x := fun x hx => by
      have hm := (List.mem_filter.mp hx).1
      rw [e_sp] at hm
      exact asc_split (by decide) hra x hm
    -- the words
    refine ⟨fun σ' H' => ∃ (d : Option V) (D : Addr), σ' = σ0 L [some (.int (at' : Nat)), some (.ref D), none, none, none, none, d] ∧ Same H2 H' ∧ H' D = some (.lst ((wordsOf row).map V.str)), ?_, ?_⟩
    · refine ⟨_, rfl, _, rfl, L, _, _, _, rfl, rfl, SqL.of eL2, atI_nat (j := at') (by rw [List.getElem?_map, hrowx]; rfl), ⟨_, rfl⟩, _, _, rfl, rfl, by decide +kernel, mil (by omega), fun r nr => ⟨r, rfl, ⟨_, SqL.of upd_same⟩, fun D nD => ?_⟩⟩
      have hDr : D ≠ r := fun z => by rw [z, upd_same] at nD; cases nD
      have nD4 := none_back (same_new nr) nD
      refine lc_list (K := K) (a := r) (xs := (Txt.split row " ").map V.str) (fun j H' => Same H2 H' ∧ H' r = some (.lst ((Txt.split row " ").map V.str)) ∧ H' D = some (.lst ((((Txt.split row " ").take j).filter neE).map V.str)))
        ⟨same_upd (same_new nr) (none_back (same_new nr) nD), by rw [upd_ne hDr.symm, upd_same], upd_same⟩ (fun j H' _ h' => SqL.of h'.2.1) ?_ ?_
      · rintro j x H5 hj ⟨s5, er5, eD5⟩
        rw [List.getElem?_map] at hj
        cases hxj : (Txt.split row " ")[j]? with
        | none => rw [hxj] at hj; cases hj
        | some wj =>
          rw [hxj] at hj
          cases hj
          have hjl : j < (Txt.split row " ").length := (List.getElem?_eq_some_iff.mp hxj).1
          have hsl : (Txt.split row " ").length ≤ 100001 := by
            have h1 := wtt_len (Txt.split row " ")
            have h2 := wtt_split row (c := 32) (by decide)
            rw [← e_sp] at h2
            omega
          refine ⟨rfl, _, rfl, rfl, _, rfl, ?_⟩
          rw [ne_neE]
          have fs := filt_step neE hxj
          cases hne : neE wj with
          | true =>
            rw [if_pos hne] at fs
            refine ⟨_, rfl, _, eD5, ?_, fun b o e => ?_, ?_, ?_⟩
            · rw [List.length_map]
              refine Nat.lt_of_le_of_lt (List.length_filter_le _ _) ?_
              rw [List.length_take]
              exact Nat.lt_of_lt_of_le (show min j _ < 1000010 by omega) (by decide)
            · rw [upd_ne (ne_of_none e nD4)]
              exact s5 _ _ e
            · rw [upd_ne hDr.symm]
              exact er5
            · rw [upd_same, fs, List.map_append]
              rfl
          | false =>
            rw [if_neg (by rw [hne]; exact Bool.false_ne_true)] at fs
            exact ⟨s5, er5, by rw [fs]; exact eD5⟩
      · rintro H5 ⟨s5, er5, eD5⟩
        rw [List.length_map, List.take_length] at eD5
        exact ⟨_, D, rfl, s5, eD5⟩
    rintro _ H3 ⟨d', D, rfl, s3, eD⟩
    generalize wordsOf row = ws at ww wa eD
    have hwsl := wtt_len ws
    have hP3 := hP2.ext s3
    have kb3 := kb2.sm s3
    have eL3 := s3 _ _ eL2
    have hDp : D ≠ p := by
      obtain ⟨kv, hp⟩ := pen_dict hP3
      exact ne_of eD hp (by intro z; cases z)
    -- where
    refine ⟨fun σ' H' => ∃ kk : Nat, kk ≤ ws.length ∧ σ' = σ0 L [some (.int (at' : Nat)), some (.ref D), some (.int (kk : Nat)), none, none, none, d'] ∧ PenAt H' p c (n + 2) ∧ KB p H H' ∧ H' L = some (.lst (ls.map V.str)) ∧ H' D = some (.lst (ws.map V.str)), ?_, ?_⟩
    · refine ⟨_, rfl, _, rfl, _, _, rfl, .inl (SqL.of eD), _, _, rfl, rfl, p, c, n + 1, _, rfl, hP3, by omega, by omega, ?_, fun y H4 y0 y1 hP4 k4 => ?_⟩
      · rw [List.length_map]
        exact Nat.lt_of_le_of_lt (show ((ws.length : Int) + 1).natAbs ≤ 100002 by omega) (by decide)
      rw [List.length_map] at y1
      obtain ⟨j, rfl⟩ : ∃ j : Nat, y = (j : Int) := ⟨y.toNat, by omega⟩
      exact ⟨j, by omega, rfl, hP4, kb3.trans (KB.eq k4), (k4 L hLp).trans eL3, (k4 D hDp).trans eD⟩
    rintro _ H4 ⟨kk, hkk, rfl, hP4, kb4, eL4, eD4⟩
    clear s3 hP3 kb3 eL3 eD
    -- words to choose from
    refine ⟨fun σ' H' => ∃ (S : Addr) (so : List Str), σ' = σ0 L [some (.int (at' : Nat)), some (.ref D), some (.int (kk : Nat)), some (.ref S), none, none, d'] ∧ Same H4 H' ∧ H' S = some (.lst (so.map V.str)) ∧ so.length = 13 ∧ ∀ x ∈ so, x.length ≤ 11 ∧ asc x, ?_, ?_⟩
    · obtain ⟨xa, ea, la, aa, lga⟩ := small_txt (i := (size : Nat)) ⟨by omega, by omega⟩
      obtain ⟨xb, eb, lb, ab, lgb⟩ := small_txt (i := (size : Nat) - 1) ⟨by omega, by omega⟩
      refine ⟨_, rfl, _, rfl, lga, ?_⟩
      rw [ea]
      refine ⟨_, rfl, _, _, rfl, rfl, _, rfl, lgb, ?_⟩
      rw [eb]
      refine ⟨by show 13 ≤ sizeLine; decide, fun S nS => ⟨S, ["weight", "near", "run", "0", "1", xa, xb, "00", "01", "-1", "0-0", "0-1", "1-0"], rfl, same_new nS, upd_same, rfl, fun x hx => ?_⟩⟩
      simp only [List.mem_cons, List.mem_nil_iff, or_false] at hx
      rcases hx with rfl | rfl | rfl | rfl | rfl | rfl | rfl | rfl | rfl | rfl | rfl | rfl | rfl
      all_goals first | exact ⟨by omega, by assumption⟩ | exact ⟨by decide +kernel, asc_lit (by decide +kernel)⟩
    rintro _ H5 ⟨S, so, rfl, s5, eS, lso, hso⟩
    refine ⟨fun σ' H' => ∃ (S : Addr) (so : List Str), σ' = σ0 L [some (.int (at' : Nat)), some (.ref D), some (.int (kk : Nat)), some (.ref S), none, none, d'] ∧ Same H4 H' ∧ H' S = some (.lst (so.map V.str)) ∧ so.length = 26 ∧ ∀ x ∈ so, x.length ≤ 11 ∧ asc x, ?_, ?_⟩
    · refine ⟨_, rfl, by show 13 ≤ sizeLine; decide, fun S2 n2 => ⟨S, S2, _, _, rfl, rfl, (same_new n2) _ _ eS, upd_same, ?_, fun S3 n3 => ⟨S3, so ++ more13, rfl, ?_, ?_, ?_, fun x hx => ?_⟩⟩⟩
      · rw [List.length_map, lso]
        show 13 + 13 ≤ sizeLine
        decide
      · exact same_upd (s5.trans (same_new n2)) (none_back (s5.trans (same_new n2)) n3)
      · rw [upd_same, List.map_append]
        rfl
      · rw [List.length_append, lso]
        rfl
      · rcases List.mem_append.mp hx with hx | hx
        · exact hso x hx
        · exact ⟨(more13_ok x hx).1, asc_lit (more13_ok x hx).2⟩
    clear s5 eS lso hso
    rintro _ H6 ⟨S, so, rfl, s6, eS, lso, hso⟩
    have hP6 := hP4.ext s6
    -- one of them
    refine ⟨fun σ' H' => ∃ od : Str, od.length ≤ 11 ∧ asc od ∧ σ' = σ0 L [some (.int (at' : Nat)), some (.ref D), some (.int (kk : Nat)), some (.ref S), some (.str od), none, d'] ∧ PenAt H' p c (n + 3) ∧ KB p H H' ∧ H' L = some (.lst (ls.map V.str)) ∧ H' D = some (.lst (ws.map V.str)), ?_, ?_⟩
    · refine ⟨_, rfl, _, rfl, p, c, S, n + 2, _, rfl, hP6, by omega, .inl (SqL.of eS), ?_, ?_, fun i v H7 hi hP7 k7 => ?_⟩
      · intro z
        have := congrArg List.length z
        rw [List.length_map, lso] at this
        cases this
      · rw [List.length_map, lso]
        decide
      rw [List.getElem?_map] at hi
      cases hx : so[i]? with
      | none => rw [hx] at hi; cases hi
      | some od =>
        rw [hx] at hi
        cases hi
        obtain ⟨l1, a1⟩ := hso od (List.mem_of_getElem? hx)
        exact ⟨od, l1, a1, rfl, hP7, (kb4.sm s6).trans (KB.eq k7), (k7 L hLp).trans (s6 _ _ eL4), (k7 D hDp).trans (s6 _ _ eD4)⟩
    rintro _ H7 ⟨od, lod, aod, rfl, hP7, kb7, eL7, eD7⟩
    clear s6 eS lso hso hP6
    refine ⟨fun σ' H' => ∃ wy : Int, σ' = σ0 L [some (.int (at' : Nat)), some (.ref D), some (.int (kk : Nat)), some (.ref S), some (.str od), some (.int wy), d'] ∧ PenAt H' p c (n + 4) ∧ KB p H H' ∧ H' L = some (.lst (ls.map V.str)) ∧ H' D = some (.lst (ws.map V.str)), ?_, ?_⟩
    · exact ⟨_, rfl, p, c, n + 3, 4, rfl, hP7, by omega, by decide, by decide, fun y H8 y0 y1 hP8 k8 => ⟨y, rfl, hP8, kb7.trans (KB.eq k8), (k8 L hLp).trans eL7, (k8 D hDp).trans eD7⟩⟩
    rintro _ H8 ⟨wy, rfl, hP8, kb8, eL8, eD8⟩
    -- the change
    refine ⟨fun σ' H' => ∃ (D' : Addr) (xs : List Str), σ' = σ0 L [some (.int (at' : Nat)), some (.ref D'), some (.int (kk : Nat)), some (.ref S), some (.str od), some (.int wy), d'] ∧ Same H8 H' ∧ H' D' = some (.lst (xs.map V.str)) ∧ wtt xs ≤ 2 * wtt ws + wtt ws + 12 ∧ ∀ x ∈ xs, asc x, ?_, ?_⟩
    · have lenW : ∀ lo hi, (cutV (ws.map V.str) lo hi).length ≤ 100001 := fun lo hi => Nat.le_trans (cutV_length _ _ _) (by rw [List.length_map]; omega)
      have big : ∀ {m : Nat}, m ≤ 400000 → m ≤ sizeLine := fun h => Nat.le_trans h (by decide)
      have cw := wtt_cutW ws
      refine ⟨_, rfl, rfl, _, rfl, ite2 (fun _ => ?_) (fun _ => ⟨_, rfl, rfl, _, rfl, ite2 (fun _ => ?_) (fun _ => ⟨_, rfl, rfl, _, rfl, ite2 (fun _ => ?_) (fun _ => ?_)⟩)⟩)⟩
      · refine ⟨_, rfl, _, rfl, _, rfl, D, _, rfl, SqL.of ((fun (b : Addr) (o : HO) (e : H8 b = some o) => e) _ _ eD8), fun a na => ⟨_, rfl, by show 1 ≤ sizeLine; decide, fun b nb => ⟨a, b, _, _, rfl, rfl, (same_new nb) _ _ upd_same, upd_same, big (Nat.le_trans (Nat.add_le_add_right (lenW _ _) 1) (by decide)), fun e ne => ⟨_, rfl, _, rfl, _, rfl, D, _, rfl, SqL.of ((((same_new na).trans (same_new nb)).trans (same_new ne)) _ _ eD8), fun g ng => ⟨e, g, _, _, rfl, rfl, (same_new ng) _ _ upd_same, upd_same, ?_, fun r nr => ⟨r, cutW ws none (some ((kk : Nat) : Int)) ++ [od] ++ cutW ws (some ((kk : Nat) : Int)) none, rfl, ((((same_new na).trans (same_new nb)).trans (same_new ne)).trans (same_new ng)).trans (same_new nr), ?_, ?_, fun x hx => ?_⟩⟩⟩⟩⟩⟩
        · rw [List.length_append]
          exact big (Nat.le_trans (Nat.add_le_add (Nat.add_le_add_right (lenW _ _) 1) (lenW _ _)) (by decide))
        · rw [upd_same, cutV_map, cutV_map]
          simp only [List.map_append]
          rfl
        · have h1 := cw none (some ((kk : Nat) : Int))
          have h2 := cw (some ((kk : Nat) : Int)) none
          have h3 : wtt [od] = od.length + 1 := rfl
          rw [wtt_app, wtt_app, h3]
          omega
        · simp only [List.mem_append, List.mem_singleton] at hx
          rcases hx with (hx | hx) | hx
          · exact wa x (mem_cutW hx)
          · rw [hx]; exact aod
          · exact wa x (mem_cutW hx)
      · refine ⟨_, rfl, _, rfl, _, rfl, D, _, rfl, SqL.of ((fun (b : Addr) (o : HO) (e : H8 b = some o) => e) _ _ eD8), fun a na => ⟨_, rfl, _, rfl, _, _, rfl, rfl, _, rfl, D, _, rfl, SqL.of ((same_new na) _ _ eD8), fun g ng => ⟨a, g, _, _, rfl, rfl, (same_new ng) _ _ upd_same, upd_same, big (Nat.le_trans (Nat.add_le_add (lenW _ _) (lenW _ _)) (by decide)), fun r nr => ⟨r, cutW ws none (some ((kk : Nat) : Int)) ++ cutW ws (some (((kk : Nat) : Int) + 1)) none, rfl, ((same_new na).trans (same_new ng)).trans (same_new nr), ?_, ?_, fun x hx => ?_⟩⟩⟩⟩
        · rw [upd_same, cutV_map, cutV_map]
          simp only [List.map_append]
        · have h1 := cw none (some ((kk : Nat) : Int))
          have h2 := cw (some (((kk : Nat) : Int) + 1)) none
          rw [wtt_app]
          omega
        · simp only [List.mem_append] at hx
          rcases hx with hx | hx
          · exact wa x (mem_cutW hx)
          · exact wa x (mem_cutW hx)
      · refine ⟨_, rfl, _, rfl, _, rfl, D, _, rfl, SqL.of ((fun (b : Addr) (o : HO) (e : H8 b = some o) => e) _ _ eD8), fun a na => ⟨_, rfl, by show 1 ≤ sizeLine; decide, fun b nb => ⟨a, b, _, _, rfl, rfl, (same_new nb) _ _ upd_same, upd_same, big (Nat.le_trans (Nat.add_le_add_right (lenW _ _) 1) (by decide)), fun e ne => ⟨_, rfl, _, rfl, _, _, rfl, rfl, _, rfl, D, _, rfl, SqL.of ((((same_new na).trans (same_new nb)).trans (same_new ne)) _ _ eD8), fun g ng => ⟨e, g, _, _, rfl, rfl, (same_new ng) _ _ upd_same, upd_same, ?_, fun r nr => ⟨r, cutW ws none (some ((kk : Nat) : Int)) ++ [od] ++ cutW ws (some (((kk : Nat) : Int) + 1)) none, rfl, ((((same_new na).trans (same_new nb)).trans (same_new ne)).trans (same_new ng)).trans (same_new nr), ?_, ?_, fun x hx => ?_⟩⟩⟩⟩⟩⟩
        · rw [List.length_append]
          exact big (Nat.le_trans (Nat.add_le_add (Nat.add_le_add_right (lenW _ _) 1) (lenW _ _)) (by decide))
        · rw [upd_same, cutV_map, cutV_map]
          simp only [List.map_append]
          rfl
        · have h1 := cw none (some ((kk : Nat) : Int))
          have h2 := cw (some (((kk : Nat) : Int) + 1)) none
          have h3 : wtt [od] = od.length + 1 := rfl
          rw [wtt_app, wtt_app, h3]
          omega
        · simp only [List.mem_append, List.mem_singleton] at hx
          rcases hx with (hx | hx) | hx
          · exact wa x (mem_cutW hx)
          · rw [hx]; exact aod
          · exact wa x (mem_cutW hx)
      · refine ⟨_, rfl, _, rfl, _, rfl, D, _, rfl, SqL.of ((fun (b : Addr) (o : HO) (e : H8 b = some o) => e) _ _ eD8), fun a na => ⟨_, rfl, _, rfl, _, rfl, D, _, rfl, SqL.of ((same_new na) _ _ eD8), fun b nb => ⟨_, rfl, _, rfl, b, _, rfl, SqL.of upd_same, fun b2 nb2 => ⟨a, b2, _, _, rfl, rfl, ((same_new nb).trans (same_new nb2)) _ _ upd_same, upd_same, ?_, fun e ne => ⟨_, rfl, _, rfl, _, rfl, D, _, rfl, SqL.of (((((same_new na).trans (same_new nb)).trans (same_new nb2)).trans (same_new ne)) _ _ eD8), fun g ng => ⟨e, g, _, _, rfl, rfl, (same_new ng) _ _ upd_same, upd_same, ?_, fun r nr => ⟨r, cutW ws none (some ((kk : Nat) : Int)) ++ cutW (cutW ws none (some ((kk : Nat) : Int))) (some (-1)) none ++ cutW ws (some ((kk : Nat) : Int)) none, rfl, (((((same_new na).trans (same_new nb)).trans (same_new nb2)).trans (same_new ne)).trans (same_new ng)).trans (same_new nr), ?_, ?_, fun x hx => ?_⟩⟩⟩⟩⟩⟩⟩
        · exact big (Nat.le_trans (Nat.add_le_add (lenW _ _) (Nat.le_trans (cutV_length _ _ _) (lenW _ _))) (by decide))
        · rw [List.length_append]
          exact big (Nat.le_trans (Nat.add_le_add (Nat.add_le_add (lenW _ _) (Nat.le_trans (cutV_length _ _ _) (lenW _ _))) (lenW _ _)) (by decide))
        · rw [upd_same, cutV_map, cutV_map, cutV_map]
          simp only [List.map_append]
        · have h1 := cw none (some ((kk : Nat) : Int))
          have h2 := cw (some ((kk : Nat) : Int)) none
          have h3 := wtt_cutW (cutW ws none (some ((kk : Nat) : Int))) (some (-1)) none
          rw [wtt_app, wtt_app]
          omega
        · simp only [List.mem_append] at hx
          rcases hx with (hx | hx) | hx
          · exact wa x (mem_cutW hx)
          · exact wa x (mem_cutW (mem_cutW hx))
          · exact wa x (mem_cutW hx)
    rintro _ H9 ⟨D', xs, rfl, s9, eD9, wxs, axs⟩
    have hP9 := hP8.ext s9
    have kb9 := kb8.sm s9
    have eL9 := s9 _ _ eL8
    have lenL : ∀ lo hi, (cutV (ls.map V.str) lo hi).length ≤ 100001 := fun lo hi => Nat.le_trans (cutV_length _ _ _) (by rw [List.length_map]; omega)
    have big : ∀ {m : Nat}, m ≤ 400000 → m ≤ sizeLine := fun h => Nat.le_trans h (by decide)
    have h2s : ("  " : Str).length = 2 := by decide +kernel
    have hj : (Txt.join "  " xs).length ≤ 2 * wtt xs := join_len (by rw [h2s]; exact Nat.le_refl _)
    have hja : asc (Txt.join "  " xs) := asc_join (asc_lit (by decide +kernel)) axs
    refine ⟨⟨_, rfl⟩, _, rfl, _, rfl, _, rfl, L, _, rfl, SqL.of eL9, fun a na => ⟨⟨_, rfl⟩, _, rfl, "  ", D', xs, rfl, rfl, .inl (SqL.of ((same_new na) _ _ eD9)), ?_, by show 1 ≤ sizeLine; decide, fun b nb => ⟨a, b, _, _, rfl, rfl, (same_new nb) _ _ upd_same, upd_same, big (Nat.le_trans (Nat.add_le_add_right (lenL _ _) 1) (by decide)), fun e ne => ⟨_, rfl, _, rfl, _, _, rfl, rfl, _, rfl, L, _, rfl, SqL.of ((((same_new na).trans (same_new nb)).trans (same_new ne)) _ _ eL9), fun g ng => ⟨e, g, _, _, rfl, rfl, (same_new ng) _ _ upd_same, upd_same, ?_, fun r nr => ⟨"\n", r, cutW ls none (some ((at' : Nat) : Int)) ++ [Txt.join "  " xs] ++ cutW ls (some (((at' : Nat) : Int) + 1)) none, rfl, rfl, .inl (SqL.of ?_), ?_, ?_⟩⟩⟩⟩⟩⟩
    · have := sum_sep 2 (by decide) xs
      rw [h2s]
      omega
    · rw [List.length_append]
      exact big (Nat.le_trans (Nat.add_le_add (Nat.add_le_add_right (lenL _ _) 1) (lenL _ _)) (by decide))
    · rw [upd_same, cutV_map, cutV_map]
      simp only [List.map_append]
      rfl
    · have h0 := sum_sep 1 (by decide) (cutW ls none (some ((at' : Nat) : Int)) ++ [Txt.join "  " xs] ++ cutW ls (some (((at' : Nat) : Int) + 1)) none)
      have h1 := wtt_cutW ls none (some ((at' : Nat) : Int))
      have h2 := wtt_cutW ls (some (((at' : Nat) : Int) + 1)) none
      have h3 : wtt [Txt.join "  " xs] = (Txt.join "  " xs).length + 1 := rfl
      rw [wtt_app, wtt_app, h3] at h0
      rw [hnl]
      omega
    · have fin : ∀ {Hx : Hp}, Same H9 Hx → Q (.str (Txt.join "\n" (cutW ls none (some ((at' : Nat) : Int)) ++ [Txt.join "  " xs] ++ cutW ls (some (((at' : Nat) : Int) + 1)) none))) Hx := fun sx => q _ _ _ (hP9.ext sx) (by omega) (kb9.sm sx) ?_ (asc_join (asc_lit (by decide +kernel)) fun x hx => ?_)
      · exact fin (((((same_new na).trans (same_new nb)).trans (same_new ne)).trans (same_new ng)).trans (same_new nr))
      · refine Nat.le_trans (join_len1 (by rw [hnl]; exact Nat.le_refl _)) ?_
        have h1 := wtt_cutW ls none (some ((at' : Nat) : Int))
        have h2 := wtt_cutW ls (some (((at' : Nat) : Int) + 1)) none
        have h3 : wtt [Txt.join "  " xs] = (Txt.join "  " xs).length + 1 := rfl
        rw [wtt_app, wtt_app, h3]
        omega
      · simp only [List.mem_append, List.mem_singleton] at hx
        rcases hx with (hx | hx) | hx
        · exact hla x (mem_cutW hx)
        · rw [hx]; exact hja
        · exact hla x (mem_cutW hx)
end
end KQ

namespace KQ
open PySem PySem.Spec PyProof.Rows L2
/-! ### several clauses, each with a name for the exception -/
/-- what clauses that all write the slot k wish of an exception, one behind the other -/
def wList (K : PySem.W.Frag) (k : Nat) (W0 : WX) (D : Ends) : List (Value × (Addr → Value → Option Addr → TS)) → WX
  | [] => W0
  | z :: more => wAs K z.1 k z.2 (wList K k W0 D more) D
inductive Clauses (X : Cx) (nm : Str) : List ExceptHandler → List (Value × (Addr → Value → Option Addr → TS)) → Prop
  | done : Clauses X nm [] []
  | next {x : Str} {cl : Value} {tk : Addr → Value → Option Addr → TS} {s0 : Stmt} {ss : List Stmt} {p1 p2 : Pos} {hh : List ExceptHandler} {ll : List (Value × (Addr → Value → Option Addr → TS))} (named : Names X x cl)
      (body : ∀ (r : Addr) (ob : Obj) (k : Value) (d : Option Addr) (pn : List (Addr × Obj)), Zc k d ob → (∃ vs, ob.data = .fields vs) → PSs (X.suite r ((r, ob) :: pn)) (s0 :: ss) (tk r k d)) (more : Clauses X nm hh ll) :
      Clauses X nm (.ExceptHandler (some (.Name x p1)) (some nm) (s0 :: ss) p2 :: hh) ((cl, tk) :: ll)
section
variable {X : Cx} {body : List Stmt} {h0 : ExceptHandler} {hh : List ExceptHandler} {ll : List (Value × (Addr → Value → Option Addr → TS))} {pos : Pos} {tb : WX → TS} {W0 : WX} {nm : Str} {k : Nat}
theorem ps_try_list (hst : X.stack = X.env :: X.outer) (hfr0 : X.env.frame = some X.env.locals) (nd : X.N.Nodup) (hk : X.N[k]? = some nm) (hlo : X.env.kindOf nm = some .local) (tk : Takes X W0)
    (hb : ∀ (W : WX) (pn : List (Addr × Obj)) (xe : Value → Shared → Prop), Takes (X.tr pn xe) W → PassesOwn (model X.prog X.w) X.A X.env xe → PSs (X.tr pn xe) body (tb W))
    (cs : Clauses X nm (h0 :: hh) ll) : PS X (.Try body (h0 :: hh) [] [] pos) (fun D σ H => tb (wList X.K k W0 D ll) D σ H) := by
  refine ⟨fun pins s0 σ0 H0 D I0 want => ?_⟩
  have okX := I0.ok
  have frA : X.A.frames = some (X.env :: X.outer) := by rw [okX.frames, hst]
  refine wpAny_Try_except ?_
  refine wpAny_mono ((hb (wList X.K k W0 D ll) (X.pn ++ pins) (fun ex t1 => wpAny (model X.prog X.w) X.A (noteFrame ex X.env) (fun _ t2 => wpAny (model X.prog X.w) X.A (setFlight ex none) (fun _ t3 =>
    wpAny (model X.prog X.w) X.A (handleBy ex X.env (h0 :: hh)) (SP X pins D) X.xe t3) X.xe t2) X.xe t1) (fun u s1 xx => ?_) PassesOwn.looking).run [] s0 σ0 H0 D (I0.toTry _) want) (fun fl s1 got => ?_) (fun _ _ z => z)
  · obtain ⟨a, B, sI, pins1, σ1, H1, kls, d, rfl, J1, nb, up1, sky1, na, os, ag, wish⟩ := xx
    have J : Inv X pins σ1 H1 sI := J1.ofTry okX
    show wpAny (model X.prog X.w) X.A (noteFrame (.ref a) X.env) _ _ _
    refine Sky.land Zc.steady frA hfr0 (by rw [← hst]; exact sky1) fun hp3 fly3 up3 => ?_
    have J3 : Inv X pins σ1 H1 { s1 with heap := hp3 } := J.landed nb fly3.1 (up1.trans up3) os ag
    obtain ⟨o3, vs3, e3, z3, f3⟩ := fly3.there
    have off : a ∉ frs (X.env :: X.outer) := fun hm => by
      obtain ⟨_, o', e', hnf⟩ := fly3.2.2.1.mem hm
      rw [e3] at e'
      cases e'
      exact hnf _ f3
    have nL : a ≠ X.env.locals := fun z => off (List.mem_filterMap.mpr ⟨X.env, List.mem_cons_self, by rw [hfr0, z]⟩)
    have nF : a ∉ X.fs := fun hm => by
      obtain ⟨e, he, q⟩ := List.mem_filterMap.mp hm
      exact off (List.mem_filterMap.mpr ⟨e, List.mem_cons_of_mem _ he, q⟩)
    have S3 := J3.suite e3 f3 na nL nF
    have looks : PySem.W.Looks (model X.prog X.w) hp3 (typeOf (.ref a)) kls := fun A Q E s kk q => wpAny_typeOf_ref (kk _ _ e3) (by rw [z3.1]; exact q)
    have each : ∀ {hs' : List ExceptHandler} {l' : List (Value × (Addr → Value → Option Addr → TS))}, Clauses X nm hs' l' → wList X.K k W0 D l' kls d σ1 H1 →
        wpAny (model X.prog X.w) X.A (handleBy (.ref a) X.env hs') (SP X pins D) X.xe { s1 with heap := hp3 } := by
      intro hs' l' cl
      induction cl with
      | done =>
        intro out
        refine wpAny_handleBy_nil ?_
        obtain ⟨_, _, _, ob, vs, T, oT, tt, he, hz, hd, h1, hr⟩ := id fly3
        unfold PySem.passOn
        refine wpAny_bind (wpAny_field he hd h1 ?_)
        rw [if_neg (by simp : ¬ ((Value.ref T == Value.none) = true))]
        have go : wpAny (model X.prog X.w) X.A (setFlight (.ref a) X.env.frame) (fun _ s4 => wpAny (model X.prog X.w) X.A (throw (.ref a) : Sem Flow) (SP X pins D) X.xe s4) X.xe { s1 with heap := hp3 } := by
          rw [hfr0]
          refine HandSPX.setFlight_upZ fly3 fun hp4 hh4 up4 => wpAny_throw (tk _ _ ?_)
          exact ⟨a, B, sI, pins, σ1, H1, kls, d, rfl, J, nb, (up1.trans up3).trans up4, .inr (.inr (by rw [hst]; exact hh4)), na, os, ag, out⟩
        first
          | exact wpAny_bind (wpAny_pure (wpAny_bind go))
          | exact wpAny_bind go
      | @next x cl tc s0 ss p1 p2 hs2 l2 named suite more ih =>
        intro ask
        obtain ⟨b, hb1, yes, no⟩ := ask
        refine wpAny_handleBy_cons (codeAny_handlers_test ?_) (by intro q; cases q)
        have LM := PySem.W.exm_one (M := model X.prog X.w) (J3.kIn) looks hb1
        have test : ∀ {Q E : Value → Shared → Prop}, Q cl { s1 with heap := hp3 } → wpAny (model X.prog X.w) (X.A.mark (some (.ref a))) (eval (.Name x p1) X.env) Q E { s1 with heap := hp3 } := fun {Q E} q => by
          obtain ⟨hg, nodbg, hm | ⟨hm, hv, hnn⟩⟩ := named
          · exact ld_glob (X := X.suite a ((a, o3) :: (X.pn ++ pins))) S3 hg hm q nodbg
          · exact ld_blt (X := X.suite a ((a, o3) :: (X.pn ++ pins))) S3 hg hm hv q hnn nodbg
        refine test (LM.here ?_)
        cases b with
        | false =>
          show wpAny _ X.A (handleBy (.ref a) X.env hs2) _ _ _
          exact ih (no rfl)
        | true =>
          refine codeAny_handlers_suite_as ?_
          refine HandSPX.lands_againZ fly3 fun hp4 fly4 up4 => ?_
          have J4 : Inv X pins σ1 H1 { s1 with heap := hp4 } := J.landed nb fly4.1 ((up1.trans up3).trans up4) os ag
          obtain ⟨o4, vs4, e4, z4, f4⟩ := fly4.there
          refine store_ok (X := X.suite a ((a, o4) :: (X.pn ++ pins))) (v := .ref a) (J4.suite e4 f4 na nL nF) nd hk (.inl hlo) rfl (fun s5 S5 => ?_) (.inr hlo)
          refine wpAny_mono ((suite a o4 kls d (X.pn ++ pins) z4 ⟨_, f4⟩).run [] s5 _ H1 _ S5 (yes rfl a na)) (fun fl6 s6 got6 => ?_) (fun _ _ z => False.elim z)
          have gone : ∀ {σ6 : L2.St} {H6 : Hp} {Q : Shared → Prop}, Inv (X.suite a ((a, o4) :: (X.pn ++ pins))) [] σ6 H6 s6 → (∀ s7, Inv X pins (σ6.set k none) H6 s7 → Q s7) →
              wpAny (model X.prog X.w) X.A (do bindName X.env nm .none; unbindBehindTheSuite X.env nm p2) (fun _ s7 => Q s7) X.xe s6 := fun S6 hq => gone_ok (S6.unsuite okX) nd hk hlo hq
          cases fl6 with
          | ret u =>
            obtain ⟨v6, σ6, H6, S6, r6, q6⟩ := got6
            exact gone S6 fun s7 J7 => ⟨_, _, _, J7, r6, q6⟩
          | next =>
            obtain ⟨σ6, H6, S6, q6⟩ := got6
            exact gone S6 fun s7 J7 => ⟨_, _, J7, q6⟩
          | brk =>
            obtain ⟨σ6, H6, S6, q6⟩ := got6
            exact gone S6 fun s7 J7 => ⟨_, _, J7, q6⟩
          | cont =>
            obtain ⟨σ6, H6, S6, q6⟩ := got6
            exact gone S6 fun s7 J7 => ⟨_, _, J7, q6⟩
    exact each cs wish
  · cases fl with
    | ret u =>
      obtain ⟨v, σ', H', J', r, q⟩ := got
      exact ⟨v, σ', H', J'.ofTry okX, r, q⟩
    | next =>
      obtain ⟨σ', H', J', q⟩ := got
      exact wpAny_execs_nil ⟨σ', H', J'.ofTry okX, q⟩
    | brk =>
      obtain ⟨σ', H', J', q⟩ := got
      exact ⟨σ', H', J'.ofTry okX, q⟩
    | cont =>
      obtain ⟨σ', H', J', q⟩ := got
      exact ⟨σ', H', J'.ofTry okX, q⟩
end
end KQ

namespace KQ
open PySem PySem.Spec PyProof.Rows L2 LamX
/-! ### what a call refuses -/
structure V1 (K : PySem.W.Frag) (mg : Str → Option Value) (CT : Addr) : Prop where
  gT : mg "BadText" = some (.ref CT)
  n0 : PySem.W.findIn K (.ref CT) "line" = some none
  n1 : PySem.W.findIn K (.ref CT) "column" = some none
  XT : XfC K CT
  ex : PySem.W.exmOne K (.ref CT) (.ref CT) = some true
def TTr (CT : Addr) : (XK → Hp → VK → Prop) → Hp → VK → Prop := fun tl H Q =>
  tl (fun cls d H' => ∃ (dd : Addr) (l c : V), cls = .ref CT ∧ d = some dd ∧ H' dd = some (.xd (xdT l c)) ∧ ∀ p, H' p = none → Q (.ref p) (upd H' p (.lst [.str "text", l, c])))
    H (fun _ H' => ([] : List V).length ≤ sizeLine ∧ ∀ p, H' p = none → Q (.ref p) (upd H' p (.lst [])))
theorem lkL (l c : V) : (xdT l c).lookup ("line" : Str) = some l := by
  show ([("column", c), ("line", l)] : List (Str × V)).lookup ("line" : Str) = some l
  rw [lookup_put, if_neg (by decide +kernel), lookup_put, if_pos rfl]
theorem lkC (l c : V) : (xdT l c).lookup ("column" : Str) = some c := by
  show ([("column", c), ("line", l)] : List (Str × V)).lookup ("column" : Str) = some c
  rw [lookup_put, if_pos rfl]
theorem ref_gives {X : Cx} {CT g : Addr} {cdg : Value} {q : Str} (V2 : V1 X.K X.mg CT) : GivesTo X ["_law_call", "e"] "_law_refused" (defScope sRef) g cdg (defBody sRef) "_law_call" q (TTr CT) := by
  intro f c' s H Q tl act hc h
  refine ⟨_, pss_cons (ps_try_list (X := (cxOf C8.CX0 X.prog X.w X.K X.mg X.base ["_law_call", "e"] "_law_refused" (defScope sRef) g cdg X.A X.stack s H C8.E0).nox) (k := 1) (nm := "e")
      (tb := fun W D σ H => ∃ Ech : XK, (∀ cls d σ' H', σ'.length = 2 → Ech cls d H' → W cls d σ' H') ∧ σ[0]? = some (some (.ref f)) ∧ H c' = some (CodeO c' q) ∧ tl Ech H (fun _ H' => D.nx σ H'))
      rfl rfl scRef.nd rfl rfl LamX.takes0 (fun W pn xe tk _ => ?_)
      (.next (cl := .ref CT) ⟨rfl, by decide, .inl V2.gT⟩ (fun a oe cls d pn hz hf => pss_one (ps_ret (pe_lst (pa_cons pe_str (pa_cons (pe_xf V2.XT V2.n0 hz hf (pv 1)) (pa_cons (pe_xf V2.XT V2.n1 hz hf (pv 1)) pa_nil))))))
      .done))
    (pss_one (ps_ret (pe_lst pa_nil))), ?_⟩
  · refine ⟨fun pins s' σ H' D I h' => ?_⟩
    obtain ⟨Ech, hW, h1, h2, h3⟩ := h'
    have tk' : Takes ((cxOf C8.CX0 X.prog X.w X.K X.mg X.base ["_law_call", "e"] "_law_refused" (defScope sRef) g cdg X.A X.stack s H C8.E0).tr pn xe) (fun cls d σ H => σ.length = 2 → W cls d σ H) :=
      fun u s' ⟨a, B, sI, pins, σ, H, cls, d, e, I, nb, up, sky, na, os, ag, w⟩ => tk u s' ⟨a, B, sI, pins, σ, H, cls, d, e, I, nb, up, sky, na, os, ag, w I.len⟩
    have hp := fun p1 p2 => act (fun cls d σ H => σ.length = 2 → W cls d σ H) pn xe Ech p1 p2 tk' (fun cls d σ' H' h hl => hW cls d σ' H' hl h)
    exact (pss_one (ps_expr (hp _ _))).run pins s' σ H' D I ⟨h1, h2, h3⟩
  · refine ⟨_, fun cls d σ' H' hl hE => ?_, rfl, hc, h⟩
    obtain ⟨dd, l, c, rfl, rfl, hd, hq⟩ := hE
    refine ⟨true, V2.ex, fun _ a na => ?_, fun z => nomatch z⟩
    have h1 : (σ'.set 1 (some (V.ref a)))[1]? = some (some (V.ref a)) := by
      rw [List.getElem?_set_self (by omega)]
    refine ⟨_, h1, rfl, rfl, dd, _, l, rfl, hd, lkL l c, ?_⟩
    exact ⟨_, h1, rfl, rfl, dd, _, c, rfl, hd, lkC l c, by show 3 ≤ sizeLine; decide, fun p np => hq p np⟩
/-! ### beside the pen -/
def Sx (TT : List (Addr × Str)) (p c : Addr) (N : Nat) (H : Hp) : Prop := ∃ n, n ≤ N ∧ PenAt H p c n ∧ Tabs TT H
theorem codeO_ne {c : Addr} {q : Str} : ∀ kv, CodeO c q ≠ .dK kv := by
  intro kv z
  unfold CodeO at z
  cases z
theorem tabs_kb {TT : List (Addr × Str)} {H H' : Hp} {p : Addr} {kv : List (Key × V)} (hp : H p = some (.dK kv)) (t : Tabs TT H) (k : KB p H H') : Tabs TT H' := by
  intro q hq
  obtain ⟨ps, h1, h2, h3⟩ := t q hq
  refine ⟨ps, k _ _ h1 (ne_of h1 hp (by intro z; cases z)), h2, fun pos cv hc => ?_⟩
  obtain ⟨c, e1, e2⟩ := h3 pos cv hc
  exact ⟨c, e1, k _ _ e2 (ne_of e2 hp (codeO_ne kv))⟩
theorem pen_ext {H H' : Hp} {p c : Addr} {n : Nat} (h : PenAt H p c n) (x : ExtN H H') : PenAt H' p c n := by
  obtain ⟨ns, a, d, f, e1, e2, r⟩ := h
  exact ⟨ns, a, d, f, x _ _ e1 (fun ps z => by cases z), x _ _ e2 (fun ps z => by cases z), r⟩
theorem Sx.same {TT : List (Addr × Str)} {p c : Addr} {N : Nat} {H H' : Hp} (h : Sx TT p c N H) (s : Same H H') : Sx TT p c N H' := by
  obtain ⟨n, hn, hP, t⟩ := h
  exact ⟨n, hn, hP.ext s, Tabs.ext t s⟩
theorem Sx.mono {TT : List (Addr × Str)} {p c : Addr} {N M : Nat} {H : Hp} (h : Sx TT p c N H) (le : N ≤ M) : Sx TT p c M H := by
  obtain ⟨n, hn, r⟩ := h
  exact ⟨n, Nat.le_trans hn le, r⟩
theorem sx_step {TT : List (Addr × Str)} {p c : Addr} {n n' N' : Nat} {H H' : Hp} (hP : PenAt H p c n) (t : Tabs TT H) (hP' : PenAt H' p c n') (k : KB p H H') (le : n' ≤ N') : Sx TT p c N' H' := by
  obtain ⟨kv, hp⟩ := pen_dict hP
  exact ⟨n', le, hP', tabs_kb hp t k⟩
theorem Sx.ext {TT : List (Addr × Str)} {p c : Addr} {N : Nat} {H H' : Hp} (h : Sx TT p c N H) (x : ExtN H H') (t : Tabs TT H') : Sx TT p c N H' := by
  obtain ⟨n, hn, hP, _⟩ := h
  exact ⟨n, hn, pen_ext hP x, t⟩
theorem Odd.ext {H H' : Hp} {v : V} (h : Odd H v) (s : ExtN H H') : Odd H' v := by
  rcases h with h | h | h | ⟨p, xs, h, e⟩ | ⟨p, xs, h, e⟩ | ⟨p, kv, h, e⟩
  · exact .inl h
  · exact .inr (.inl h)
  · exact .inr (.inr (.inl h))
  · exact .inr (.inr (.inr (.inl ⟨p, xs, h, s _ _ e (fun ps z => by cases z)⟩)))
  · exact .inr (.inr (.inr (.inr (.inl ⟨p, xs, h, s _ _ e (fun ps z => by cases z)⟩))))
  · exact .inr (.inr (.inr (.inr (.inr ⟨p, kv, h, s _ _ e (fun ps z => by cases z)⟩))))
theorem made_same {H : Hp} {x dx C : Addr} (nx : H x = none) (nd : H dx = none) : Same H (upd (upd H dx (.own x)) x (.ins C dx [])) := fun b o e => by
  rw [upd_ne (ne_of_none e nx), upd_ne (ne_of_none e nd)]
  exact e
/-- what is due: a list -/
def dueV (l c : Nat) : List V := if 0 < l then [.str "text", .int (l : Nat), .int (c : Nat)] else []
def dueP (l c : Nat) : PyData := .list (if 0 < l then [.str "text", .int (l : Nat), .int (c : Nat)] else [])
theorem due_dp {K : PySem.W.Frag} {H : Hp} {a : Addr} {l c : Nat} (e : H a = some (.lst (dueV l c))) : Dp K H (.ref a) (dueP l c) := by
  unfold dueV at e
  unfold dueP
  by_cases h : 0 < l
  · rw [if_pos h] at e ⊢
    exact .lst (SqL.of e) (.cons (.str _) (.cons (.int _) (.cons (.int _) .nil)))
  · rw [if_neg h] at e ⊢
    exact .lst (SqL.of e) .nil
theorem due_sh (l c : Nat) : SeqAt.shaped (dueP l c) = true := by
  unfold dueP
  split
  · show SeqAt.shaped (.list [.str "text", .int (0 : Int), .int (0 : Int)]) = true
    decide +kernel
  · decide +kernel
theorem due_eqv (l c : Nat) : PyData.eqv (dueP l c) (dueP l c) = true := by
  unfold dueP
  split
  · show ((("text" : Str) == "text") && (((l : Int) == (l : Int)) && (((c : Int) == (c : Int)) && true))) = true
    simp
  · rfl
end KQ

namespace KQ
open PySem PySem.Spec PyProof.Rows L2 LamX
/-! ### the law -/
/-- all that the program's top has left -/
structure Top (K : PySem.W.Frag) (mg : Str → Option Value) (C CT fI fB hA fG fCm fRu fLi fOn fNb fPr fPn fDr fPk fSh fDR fIt fST fIs fFi fDu fRf fBe : Addr) (dI dB dG dCm dRu dLi dOn dNb dPr dPn dDr dPk dSh dDR dIt dST dIs dFi dDu dRf dBe : FuncData) (tM : Tok) : Prop where
  B : Bl mg
  T : BT K mg CT fB dB
  V : V1 K mg CT
  S : SCl K mg C fI
  W : LW K mg hA
  gM : mg "MOST_PLACES" = some (.int 24 tM)
  FI : Fun K "__init__" "Sort.__init__" sInit fI dI
  bI : Binds K dI ["self", "size", "text"] []
  FG : Fun K "is_integer" "is_integer" sIsI fG dG
  bG : Binds K dG ["value"] []
  gG : mg "is_integer" = some (.ref fG)
  FCm : Fun K "_common" "_common" sCommon fCm dCm
  bCm : Binds K dCm ["first", "others"] []
  gCm : mg "_common" = some (.ref fCm)
  FRu : Fun K "_read_rules" "_read_rules" sRules fRu dRu
  bRu : Binds K dRu ["size", "text"] []
  gRu : mg "_read_rules" = some (.ref fRu)
  FLi : Fun K "_read_line" "_read_line" sLine fLi dLi
  bLi : Binds K dLi ["size", "line", "words"] []
  gLi : mg "_read_line" = some (.ref fLi)
  FOn : Fun K "_only_word" "_only_word" sOnly fOn dOn
  bOn : Binds K dOn ["line", "words", "right"] []
  gOn : mg "_only_word" = some (.ref fOn)
  FNb : Fun K "_numbers_below" "_numbers_below" sNb fNb dNb
  bNb : Binds K dNb ["limit"] []
  gNb : mg "_numbers_below" = some (.ref fNb)
  FPr : Fun K "_pair_of" "_pair_of" sPair fPr dPr
  bPr : Binds K dPr ["size", "word"] []
  gPr : mg "_pair_of" = some (.ref fPr)
  FPn : Fun K "_law_pen" "_law_pen" sPen fPn dPn
  bPn : Binds K dPn ["_law_script"] []
  gPn : mg "_law_pen" = some (.ref fPn)
  FDr : Fun K "_law_draw" "_law_draw" sDraw fDr dDr
  bDr : Binds K dDr ["_law_pen_here", "_law_many"] []
  gDr : mg "_law_draw" = some (.ref fDr)
  FPk : Fun K "_law_pick" "_law_pick" sPick fPk dPk
  bPk : Binds K dPk ["_law_pen_here", "_law_some"] []
  gPk : mg "_law_pick" = some (.ref fPk)
  FSh : Fun K "_law_shuffled" "_law_shuffled" sShuf fSh dSh
  bSh : Binds K dSh ["_law_pen_here", "_law_some"] []
  gSh : mg "_law_shuffled" = some (.ref fSh)
  FDR : Fun K "_law_drawn_rule" "_law_drawn_rule" sDRule fDR dDR
  bDR : Binds K dDR ["_law_pen_here", "_law_size"] []
  gDR : mg "_law_drawn_rule" = some (.ref fDR)
  FIt : Fun K "_law_item_words" "_law_item_words" sItem fIt dIt
  bIt : Binds K dIt ["_law_rule"] []
  gIt : mg "_law_item_words" = some (.ref fIt)
  FST : Fun K "_law_sort_text" "_law_sort_text" sSText fST dST
  bST : Binds K dST ["_law_pen_here", "_law_rules"] []
  gST : mg "_law_sort_text" = some (.ref fST)
  FIs : Fun K "_law_is_number" "_law_is_number" sIsNum fIs dIs
  bIs : Binds K dIs ["_law_word", "_law_most"] []
  gIs : mg "_law_is_number" = some (.ref fIs)
  FFi : Fun K "_law_first_wrong" "_law_first_wrong" sFirst fFi dFi
  bFi : Binds K dFi ["_law_words", "_law_size"] []
  gFi : mg "_law_first_wrong" = some (.ref fFi)
  FDu : Fun K "_law_due" "_law_due" sDue fDu dDu
  bDu : Binds K dDu ["_law_text", "_law_size"] []
  gDu : mg "_law_due" = some (.ref fDu)
  FRf : Fun K "_law_refused" "_law_refused" sRef fRf dRf
  bRf : Binds K dRf ["_law_call"] []
  gRf : mg "_law_refused" = some (.ref fRf)
  FBe : Fun K "_law_bent" "_law_bent" sBent fBe dBe
  bBe : Binds K dBe ["_law_pen_here", "_law_text", "_law_size"] []
  gBe : mg "_law_bent" = some (.ref fBe)
def spLawT (K : PySem.W.Frag) (P : Addr) : Sp := fun vs H Q _ => ∃ (a : Addr) (ns : List Int), vs = [.ref a] ∧ SqL K H a (ns.map V.int) ∧ ns.length ≤ 63 ∧ H P = some (.tbl #[]) ∧ ∀ H', Q (.bl true) H'
/-- as Fun.ok, the code object told -/
theorem ok_code {P : Program} {w : World} {K : PySem.W.Frag} {mg : Str → Option Value} {base : Heap} {x qual : Str} {st : Stmt} {f c : Addr} {N ps : List Str} {k : Nat} {sp : Sp} {oc : Value} {od an : Option Addr} {osl : Array (Option Value)} {kV doc pm ct : Value}
    (lk : K.lookup f = some ⟨oc, od, .func (PySem.W.fnOf x qual (defArgs st) (defBody st) (defScope st) .none kV doc pm an (.ref c) ct), osl⟩) (hcd : PySem.W.codeIn K (.ref c) qual = true) (S : FnScope N ps (defScope st)) (len : ∀ vs H Q E, sp vs H Q E → vs.length = ps.length)
    (body : ∀ (A : Around) (outer : List Env) (s : Shared) (H : Hp) (vs : List V) (Q : VK) (E : XK), Room k (A.deeper (envOfC qual (defScope st) s.heap.objs.size f (.ref c))) → sp vs H Q E →
      ∃ t, PSs (cxOf CX0 P w K mg base N qual (defScope st) f (.ref c) A outer s H E).nox (defBody st) t ∧ t { nx := fun _ H' => Q .non H', rt := Q } (L2.start N vs) H) :
    FnOk P w K mg base CX0 (k + 1) f (PySem.W.fnOf x qual (defArgs st) (defBody st) (defScope st) .none kV doc pm an (.ref c) ct) ps sp := by
  refine fn_of lk hcd S len fun A outer s H vs Q E hr want => ?_
  obtain ⟨t, fits, rd⟩ := body A outer s H vs Q E hr want
  exact ⟨t, fits.nox, rd⟩
theorem tabs_off {TT : List (Addr × Str)} {H : Hp} {D : Addr} {xs ys : List V} (hD : H D = some (.lst xs)) (t : Tabs TT H) : Tabs TT (upd H D (.lst ys)) := by
  intro q hq
  obtain ⟨ps, h1, h2, h3⟩ := t q hq
  refine ⟨ps, (upd_ne (ne_of h1 hD (by intro z; cases z))).trans h1, h2, fun pos cv hc => ?_⟩
  obtain ⟨c, e1, e2⟩ := h3 pos cv hc
  exact ⟨c, e1, (upd_ne (ne_of e2 hD (by intro z; unfold CodeO at z; cases z))).trans e2⟩
section
variable {P : Program} {w : World} {K : PySem.W.Frag} {mg : Str → Option Value} {base : Heap}
theorem ok_law {f c tP C CT fI fB hA fG fCm fRu fLi fOn fNb fPr fPn fDr fPk fSh fDR fIt fST fIs fFi fDu fRf fBe : Addr} {dI dB dG dCm dRu dLi dOn dNb dPr dPn dDr dPk dSh dDR dIt dST dIs dFi dDu dRf dBe : FuncData} {tM : Tok} {oc : Value} {od an : Option Addr} {osl : Array (Option Value)} {kV doc pm ct : Value}
    (lk : K.lookup f = some ⟨oc, od, .func (PySem.W.fnOf "law" "law" (defArgs sLaw) (defBody sLaw) (defScope sLaw) .none kV doc pm an (.ref c) ct), osl⟩) (hcd : PySem.W.codeIn K (.ref c) "law" = true) (TB : TabB base mg c tP)
    (T : Top K mg C CT fI fB hA fG fCm fRu fLi fOn fNb fPr fPn fDr fPk fSh fDR fIt fST fIs fFi fDu fRf fBe dI dB dG dCm dRu dLi dOn dNb dPr dPn dDr dPk dSh dDR dIt dST dIs dFi dDu dRf dBe tM) : FnOk P w K mg base CX0 10 f (PySem.W.fnOf "law" "law" (defArgs sLaw) (defBody sLaw) (defScope sLaw) .none kV doc pm an (.ref c) ct) ["_law_script"] (spLawT K tP) := by
  have GI : FnOk P w K mg base (L2.CX P w) 6 fI dI ["self", "size", "text"] (spInitS C CT) := ok_initS T.FI T.S T.FG T.bG T.gG T.FCm T.bCm T.gCm T.FRu T.bRu T.gRu T.FLi T.bLi T.gLi T.FNb T.bNb T.gNb T.FOn T.bOn T.gOn T.FPr T.bPr T.gPr T.T T.W T.gM T.B
  have GPn : FnOk P w K mg base CX0 1 fPn dPn ["_law_script"] (spPen K) := ok_pen T.FPn T.B.int T.B.list
  have GDr : FnOk P w K mg base CX0 1 fDr dDr ["_law_pen_here", "_law_many"] spDraw := ok_draw T.FDr T.B.int T.B.len
  have GPk : FnOk P w K mg base CX0 2 fPk dPk ["_law_pen_here", "_law_some"] (spPick K) := ok_pick T.FPk T.FDr T.bDr T.gDr T.B.int T.B.len
  have GDR : FnOk P w K mg base CX0 3 fDR dDR ["_law_pen_here", "_law_size"] spDRule := ok_drule T.FDR T.FDr T.bDr T.gDr T.FPk T.bPk T.gPk T.FSh T.bSh T.gSh T.B
  have GST : FnOk P w K mg base CX0 2 fST dST ["_law_pen_here", "_law_rules"] (spSText K) := ok_stext T.FST T.FDr T.bDr T.gDr T.FIt T.bIt T.gIt T.B
  have GBe : FnOk P w K mg base CX0 3 fBe dBe ["_law_pen_here", "_law_text", "_law_size"] spBent := ok_bent T.FBe T.FDr T.bDr T.gDr T.FPk T.bPk T.gPk T.B
  have GDu : FnOk P w K mg base CX0 3 fDu dDu ["_law_text", "_law_size"] spDue := ok_due T.FDu T.FFi T.bFi T.gFi T.FIs T.bIs T.gIs T.B
  obtain ⟨ocW, odW, kVW, dcW, pmW, anW, cdvW, ctW, oslW, eW, lkW, hcW⟩ := T.FRf.ex
  have bW' := T.bRf
  rw [eW] at bW' lkW
  refine ok_code lk hcd scLaw (fun vs H Q E h => ?_) (fun A outer s H vs Q E hr h => ?_)
  · obtain ⟨a, ns, rfl, _⟩ := h
    rfl
  · obtain ⟨a, ns, rfl, hS, hlen, hTP, q⟩ := h
    have r1 : Room 1 _ := hr.mono (by decide)
    have r2 : Room 2 _ := hr.mono (by decide)
    have r3 : Room 3 _ := hr.mono (by decide)
    have hu : (A.deeper (envOfC "law" (defScope sLaw) s.heap.objs.size f (.ref c))).units + 64 < cLine := hr.units
    let TT : List (Addr × Str) := [(tP, (envOfC "law" (defScope sLaw) s.heap.objs.size f (.ref c)).qual ++ "<lambda>")]
    refine ⟨_, (C8.pss_cut (ps_set (i := 1) scLaw.nd rfl (.inr rfl) (pe_call GPn r1 (by rfl) T.gPn T.FPn.kp T.bPn .nil pass0 (pa_cons (pv 0) pa_nil)))
      (C8.pss_cut (ps_set (i := 2) scLaw.nd rfl (.inr rfl) (pe_call GPk r2 (by rfl) T.gPk T.FPk.kp T.bPk .nil pass0 (pa_cons (pv 1) (pa_cons (pe_lst (pa_cons pe_int (pa_cons pe_int (pa_cons pe_int (pa_cons pe_int (pa_cons pe_int (pa_cons pe_int pa_nil))))))) pa_nil))))
      (C8.pss_cut (ps_for PassesOwn.never rfl (pi_range1 (by rfl) T.B.range (pa_cons pe_int pa_nil)) (pg_name (i := 3) scLaw.nd rfl (.inl rfl))
        (C8.pss_cut (ps_set (i := 4) scLaw.nd rfl (.inr rfl) (pe_call GST r2 (by rfl) T.gST T.FST.kp T.bST .nil pass0 (pa_cons (pv 1) (pa_cons (pe_lc (own := [("_law_rule", 10)]) (g := gName 10) (by rfl) scLaw.nd (pi_range1 (by rfl) T.B.range (pa_cons (pe_op op_add pe_int (pe_call GDr r1 (by rfl) T.gDr T.FDr.kp T.bDr .nil pass0 (pa_cons (pv 1) (pa_cons pe_int pa_nil)))) pa_nil)) (blkOk_by (own := [("_law_rule", 10)]) (N := ["_law_script", "_law_pen_here", "_law_size", "_law_lap", "_law_text", "_law_change", "_law_line", "_law_word", "_law_due_here", "_law_odd", "_law_rule"]) (sc := defScope sLaw) (by decide +kernel)) (fun _ _ _ _ _ => (pg_name (i := 10) scLaw.nd rfl (.inl rfl))) (fun _ _ _ _ _ => pts_nil) (fun _ _ _ _ _ => (pe_call GDR r3 (by rfl) T.gDR T.FDR.kp T.bDR .nil pass0 (pa_cons (pv 1) (pa_cons (pv 2) pa_nil))))) pa_nil))))
        (C8.pss_cut (ps_for PassesOwn.never rfl (pi_range1 (by rfl) T.B.range (pa_cons (pe_call GDr r1 (by rfl) T.gDr T.FDr.kp T.bDr .nil pass0 (pa_cons (pv 1) (pa_cons pe_int pa_nil))) pa_nil)) (pg_name (i := 5) scLaw.nd rfl (.inl rfl)) (pss_one (ps_set (i := 4) scLaw.nd rfl (.inr rfl) (pe_call GBe r3 (by rfl) T.gBe T.FBe.kp T.bBe .nil pass0 (pa_cons (pv 1) (pa_cons (pv 4) (pa_cons (pv 2) pa_nil)))))))
        (C8.pss_cut (ps_asg (pe_call GDu r3 (by rfl) T.gDu T.FDu.kp T.bDu .nil pass0 (pa_cons (pv 4) (pa_cons (pv 2) pa_nil))) (pg_tup rfl (pgs_cons (pg_name (i := 6) scLaw.nd rfl (.inl rfl)) (pgs_cons (pg_name (i := 7) scLaw.nd rfl (.inl rfl)) pgs_nil))))
        (C8.pss_cut (ps_set (i := 8) scLaw.nd rfl (.inl rfl) (pe_ifExp (pt_cmpR op_gt (pv 6) pe_int (nomark _)) (pe_lst (pa_cons pe_str (pa_cons (pv 6) (pa_cons (pv 7) pa_nil)))) (pe_lst pa_nil)))
        (pss_one (ps_if (pt_cmpR (op_neD hu) (pe_lamcall (T := TT) (TT := TTr CT) (Ng := ["_law_call", "e"]) (by rfl) T.gRf T.FRf.kp lkW hcW bW' scRef rfl (.inl rfl) (ref_gives T.V) TB rfl (List.mem_singleton.mpr rfl) (fun p hp _ => by rw [List.mem_singleton.mp hp]; rfl) hr (lamS_by (sc := defScope sLaw) (by decide +kernel)) rfl (fun _ _ _ _ _ => rfl) (fun A2 o2 s2 H2 E2 f2 c2 hr2 => pe_make T.S.mkf GI hr2 (by rfl) T.S.g T.bI .nil (passes_call (takes_of rfl rfl rfl rfl) (fun _ _ _ _ h => h)) (pa_cons (pv 2) (pa_cons (pv 4) pa_nil)))) (pv 8) (nomark _)) (pss_one (ps_ret pe_bl)) pss_nil)))))))
      (C8.pss_cut (ps_set (i := 9) scLaw.nd rfl (.inr rfl) (pe_call GPk r2 (by rfl) T.gPk T.FPk.kp T.bPk .nil pass0 (pa_cons (pv 1) (pa_cons (pe_lst (pa_cons pe_non (pa_cons pe_int (pa_cons (pe_lst (pa_cons pe_str pa_nil)) (pa_cons (pe_tup (pa_cons pe_str pa_nil)) pa_nil))))) pa_nil))))
      (pss_one (ps_ret (pe_cmpR (op_eqD hu) (pe_lamcall (T := TT) (TT := TTr CT) (Ng := ["_law_call", "e"]) (by rfl) T.gRf T.FRf.kp lkW hcW bW' scRef rfl (.inl rfl) (ref_gives T.V) TB rfl (List.mem_singleton.mpr rfl) (fun p hp _ => by rw [List.mem_singleton.mp hp]; rfl) hr (lamS_by (sc := defScope sLaw) (by decide +kernel)) rfl (fun _ _ _ _ _ => rfl) (fun A2 o2 s2 H2 E2 f2 c2 hr2 => pe_make T.S.mkf GI hr2 (by rfl) T.S.g T.bI .nil (passes_call (takes_of rfl rfl rfl rfl) (fun _ _ _ _ h => h)) (pa_cons (pv 2) (pa_cons (pv 9) pa_nil)))) (pe_lst (pa_cons pe_str (pa_cons pe_int (pa_cons pe_int pa_nil)))) (nomark _)))))))), ?_⟩
    refine ⟨fun σ' H' => ∃ p pc : Addr, σ' = [some (.ref a), some (.ref p), none, none, none, none, none, none, none, none, none] ∧ Sx TT p pc 0 H', ?_, ?_⟩
    · refine ⟨_, rfl, a, ns, rfl, hS, hlen, fun H' p pc sm np nc hP => ⟨p, pc, rfl, 0, Nat.le_refl _, hP, fun q hq => ?_⟩⟩
      rw [List.mem_singleton.mp hq]
      exact TabS.nil (sm _ _ hTP)
    rintro _ H1 ⟨p, pc, rfl, x1⟩
    clear hTP hS
    -- the size
    refine ⟨fun σ' H' => ∃ n : Nat, 1 ≤ n ∧ n ≤ 24 ∧ σ' = [some (.ref a), some (.ref p), some (.int (n : Nat)), none, none, none, none, none, none, none, none] ∧ Sx TT p pc 1 H', ?_, ?_⟩
    · obtain ⟨m, hm, hP, tb⟩ := x1
      refine ⟨_, rfl, by show 6 ≤ sizeLine; decide, fun r nr => ⟨p, pc, r, m, _, rfl, hP.ext (same_new nr), by omega, .inl (SqL.of upd_same), by simp, by show 6 ≤ 1000; decide, fun j v H3 hj hP3 k3 => ?_⟩⟩
      have xx : Sx TT p pc 1 H3 := sx_step (hP.ext (same_new nr)) (Tabs.ext tb (same_new nr)) hP3 (KB.eq k3) (by omega)
      have := List.mem_of_getElem? hj
      simp only [List.mem_cons, List.mem_nil_iff, or_false] at this
      rcases this with h | h | h | h | h | h <;> subst h
      · exact ⟨1, by decide, by decide, rfl, xx⟩
      · exact ⟨2, by decide, by decide, rfl, xx⟩
      · exact ⟨3, by decide, by decide, rfl, xx⟩
      · exact ⟨5, by decide, by decide, rfl, xx⟩
      · exact ⟨11, by decide, by decide, rfl, xx⟩
      · exact ⟨24, by decide, by decide, rfl, xx⟩
    rintro _ H2 ⟨n, hn1, hn, rfl, x2⟩
    clear x1
    -- eight laps
    refine ⟨fun σ' H' => ∃ (v3 v4 v5 v6 v7 v8 v9 v10 : Option V), σ' = [some (.ref a), some (.ref p), some (.int (n : Nat)), v3, v4, v5, v6, v7, v8, v9, v10] ∧ Sx TT p pc 8001 H', ?_, ?_⟩
    · refine ⟨8, rfl, by decide, by decide, for_range (n := 8) (fun i σ' H' => ∃ (v3 v4 v5 v6 v7 v8 v9 v10 : Option V), σ' = [some (.ref a), some (.ref p), some (.int (n : Nat)), v3, v4, v5, v6, v7, v8, v9, v10] ∧ Sx TT p pc (1000 * i + 1) H') ⟨none, none, none, none, none, none, none, none, rfl, x2⟩ ?_ ?_⟩
      rotate_left
      · rintro _ H3 ⟨v3, v4, v5, v6, v7, v8, v9, v10, rfl, x3⟩
        exact ⟨v3, v4, v5, v6, v7, v8, v9, v10, rfl, x3⟩
      rintro i _ H3 hi ⟨v3, v4, v5, v6, v7, v8, v9, v10, rfl, x3⟩
      -- a text
      refine ⟨fun σ' H' => ∃ t : Str, t.length ≤ 6100 ∧ asc t ∧ σ' = [some (.ref a), some (.ref p), some (.int (n : Nat)), some (.int (0 + (i : Nat))), some (.str t), v5, v6, v7, v8, v9, v10] ∧ Sx TT p pc (1000 * i + 800) H', ?_, ?_⟩
      · obtain ⟨m, hm, hP, tb⟩ := x3
        refine ⟨_, rfl, _, rfl, p, pc, m, 3, rfl, hP, by omega, by decide, by decide, fun y H4 y0 y1 hP4 k4 => ⟨_, _, rfl, rfl, 1 + y, rfl, by omega, by omega, ?_⟩⟩
        obtain ⟨j, rfl⟩ : ∃ j : Nat, y = (j : Int) := ⟨y.toNat, by omega⟩
        have ej : ((1 : Int) + (j : Nat)).toNat = 1 + j := by omega
        rw [ej]
        obtain ⟨kv3, hp3⟩ := pen_dict hP
        have tb4 := tabs_kb hp3 tb (KB.eq k4)
        have hDp : ∀ D, H4 D = none → D ≠ p := fun D nD z => by
          obtain ⟨kv4, hp4⟩ := pen_dict hP4
          rw [z, hp4] at nD
          cases nD
        refine fun D nD => lc_range (lo := 0) (n := 1 + j) (fun i' H' => ∃ (m' : Nat) (ts : List Addr), PenAt H' p pc m' ∧ m' ≤ m + 1 + 200 * i' ∧ Tabs TT H' ∧ H' D = some (.lst (ts.map V.ref)) ∧ ts.length = i' ∧ (∀ b o, (upd H4 D (.lst [])) b = some o → b ≠ p → b ≠ D → H' b = some o) ∧ ∀ t ∈ ts, RuleN (upd H4 D (.lst [])) H' t)
          ⟨m + 1, [], hP4.ext (same_new nD), by omega, Tabs.ext tb4 (same_new nD), upd_same, rfl, fun _ _ e _ _ => e, fun _ z => by cases z⟩ ?_ ?_
        · rintro i' H5 hi' ⟨m', ts, hP5, hm5, tb5, e5, l5, k5, r5⟩
          obtain ⟨kv5, hp5⟩ := pen_dict hP5
          refine ⟨rfl, _, rfl, _, rfl, p, pc, m', n, rfl, hP5, by omega, hn1, hn, fun H6 t m6 hP6 hm6 kb6 rt nt => ?_⟩
          have e6 : H6 D = some (.lst (ts.map V.ref)) := kb6 _ _ e5 (hDp D nD)
          have hND : (upd H4 D (.lst [])) D ≠ none := by rw [upd_same]; exact fun z => nomatch z
          have low : ∀ b, H5 b = none → (upd H4 D (.lst [])) b = none := fun b hb => by
            cases e : (upd H4 D (.lst [])) b with
            | none => rfl
            | some o =>
              have : H5 b = some o := k5 _ _ e (fun z => by rw [z, hp5] at hb; cases hb) (fun z => by rw [z, e5] at hb; cases hb)
              rw [hb] at this
              cases this
          refine ⟨_, e6, ?_, m6, ts ++ [t], ?_, by omega, tabs_off e6 (tabs_kb hp5 tb5 kb6), ?_, ?_, fun b o e hb hb2 => ?_, fun t' ht' => ?_⟩
          · rw [List.length_map, l5]
            exact Nat.lt_of_le_of_lt (show i' ≤ 3 by omega) (by decide)
          · refine hP6.same (by rw [upd_ne (hDp D nD).symm]) ?_
            obtain ⟨ns2, a2, d2, f2, ep2, ec2, _⟩ := hP4
            rw [upd_ne (ne_of_none ec2 nD)]
          · rw [upd_same, List.map_append]
            rfl
          · rw [List.length_append, l5]
            rfl
          · rw [upd_ne hb2]
            exact kb6 _ _ (k5 _ _ e hb hb2) hb
          · rcases List.mem_append.mp ht' with z | z
            · exact ((r5 t' z).kb hp5 kb6).off e6 hND
            · rw [List.mem_singleton.mp z]
              exact (rt.low low).off e6 hND
        · rintro H5 ⟨m', ts, hP5, hm5, tb5, e5, l5, k5, r5⟩
          refine ⟨p, pc, D, m', ts, rfl, hP5, by omega, SqL.of e5, by omega, fun t ht => (r5 t ht).at, fun H6 x m6 hP6 hm6 kb6 lx ax => ⟨x, lx, ax, rfl, sx_step hP5 tb5 hP6 kb6 (by omega)⟩⟩
      rintro _ H4 ⟨t, lt, at', rfl, x4⟩
      clear x3
      -- changes
      refine ⟨fun σ' H' => ∃ (w5 : Option V) (t : Str), t.length ≤ 1000000 ∧ asc t ∧ σ' = [some (.ref a), some (.ref p), some (.int (n : Nat)), some (.int (0 + (i : Nat))), some (.str t), w5, v6, v7, v8, v9, v10] ∧ Sx TT p pc (1000 * i + 900) H', ?_, ?_⟩
      · obtain ⟨m, hm, hP, tb⟩ := x4
        refine ⟨_, rfl, p, pc, m, 3, rfl, hP, by omega, by decide, by decide, fun y H5 y0 y1 hP5 k5 => ⟨y, rfl, by omega, by omega, ?_⟩⟩
        obtain ⟨j, rfl⟩ : ∃ j : Nat, y = (j : Int) := ⟨y.toNat, by omega⟩
        rw [Int.toNat_natCast]
        have x5 : Sx TT p pc (1000 * i + 801) H5 := sx_step hP tb hP5 (KB.eq k5) (by omega)
        refine for_range (lo := 0) (n := j) (fun i' σ' H' => ∃ (w5 : Option V) (t : Str), t.length ≤ 6100 * 9 ^ i' ∧ asc t ∧ σ' = [some (.ref a), some (.ref p), some (.int (n : Nat)), some (.int (0 + (i : Nat))), some (.str t), w5, v6, v7, v8, v9, v10] ∧ Sx TT p pc (1000 * i + 801 + 10 * i') H') ⟨v5, t, by omega, at', rfl, x5⟩ ?_ ?_
        · rintro i' _ H6 hi' ⟨w5, t, lt, at', rfl, x6⟩
          obtain ⟨m6, hm6, hP6, tb6⟩ := x6
          have h9 : 9 ^ i' ≤ 9 := by
            have : i' = 0 ∨ i' = 1 := by omega
            rcases this with rfl | rfl <;> decide
          refine ⟨_, rfl, _, rfl, _, rfl, p, pc, m6, n, t, rfl, hP6, by omega, by omega, at', hn1, hn, fun H7 x m7 hP7 hm7 kb7 lx ax => ⟨_, x, ?_, ax, rfl, sx_step hP6 tb6 hP7 kb7 (by omega)⟩⟩
          have h0 : 1 ≤ 9 ^ i' := Nat.one_le_pow _ _ (by decide)
          rw [Nat.pow_succ]
          omega
        · rintro _ H6 ⟨w5, t, lt, at', rfl, x6⟩
          have h9 : 9 ^ j ≤ 81 := by
            have : j = 0 ∨ j = 1 ∨ j = 2 := by omega
            rcases this with rfl | rfl | rfl <;> decide
          exact ⟨w5, t, by omega, at', rfl, x6.mono (by omega)⟩
      clear lt at'
      rintro _ H5 ⟨w5, t, lt, at', rfl, x5⟩
      clear x4
      -- what is due
      generalize hl : (dueL n (Txt.split t "\n") 1).1 = l
      generalize hc : (dueL n (Txt.split t "\n") 1).2 = cc
      have hlc : dueL n (Txt.split t "\n") 1 = (l, cc) := by rw [← hl, ← hc]
      refine ⟨fun σ' H' => σ' = [some (.ref a), some (.ref p), some (.int (n : Nat)), some (.int (0 + (i : Nat))), some (.str t), w5, some (.int (l : Nat)), some (.int (cc : Nat)), v8, v9, v10] ∧ Sx TT p pc (1000 * i + 900) H', ?_, ?_⟩
      · refine ⟨_, rfl, _, rfl, t, n, rfl, hn1, hn, at', lt, fun H6 tp s6 nt et => ⟨tp, _, rfl, .inl (.inl et), rfl, _, _, rfl, _, _, rfl, rfl, ?_, x5.same s6⟩⟩
        rw [hl, hc]
        rfl
      rintro _ H6 ⟨rfl, x6⟩
      clear x5
      refine ⟨fun σ' H' => ∃ dd, σ' = [some (.ref a), some (.ref p), some (.int (n : Nat)), some (.int (0 + (i : Nat))), some (.str t), w5, some (.int (l : Nat)), some (.int (cc : Nat)), some (.ref dd), v9, v10] ∧ Sx TT p pc (1000 * i + 900) H' ∧ H' dd = some (.lst (dueV l cc)), ?_, ?_⟩
      · refine ⟨_, rfl, _, _, rfl, rfl, _, rfl, ite2 (fun e => ?_) (fun e => ?_)⟩
        · have hpos : 0 < l := by
            have := of_decide_eq_true e
            omega
          refine ⟨_, rfl, _, rfl, by show 3 ≤ sizeLine; decide, fun dd nd => ⟨dd, rfl, x6.same (same_new nd), ?_⟩⟩
          rw [upd_same]
          unfold dueV
          rw [if_pos hpos]
        · have hpos : ¬ 0 < l := fun z => e (decide_eq_true (by show (0 : Int) < (l : Nat); omega))
          refine ⟨by show 0 ≤ sizeLine; decide, fun dd nd => ⟨dd, rfl, x6.same (same_new nd), ?_⟩⟩
          rw [upd_same]
          unfold dueV
          rw [if_neg hpos]
      rintro _ H7 ⟨dd, rfl, x7, edd⟩
      clear x6
      have x7' := x7
      obtain ⟨m, hm, hP, tb⟩ := x7
      refine ⟨tb, fun Ha xa tba => ⟨_, rfl, _, rfl, fun x dx nx nd ne => ⟨x, dx, n, .str t, Ha, rfl, upd_same, made_same nx nd, nx, hn1, hn, .inl ⟨t, rfl, lt, ?_⟩⟩⟩⟩
      have ed : ∀ {Hb : Hp}, Same Ha Hb → Hb dd = some (.lst (dueV l cc)) := fun sb => sb _ _ (xa _ _ edd (fun ps z => by cases z))
      have cmp : ∀ (Hb : Hp) (pp : Addr), Same Ha Hb → Hb pp = some (.lst (dueV l cc)) → rNeD K (.ref pp) (.ref dd) Hb fun z H' => ∃ b, z = .bl b ∧ if b = true then Q (.bl false) H' else ∃ (u3 u4 u5 u6 u7 u8 u9 u10 : Option V), [some (.ref a), some (.ref p), some (.int (n : Nat)), some (.int (0 + (i : Nat))), some (.str t), w5, some (.int (l : Nat)), some (.int (cc : Nat)), some (.ref dd), v9, v10] = [some (.ref a), some (.ref p), some (.int (n : Nat)), u3, u4, u5, u6, u7, u8, u9, u10] ∧ Sx TT p pc (1000 * (i + 1) + 1) H' := by
        intro Hb pp sb epp
        refine ⟨_, _, due_dp epp, due_dp (ed sb), due_sh _ _, due_sh _ _, ?_⟩
        rw [due_eqv]
        exact ⟨_, rfl, iteF ⟨_, _, _, _, _, _, _, _, rfl, ((x7'.ext xa tba).same sb).mono (by omega)⟩⟩
      rcases dueL_pos (n := n) (ls := Txt.split t "\n") (i := 1) (by decide) with hd | ⟨hd, _⟩
      · have e0 : l = 0 ∧ cc = 0 := by
          rw [hlc] at hd
          exact ⟨congrArg Prod.fst hd, congrArg Prod.snd hd⟩
        refine .inl ⟨hd, fun Hb sb => ⟨rfl, by show 0 ≤ sizeLine; decide, fun pp npp => ⟨_, rfl, ?_⟩⟩⟩
        have sp := same_upd (o := .lst []) sb (none_back sb npp)
        refine cmp _ pp sp ?_
        rw [upd_same]
        unfold dueV
        rw [if_neg (by omega)]
      · rw [hlc] at hd
        refine .inr ⟨l, cc, hlc, hd, fun d Hb sb edx => ⟨d, .int (l : Nat), .int (cc : Nat), rfl, rfl, edx, fun pp npp => ⟨_, rfl, ?_⟩⟩⟩
        have sp := same_upd (o := .lst [.str "text", .int (l : Nat), .int (cc : Nat)]) sb (none_back sb npp)
        refine cmp _ pp sp ?_
        rw [upd_same]
        unfold dueV
        rw [if_pos hd]
    rintro _ H3 ⟨v3, v4, v5, v6, v7, v8, v9, v10, rfl, x3⟩
    clear x2
    -- what is no text
    refine ⟨fun σ' H' => ∃ odd : V, σ' = [some (.ref a), some (.ref p), some (.int (n : Nat)), v3, v4, v5, v6, v7, v8, some odd, v10] ∧ Odd H' odd ∧ Sx TT p pc 8002 H', ?_, ?_⟩
    · obtain ⟨m, hm, hP, tb⟩ := x3
      refine ⟨_, rfl, by show 1 ≤ sizeLine; decide, fun l1 n1 => ⟨by show 1 ≤ sizeLine; decide, fun l2 n2 => ⟨by show 4 ≤ sizeLine; decide, fun l3 n3 => ?_⟩⟩⟩
      have a1 : Same H3 (upd H3 l1 (.lst [.str "weight 1"])) := same_new n1
      have e1 : (upd H3 l1 (.lst [.str "weight 1"])) l1 = some (.lst [.str "weight 1"]) := upd_same
      generalize upd H3 l1 (.lst [.str "weight 1"]) = Ha at a1 e1 n2 n3 ⊢
      have a2 : Same Ha (upd Ha l2 (.tup [.str "run 1"])) := same_new n2
      have e2 : (upd Ha l2 (.tup [.str "run 1"])) l2 = some (.tup [.str "run 1"]) := upd_same
      generalize upd Ha l2 (.tup [.str "run 1"]) = Hb at a2 e2 n3 ⊢
      have a3 : Same Hb (upd Hb l3 (.lst [.non, .int 5, .ref l1, .ref l2])) := same_new n3
      have e3 : (upd Hb l3 (.lst [.non, .int 5, .ref l1, .ref l2])) l3 = some (.lst [.non, .int 5, .ref l1, .ref l2]) := upd_same
      generalize upd Hb l3 (.lst [.non, .int 5, .ref l1, .ref l2]) = Hc at a3 e3 ⊢
      have hPc := hP.ext (a1.trans (a2.trans a3))
      obtain ⟨kvc, hpc⟩ := pen_dict hPc
      refine ⟨p, pc, l3, m, _, rfl, hPc, by omega, .inl (SqL.of e3), by simp, by show 4 ≤ 1000; decide, fun j v H4 hj hP4 k4 => ⟨v, rfl, ?_, sx_step hPc (Tabs.ext tb (a1.trans (a2.trans a3))) hP4 (KB.eq k4) (by omega)⟩⟩
      have := List.mem_of_getElem? hj
      simp only [List.mem_cons, List.mem_nil_iff, or_false] at this
      rcases this with h | h | h | h <;> subst h
      · exact .inl rfl
      · exact .inr (.inr (.inl ⟨_, rfl⟩))
      · have e := a3 _ _ (a2 _ _ e1)
        exact .inr (.inr (.inr (.inl ⟨_, _, rfl, (k4 l1 (ne_of e hpc (by intro z; cases z))).trans e⟩)))
      · have e := a3 _ _ e2
        exact .inr (.inr (.inr (.inr (.inl ⟨_, _, rfl, (k4 l2 (ne_of e hpc (by intro z; cases z))).trans e⟩))))
    rintro _ H4 ⟨odd, rfl, ho, x4⟩
    obtain ⟨m, hm, hP, tb⟩ := id x4
    refine ⟨tb, fun Ha xa tba => ⟨_, rfl, _, rfl, fun x dx nx nd ne => ⟨x, dx, n, odd, Ha, rfl, upd_same, made_same nx nd, nx, hn1, hn, .inr ⟨(ho.ext xa).same (made_same nx nd), fun d Hb sb edx => ⟨d, .int 0, .int 0, rfl, rfl, edx, fun pp npp => ⟨by show 3 ≤ sizeLine; decide, fun r nr => ?_⟩⟩⟩⟩⟩⟩
    refine ⟨.list [.str "text", .int 0, .int 0], .list [.str "text", .int 0, .int 0], .lst (SqL.of ((same_new nr) _ _ upd_same)) (.cons (.str _) (.cons (.int _) (.cons (.int _) .nil))), .lst (SqL.of upd_same) (.cons (.str _) (.cons (.int _) (.cons (.int _) .nil))), by decide +kernel, by decide +kernel, ?_⟩
    rw [show PyData.eqv (.list [.str "text", .int 0, .int 0]) (.list [.str "text", .int 0, .int 0]) = true by decide +kernel]
    exact q _
end
end KQ

namespace KQ
open PySem PySem.Spec PyProof.Rows L2 LamX

/-! ### what the top has written -/
/-- an own exception class straight over the class at cK, which is straight over ValueError -/
structure KC (K : PySem.W.Frag) (cK C : Addr) : Prop where
  l : ∃ nm q N bs sn sub ab col dd k0 k1 k2 k3 k5, K.lookup C = some (excClassObj nm q C N bs [.ref cK, .type "ValueError", .type "Exception", .type "BaseException", .type "object"] true sn sub ab col dd k0 k1 k2 k3 k5 "ValueError.__new__")
  sa : PySem.W.findIn K (Value.ref C) "__setattr__" = some (some (.builtin "object.__setattr__"))
  ty : PySem.W.typeIn K (.ref C) = some (.type "type")
  kp : PySem.W.keepIn K (Value.ref C) = true
  hg : PySem.W.findIn K (.ref C) "__getattribute__" = some (some (.builtin "BaseException.__getattribute__"))
  hk : PySem.W.findIn K (.ref C) "__getattr__" = some none
  ha : PySem.W.findIn K (Value.ref C) "__class__" = some (some (.builtin "object.__class__"))
theorem KC.of {K : PySem.W.Frag} {cK C N : Addr} {nm q : Str} {bs : List Value} {sn : List Str} {sub : List Value} {ab : Bool} {col : Option Bool} {dd : Option Addr} {k0 k1 k2 k3 k5 : Option Value}
    (l : K.lookup C = some (excClassObj nm q C N bs [.ref cK, .type "ValueError", .type "Exception", .type "BaseException", .type "object"] true sn sub ab col dd k0 k1 k2 k3 k5 "ValueError.__new__"))
    (sa : PySem.W.findIn K (.ref C) "__setattr__" = some (some (.builtin "object.__setattr__"))) (ty : PySem.W.typeIn K (.ref C) = some (.type "type")) (kp : PySem.W.keepIn K (.ref C) = true)
    (hg : PySem.W.findIn K (.ref C) "__getattribute__" = some (some (.builtin "BaseException.__getattribute__"))) (hk : PySem.W.findIn K (.ref C) "__getattr__" = some none)
    (ha : PySem.W.findIn K (.ref C) "__class__" = some (some (.builtin "object.__class__"))) : KC K cK C := ⟨⟨_, _, _, _, _, _, _, _, _, _, _, _, _, _, l⟩, sa, ty, kp, hg, hk, ha⟩
theorem fun_ex {K : PySem.W.Frag} {x qual : Str} {st : Stmt} {f : Addr} {oc : Value} {od an : Option Addr} {osl : Array (Option Value)} {kV doc pm cdv ct : Value} (l : K.lookup f = some ⟨oc, od, .func (PySem.W.fnOf x qual (defArgs st) (defBody st) (defScope st) .none kV doc pm an cdv ct), osl⟩)
    (c : PySem.W.codeIn K cdv qual = true) (k : PySem.W.keepIn K (.ref f) = true) : ∃ d, Fun K x qual st f d := ⟨_, L2.fun_mk l c k⟩
theorem KC.cls {K : PySem.W.Frag} {cK C : Addr} (h : KC K cK C) : ∃ cd, PySem.W.clsIn K C = some cd ∧ cd.mro = [.ref C, .ref cK, .type "ValueError", .type "Exception", .type "BaseException", .type "object"] ∧ cd.hasDict = true := by
  obtain ⟨nm, q, N, bs, sn, sub, ab, col, dd, k0, k1, k2, k3, k5, hl⟩ := h.l
  refine ⟨_, by unfold PySem.W.clsIn; rw [hl] <;> rfl, rfl, rfl⟩
theorem KC.mro {K : PySem.W.Frag} {cK C : Addr} (h : KC K cK C) (b : Value) : PySem.W.mroIn K C b = some ([Value.ref C, .ref cK, .type "ValueError", .type "Exception", .type "BaseException", .type "object"].contains b) := by
  obtain ⟨cd, e, m, _⟩ := h.cls
  unfold PySem.W.mroIn
  rw [e, Option.bind_some, m]
  rfl
theorem KC.exC {K : PySem.W.Frag} {cK C : Addr} (h : KC K cK C) : PySem.W.subIn K (.ref C) (.type "BaseException") = some true := by
  show PySem.W.mroIn K C _ = _
  rw [h.mro]
  rfl
theorem KC.ox {K : PySem.W.Frag} {cK C : Addr} (h : KC K cK C) : OexC K C := by
  obtain ⟨nm, q, N, bs, sn, sub, ab, col, dd, k0, k1, k2, k3, k5, hl⟩ := h.l
  exact ⟨⟨nm, q, N, bs, _, sn, sub, ab, col, dd, k0, k1, k2, k3, k5, hl, rfl⟩, h.sa, h.exC, h.ty, h.kp⟩

theorem KC.hd {K : PySem.W.Frag} {cK C : Addr} (h : KC K cK C) : PySem.W.hasDictIn K C = true := by
  obtain ⟨cd, e, _, d⟩ := h.cls
  show (PySem.W.clsIn K C).any _ = true
  rw [e]
  exact d
theorem KC.xf {K : PySem.W.Frag} {cK C : Addr} (h : KC K cK C) : XfC K C := ⟨h.hg, h.hk, h.exC, h.hd⟩
theorem KC.ex {K : PySem.W.Frag} {cK C : Addr} (h : KC K cK C) : PySem.W.exmOne K (.ref C) (.ref C) = some true := by
  refine PySem.W.exm_ref h.exC h.hd h.ty ?_
  show PySem.W.mroIn K C _ = _
  rw [h.mro, List.contains_cons, beq_self_eq_true, Bool.true_or]


theorem lw_ex {K : PySem.W.Frag} {A : Addr} {t0 t1 t2 t3 t4 t5 t6 t7 t8 t9 ta tb tc td te : Tok} {n : Nat} {sl : Array (Option Value)} (l : K.lookup A = some ⟨.type "tuple", none, .seq #[.str "X" t0, .str "Y" t1, .str "Z" t2, .str "XY" t3, .str "XZ" t4, .str "YX" t5, .str "YZ" t6, .str "ZX" t7, .str "ZY" t8, .str "XYZ" t9, .str "XZY" ta, .str "YXZ" tb, .str "YZX" tc, .str "ZXY" td, .str "ZYX" te] n, sl⟩) : ∃ t0 t1 t2 t3 t4 t5 t6 t7 t8 t9 ta tb tc td te n sl, K.lookup A = some ⟨.type "tuple", none, .seq #[.str "X" t0, .str "Y" t1, .str "Z" t2, .str "XY" t3, .str "XZ" t4, .str "YX" t5, .str "YZ" t6, .str "ZX" t7, .str "ZY" t8, .str "XYZ" t9, .str "XZY" ta, .str "YXZ" tb, .str "YZX" tc, .str "ZXY" td, .str "ZYX" te] n, sl⟩ := ⟨_, _, _, _, _, _, _, _, _, _, _, _, _, _, _, _, _, l⟩

theorem all_mk {l : PySem.W.OpenLaw} {w : World} {K : PySem.W.Frag} {h : Heap} {mg : Str → Option Value} {fa : Addr} {CX : CXT} (eCX : CX = CX0) (X : K.In h) (G : h.Ns mainGlobals mg) (hfa : mg "law" = some (.ref fa)) {ts : List Addr} (hTs : ∀ R ∈ ts, h.get? R = some (PySem.W.tabObj #[]))
    {cK C CT fI fB hA fG fCm fRu fLi fOn fNb fPr fPn fDr fPk fSh fDR fIt fST fIs fFi fDu fRf fBe fLa c tP : Addr} {tM : Tok} {oc ec kV doc pm ct : Value} {od an dc : Option Addr} {osl sc : Array (Option Value)} {vc : Array Value}
    (aK : PySem.W.nsIn K mainGlobals "KeptError" = some (some (.ref cK)))
    (aT : PySem.W.nsIn K mainGlobals "BadText" = some (some (.ref CT)))
    (aP : PySem.W.nsIn K mainGlobals "Sort" = some (some (.ref C)))
    (aH : PySem.W.nsIn K mainGlobals "LETTER_WORDS" = some (some (.ref hA)))
    (aMp : PySem.W.nsIn K mainGlobals "MOST_PLACES" = some (some (.int 24 tM)))
    (kc : KC K cK CT)
    (icT : PySem.W.findIn K (.ref CT) "__init__" = some (some (.ref fB)))
    (tiT : PySem.W.typeIn K (.ref fB) = some (.type "function"))
    (nt0 : PySem.W.findIn K (.ref CT) "line" = some none)
    (nt1 : PySem.W.findIn K (.ref CT) "column" = some none)
    (FB : ∃ d, Fun K "__init__" "BadText.__init__" sInitT fB d)
    (pgP : PySem.W.plainGet K C Str.empty = true)
    (hdi : PySem.W.hasDictIn K C = true)
    (po : PySem.W.plainOver K C = true)
    (saP : PySem.W.findIn K (.ref C) "__setattr__" = some (some (.builtin "object.__setattr__")))
    (np0 : PySem.W.findIn K (.ref C) "size" = some none)
    (np1 : PySem.W.findIn K (.ref C) "text" = some none)
    (np2 : PySem.W.findIn K (.ref C) "run" = some none)
    (np3 : PySem.W.findIn K (.ref C) "letters" = some none)
    (np4 : PySem.W.findIn K (.ref C) "places" = some none)
    (np5 : PySem.W.findIn K (.ref C) "pairs" = some none)
    (np6 : PySem.W.findIn K (.ref C) "most" = some none)
    (mkC : PySem.W.makesIn K C = true)
    (icP : PySem.W.findIn K (.ref C) "__init__" = some (some (.ref fI)))
    (ifP : PySem.W.isFn K (.ref fI) = true)
    (kpP : PySem.W.keepIn K (.ref C) = true)
    (hl : ∃ t0 t1 t2 t3 t4 t5 t6 t7 t8 t9 ta tb tc td te n sl, K.lookup hA = some ⟨.type "tuple", none, .seq #[.str "X" t0, .str "Y" t1, .str "Z" t2, .str "XY" t3, .str "XZ" t4, .str "YX" t5, .str "YZ" t6, .str "ZX" t7, .str "ZY" t8, .str "XYZ" t9, .str "XZY" ta, .str "YXZ" tb, .str "YZX" tc, .str "ZXY" td, .str "ZYX" te] n, sl⟩)
    (FI : ∃ d, Fun K "__init__" "Sort.__init__" sInit fI d)
    (gG : PySem.W.nsIn K mainGlobals "is_integer" = some (some (.ref fG)))
    (FG : ∃ d, Fun K "is_integer" "is_integer" sIsI fG d)
    (gCm : PySem.W.nsIn K mainGlobals "_common" = some (some (.ref fCm)))
    (FCm : ∃ d, Fun K "_common" "_common" sCommon fCm d)
    (gRu : PySem.W.nsIn K mainGlobals "_read_rules" = some (some (.ref fRu)))
    (FRu : ∃ d, Fun K "_read_rules" "_read_rules" sRules fRu d)
    (gLi : PySem.W.nsIn K mainGlobals "_read_line" = some (some (.ref fLi)))
    (FLi : ∃ d, Fun K "_read_line" "_read_line" sLine fLi d)
    (gOn : PySem.W.nsIn K mainGlobals "_only_word" = some (some (.ref fOn)))
    (FOn : ∃ d, Fun K "_only_word" "_only_word" sOnly fOn d)
    (gNb : PySem.W.nsIn K mainGlobals "_numbers_below" = some (some (.ref fNb)))
    (FNb : ∃ d, Fun K "_numbers_below" "_numbers_below" sNb fNb d)
    (gPr : PySem.W.nsIn K mainGlobals "_pair_of" = some (some (.ref fPr)))
    (FPr : ∃ d, Fun K "_pair_of" "_pair_of" sPair fPr d)
    (gPn : PySem.W.nsIn K mainGlobals "_law_pen" = some (some (.ref fPn)))
    (FPn : ∃ d, Fun K "_law_pen" "_law_pen" sPen fPn d)
    (gDr : PySem.W.nsIn K mainGlobals "_law_draw" = some (some (.ref fDr)))
    (FDr : ∃ d, Fun K "_law_draw" "_law_draw" sDraw fDr d)
    (gPk : PySem.W.nsIn K mainGlobals "_law_pick" = some (some (.ref fPk)))
    (FPk : ∃ d, Fun K "_law_pick" "_law_pick" sPick fPk d)
    (gSh : PySem.W.nsIn K mainGlobals "_law_shuffled" = some (some (.ref fSh)))
    (FSh : ∃ d, Fun K "_law_shuffled" "_law_shuffled" sShuf fSh d)
    (gDR : PySem.W.nsIn K mainGlobals "_law_drawn_rule" = some (some (.ref fDR)))
    (FDR : ∃ d, Fun K "_law_drawn_rule" "_law_drawn_rule" sDRule fDR d)
    (gIt : PySem.W.nsIn K mainGlobals "_law_item_words" = some (some (.ref fIt)))
    (FIt : ∃ d, Fun K "_law_item_words" "_law_item_words" sItem fIt d)
    (gST : PySem.W.nsIn K mainGlobals "_law_sort_text" = some (some (.ref fST)))
    (FST : ∃ d, Fun K "_law_sort_text" "_law_sort_text" sSText fST d)
    (gIs : PySem.W.nsIn K mainGlobals "_law_is_number" = some (some (.ref fIs)))
    (FIs : ∃ d, Fun K "_law_is_number" "_law_is_number" sIsNum fIs d)
    (gFi : PySem.W.nsIn K mainGlobals "_law_first_wrong" = some (some (.ref fFi)))
    (FFi : ∃ d, Fun K "_law_first_wrong" "_law_first_wrong" sFirst fFi d)
    (gDu : PySem.W.nsIn K mainGlobals "_law_due" = some (some (.ref fDu)))
    (FDu : ∃ d, Fun K "_law_due" "_law_due" sDue fDu d)
    (gRf : PySem.W.nsIn K mainGlobals "_law_refused" = some (some (.ref fRf)))
    (FRf : ∃ d, Fun K "_law_refused" "_law_refused" sRef fRf d)
    (gBe : PySem.W.nsIn K mainGlobals "_law_bent" = some (some (.ref fBe)))
    (FBe : ∃ d, Fun K "_law_bent" "_law_bent" sBent fBe d)
    (z_isinstance : PySem.W.nsIn K mainGlobals "isinstance" = some none)
    (z_int : PySem.W.nsIn K mainGlobals "int" = some none)
    (z_bool : PySem.W.nsIn K mainGlobals "bool" = some none)
    (z_str : PySem.W.nsIn K mainGlobals "str" = some none)
    (z_len : PySem.W.nsIn K mainGlobals "len" = some none)
    (z_range : PySem.W.nsIn K mainGlobals "range" = some none)
    (z_list : PySem.W.nsIn K mainGlobals "list" = some none)
    (z_tuple : PySem.W.nsIn K mainGlobals "tuple" = some none)
    (z_sorted : PySem.W.nsIn K mainGlobals "sorted" = some none)
    (z_set : PySem.W.nsIn K mainGlobals "set" = some none)
    (z_all : PySem.W.nsIn K mainGlobals "all" = some none)
    (z_min : PySem.W.nsIn K mainGlobals "min" = some none)
    (z_enumerate : PySem.W.nsIn K mainGlobals "enumerate" = some none)
    (gLa : PySem.W.nsIn K mainGlobals "law" = some (some (.ref fLa)))
    (lk : K.lookup fLa = some ⟨oc, od, .func (PySem.W.fnOf "law" "law" (defArgs sLaw) (defBody sLaw) (defScope sLaw) .none kV doc pm an (.ref c) ct), osl⟩)
    (hcd : PySem.W.codeIn K (.ref c) "law" = true)
    (lc : K.lookup c = some ⟨ec, dc, .fields vc, sc⟩)
    (h11 : vc[11]? = some (.ref tP))
    (nP : K.lookup tP = none)
    (hb : PySem.W.codeHdIn K c tP = true)
    (mem : tP ∈ ts) :
    LawAtS l w K CX 10 63 "_law_script" mg fa h := by
  subst eCX
  have e := hfa.symm.trans (PySem.W.mg_of X G gLa)
  cases e
  obtain ⟨dB, FB⟩ := FB
  have bB := FB.binds (ps := ["self", "line", "column"]) fun _ _ _ _ _ _ us hl => match us, hl with | [_, _, _], _ => rfl
  obtain ⟨dI, FI⟩ := FI
  have bI := FI.binds (ps := ["self", "size", "text"]) fun _ _ _ _ _ _ us hl => match us, hl with | [_, _, _], _ => rfl
  obtain ⟨dG, FG⟩ := FG
  have bG := FG.binds (ps := ["value"]) fun _ _ _ _ _ _ us hl => match us, hl with | [_], _ => rfl
  obtain ⟨dCm, FCm⟩ := FCm
  have bCm := FCm.binds (ps := ["first", "others"]) fun _ _ _ _ _ _ us hl => match us, hl with | [_, _], _ => rfl
  obtain ⟨dRu, FRu⟩ := FRu
  have bRu := FRu.binds (ps := ["size", "text"]) fun _ _ _ _ _ _ us hl => match us, hl with | [_, _], _ => rfl
  obtain ⟨dLi, FLi⟩ := FLi
  have bLi := FLi.binds (ps := ["size", "line", "words"]) fun _ _ _ _ _ _ us hl => match us, hl with | [_, _, _], _ => rfl
  obtain ⟨dOn, FOn⟩ := FOn
  have bOn := FOn.binds (ps := ["line", "words", "right"]) fun _ _ _ _ _ _ us hl => match us, hl with | [_, _, _], _ => rfl
  obtain ⟨dNb, FNb⟩ := FNb
  have bNb := FNb.binds (ps := ["limit"]) fun _ _ _ _ _ _ us hl => match us, hl with | [_], _ => rfl
  obtain ⟨dPr, FPr⟩ := FPr
  have bPr := FPr.binds (ps := ["size", "word"]) fun _ _ _ _ _ _ us hl => match us, hl with | [_, _], _ => rfl
  obtain ⟨dPn, FPn⟩ := FPn
  have bPn := FPn.binds (ps := ["_law_script"]) fun _ _ _ _ _ _ us hl => match us, hl with | [_], _ => rfl
  obtain ⟨dDr, FDr⟩ := FDr
  have bDr := FDr.binds (ps := ["_law_pen_here", "_law_many"]) fun _ _ _ _ _ _ us hl => match us, hl with | [_, _], _ => rfl
  obtain ⟨dPk, FPk⟩ := FPk
  have bPk := FPk.binds (ps := ["_law_pen_here", "_law_some"]) fun _ _ _ _ _ _ us hl => match us, hl with | [_, _], _ => rfl
  obtain ⟨dSh, FSh⟩ := FSh
  have bSh := FSh.binds (ps := ["_law_pen_here", "_law_some"]) fun _ _ _ _ _ _ us hl => match us, hl with | [_, _], _ => rfl
  obtain ⟨dDR, FDR⟩ := FDR
  have bDR := FDR.binds (ps := ["_law_pen_here", "_law_size"]) fun _ _ _ _ _ _ us hl => match us, hl with | [_, _], _ => rfl
  obtain ⟨dIt, FIt⟩ := FIt
  have bIt := FIt.binds (ps := ["_law_rule"]) fun _ _ _ _ _ _ us hl => match us, hl with | [_], _ => rfl
  obtain ⟨dST, FST⟩ := FST
  have bST := FST.binds (ps := ["_law_pen_here", "_law_rules"]) fun _ _ _ _ _ _ us hl => match us, hl with | [_, _], _ => rfl
  obtain ⟨dIs, FIs⟩ := FIs
  have bIs := FIs.binds (ps := ["_law_word", "_law_most"]) fun _ _ _ _ _ _ us hl => match us, hl with | [_, _], _ => rfl
  obtain ⟨dFi, FFi⟩ := FFi
  have bFi := FFi.binds (ps := ["_law_words", "_law_size"]) fun _ _ _ _ _ _ us hl => match us, hl with | [_, _], _ => rfl
  obtain ⟨dDu, FDu⟩ := FDu
  have bDu := FDu.binds (ps := ["_law_text", "_law_size"]) fun _ _ _ _ _ _ us hl => match us, hl with | [_, _], _ => rfl
  obtain ⟨dRf, FRf⟩ := FRf
  have bRf := FRf.binds (ps := ["_law_call"]) fun _ _ _ _ _ _ us hl => match us, hl with | [_], _ => rfl
  obtain ⟨dBe, FBe⟩ := FBe
  have bBe := FBe.binds (ps := ["_law_pen_here", "_law_text", "_law_size"]) fun _ _ _ _ _ _ us hl => match us, hl with | [_, _, _], _ => rfl
  have B : Bl mg := ⟨PySem.W.mg_none_of X G z_isinstance, PySem.W.mg_none_of X G z_int, PySem.W.mg_none_of X G z_bool, PySem.W.mg_none_of X G z_str, PySem.W.mg_none_of X G z_len, PySem.W.mg_none_of X G z_range, PySem.W.mg_none_of X G z_list, PySem.W.mg_none_of X G z_tuple, PySem.W.mg_none_of X G z_sorted, PySem.W.mg_none_of X G z_set, PySem.W.mg_none_of X G z_all, PySem.W.mg_none_of X G z_min, PySem.W.mg_none_of X G z_enumerate⟩
  have TT : BT K mg CT fB dB := ⟨kc.ox, icT, tiT, nt0, nt1, PySem.W.mg_of X G aT, FB, bB⟩
  have S : SCl K mg C fI := ⟨⟨pgP, hdi, po, saP⟩, np0, np1, np2, np3, np4, np5, np6, ⟨mkC, icP, ifP, kpP⟩, PySem.W.mg_of X G aP⟩
  have LWs : LW K mg hA := ⟨hl, PySem.W.mg_of X G aH⟩
  have V : V1 K mg CT := ⟨PySem.W.mg_of X G aT, nt0, nt1, kc.xf, kc.ex⟩
  have T : Top K mg C CT fI fB hA fG fCm fRu fLi fOn fNb fPr fPn fDr fPk fSh fDR fIt fST fIs fFi fDu fRf fBe dI dB dG dCm dRu dLi dOn dNb dPr dPn dDr dPk dSh dDR dIt dST dIs dFi dDu dRf dBe tM := ⟨B, TT, V, S, LWs, PySem.W.mg_of X G aMp, FI, bI, FG, bG, PySem.W.mg_of X G gG, FCm, bCm, PySem.W.mg_of X G gCm, FRu, bRu, PySem.W.mg_of X G gRu, FLi, bLi, PySem.W.mg_of X G gLi, FOn, bOn, PySem.W.mg_of X G gOn, FNb, bNb, PySem.W.mg_of X G gNb, FPr, bPr, PySem.W.mg_of X G gPr, FPn, bPn, PySem.W.mg_of X G gPn, FDr, bDr, PySem.W.mg_of X G gDr, FPk, bPk, PySem.W.mg_of X G gPk, FSh, bSh, PySem.W.mg_of X G gSh, FDR, bDR, PySem.W.mg_of X G gDR, FIt, bIt, PySem.W.mg_of X G gIt, FST, bST, PySem.W.mg_of X G gST, FIs, bIs, PySem.W.mg_of X G gIs, FFi, bFi, PySem.W.mg_of X G gFi, FDu, bDu, PySem.W.mg_of X G gDu, FRf, bRf, PySem.W.mg_of X G gRf, FBe, bBe, PySem.W.mg_of X G gBe⟩
  refine ⟨PySem.W.fnOf "law" "law" (defArgs sLaw) (defBody sLaw) (defScope sLaw) .none kV doc pm an (.ref c) ct, [(c, tP)], spLawT K tP, fun p hp => ?_, fun p hp => ?_, fun p hp => ?_, fun s v => .of_eq rfl, ?_, ?_⟩
  · rw [List.mem_singleton.mp hp]
    exact hTs tP mem
  · rw [List.mem_singleton.mp hp]
    exact nP
  · rw [List.mem_singleton.mp hp]
    exact PySem.W.codeHd_of_K X hb
  · intro H a ns hl _ hT hS
    exact ⟨a, ns, rfl, hS, hl, hT (c, tP) (List.mem_singleton.mpr rfl), fun _ => rfl⟩
  · intro base _ _ TB
    exact ok_law lk hcd (TB (c, tP) (List.mem_singleton.mpr rfl)) T
theorem walk {l : PySem.W.OpenLaw} {q : Program} {loose : List Str} {XP : (Str → Option Value) → Heap → Prop} {YP : World → Heap → Prop} {d : DefRec} {K : Params → PySem.W.Frag} (hn : l.most = some 63) (hdf : d.params.defaults = [])
    (ts : List Addr) (hY : ∀ (w : World) (h : Heap), YP w h → (K w.params).In h) (hT : ∀ (w : World) (h : Heap), YP w h → ∀ R ∈ ts, h.get? R = some (PySem.W.tabObj #[]))
    (F : ∀ (w : World) (mg : Str → Option Value) (fa : Addr) (h : Heap), (K w.params).In h → h.Ns mainGlobals mg → mg d.name = some (.ref fa) → (∀ R ∈ ts, h.get? R = some (PySem.W.tabObj #[])) → LawAtS l w (K w.params) CX0 10 63 "_law_script" mg fa h) :
    PySem.W.WalkO q loose XP YP l.row.toRowW d [] (fun f vs => PySem.call f vs) :=
  walk_ofTs (n := 63) (k := 10) (x := "_law_script") (CX := fun _ => CX0) hn (by decide) hdf ⟨rfl, by decide, by decide⟩ hY (fun w mg fa h Y X G e => F w mg fa h X G e (hT w h Y)) (fun _ _ _ _ _ z => z)
end KQ
open PySem PySem.W PyProof.Rows
set_option maxRecDepth 100000 in
set_option maxHeartbeats 0 in
theorem PySem.Challenge.cw_keptqubits_k33_wrong_texts_of_sorts_holds : PySem.Challenge.rw_keptqubits_k33_wrong_texts_of_sorts.Holds := by
  w_on; o_law; k_head; (case hw => w_witness2)
  k_fill
  refine KQ.walk (l := PySem.Challenge.rw_keptqubits_k33_wrong_texts_of_sorts) rfl rfl _ (fun w h Y => PySem.W.km_in_of Y) (fun w h Y => PySem.W.km_tabs_of Y) ?F
  case F =>
    intro w mg fa h KX G hmg own
    refine' KQ.all_mk rfl KX G hmg own ?zq_aK ?zq_aT ?zq_aP ?zq_aH ?zq_aMp ?zq_kc ?zq_icT ?zq_tiT ?zq_nt0 ?zq_nt1 ?zq_FB ?zq_pgP ?zq_hdi ?zq_po ?zq_saP ?zq_np0 ?zq_np1 ?zq_np2 ?zq_np3 ?zq_np4 ?zq_np5 ?zq_np6 ?zq_mkC ?zq_icP ?zq_ifP ?zq_kpP ?zq_hl ?zq_FI ?zq_gG ?zq_FG ?zq_gCm ?zq_FCm ?zq_gRu ?zq_FRu ?zq_gLi ?zq_FLi ?zq_gOn ?zq_FOn ?zq_gNb ?zq_FNb ?zq_gPr ?zq_FPr ?zq_gPn ?zq_FPn ?zq_gDr ?zq_FDr ?zq_gPk ?zq_FPk ?zq_gSh ?zq_FSh ?zq_gDR ?zq_FDR ?zq_gIt ?zq_FIt ?zq_gST ?zq_FST ?zq_gIs ?zq_FIs ?zq_gFi ?zq_FFi ?zq_gDu ?zq_FDu ?zq_gRf ?zq_FRf ?zq_gBe ?zq_FBe ?zq_z_isinstance ?zq_z_int ?zq_z_bool ?zq_z_str ?zq_z_len ?zq_z_range ?zq_z_list ?zq_z_tuple ?zq_z_sorted ?zq_z_set ?zq_z_all ?zq_z_min ?zq_z_enumerate ?zq_gLa ?zq_lk ?zq_hcd ?zq_lc ?zq_h11 ?zq_nP ?zq_hb ?zq_mem
    (case zq_aK => k_is)
    (case zq_aT => k_is)
    (case zq_aP => k_is)
    (case zq_aH => k_is)
    (case zq_aMp => k_is)
    (case zq_kc => refine' KQ.KC.of ?l ?sa ?ty ?kp ?hg ?hk ?ha; (case l => k_is); (case sa => k_is); (case ty => k_is); (case kp => k_is); (case hg => k_is); (case hk => k_is); (case ha => k_is))
    (case zq_icT => k_is)
    (case zq_tiT => k_is)
    (case zq_nt0 => k_is)
    (case zq_nt1 => k_is)
    (case zq_FB => refine' KQ.fun_ex ?l ?c ?k; (case l => k_is); (case c => k_is); (case k => k_is))
    (case zq_pgP => k_is)
    (case zq_hdi => k_is)
    (case zq_po => k_is)
    (case zq_saP => k_is)
    (case zq_np0 => k_is)
    (case zq_np1 => k_is)
    (case zq_np2 => k_is)
    (case zq_np3 => k_is)
    (case zq_np4 => k_is)
    (case zq_np5 => k_is)
    (case zq_np6 => k_is)
    (case zq_mkC => k_is)
    (case zq_icP => k_is)
    (case zq_ifP => first | k_is | kernel_rfl | decide +kernel)
    (case zq_kpP => k_is)
    (case zq_hl => refine' KQ.lw_ex ?l; (case l => k_is))
    (case zq_FI => refine' KQ.fun_ex ?l ?c ?k; (case l => k_is); (case c => k_is); (case k => k_is))
    (case zq_gG => k_is)
    (case zq_FG => refine' KQ.fun_ex ?l ?c ?k; (case l => k_is); (case c => k_is); (case k => k_is))
    (case zq_gCm => k_is)
    (case zq_FCm => refine' KQ.fun_ex ?l ?c ?k; (case l => k_is); (case c => k_is); (case k => k_is))
    (case zq_gRu => k_is)
    (case zq_FRu => refine' KQ.fun_ex ?l ?c ?k; (case l => k_is); (case c => k_is); (case k => k_is))
    (case zq_gLi => k_is)
    (case zq_FLi => refine' KQ.fun_ex ?l ?c ?k; (case l => k_is); (case c => k_is); (case k => k_is))
    (case zq_gOn => k_is)
    (case zq_FOn => refine' KQ.fun_ex ?l ?c ?k; (case l => k_is); (case c => k_is); (case k => k_is))
    (case zq_gNb => k_is)
    (case zq_FNb => refine' KQ.fun_ex ?l ?c ?k; (case l => k_is); (case c => k_is); (case k => k_is))
    (case zq_gPr => k_is)
    (case zq_FPr => refine' KQ.fun_ex ?l ?c ?k; (case l => k_is); (case c => k_is); (case k => k_is))
    (case zq_gPn => k_is)
    (case zq_FPn => refine' KQ.fun_ex ?l ?c ?k; (case l => k_is); (case c => k_is); (case k => k_is))
    (case zq_gDr => k_is)
    (case zq_FDr => refine' KQ.fun_ex ?l ?c ?k; (case l => k_is); (case c => k_is); (case k => k_is))
    (case zq_gPk => k_is)
    (case zq_FPk => refine' KQ.fun_ex ?l ?c ?k; (case l => k_is); (case c => k_is); (case k => k_is))
    (case zq_gSh => k_is)
    (case zq_FSh => refine' KQ.fun_ex ?l ?c ?k; (case l => k_is); (case c => k_is); (case k => k_is))
    (case zq_gDR => k_is)
    (case zq_FDR => refine' KQ.fun_ex ?l ?c ?k; (case l => k_is); (case c => k_is); (case k => k_is))
    (case zq_gIt => k_is)
    (case zq_FIt => refine' KQ.fun_ex ?l ?c ?k; (case l => k_is); (case c => k_is); (case k => k_is))
    (case zq_gST => k_is)
    (case zq_FST => refine' KQ.fun_ex ?l ?c ?k; (case l => k_is); (case c => k_is); (case k => k_is))
    (case zq_gIs => k_is)
    (case zq_FIs => refine' KQ.fun_ex ?l ?c ?k; (case l => k_is); (case c => k_is); (case k => k_is))
    (case zq_gFi => k_is)
    (case zq_FFi => refine' KQ.fun_ex ?l ?c ?k; (case l => k_is); (case c => k_is); (case k => k_is))
    (case zq_gDu => k_is)
    (case zq_FDu => refine' KQ.fun_ex ?l ?c ?k; (case l => k_is); (case c => k_is); (case k => k_is))
    (case zq_gRf => k_is)
    (case zq_FRf => refine' KQ.fun_ex ?l ?c ?k; (case l => k_is); (case c => k_is); (case k => k_is))
    (case zq_gBe => k_is)
    (case zq_FBe => refine' KQ.fun_ex ?l ?c ?k; (case l => k_is); (case c => k_is); (case k => k_is))
    (case zq_z_isinstance => k_is)
    (case zq_z_int => k_is)
    (case zq_z_bool => k_is)
    (case zq_z_str => k_is)
    (case zq_z_len => k_is)
    (case zq_z_range => k_is)
    (case zq_z_list => k_is)
    (case zq_z_tuple => k_is)
    (case zq_z_sorted => k_is)
    (case zq_z_set => k_is)
    (case zq_z_all => k_is)
    (case zq_z_min => k_is)
    (case zq_z_enumerate => k_is)
    (case zq_gLa => k_is)
    (case zq_lk => k_is)
    (case zq_hcd => k_is)
    (case zq_lc => k_is)
    (case zq_h11 => rfl)
    (case zq_nP => kernel_rfl)
    (case zq_hb => kernel_rfl)
    (case zq_mem => simp)
