import PyProof.Rows.All
import Wide.All
import OpenK.AllK
import Wide.FinOn
import HandS.ForMost
import HandS.Wide
import HandS.Codes
import HandS.Base
import HandS.Call
import HandS.List
import HandS.Text
import HandS.StrMore
import PyProof.Rows.StrStrike
import PyProof.Rows.StrCountLaw
import HandS.Strs
import HandS.Replace
import HandS.ReplaceLit
import HandS.Comp
import HandS.IsInst
import HandS.ExcInit
import HandS.ExcField
import HandS.WordsExc
import HandS.Style
import HandS.DeepEq
import HandS.CallLocal
import HandS.Lambda
import HandS.EndOwn
import HandS.Walk
import HandS.TryMany
import HandS.Iter
import HandS.WideBits
import HandS.Dict
import HandS.FStr
import HandS.AnyAll
import PyProof.ListStr
import HandS.SetFor
import HandS.Conv
import HandS.RevRange
import HandS.SortKw
import HandS.Sort
import HandS.TupMul
import PySem.Challenge.RW_keptqubits_k01_whole_rows_of_bits
set_option Elab.async false
set_option linter.all false
set_option maxRecDepth 100000
set_option maxHeartbeats 4000000
namespace KQ
open PySem PySem.Spec PyProof.Rows L2
/-! ### the text -/
def topS (i : Nat) : Stmt := PySem.Challenge.pw_keptqubits_k01_whole_rows_of_bits.main.body.getD i (.Pass ⟨0, 0, 0, 0⟩)
abbrev sPen : Stmt := topS 14
abbrev sDraw : Stmt := topS 15
abbrev sPick : Stmt := topS 16
theorem scPen : FnScope ["_law_script", "_law_fold", "_law_cell"] ["_law_script"] (defScope sPen) := ⟨rfl, rfl, rfl, by decide +kernel, rfl, by decide +kernel, by decide +kernel⟩
theorem scDraw : FnScope ["_law_pen_here", "_law_many", "_law_cell", "_law_digit", "_law_mixed"] ["_law_pen_here", "_law_many"] (defScope sDraw) := ⟨rfl, rfl, rfl, by decide +kernel, rfl, by decide +kernel, by decide +kernel⟩
theorem scPick : FnScope ["_law_pen_here", "_law_some"] ["_law_pen_here", "_law_some"] (defScope sPick) := ⟨rfl, rfl, rfl, by decide +kernel, rfl, by decide +kernel, by decide +kernel⟩
/-! ### the pen -/
theorem k12 : ¬ ("cells" : Str) = "at" := by decide +kernel
theorem k13 : ¬ ("cells" : Str) = "digits" := by decide +kernel
theorem k14 : ¬ ("cells" : Str) = "count" := by decide +kernel
theorem k15 : ¬ ("cells" : Str) = "fold" := by decide +kernel
theorem k21 : ¬ ("at" : Str) = "cells" := by decide +kernel
theorem k23 : ¬ ("at" : Str) = "digits" := by decide +kernel
theorem k24 : ¬ ("at" : Str) = "count" := by decide +kernel
theorem k25 : ¬ ("at" : Str) = "fold" := by decide +kernel
theorem k31 : ¬ ("digits" : Str) = "cells" := by decide +kernel
theorem k32 : ¬ ("digits" : Str) = "at" := by decide +kernel
theorem k34 : ¬ ("digits" : Str) = "count" := by decide +kernel
theorem k35 : ¬ ("digits" : Str) = "fold" := by decide +kernel
theorem k41 : ¬ ("count" : Str) = "cells" := by decide +kernel
theorem k42 : ¬ ("count" : Str) = "at" := by decide +kernel
theorem k43 : ¬ ("count" : Str) = "digits" := by decide +kernel
theorem k45 : ¬ ("count" : Str) = "fold" := by decide +kernel
theorem k51 : ¬ ("fold" : Str) = "cells" := by decide +kernel
theorem k52 : ¬ ("fold" : Str) = "at" := by decide +kernel
theorem k53 : ¬ ("fold" : Str) = "digits" := by decide +kernel
theorem k54 : ¬ ("fold" : Str) = "count" := by decide +kernel
def kvsP (c : Addr) (a d n f : Int) : List (Key × V) := [(.inr "cells", .ref c), (.inr "at", .int a), (.inr "digits", .int d), (.inr "count", .int n), (.inr "fold", .int f)]
section
variable (c : Addr) (a d n f z : Int)
theorem vCells : valV (kvsP c a d n f) (.inr "cells" : Key) = some (.ref c) := by simp [kvsP, valV, List.find?]
theorem vAt : valV (kvsP c a d n f) (.inr "at" : Key) = some (.int a) := by simp [kvsP, valV, List.find?, k12]
theorem vDigits : valV (kvsP c a d n f) (.inr "digits" : Key) = some (.int d) := by simp [kvsP, valV, List.find?, k13, k23]
theorem vCount : valV (kvsP c a d n f) (.inr "count" : Key) = some (.int n) := by simp [kvsP, valV, List.find?, k14, k24, k34]
theorem vFold : valV (kvsP c a d n f) (.inr "fold" : Key) = some (.int f) := by simp [kvsP, valV, List.find?, k15, k25, k35, k45]
theorem pAt : putK (kvsP c a d n f) (.inr "at" : Key) (.int z) = kvsP c z d n f := by simp [kvsP, putK, k12, k32, k42, k52]
theorem pDigits : putK (kvsP c a d n f) (.inr "digits" : Key) (.int z) = kvsP c a z n f := by simp [kvsP, putK, k13, k23, k43, k53]
theorem pCount : putK (kvsP c a d n f) (.inr "count" : Key) (.int z) = kvsP c a d z f := by simp [kvsP, putK, k14, k24, k34, k54]
theorem pFold : putK (kvsP c a d n f) (.inr "fold" : Key) (.int z) = kvsP c a d n z := by simp [kvsP, putK, k15, k25, k35, k45]
theorem mPen : mergeK [] [((.inr "cells" : Key), V.ref c), (.inr "at", .int a), (.inr "digits", .int d), (.inr "count", .int n), (.inr "fold", .int f)] = kvsP c a d n f := by
  simp [mergeK, kvsP, putK, k12, k13, k14, k15, k23, k24, k25, k34, k35, k45]
end
theorem getS {H : Hp} {a : Addr} {kvs : List (Key × V)} {x : Str} {v : V} (e : H a = some (.dK kvs)) (h : valV kvs (.inr x : Key) = some v) : DGet H a (.str x) (some v) := .inl ⟨kvs, .inr x, .inl e, rfl, h.symm⟩
theorem putS {H : Hp} {a : Addr} {kvs kvs' : List (Key × V)} {x : Str} {v : V} (e : H a = some (.dK kvs)) (hl : kvs.length < sizeLine) (h : putK kvs (.inr x : Key) v = kvs') : DPut H a (.str x) v (upd H a (.dK kvs')) := .inl ⟨kvs, .inr x, e, rfl, hl, by rw [h]⟩
theorem lenP {c : Addr} {a d n f : Int} : (kvsP c a d n f).length < sizeLine := small1000 (by show 5 ≤ 1000; decide)
/-- a pen stands at p, its cells at c, n draws so far -/
def PenAt (H : Hp) (p c : Addr) (n : Nat) : Prop := ∃ (ns : List Int) (a d f : Int), H p = some (.dK (kvsP c a d n f)) ∧ H c = some (.lst (ns.map V.int)) ∧ ns.length ≤ 63 ∧ 0 ≤ a ∧ 0 ≤ d ∧ 0 ≤ f ∧ f < 2147483587
theorem PenAt.ne {H : Hp} {p c : Addr} {n : Nat} (h : PenAt H p c n) : p ≠ c := by
  obtain ⟨ns, a, d, f, hp, hc, _⟩ := h
  exact ne_of hp hc (by intro z; cases z)
theorem PenAt.same {H H' : Hp} {p c : Addr} {n : Nat} (h : PenAt H p c n) (hp : H' p = H p) (hc : H' c = H c) : PenAt H' p c n := by
  obtain ⟨ns, a, d, f, e1, e2, r⟩ := h
  exact ⟨ns, a, d, f, hp.trans e1, hc.trans e2, r⟩
theorem PenAt.some {H : Hp} {p c : Addr} {n : Nat} (h : PenAt H p c n) : (∃ o, H p = some o) ∧ ∃ o, H c = some o := by
  obtain ⟨ns, a, d, f, e1, e2, r⟩ := h
  exact ⟨⟨_, e1⟩, ⟨_, e2⟩⟩
theorem PenAt.ext {H H' : Hp} {p c : Addr} {n : Nat} (h : PenAt H p c n) (s : Same H H') : PenAt H' p c n := by
  obtain ⟨⟨o, e1⟩, o', e2⟩ := h.some
  exact h.same ((s _ _ e1).trans e1.symm) ((s _ _ e2).trans e2.symm)
theorem sqL_pen {K : PySem.W.Frag} {H H' : Hp} {p y : Addr} {xs : List V} {kv : List (Key × V)} (hk : ∀ b, b ≠ p → H' b = H b) (hp : H p = some (.dK kv)) (h : SqL K H y xs) : SqL K H' y xs := by
  rcases h with (h | ⟨ob, h⟩) | h
  · exact .inl (.inl ((hk y (ne_of h hp (by intro z; cases z))).trans h))
  · exact .inl (.inr ⟨ob, (hk y (ne_of h hp (by intro z; cases z))).trans h⟩)
  · exact .inr h
theorem sqT_pen {K : PySem.W.Frag} {H H' : Hp} {p y : Addr} {xs : List V} {kv : List (Key × V)} (hk : ∀ b, b ≠ p → H' b = H b) (hp : H p = some (.dK kv)) (h : SqT K H y xs) : SqT K H' y xs := by
  rcases h with (h | ⟨ob, h⟩) | h
  · exact .inl (.inl ((hk y (ne_of h hp (by intro z; cases z))).trans h))
  · exact .inl (.inr ⟨ob, (hk y (ne_of h hp (by intro z; cases z))).trans h⟩)
  · exact .inr h
theorem ix_or {X : Cx} {r1 r2 : R2} (h1 : IxR X r1) (h2 : IxR X r2) : IxR X (fun x y H Q => r1 x y H Q ∨ r2 x y H Q) := by
  intro val sl pins st σ G x y v u Q J rx ry h hs
  rcases h with h | h
  · exact h1 val sl pins st σ G x y v u Q J rx ry h hs
  · exact h2 val sl pins st σ G x y v u Q J rx ry h hs
def spPen (K : PySem.W.Frag) : Sp := fun vs H Q _ => ∃ (a : Addr) (ns : List Int), vs = [.ref a] ∧ SqL K H a (ns.map V.int) ∧ ns.length ≤ 63 ∧
  ∀ H' p c, Same H H' → H p = none → H c = none → PenAt H' p c 0 → Q (.ref p) H'
def spDraw : Sp := fun vs H Q _ => ∃ (p c : Addr) (n : Nat) (m : Int), vs = [.ref p, .int m] ∧ PenAt H p c n ∧ n < 1000000 ∧ 0 < m ∧ m.natAbs < 2 ^ 200 ∧
  ∀ (r : Int) H', 0 ≤ r → r < m → PenAt H' p c (n + 1) → (∀ b, b ≠ p → H' b = H b) → Q (.int r) H'
def spPick (K : PySem.W.Frag) : Sp := fun vs H Q _ => ∃ (p c q : Addr) (n : Nat) (xs : List V), vs = [.ref p, .ref q] ∧ PenAt H p c n ∧ n < 1000000 ∧ (SqL K H q xs ∨ SqT K H q xs) ∧ xs ≠ [] ∧ xs.length ≤ 1000 ∧
  ∀ (i : Nat) (v : V) H', xs[i]? = some v → PenAt H' p c (n + 1) → (∀ b, b ≠ p → H' b = H b) → Q v H'
section
variable {P : Program} {w : World} {K : PySem.W.Frag} {mg : Str → Option Value} {base : Heap}
theorem ok_pen {f : Addr} {fd : FuncData} {k : Nat} (F : Fun K "_law_pen" "_law_pen" sPen f fd) (mi : mg "int" = none) (ml : mg "list" = none) : FnOk P w K mg base CX0 (k + 1) f fd ["_law_script"] (spPen K) := by
  refine F.ok scPen (fun vs H Q E h => ?_) (fun cdv A outer s H vs Q E hr h => ?_)
  · obtain ⟨a, ns, rfl, _⟩ := h
    rfl
  · obtain ⟨a, ns, rfl, hS, hlen, q⟩ := h
    refine ⟨_, pss_cons (ps_set (i := 1) scPen.nd rfl (.inl rfl) pe_int)
      (pss_cons (ps_for PassesOwn.never rfl (pi_list (pv 0)) (pg_name (i := 2) scPen.nd rfl (.inl rfl))
        (pss_one (ps_set (i := 1) scPen.nd rfl (.inl rfl) (pe_op op_mod (pe_callTy call_int1 (by rfl) mi (by decide +kernel) (pa_cons (pe_op op_add (pe_op op_mul (pv 1) pe_int) (pv 2)) pa_nil)) pe_int))))
      (pss_one (ps_ret (pe_disp (pps_cons pe_str (pe_callTy call_list_of (by rfl) ml (by decide +kernel) (pa_cons (pv 0) pa_nil)) (pps_cons pe_str pe_int (pps_cons pe_str pe_int (pps_cons pe_str pe_int (pps_cons pe_str (pv 1) pps_nil))))) (by rfl) (by rfl) (fun z => by cases z) (by decide))))), ?_⟩
    refine ⟨_, rfl, a, rfl, ⟨_, hS⟩, for_list (K := K) (a := a) (xs := ns.map V.int) (fun i σ H2 => ∃ (g : Int) (v : Option V), σ = [some (.ref a), some (.int g), v] ∧ H2 = H ∧ 0 ≤ g ∧ g < 1000000007)
      ⟨0, none, rfl, rfl, by decide, by decide⟩ (fun i σ H2 _ ⟨_, _, _, e, _⟩ => by rw [e]; exact hS) ?_ ?_⟩
    · rintro i y σ H2 hi ⟨g, v, rfl, rfl, h0, h1⟩
      obtain ⟨z, rfl⟩ : ∃ z, y = V.int z := by
        rw [List.getElem?_map] at hi
        cases e : ns[i]? with
        | none => rw [e] at hi; cases hi
        | some z => rw [e] at hi; exact ⟨z, (Option.some.inj hi).symm⟩
      refine ⟨_, rfl, _, _, rfl, rfl, .inr ⟨by decide, by decide⟩, _, rfl, _, _, rfl, rfl, .inl ⟨_, rfl, _, _, rfl, rfl, (by show (0 : Int) < 1000000007; decide), ?_⟩⟩
      exact ⟨_, _, rfl, rfl, Int.emod_nonneg _ (by decide), Int.emod_lt_of_pos _ (by decide)⟩
    · rintro σ H2 ⟨g, v, rfl, rfl, h0, h1⟩
      intro p np
      refine ⟨.ref a, rfl, a, ns.map V.int, rfl, .inl ?_, fun c nc => ?_⟩
      · exact Same.seq (H := H2) (fun b o e => by rw [upd_ne (ne_of_none e np)]; exact e) hS
      have ncp : c ≠ p := fun e => by rw [e, upd_same] at nc; cases nc
      have nc2 : H2 c = none := by rw [upd_ne ncp] at nc; exact nc
      refine ⟨_, rfl, ?_⟩
      refine ⟨by rw [upd_ne ncp.symm, upd_same], [((.inr "cells" : Key), V.ref c), (.inr "at", .int 0), (.inr "digits", .int 0), (.inr "count", .int 0), (.inr "fold", .int g)], rfl, (by show 5 ≤ 15; decide), ?_⟩
      rw [mPen]
      refine q _ p c (fun b o e => ?_) np nc2 ⟨ns, 0, 0, g, upd_same, ?_, hlen, by decide, by decide, h0, by omega⟩
      · rw [upd_ne (ne_of_none e np), upd_ne (ne_of_none e nc2), upd_ne (ne_of_none e np)]
        exact e
      · rw [upd_ne ncp, upd_same]
theorem ok_draw {f : Addr} {fd : FuncData} {k : Nat} (F : Fun K "_law_draw" "_law_draw" sDraw f fd) (mi : mg "int" = none) (ml : mg "len" = none) : FnOk P w K mg base CX0 (k + 1) f fd ["_law_pen_here", "_law_many"] spDraw := by
  refine F.ok scDraw (fun vs H Q E h => ?_) (fun cdv A outer s H vs Q E hr h => ?_)
  · obtain ⟨p, c, n, m, rfl, _⟩ := h
    rfl
  · obtain ⟨p, c, n, m, rfl, hP, hn, hm, hm9, q⟩ := h
    have hu := hu_of hr
    have hpc := hP.ne
    obtain ⟨ns, a0, d0, f0, hp, hc, hlen, ha, hd, hf0, hf1⟩ := hP
    refine ⟨_, pss_cons (ps_dput hu (pv 0) pe_str (pe_op op_add (pe_dget hu (pv 0) pe_str (fun _ _ => rfl)) pe_int) rfl)
      (C8.pss_cut (ps_if (pw_and (pt_cmpR op_eq (pe_dget hu (pv 0) pe_str (fun _ _ => rfl)) pe_int (nomark _))
            (pw_and1 (pt_cmpR op_lt (pe_dget hu (pv 0) pe_str (fun _ _ => rfl)) (pe_callB call_len_seq (by rfl) ml PySem.boot_len (pa_cons (pe_dget hu (pv 0) pe_str (fun _ _ => rfl)) pa_nil)) (nomark _)))).pt
          (pss_cons (ps_set (i := 2) scDraw.nd rfl (.inl rfl) (pe_ix ix_list (pe_dget hu (pv 0) pe_str (fun _ _ => rfl)) (pe_dget hu (pv 0) pe_str (fun _ _ => rfl)) (fun _ _ => rfl)))
          (pss_cons (ps_dput hu (pv 0) pe_str (pe_op op_add (pe_dget hu (pv 0) pe_str (fun _ _ => rfl)) pe_int) rfl)
          (pss_one (ps_if (pt_cmpR op_ge (pv 2) (pe_op op_pow pe_int pe_int) (nomark _))
            (pss_one (ps_dput hu (pv 0) pe_str (pe_op op_sub (pv 2) (pe_op op_pow pe_int pe_int)) rfl))
            (pss_one (ps_dput hu (pv 0) pe_str (pe_op op_mod (pe_callTy call_int1 (by rfl) mi (by decide +kernel) (pa_cons (pe_op op_add (pe_op op_mul (pe_dget hu (pv 0) pe_str (fun _ _ => rfl)) pe_int) (pv 2)) pa_nil)) pe_int) rfl))))))
          pss_nil)
      (pss_cons (ps_if (pt_cmpR op_gt (pe_dget hu (pv 0) pe_str (fun _ _ => rfl)) pe_int (nomark _))
          (pss_cons (ps_set (i := 3) scDraw.nd rfl (.inl rfl) (pe_op op_mod (pe_callTy call_int1 (by rfl) mi (by decide +kernel) (pa_cons (pe_dget hu (pv 0) pe_str (fun _ _ => rfl)) pa_nil)) (pv 1)))
          (pss_cons (ps_dput hu (pv 0) pe_str (pe_op op_fdivW (pe_dget hu (pv 0) pe_str (fun _ _ => rfl)) (pv 1)) rfl)
          (pss_one (ps_ret (pv 3)))))
          pss_nil)
      (pss_cons (ps_set (i := 4) scDraw.nd rfl (.inl rfl) (pe_op op_add (pe_op op_add (pe_dget hu (pv 0) pe_str (fun _ _ => rfl)) (pe_op op_mul (pe_dget hu (pv 0) pe_str (fun _ _ => rfl)) pe_int)) pe_int))
      (pss_one (ps_ret (pe_op op_mod (pe_op op_fdivW (pe_callTy call_int1 (by rfl) mi (by decide +kernel) (pa_cons (pe_op op_mod (pe_op op_pow (pv 4) pe_int) pe_int) pa_nil)) pe_int) (pv 1))))))), ?_⟩
    -- count
    refine ⟨_, rfl, p, _, rfl, getS hp (vCount ..), _, _, rfl, rfl, _, rfl, p, _, rfl, putS hp lenP (pCount ..), ?_⟩
    have up : ∀ {o : HO}, (upd H p o) p = some o := fun {o} => upd_same
    have uc : ∀ {o : HO}, (upd H p o) c = some (.lst (ns.map V.int)) := fun {o} => by rw [upd_ne hpc.symm]; exact hc
    -- the cell
    refine ⟨fun σ' H' => ∃ (a d g : Int) (v2 : Option V), σ' = [some (.ref p), some (.int m), v2, none, none] ∧ H' = upd H p (.dK (kvsP c a d ((n : Int) + 1) g)) ∧ 0 ≤ a ∧ 0 ≤ d ∧ 0 ≤ g ∧ g < 2147483587, ?_, ?_⟩
    · refine ⟨_, rfl, p, _, rfl, getS up (vDigits ..), rfl, _, rfl, ite2 (fun e1 => ?_) (fun e1 => ?_)⟩
      · refine ⟨_, rfl, p, _, rfl, getS up (vAt ..), _, rfl, p, _, rfl, getS up (vCells ..), c, _, rfl, .inl (SqL.of uc), _, _, rfl, rfl, _, rfl, ite2 (fun e2 => ?_) (fun e2 => ?_)⟩
        · have e2' : a0 < (ns.length : Int) := by
            have z := of_decide_eq_true e2
            rw [List.length_map] at z
            exact z
          have hat : (ns.map V.int)[a0.toNat]? = some (V.int (ns[a0.toNat]'(by omega))) := by
            rw [List.getElem?_map, List.getElem?_eq_getElem (by omega)]
            rfl
          refine ⟨_, rfl, p, _, rfl, getS up (vCells ..), _, rfl, p, _, rfl, getS up (vAt ..), c, _, _, _, rfl, rfl, SqL.of uc, at_of (by omega) hat, ?_⟩
          refine ⟨_, rfl, p, _, rfl, getS up (vAt ..), _, _, rfl, rfl, _, rfl, p, _, rfl, putS up lenP (pAt ..), ?_⟩
          rw [upd_upd]
          refine ⟨_, rfl, _, _, rfl, rfl, ⟨by decide, by decide, by decide⟩, _, _, rfl, rfl, _, rfl, ite2 (fun e3 => ?_) (fun e3 => ?_)⟩
          · refine ⟨_, rfl, _, _, rfl, rfl, ⟨by decide, by decide, by decide⟩, _, _, rfl, rfl, _, rfl, p, _, rfl, putS up lenP (pDigits ..), ?_⟩
            rw [upd_upd]
            have e3' := of_decide_eq_true e3
            exact ⟨_, _, _, _, rfl, rfl, by omega, by omega, hf0, hf1⟩
          · refine ⟨_, rfl, p, _, rfl, getS up (vFold ..), _, _, rfl, rfl, .inr ⟨by decide, by decide⟩, _, rfl, _, _, rfl, rfl, .inl ⟨_, rfl, _, _, rfl, rfl, (by show (0 : Int) < 2147483587; decide), _, rfl, p, _, rfl, putS up lenP (pFold ..), ?_⟩⟩
            rw [upd_upd]
            exact ⟨_, _, _, _, rfl, rfl, by omega, hd, Int.emod_nonneg _ (by decide), Int.emod_lt_of_pos _ (by decide)⟩
        · exact ⟨_, _, _, _, rfl, rfl, ha, hd, hf0, hf1⟩
      · refine iteF ?_
        exact ⟨_, _, _, _, rfl, rfl, ha, hd, hf0, hf1⟩
    · rintro σ' H' ⟨a, d, g, v2, rfl, rfl, ha', hd', hg0, hg1⟩
      have fin : ∀ (r a d g : Int), 0 ≤ r → r < m → 0 ≤ a → 0 ≤ d → 0 ≤ g → g < 2147483587 → Q (.int r) (upd H p (.dK (kvsP c a d ((n : Int) + 1) g))) := fun r a d g r0 r1 a0 d0 g0 g1 =>
        q r _ r0 r1 ⟨ns, a, d, g, up, uc, hlen, a0, d0, g0, g1⟩ fun b hb => upd_ne hb
      refine ⟨_, rfl, p, _, rfl, getS up (vDigits ..), _, _, rfl, rfl, _, rfl, ite2 (fun e1 => ?_) (fun e1 => ?_)⟩
      · refine ⟨_, rfl, p, _, rfl, getS up (vDigits ..), .inl ⟨_, rfl, _, rfl, _, _, rfl, rfl, hm, ?_⟩⟩
        refine ⟨_, rfl, p, _, rfl, getS up (vDigits ..), _, rfl, _, _, rfl, rfl, wide_div hm hm9 (by decide) (by decide), _, rfl, p, _, rfl, putS up lenP (pDigits ..), ?_⟩
        rw [upd_upd]
        refine ⟨_, rfl, ?_⟩
        exact fin _ _ _ _ (Int.emod_nonneg _ (by omega)) (Int.emod_lt_of_pos _ hm) ha' (Int.ediv_nonneg hd' (by omega)) hg0 hg1
      · refine ⟨_, rfl, p, _, rfl, getS up (vFold ..), _, rfl, p, _, rfl, getS up (vCount ..), _, _, rfl, rfl, .inr ⟨by decide, by decide⟩, _, _, rfl, rfl, _, _, rfl, rfl, ?_⟩
        refine ⟨_, rfl, _, _, rfl, rfl, ⟨by decide, by decide, ?_⟩, _, _, rfl, rfl, (by show (0 : Int) < 2305843009213693951; decide), .inl ⟨_, rfl, _, _, rfl, rfl, wide_div (b := 200) (by decide) (by decide) (by decide) (by decide), _, rfl, _, _, rfl, rfl, hm, ?_⟩⟩
        · omega
        · exact fin _ _ _ _ (Int.emod_nonneg _ (by omega)) (Int.emod_lt_of_pos _ hm) ha' hd' hg0 hg1
theorem ok_pick {f fD : Addr} {fd fdD : FuncData} {k : Nat} (F : Fun K "_law_pick" "_law_pick" sPick f fd) (FD : Fun K "_law_draw" "_law_draw" sDraw fD fdD) (bD : Binds K fdD ["_law_pen_here", "_law_many"] []) (gD : mg "_law_draw" = some (.ref fD)) (mi : mg "int" = none) (ml : mg "len" = none) :
    FnOk P w K mg base CX0 (k + 2) f fd ["_law_pen_here", "_law_some"] (spPick K) := by
  have GD : FnOk P w K mg base CX0 (k + 1) fD fdD ["_law_pen_here", "_law_many"] spDraw := ok_draw FD mi ml
  refine F.ok scPick (fun vs H Q E h => ?_) (fun cdv A outer s H vs Q E hr h => ?_)
  · obtain ⟨p, c, y, n, xs, rfl, _⟩ := h
    rfl
  · obtain ⟨p, c, y, n, xs, rfl, hP, hn, hS, h0, hl, q⟩ := h
    refine ⟨_, pss_one (ps_ret (pe_ix (ix_or ix_list ix_tup) (pv 1) (pe_call GD hr (by rfl) gD FD.kp bD .nil pass0 (pa_cons (pv 0) (pa_cons (pe_callB call_len_seq (by rfl) ml PySem.boot_len (pa_cons (pv 1) pa_nil)) pa_nil))) (fun _ _ => rfl))), ?_⟩
    have hpos : 0 < xs.length := List.length_pos_iff.mpr h0
    refine ⟨_, rfl, _, rfl, _, rfl, y, xs, rfl, hS, p, c, n, _, rfl, hP, hn, by omega, ?_, fun r H' r0 r1 hP' hk => ?_⟩
    · have e : (xs.length : Int).natAbs = xs.length := by omega
      rw [e]
      exact Nat.lt_of_le_of_lt hl (by decide)
    · obtain ⟨j, rfl⟩ : ∃ j : Nat, r = (j : Int) := ⟨r.toNat, by omega⟩
      have hj : j < xs.length := by omega
      have hx : xs[j]? = some xs[j] := List.getElem?_eq_getElem hj
      obtain ⟨ns, a0, d0, f0, ep, _⟩ := hP
      rcases hS with hS | hS
      · exact .inl ⟨y, xs, _, _, rfl, rfl, sqL_pen hk ep hS, atI_nat hx, q j _ H' hx hP' hk⟩
      · exact .inr ⟨y, xs, _, _, rfl, rfl, sqT_pen hk ep hS, atI_nat hx, q j _ H' hx hP' hk⟩
end
end KQ

namespace KQ
open PySem PySem.Spec PyProof.Rows L2
/-! ### texts as lists of signs -/
abbrev mS (L : List Nat) : Str := ⟨L.toArray⟩
theorem mS_len (L : List Nat) : (mS L).length = L.length := by simp [Str.length]
theorem mS_inj {L M : List Nat} (h : mS L = mS M) : L = M := by
  have := congrArg (fun x : Str => x.cps.toList) h
  simpa using this
theorem mS_app (L M : List Nat) : mS L ++ mS M = mS (L ++ M) := by
  show Str.mk (L.toArray ++ M.toArray) = _
  simp
theorem mS_eta (x : Str) : x = mS x.cps.toList := by
  show x = Str.mk x.cps.toList.toArray
  simp
theorem mS_of {x : Str} {L : List Nat} (h : x.cps.toList = L) : x = mS L := by rw [mS_eta x, h]
theorem mS_cut (L : List Nat) (lo hi : Option Int) : cutS (mS L) lo hi = mS ((L.drop (HT.sIx L.length 0 lo)).take (HT.sIx L.length L.length hi - HT.sIx L.length 0 lo)) := by
  unfold cutS
  rw [mS_len]
theorem cut_from (L : List Nat) (k : Nat) : cutS (mS L) (some (k : Int)) none = mS (L.drop k) := by
  rw [mS_cut, HT.sIx_nat, HT.sIx_none]
  by_cases h : k ≤ L.length
  · rw [Nat.min_eq_left h, List.take_of_length_le (by simp)]
  · rw [Nat.min_eq_right (by omega), List.drop_of_length_le (Nat.le_refl _), List.drop_of_length_le (by omega)]
    simp
theorem cut_to (L : List Nat) (k : Nat) : cutS (mS L) none (some (k : Int)) = mS (L.take k) := by
  rw [mS_cut, HT.sIx_nat, HT.sIx_none, List.drop_zero, Nat.sub_zero]
  by_cases h : k ≤ L.length
  · rw [Nat.min_eq_left h]
  · rw [Nat.min_eq_right (by omega), List.take_of_length_le (Nat.le_refl _), List.take_of_length_le (by omega)]
theorem cut_mid (L : List Nat) (k : Nat) : cutS (mS L) (some (k : Int)) (some ((k : Int) + 1)) = mS (L.drop k |>.take 1) := by
  have e : ((k : Int) + 1) = ((k + 1 : Nat) : Int) := by omega
  rw [e, mS_cut, HT.sIx_nat, HT.sIx_nat]
  by_cases h : k + 1 ≤ L.length
  · rw [Nat.min_eq_left h, Nat.min_eq_left (by omega)]
    congr 2
    omega
  · rw [Nat.min_eq_right (by omega), Nat.min_eq_right (by omega), List.drop_of_length_le (Nat.le_refl _), List.drop_of_length_le (by omega)]
    simp
theorem sw_one (L : List Nat) (c : Nat) : Txt.startswith (mS L) ⟨#[c]⟩ = decide (L.head? = some c) := by
  cases L with
  | nil => rfl
  | cons a L =>
    unfold Txt.startswith Builtin.Str.subAt
    show (decide (0 + 1 ≤ (mS (a :: L)).length) && ((a :: L).toArray.extract 0 (0 + 1) == #[c])) = _
    rw [mS_len]
    by_cases h : a = c
    · subst h
      simp
    · have : ¬ (some a = some c) := fun e => h (Option.some.inj e)
      simp [h]
theorem drop_take {p : Nat → Bool} (L : List Nat) : L.drop (L.takeWhile p).length = L.dropWhile p := by
  have h := List.takeWhile_append_dropWhile (p := p) (l := L)
  have h2 : (L.takeWhile p ++ L.dropWhile p).drop (L.takeWhile p).length = L.dropWhile p := List.drop_left
  rw [h] at h2
  exact h2
theorem lstrip_eq (L S : List Nat) : Txt.lstripChars (mS L) (mS S) = mS (L.dropWhile S.toArray.contains) := by
  have key : Builtin.Str.strSub (mS L) (L.takeWhile S.toArray.contains).length L.length = mS (L.dropWhile S.toArray.contains) := by
    refine mS_of ?_
    rw [PySem.StrLaws.strSub_toList]
    show ((L.drop _).take _) = _
    rw [drop_take, List.take_of_length_le]
    have h := congrArg List.length (List.takeWhile_append_dropWhile (p := S.toArray.contains) (l := L))
    rw [List.length_append] at h
    omega
  unfold Txt.lstripChars Txt.stripBy
  split
  · rename_i h
    have h0 : (L.takeWhile S.toArray.contains).length = 0 := by
      exact eq_of_beq ((Bool.and_eq_true _ _).mp h).1
    rw [← drop_take, h0, List.drop_zero]
  · show Builtin.Str.strSub (mS L) _ (mS L).length = _
    rw [mS_len]
    exact key
theorem strike (L : List Nat) (c : Nat) : Txt.replace (mS L) ⟨#[c]⟩ ⟨#[]⟩ = mS (L.filter (· != c)) := mS_of (by rw [replace_strikes])
/-! ### the letters and their bits -/
def isL (c : Nat) : Bool := (#[73, 88, 89, 90] : Array Nat).contains c
theorem isL_iff {c : Nat} : isL c = true ↔ c = 73 ∨ c = 88 ∨ c = 89 ∨ c = 90 := by
  unfold isL
  simp
def lx (c : Nat) : Nat := if c = 88 ∨ c = 89 then 1 else 0
def lz (c : Nat) : Nat := if c = 90 ∨ c = 89 then 1 else 0
def bv (f : Nat → Nat) : List Nat → Nat
  | [] => 0
  | c :: L => f c + 2 * bv f L
theorem bv_app (f : Nat → Nat) : ∀ (L : List Nat) (c : Nat), bv f (L ++ [c]) = bv f L + 2 ^ L.length * f c
  | [], c => by simp [bv]
  | a :: L, c => by
    show f a + 2 * bv f (L ++ [c]) = f a + 2 * bv f L + 2 ^ (L.length + 1) * f c
    rw [bv_app f L c, Nat.pow_succ, Nat.mul_add, Nat.add_assoc, Nat.mul_comm (2 ^ L.length) 2, Nat.mul_assoc]
theorem bv_take (f : Nat → Nat) {L : List Nat} {k c : Nat} (h : L[k]? = some c) : bv f (L.take (k + 1)) = bv f (L.take k) + 2 ^ k * f c := by
  have hk : k < L.length := by
    rcases Nat.lt_or_ge k L.length with h' | h'
    · exact h'
    · rw [List.getElem?_eq_none h'] at h; cases h
  have e : L.take (k + 1) = L.take k ++ [c] := by
    rw [List.take_succ, h]
    rfl
  rw [e, bv_app, List.length_take, Nat.min_eq_left (by omega)]
theorem bv_bit {f : Nat → Nat} (hf : ∀ c, f c < 2) : ∀ {L : List Nat} {k c : Nat}, L[k]? = some c → bv f L / 2 ^ k % 2 = f c
  | [], k, c, h => by simp at h
  | a :: L, 0, c, h => by
    have e : a = c := by simpa using h
    subst e
    have := hf a
    show (f a + 2 * bv f L) / 2 ^ 0 % 2 = f a
    rw [Nat.pow_zero, Nat.div_one]
    omega
  | a :: L, k + 1, c, h => by
    have h' : L[k]? = some c := by simpa using h
    have := hf a
    show (f a + 2 * bv f L) / 2 ^ (k + 1) % 2 = f c
    rw [Nat.pow_succ, Nat.mul_comm (2 ^ k) 2, ← Nat.div_div_eq_div_mul, show (f a + 2 * bv f L) / 2 = bv f L from by omega]
    exact bv_bit hf h'
theorem bv_lt {f : Nat → Nat} (hf : ∀ c, f c < 2) : ∀ L : List Nat, bv f L < 2 ^ L.length
  | [] => Nat.one_pos
  | a :: L => by
    have := bv_lt hf L
    have := hf a
    show f a + 2 * bv f L < 2 ^ (L.length + 1)
    rw [Nat.pow_succ]
    omega
theorem lx_lt (c : Nat) : lx c < 2 := by unfold lx; split <;> omega
theorem lz_lt (c : Nat) : lz c < 2 := by unfold lz; split <;> omega
theorem letter_back {c : Nat} (h : isL c = true) : ([73, 88, 90, 89] : List Nat)[lx c + 2 * lz c]? = some c := by
  rcases isL_iff.mp h with rfl | rfl | rfl | rfl <;> decide
/-! ### counting ones -/
def pc (n : Nat) : Nat := if h : n = 0 then 0 else n % 2 + pc (n / 2)
termination_by n
decreasing_by omega
theorem pc_zero : pc 0 = 0 := by unfold pc; rfl
theorem pc_two (m b : Nat) (hb : b < 2) : pc (2 * m + b) = b + pc m := by
  by_cases h : 2 * m + b = 0
  · have h1 : m = 0 := by omega
    have h2 : b = 0 := by omega
    subst h1 h2
    rw [pc_zero]
  · rw [pc, dif_neg h, show (2 * m + b) % 2 = b from by omega, show (2 * m + b) / 2 = m from by omega]
theorem and_two (a b i j : Nat) (hi : i < 2) (hj : j < 2) : (2 * a + i) &&& (2 * b + j) = 2 * (a &&& b) + (i &&& j) := by
  have h1 : ((2 * a + i) &&& (2 * b + j)) / 2 = a &&& b := by
    rw [Nat.and_div_two, show (2 * a + i) / 2 = a from by omega, show (2 * b + j) / 2 = b from by omega]
  have h2 : ((2 * a + i) &&& (2 * b + j)) % 2 = i &&& j := by
    have := Nat.and_mod_two_pow (a := 2 * a + i) (b := 2 * b + j) (n := 1)
    rw [Nat.pow_one] at this
    rw [this, show (2 * a + i) % 2 = i from by omega, show (2 * b + j) % 2 = j from by omega]
  omega
theorem or_two (a b i j : Nat) (hi : i < 2) (hj : j < 2) : (2 * a + i) ||| (2 * b + j) = 2 * (a ||| b) + (i ||| j) := by
  have h1 : ((2 * a + i) ||| (2 * b + j)) / 2 = a ||| b := by
    rw [Nat.or_div_two, show (2 * a + i) / 2 = a from by omega, show (2 * b + j) / 2 = b from by omega]
  have h2 : ((2 * a + i) ||| (2 * b + j)) % 2 = i ||| j := by
    have := Nat.or_mod_two_pow (a := 2 * a + i) (b := 2 * b + j) (n := 1)
    rw [Nat.pow_one] at this
    rw [this, show (2 * a + i) % 2 = i from by omega, show (2 * b + j) % 2 = j from by omega]
  omega
theorem pc_step : ∀ (n : Nat), 0 < n → pc (n &&& (n - 1)) + 1 = pc n := by
  intro n
  induction n using Nat.strongRecOn with
  | ind n ih =>
    intro hn
    by_cases h : n % 2 = 1
    · have e : n = 2 * (n / 2) + 1 := by omega
      have e2 : n - 1 = 2 * (n / 2) + 0 := by omega
      have e3 : n &&& (n - 1) = 2 * (n / 2) + 0 := by
        rw [e2]
        conv => lhs; lhs; rw [e]
        rw [and_two _ _ _ _ (by decide) (by decide), Nat.and_self]
        rfl
      rw [e3, pc_two _ _ (by decide)]
      conv => rhs; rw [e]
      rw [pc_two _ _ (by decide)]
      omega
    · have e : n = 2 * (n / 2) + 0 := by omega
      have e2 : n - 1 = 2 * (n / 2 - 1) + 1 := by omega
      have e3 : n &&& (n - 1) = 2 * (n / 2 &&& (n / 2 - 1)) + 0 := by
        rw [e2]
        conv => lhs; lhs; rw [e]
        rw [and_two _ _ _ _ (by decide) (by decide)]
        rfl
      have := ih (n / 2) (by omega) (by omega)
      rw [e3, pc_two _ _ (by decide)]
      conv => rhs; rw [e]
      rw [pc_two _ _ (by decide)]
      omega
def wt (L : List Nat) : Nat := L.length - L.count 73
theorem pc_or : ∀ {L : List Nat}, (∀ c ∈ L, isL c = true) → pc (bv lx L ||| bv lz L) + L.count 73 = L.length
  | [], _ => by
    show pc (0 ||| 0) + 0 = 0
    rw [show (0 ||| 0 : Nat) = 0 from rfl, pc_zero]
  | c :: L, h => by
    have ih := pc_or fun d hd => h d (List.mem_cons_of_mem _ hd)
    show pc ((lx c + 2 * bv lx L) ||| (lz c + 2 * bv lz L)) + (c :: L).count 73 = L.length + 1
    rw [Nat.add_comm (lx c), Nat.add_comm (lz c), or_two _ _ _ _ (lx_lt c) (lz_lt c), List.count_cons]
    have hc := isL_iff.mp (h c List.mem_cons_self)
    have two : (lx c ||| lz c) < 2 ∧ (lx c ||| lz c) + (if c == 73 then 1 else 0) = 1 := by
      rcases hc with rfl | rfl | rfl | rfl <;> decide
    rw [pc_two _ _ two.1]
    omega
theorem pc_wt {L : List Nat} (h : ∀ c ∈ L, isL c = true) : pc (bv lx L ||| bv lz L) = wt L := by
  have := pc_or h
  unfold wt
  omega
/-! ### a text's parts -/
def st1 (B : List Nat) : Nat := if B.head? = some 43 ∨ B.head? = some 45 then 1 else 0
def start (B : List Nat) : Nat := st1 B + (if (B.drop (st1 B)).head? = some 105 then 1 else 0)
def rest (B : List Nat) : List Nat := B.drop (start B)
def fine (B : List Nat) : Prop := (rest B).dropWhile isL = [] ∧ rest B ≠ []
instance (B : List Nat) : Decidable (fine B) := inferInstanceAs (Decidable (_ ∧ _))
def col (B : List Nat) : Nat := if fine B then 0 else B.length - ((rest B).dropWhile isL).length + 1
def ph (B : List Nat) : Nat := (if B.head? = some 45 then 2 else 0) + (if (B.drop (st1 B)).head? = some 105 then 1 else 0)
def headL : Nat → List Nat
  | 0 => []
  | 1 => [105]
  | 2 => [45]
  | _ => [45, 105]
theorem ph_lt (B : List Nat) : ph B < 4 := by
  unfold ph
  split <;> split <;> omega
theorem head_of (B : List Nat) : (B.take (start B)).filter (· != 43) = headL (ph B) := by
  cases B with
  | nil => rfl
  | cons a B =>
    unfold start ph
    by_cases h1 : a = 43
    · subst h1
      have e : st1 (43 :: B) = 1 := rfl
      rw [e]
      cases B with
      | nil => rfl
      | cons b B =>
        by_cases h2 : b = 105
        · subst h2
          rfl
        · have e2 : ((43 :: b :: B).drop 1).head? ≠ some 105 := fun z => h2 (Option.some.inj z)
          rw [if_neg e2, if_neg (by simp : ¬ ((43 :: b :: B).head? = some 45))]
          rfl
    · by_cases h3 : a = 45
      · subst h3
        have e : st1 (45 :: B) = 1 := rfl
        rw [e]
        cases B with
        | nil => rfl
        | cons b B =>
          by_cases h2 : b = 105
          · subst h2
            rfl
          · have e2 : ((45 :: b :: B).drop 1).head? ≠ some 105 := fun z => h2 (Option.some.inj z)
            rw [if_neg e2]
            rfl
      · have e : st1 (a :: B) = 0 := by
          unfold st1
          rw [if_neg]
          rintro (z | z)
          · exact h1 (Option.some.inj z)
          · exact h3 (Option.some.inj z)
        have e3 : ¬ ((a :: B).head? = some 45) := fun z => h3 (Option.some.inj z)
        rw [e, if_neg e3]
        by_cases h2 : a = 105
        · subst h2
          rfl
        · have e2 : ¬ (((a :: B).drop 0).head? = some 105) := fun z => h2 (Option.some.inj z)
          rw [if_neg e2]
          rfl
theorem start_le (B : List Nat) : start B ≤ B.length := by
  unfold start
  cases B with
  | nil => decide
  | cons a B =>
    have h1 : st1 (a :: B) ≤ 1 := by unfold st1; split <;> omega
    split
    · rename_i h
      have : st1 (a :: B) < (a :: B).length := by
        rcases Nat.lt_or_ge (st1 (a :: B)) (a :: B).length with z | z
        · exact z
        · rw [List.drop_of_length_le z] at h
          cases h
      omega
    · show _ ≤ B.length + 1
      omega
theorem dw_all : ∀ {L : List Nat}, (∀ c ∈ L, isL c = true) → L.dropWhile isL = []
  | [], _ => rfl
  | c :: L, h => by
    rw [List.dropWhile_cons_of_pos (h c List.mem_cons_self)]
    exact dw_all fun d hd => h d (List.mem_cons_of_mem _ hd)
/-- a head before letters -/
theorem read_head {L : List Nat} (hL : ∀ c ∈ L, isL c = true) (h0 : L ≠ []) (i : Nat) (T : List Nat) (p : Nat) (hT : ([([], 0), ([43], 0), ([45], 2), ([105], 1), ([43, 105], 1), ([45, 105], 3)] : List (List Nat × Nat))[i]? = some (T, p)) :
    rest (T ++ L) = L ∧ ph (T ++ L) = p ∧ fine (T ++ L) := by
  have hd : ∃ a M, L = a :: M ∧ a ≠ 43 ∧ a ≠ 45 ∧ a ≠ 105 := by
    cases L with
    | nil => exact absurd rfl h0
    | cons a M =>
      refine ⟨a, M, rfl, ?_, ?_, ?_⟩ <;> rintro rfl <;> have := isL_iff.mp (hL _ List.mem_cons_self) <;> omega
  obtain ⟨a, M, rfl, n1, n2, n3⟩ := hd
  have dw : (a :: M).dropWhile isL = [] := by
    exact dw_all hL
  have go : ∀ T p, start (T ++ (a :: M)) = T.length → ph (T ++ (a :: M)) = p → rest (T ++ (a :: M)) = a :: M ∧ ph (T ++ (a :: M)) = p ∧ fine (T ++ (a :: M)) := by
    intro T p hs hp
    have hr : rest (T ++ (a :: M)) = a :: M := by
      unfold rest
      rw [hs]
      exact List.drop_left
    refine ⟨hr, hp, ?_⟩
    unfold fine
    rw [hr]
    exact ⟨dw, by simp⟩
  have s1 : ∀ x : Nat, x ≠ 43 → x ≠ 45 → ∀ M, st1 (x :: M) = 0 := by
    intro x h1 h2 M
    unfold st1
    rw [if_neg]
    rintro (z | z)
    · exact h1 (Option.some.inj z)
    · exact h2 (Option.some.inj z)
  have no : ∀ M : List Nat, ¬ ((a :: M).head? = some 105) := fun M z => n3 (Option.some.inj z)
  match i, hT with
  | 0, e =>
    cases e
    refine go [] 0 ?_ ?_
    · show st1 (a :: M) + (if ((a :: M).drop (st1 (a :: M))).head? = some 105 then 1 else 0) = 0
      rw [s1 a n1 n2, List.drop_zero, if_neg (no M)]
    · have n4 : ¬ ((a :: M).head? = some 45) := fun z => n2 (Option.some.inj z)
      show (if (a :: M).head? = some 45 then 2 else 0) + (if ((a :: M).drop (st1 (a :: M))).head? = some 105 then 1 else 0) = 0
      rw [s1 a n1 n2, if_neg n4, List.drop_zero, if_neg (no M)]
  | 1, e =>
    cases e
    refine go [43] 0 ?_ ?_
    · show 1 + (if (a :: M).head? = some 105 then 1 else 0) = 1
      rw [if_neg (no M)]
    · show 0 + (if (a :: M).head? = some 105 then 1 else 0) = 0
      rw [if_neg (no M)]
  | 2, e =>
    cases e
    refine go [45] 2 ?_ ?_
    · show 1 + (if (a :: M).head? = some 105 then 1 else 0) = 1
      rw [if_neg (no M)]
    · show 2 + (if (a :: M).head? = some 105 then 1 else 0) = 2
      rw [if_neg (no M)]
  | 3, e =>
    cases e
    exact go [105] 1 rfl rfl
  | 4, e =>
    cases e
    exact go [43, 105] 1 rfl rfl
  | 5, e =>
    cases e
    exact go [45, 105] 3 rfl rfl
theorem col_zero {B : List Nat} : col B = 0 ↔ fine B := by
  unfold col
  split
  · exact ⟨fun _ => by assumption, fun _ => rfl⟩
  · exact ⟨fun z => by omega, fun z => absurd z (by assumption)⟩
theorem len_split (B : List Nat) : B.length = start B + ((rest B).takeWhile isL).length + ((rest B).dropWhile isL).length := by
  have h := congrArg List.length (List.takeWhile_append_dropWhile (p := isL) (l := rest B))
  rw [List.length_append] at h
  have h2 : (rest B).length = B.length - start B := List.length_drop
  have := start_le B
  omega
end KQ

namespace KQ
open PySem PySem.Spec PyProof.Rows L2
/-! ### rows of bits as numbers -/
def lw (n r : Nat) : Nat := if n.testBit r.log2 then n ^^^ r else n
def rst (T : List Nat) (n : Nat) : Nat := T.foldl lw n
def Sub (S : Nat → Prop) : Prop := S 0 ∧ ∀ x y, S x → S y → S (x ^^^ y)
def Spn (T : List Nat) (x : Nat) : Prop := ∀ S, Sub S → (∀ a ∈ T, S a) → S x
theorem spn_sub (T : List Nat) : Sub (Spn T) := ⟨fun _ h _ => h.1, fun x y hx hy S h m => h.2 x y (hx S h m) (hy S h m)⟩
theorem spn_mem {T : List Nat} {a : Nat} (h : a ∈ T) : Spn T a := fun _ _ m => m a h
theorem spn_le {T U : List Nat} {x : Nat} (h : ∀ a ∈ T, Spn U a) (hx : Spn T x) : Spn U x := hx _ (spn_sub U) h
theorem spn_iff_of {T U : List Nat} (h : ∀ a ∈ T, Spn U a) (k : ∀ a ∈ U, Spn T a) (x : Nat) : Spn T x ↔ Spn U x := ⟨spn_le h, spn_le k⟩
theorem log_of {n : Nat} (h : n ≠ 0) : 2 ^ n.log2 ≤ n ∧ n < 2 ^ (n.log2 + 1) := ⟨Nat.log2_self_le h, Nat.lt_log2_self⟩
theorem bit_top {n : Nat} (h : n ≠ 0) : n.testBit n.log2 = true := by
  obtain ⟨h1, h2⟩ := log_of h
  rw [Nat.testBit_eq_decide_div_mod_eq]
  have e : n / 2 ^ n.log2 = 1 := by
    apply Nat.div_eq_of_lt_le
    · omega
    · rw [Nat.pow_succ] at h2
      omega
  rw [e]
  rfl
theorem bit_above {n j : Nat} (h : n.log2 < j) : n.testBit j = false := by
  by_cases z : n = 0
  · subst z
    exact Nat.zero_testBit j
  · exact Nat.testBit_lt_two_pow (Nat.lt_of_lt_of_le (log_of z).2 (Nat.pow_le_pow_right (by decide) h))
theorem bit_high {n k j : Nat} (h : n < 2 ^ k) (hj : k ≤ j) : n.testBit j = false := Nat.testBit_lt_two_pow (Nat.lt_of_lt_of_le h (Nat.pow_le_pow_right (by decide) hj))
theorem log_of_bits {n t : Nat} (h : n.testBit t = true) (k : ∀ j, t < j → n.testBit j = false) : n.log2 = t := by
  have n0 : n ≠ 0 := fun z => by
    subst z
    rw [Nat.zero_testBit] at h
    cases h
  rcases Nat.lt_trichotomy n.log2 t with a | a | a
  · rw [bit_above a] at h
    cases h
  · exact a
  · have := k _ a
    rw [bit_top n0] at this
    cases this
theorem bit_lt {n m : Nat} (t : Nat) (hn : n.testBit t = false) (hm : m.testBit t = true) (h : ∀ j, t < j → n.testBit j = m.testBit j) : n < m := by
  have e : n / 2 ^ (t + 1) = m / 2 ^ (t + 1) := by
    apply Nat.eq_of_testBit_eq
    intro j
    rw [Nat.testBit_div_two_pow, Nat.testBit_div_two_pow]
    exact h _ (by omega)
  rw [Nat.testBit_eq_decide_div_mod_eq] at hn hm
  have hn' := of_decide_eq_false hn
  have hm' := of_decide_eq_true hm
  rw [Nat.pow_succ, ← Nat.div_div_eq_div_mul, ← Nat.div_div_eq_div_mul] at e
  have l : n / 2 ^ t < m / 2 ^ t := by omega
  exact Nat.lt_of_not_le fun z => absurd (Nat.div_le_div_right (c := 2 ^ t) z) (by omega)
theorem lt_iff {n r : Nat} (hr : r ≠ 0) : n ^^^ r < n ↔ n.testBit r.log2 = true := by
  have up : ∀ j, r.log2 < j → (n ^^^ r).testBit j = n.testBit j := fun j hj => by
    rw [Nat.testBit_xor, bit_above hj, Bool.xor_false]
  constructor
  · intro h
    rcases Bool.eq_false_or_eq_true (n.testBit r.log2) with e | e
    · exact e
    · have : n < n ^^^ r := by
        refine bit_lt r.log2 e ?_ fun j hj => (up j hj).symm
        rw [Nat.testBit_xor, e, bit_top hr]
        rfl
      omega
  · intro e
    refine bit_lt r.log2 ?_ e up
    rw [Nat.testBit_xor, e, bit_top hr]
    rfl
/-- min(n, n ^ r) -/
theorem min_lw {n r : Nat} (hr : r ≠ 0) : (if ((n ^^^ r : Nat) : Int) < (n : Int) then ((n ^^^ r : Nat) : Int) else (n : Int)) = ((lw n r : Nat) : Int) := by
  unfold lw
  by_cases h : n ^^^ r < n
  · rw [if_pos (by omega), if_pos ((lt_iff hr).mp h)]
  · rw [if_neg (by omega), if_neg (fun z => h ((lt_iff hr).mpr z))]
theorem lw_lin (x y r : Nat) : lw (x ^^^ y) r = lw x r ^^^ lw y r := by
  unfold lw
  rw [Nat.testBit_xor]
  rcases Bool.eq_false_or_eq_true (x.testBit r.log2) with a | a <;> rcases Bool.eq_false_or_eq_true (y.testBit r.log2) with b | b <;> rw [a, b] <;> simp
  · rw [Nat.xor_assoc x r, ← Nat.xor_assoc r y, Nat.xor_comm r y, Nat.xor_assoc y r, Nat.xor_self, Nat.xor_zero]
  · rw [Nat.xor_assoc, Nat.xor_comm y, ← Nat.xor_assoc]
  · rw [Nat.xor_assoc]
theorem rst_lin (T : List Nat) : ∀ x y, rst T (x ^^^ y) = rst T x ^^^ rst T y := by
  induction T with
  | nil => intro x y; rfl
  | cons r T ih =>
    intro x y
    show rst T (lw (x ^^^ y) r) = rst T (lw x r) ^^^ rst T (lw y r)
    rw [lw_lin, ih]
theorem lw_zero (r : Nat) : lw 0 r = 0 := by
  unfold lw
  rw [Nat.zero_testBit]
  rfl
theorem rst_zero (T : List Nat) : rst T 0 = 0 := by
  induction T with
  | nil => rfl
  | cons r T ih =>
    show rst T (lw 0 r) = 0
    rw [lw_zero, ih]
structure Ec (T : List Nat) : Prop where
  nz : ∀ r ∈ T, r ≠ 0
  pw : T.Pairwise fun a b => b.testBit a.log2 = false
theorem lw_bit {n r t : Nat} (h : r.testBit t = false) : (lw n r).testBit t = n.testBit t := by
  unfold lw
  split
  · rw [Nat.testBit_xor, h, Bool.xor_false]
  · rfl
theorem rst_bit {t : Nat} : ∀ {T : List Nat} {n : Nat}, (∀ r ∈ T, r.testBit t = false) → (rst T n).testBit t = n.testBit t
  | [], _, _ => rfl
  | r :: T, n, h => by
    show (rst T (lw n r)).testBit t = _
    rw [rst_bit fun q hq => h q (List.mem_cons_of_mem _ hq), lw_bit (h r List.mem_cons_self)]
theorem Ec.tail {r : Nat} {T : List Nat} (E : Ec (r :: T)) : Ec T := ⟨fun q hq => E.nz q (List.mem_cons_of_mem _ hq), (List.pairwise_cons.mp E.pw).2⟩
theorem lw_clear {n r : Nat} (hr : r ≠ 0) : (lw n r).testBit r.log2 = false := by
  unfold lw
  split
  · rename_i h
    rw [Nat.testBit_xor, h, bit_top hr]
    rfl
  · rename_i h
    exact Bool.eq_false_iff.mpr h
theorem rst_clear : ∀ {T : List Nat} {n : Nat}, Ec T → ∀ r ∈ T, (rst T n).testBit r.log2 = false
  | r :: T, n, E, q, hq => by
    rcases List.mem_cons.mp hq with rfl | hq
    · show (rst T (lw n q)).testBit _ = _
      rw [rst_bit (List.pairwise_cons.mp E.pw).1, lw_clear (E.nz q List.mem_cons_self)]
    · exact rst_clear (T := T) E.tail q hq
theorem lw_self {r : Nat} (hr : r ≠ 0) : lw r r = 0 := by
  unfold lw
  rw [bit_top hr, if_pos rfl, Nat.xor_self]
theorem rst_mem : ∀ {T : List Nat}, Ec T → ∀ r ∈ T, rst T r = 0
  | a :: T, E, r, hr => by
    show rst T (lw r a) = 0
    rcases List.mem_cons.mp hr with rfl | hr
    · rw [lw_self (E.nz r List.mem_cons_self), rst_zero]
    · have e : lw r a = r := by
        unfold lw
        rw [(List.pairwise_cons.mp E.pw).1 r hr]
        rfl
      rw [e]
      exact rst_mem E.tail r hr
theorem rst_spn : ∀ {T : List Nat} (n : Nat), Spn T (n ^^^ rst T n)
  | [], n => by
    show Spn [] (n ^^^ n)
    rw [Nat.xor_self]
    exact (spn_sub _).1
  | r :: T, n => by
    show Spn (r :: T) (n ^^^ rst T (lw n r))
    have h1 : Spn (r :: T) (lw n r ^^^ rst T (lw n r)) := spn_le (fun a ha => spn_mem (List.mem_cons_of_mem _ ha)) (rst_spn (T := T) (lw n r))
    have h2 : Spn (r :: T) (n ^^^ lw n r) := by
      unfold lw
      split
      · rw [← Nat.xor_assoc, Nat.xor_self, Nat.zero_xor]
        exact spn_mem List.mem_cons_self
      · rw [Nat.xor_self]
        exact (spn_sub _).1
    have h3 := (spn_sub _).2 _ _ h2 h1
    rw [Nat.xor_assoc, ← Nat.xor_assoc (lw n r) (lw n r), Nat.xor_self, Nat.zero_xor] at h3
    exact h3
theorem spn_rst {T : List Nat} (E : Ec T) (x : Nat) : Spn T x ↔ rst T x = 0 := by
  constructor
  · intro h
    exact h (fun x => rst T x = 0) ⟨rst_zero T, fun x y a b => by show rst T (x ^^^ y) = 0; rw [rst_lin, show rst T x = 0 from a, show rst T y = 0 from b]; rfl⟩ (rst_mem E)
  · intro h
    have := rst_spn (T := T) x
    rw [h, Nat.xor_zero] at this
    exact this
theorem rst_top : ∀ {T : List Nat} {n t : Nat}, (∀ r ∈ T, r.log2 ≠ t) → n.testBit t = true → (∀ j, t < j → n.testBit j = false) → (rst T n).testBit t = true
  | [], _, _, _, h, _ => h
  | r :: T, n, t, hT, h, k => by
    show (rst T (lw n r)).testBit t = true
    have ne := hT r List.mem_cons_self
    refine rst_top (fun q hq => hT q (List.mem_cons_of_mem _ hq)) ?_ ?_
    · unfold lw
      split
      · rename_i hb
        rcases Nat.lt_or_ge t r.log2 with a | a
        · rw [k _ a] at hb
          cases hb
        · rw [Nat.testBit_xor, h, bit_above (by omega)]
          rfl
      · exact h
    · intro j hj
      unfold lw
      split
      · rename_i hb
        rcases Nat.lt_or_ge t r.log2 with a | a
        · rw [k _ a] at hb
          cases hb
        · rw [Nat.testBit_xor, k j hj, bit_above (by omega)]
          rfl
      · exact k j hj
theorem top_mem {T : List Nat} (E : Ec T) {x : Nat} (h : Spn T x) (x0 : x ≠ 0) : ∃ r ∈ T, r.log2 = x.log2 := by
  refine Classical.byContradiction fun no => ?_
  have := rst_top (T := T) (n := x) (t := x.log2) (fun r hr e => no ⟨r, hr, e⟩) (bit_top x0) fun j hj => bit_above hj
  rw [(spn_rst E x).mp h, Nat.zero_testBit] at this
  cases this
theorem nodup_le {α : Type} [DecidableEq α] : ∀ {l m : List α}, l.Nodup → (∀ a ∈ l, a ∈ m) → l.length ≤ m.length
  | [], _, _, _ => Nat.zero_le _
  | a :: l, m, hn, h => by
    have ha := h a List.mem_cons_self
    have n2 := List.nodup_cons.mp hn
    have k := nodup_le (l := l) (m := m.erase a) n2.2 fun b hb => (List.mem_erase_of_ne (fun e => n2.1 (by rw [← e]; exact hb))).mpr (h b (List.mem_cons_of_mem _ hb))
    rw [List.length_erase_of_mem ha] at k
    have : 0 < m.length := List.length_pos_of_mem ha
    show l.length + 1 ≤ _
    omega
theorem Ec.tops {T : List Nat} (E : Ec T) : (T.map Nat.log2).Nodup := by
  refine List.pairwise_map.mpr ?_
  refine List.Pairwise.imp_of_mem (fun {a b} ha hb h e => ?_) E.pw
  rw [e, bit_top (E.nz b hb)] at h
  cases h
theorem Ec.nodup {T : List Nat} (E : Ec T) : T.Nodup := List.Pairwise.of_map Nat.log2 (fun _ _ h e => h (e ▸ rfl)) E.tops
theorem len_le {T U : List Nat} (E : Ec T) (F : Ec U) (h : ∀ x ∈ T, Spn U x) : T.length ≤ U.length := by
  have := nodup_le (l := T.map Nat.log2) (m := U.map Nat.log2) E.tops fun a ha => by
    obtain ⟨r, hr, rfl⟩ := List.mem_map.mp ha
    obtain ⟨q, hq, e⟩ := top_mem F (h r hr) (E.nz r hr)
    exact List.mem_map.mpr ⟨q, hq, e⟩
  rwa [List.length_map, List.length_map] at this
theorem len_eq {T U : List Nat} (E : Ec T) (F : Ec U) (h : ∀ x, Spn T x ↔ Spn U x) : T.length = U.length :=
  Nat.le_antisymm (len_le E F fun x hx => (h x).mp (spn_mem hx)) (len_le F E fun x hx => (h x).mpr (spn_mem hx))
/-- a reduced table, in any order -/
structure Red (T : List Nat) : Prop where
  nz : ∀ r ∈ T, r ≠ 0
  pw : T.Pairwise fun a b => b.testBit a.log2 = false ∧ a.testBit b.log2 = false
theorem Red.ec {T : List Nat} (R : Red T) : Ec T := ⟨R.nz, R.pw.imp fun h => h.1⟩
theorem Red.perm {T U : List Nat} (R : Red T) (p : T.Perm U) : Red U := ⟨fun r hr => R.nz r (p.mem_iff.mpr hr), (p.pairwise_iff fun h => ⟨h.2, h.1⟩).mp R.pw⟩
theorem Red.nil : Red [] := ⟨fun _ h => (by cases h), List.Pairwise.nil⟩
theorem Red.bit {T : List Nat} (R : Red T) {a b : Nat} (ha : a ∈ T) (hb : b ∈ T) (ne : a ≠ b) : b.testBit a.log2 = false := by
  have this : ∀ {x y : Nat}, List.Sublist [x, y] T → y.testBit x.log2 = false ∧ x.testBit y.log2 = false := List.pairwise_iff_forall_sublist.mp R.pw
  rcases Classical.em (List.Sublist [a, b] T) with s | s
  · exact (this s).1
  · have q : List.Sublist [b, a] T := by
      clear this
      have nd := R.ec.nodup
      clear R
      induction T with
      | nil => cases ha
      | cons c T ih =>
        rcases List.mem_cons.mp ha with e1 | ha'
        · rcases List.mem_cons.mp hb with e2 | hb'
          · exact absurd (e1.trans e2.symm) ne
          · rw [e1] at s
            exact absurd (List.Sublist.cons₂ _ (List.singleton_sublist.mpr hb')) s
        · rcases List.mem_cons.mp hb with e2 | hb'
          · rw [e2]
            exact List.Sublist.cons₂ _ (List.singleton_sublist.mpr ha')
          · exact List.Sublist.cons _ (ih ha' hb' (fun z => s (List.Sublist.cons _ z)) (List.nodup_cons.mp nd).2)
    exact (this q).2
/-- a new row put to it -/
theorem lw_log {r v : Nat} (hr : r ≠ 0) (h : v.testBit r.log2 = false) : (lw r v).log2 = r.log2 ∧ lw r v ≠ 0 := by
  have b : (lw r v).testBit r.log2 = true := by rw [lw_bit h, bit_top hr]
  refine ⟨log_of_bits b fun j hj => ?_, fun z => ?_⟩
  · unfold lw
    split
    · rename_i hb
      rcases Nat.lt_or_ge r.log2 v.log2 with a | a
      · rw [bit_above a] at hb
        cases hb
      · rw [Nat.testBit_xor, bit_above hj, bit_above (by omega)]
        rfl
    · exact bit_above hj
  · rw [z, Nat.zero_testBit] at b
    cases b
theorem Red.add {T : List Nat} {v : Nat} (R : Red T) (v0 : v ≠ 0) (h : ∀ r ∈ T, v.testBit r.log2 = false) : Red (T.map (lw · v) ++ [v]) := by
  refine ⟨fun r hr => ?_, List.pairwise_append.mpr ⟨List.pairwise_map.mpr (R.pw.imp_of_mem fun {a b} ha hb k => ?_), List.pairwise_singleton _ _, fun a ha b hb => ?_⟩⟩
  · rcases List.mem_append.mp hr with q | q
    · obtain ⟨a, ha, rfl⟩ := List.mem_map.mp q
      exact (lw_log (R.nz a ha) (h a ha)).2
    · rw [List.mem_singleton.mp q]
      exact v0
  · rw [(lw_log (R.nz a ha) (h a ha)).1, (lw_log (R.nz b hb) (h b hb)).1, lw_bit (h a ha), lw_bit (h b hb)]
    exact k
  · obtain ⟨c, hc, rfl⟩ := List.mem_map.mp ha
    rw [List.mem_singleton.mp hb, (lw_log (R.nz c hc) (h c hc)).1]
    exact ⟨h c hc, lw_clear v0⟩
theorem spn_add {T ns : List Nat} {g : Nat} (hT : ∀ x, Spn T x ↔ Spn ns x) (v0 : rst T g ≠ 0) (x : Nat) : Spn (T.map (lw · (rst T g)) ++ [rst T g]) x ↔ Spn (ns ++ [g]) x := by
  have left : ∀ a, Spn T a → Spn (ns ++ [g]) a := fun a ha => spn_le (fun b hb => spn_mem (List.mem_append_left _ hb)) ((hT a).mp ha)
  have hv : Spn (ns ++ [g]) (rst T g) := by
    have h1 := left _ (rst_spn (T := T) g)
    have h2 := (spn_sub _).2 _ _ (spn_mem (T := ns ++ [g]) (List.mem_append_right _ (List.mem_singleton_self g))) h1
    rwa [← Nat.xor_assoc, Nat.xor_self, Nat.zero_xor] at h2
  have vm : Spn (T.map (lw · (rst T g)) ++ [rst T g]) (rst T g) := spn_mem (List.mem_append_right _ (List.mem_singleton_self _))
  have old : ∀ r ∈ T, Spn (T.map (lw · (rst T g)) ++ [rst T g]) r := fun r hr => by
    have h1 : Spn (T.map (lw · (rst T g)) ++ [rst T g]) (lw r (rst T g)) := spn_mem (List.mem_append_left _ (List.mem_map.mpr ⟨r, hr, rfl⟩))
    unfold lw at h1
    split at h1
    · have := (spn_sub _).2 _ _ h1 vm
      unfold lw at this
      rwa [Nat.xor_assoc, Nat.xor_self, Nat.xor_zero] at this
    · unfold lw
      exact h1
  refine spn_iff_of (fun a ha => ?_) (fun a ha => ?_) x
  · rcases List.mem_append.mp ha with q | q
    · obtain ⟨r, hr, rfl⟩ := List.mem_map.mp q
      have hr' := left r (spn_mem hr)
      show Spn _ (lw r (rst T g))
      unfold lw
      split
      · exact (spn_sub _).2 _ _ hr' hv
      · exact hr'
    · rw [List.mem_singleton.mp q]
      exact hv
  · rcases List.mem_append.mp ha with q | q
    · exact spn_le old ((hT a).mpr (spn_mem q))
    · rw [List.mem_singleton.mp q]
      have h1 := spn_le old (rst_spn (T := T) g)
      have := (spn_sub _).2 _ _ h1 vm
      rwa [Nat.xor_assoc, Nat.xor_self, Nat.xor_zero] at this
theorem spn_skip {T ns : List Nat} {g : Nat} (E : Ec T) (hT : ∀ x, Spn T x ↔ Spn ns x) (v0 : rst T g = 0) (x : Nat) : Spn T x ↔ Spn (ns ++ [g]) x := by
  refine spn_iff_of (fun a ha => spn_le (fun b hb => spn_mem (List.mem_append_left _ hb)) ((hT a).mp (spn_mem ha))) (fun a ha => ?_) x
  rcases List.mem_append.mp ha with q | q
  · exact (hT a).mpr (spn_mem q)
  · rw [List.mem_singleton.mp q]
    exact (spn_rst E g).mpr v0
theorem spn_perm {T U : List Nat} (p : T.Perm U) (x : Nat) : Spn T x ↔ Spn U x := spn_iff_of (fun a ha => spn_mem (p.mem_iff.mp ha)) (fun a ha => spn_mem (p.mem_iff.mpr ha)) x
theorem lw_lt {n r k : Nat} (hn : n < 2 ^ k) (hr : r < 2 ^ k) : lw n r < 2 ^ k := by
  unfold lw
  split
  · exact Nat.xor_lt_two_pow hn hr
  · exact hn
theorem rst_lt : ∀ {T : List Nat} {n k : Nat}, n < 2 ^ k → (∀ r ∈ T, r < 2 ^ k) → rst T n < 2 ^ k
  | [], _, _, h, _ => h
  | r :: T, n, k, h, hT => rst_lt (T := T) (lw_lt h (hT r List.mem_cons_self)) fun q hq => hT q (List.mem_cons_of_mem _ hq)
end KQ

namespace KQ
open PySem PySem.Spec PyProof.Rows L2
/-! ### rows -/
def rowOf (W m : Nat) : List Nat := (List.range W).map fun k => (m.testBit (W - 1 - k)).toNat
theorem rowOf_len (W m : Nat) : (rowOf W m).length = W := by
  unfold rowOf
  rw [List.length_map, List.length_range]
theorem rowOf_at {W m k : Nat} (h : k < W) : (rowOf W m)[k]? = some (m.testBit (W - 1 - k)).toNat := by
  unfold rowOf
  rw [List.getElem?_map, List.getElem?_range h]
  rfl
theorem rowOf_succ (W m : Nat) : rowOf (W + 1) m = (m.testBit W).toNat :: rowOf W m := by
  unfold rowOf
  rw [List.range_succ_eq_map, List.map_cons, List.map_map]
  congr 1
  refine List.map_congr_left fun k _ => ?_
  show (m.testBit (W + 1 - 1 - (k + 1))).toNat = _
  rw [show W + 1 - 1 - (k + 1) = W - 1 - k by omega]
theorem rowOf_bit {W m b : Nat} (h : b ∈ rowOf W m) : b < 2 := by
  unfold rowOf at h
  obtain ⟨k, _, rfl⟩ := List.mem_map.mp h
  exact Bool.toNat_lt _
/-- the number of bits, the first one the highest -/
def nb (t : Nat) (bs : List Nat) : Nat := bs.foldl (fun t b => 2 * t + b) t
theorem nb_eq : ∀ (bs : List Nat) (t : Nat), nb t bs = t * 2 ^ bs.length + nb 0 bs
  | [], t => by
    show t = t * 1 + 0
    omega
  | b :: bs, t => by
    show nb (2 * t + b) bs = _ + nb (2 * 0 + b) bs
    rw [nb_eq bs, nb_eq bs (2 * 0 + b), List.length_cons, Nat.pow_succ, Nat.mul_zero, Nat.zero_add, Nat.add_mul]
    rw [show 2 * t * 2 ^ bs.length = t * (2 ^ bs.length * 2) by rw [Nat.mul_comm 2 t, Nat.mul_assoc, Nat.mul_comm 2]]
    omega
theorem nb_row : ∀ (W m : Nat), nb 0 (rowOf W m) = m % 2 ^ W
  | 0, m => by
    rw [Nat.pow_zero, Nat.mod_one]
    rfl
  | W + 1, m => by
    rw [rowOf_succ]
    show nb (2 * 0 + _) (rowOf W m) = _
    rw [nb_eq, nb_row W m, rowOf_len, Nat.mul_zero, Nat.zero_add, Nat.testBit_eq_decide_div_mod_eq, Nat.pow_succ, Nat.mod_mul]
    have : m / 2 ^ W % 2 < 2 := Nat.mod_lt _ (by decide)
    by_cases e : m / 2 ^ W % 2 = 1
    · rw [decide_eq_true e, e]
      show 1 * _ + _ = _
      omega
    · rw [decide_eq_false e, show m / 2 ^ W % 2 = 0 by omega]
      show 0 * _ + _ = _
      omega
theorem nb_lt : ∀ (bs : List Nat), (∀ b ∈ bs, b < 2) → nb 0 bs < 2 ^ bs.length
  | [], _ => by
    show 0 < 1
    decide
  | b :: bs, h => by
    show nb (2 * 0 + b) bs < _
    have h1 := nb_lt bs fun c hc => h c (List.mem_cons_of_mem _ hc)
    have h2 := h b List.mem_cons_self
    rw [nb_eq, Nat.mul_zero, Nat.zero_add, List.length_cons, Nat.pow_succ]
    have : b = 0 ∨ b = 1 := by omega
    rcases this with rfl | rfl <;> omega
theorem rowOf_mod (W m : Nat) : rowOf W (m % 2 ^ W) = rowOf W m := by
  unfold rowOf
  refine List.map_congr_left fun k hk => ?_
  have := List.mem_range.mp hk
  rw [Nat.testBit_mod_two_pow, decide_eq_true (by omega : W - 1 - k < W), Bool.true_and]
theorem row_nb : ∀ (bs : List Nat), (∀ b ∈ bs, b < 2) → rowOf bs.length (nb 0 bs) = bs
  | [], _ => rfl
  | b :: bs, h => by
    have hb := h b List.mem_cons_self
    have ht := fun c hc => h c (List.mem_cons_of_mem b hc)
    have lt := nb_lt bs ht
    have e : nb 0 (b :: bs) = b * 2 ^ bs.length + nb 0 bs := by
      show nb (2 * 0 + b) bs = _
      rw [nb_eq, Nat.mul_zero, Nat.zero_add]
    rw [List.length_cons, rowOf_succ, e]
    have e2 : rowOf bs.length (b * 2 ^ bs.length + nb 0 bs) = bs := by
      rw [← rowOf_mod, Nat.add_comm, Nat.add_mul_mod_self_right, Nat.mod_eq_of_lt lt]
      exact row_nb bs ht
    rw [e2, Nat.testBit_eq_decide_div_mod_eq, Nat.add_comm, Nat.add_mul_div_right _ _ (Nat.two_pow_pos _), Nat.div_eq_of_lt lt, Nat.zero_add]
    have : b = 0 ∨ b = 1 := by omega
    rcases this with rfl | rfl <;> rfl
theorem row_zero (W : Nat) : rowOf W 0 = List.replicate W 0 := by
  unfold rowOf
  refine List.ext_getElem (by simp) fun k h1 h2 => ?_
  simp
theorem bit_xor (a b : Bool) : a.toNat ^^^ b.toNat = (a ^^ b).toNat := by cases a <;> cases b <;> rfl
/-! ### sums over lists -/
def XS {α : Type} (l : List α) (f : α → Nat) : Nat := l.foldr (fun k t => f k ^^^ t) 0
theorem xs_lin {α : Type} (l : List α) (f g : α → Nat) : XS l (fun k => f k ^^^ g k) = XS l f ^^^ XS l g := by
  induction l with
  | nil => exact (Nat.xor_self 0).symm
  | cons a l ih =>
    show f a ^^^ g a ^^^ XS l _ = f a ^^^ XS l f ^^^ (g a ^^^ XS l g)
    rw [ih, Nat.xor_assoc, Nat.xor_assoc, ← Nat.xor_assoc (g a), Nat.xor_comm (g a), Nat.xor_assoc (XS l f)]
theorem xs_congr {α : Type} {l : List α} {f g : α → Nat} (h : ∀ a ∈ l, f a = g a) : XS l f = XS l g := by
  induction l with
  | nil => rfl
  | cons a l ih =>
    show f a ^^^ XS l f = g a ^^^ XS l g
    rw [h a List.mem_cons_self, ih fun b hb => h b (List.mem_cons_of_mem _ hb)]
theorem xs_zero {α : Type} (l : List α) : XS l (fun _ => 0) = 0 := by
  induction l with
  | nil => rfl
  | cons a l ih =>
    show 0 ^^^ XS l _ = 0
    rw [ih]
    rfl
theorem xs_filter {α : Type} (l : List α) (p : α → Bool) (f : α → Nat) : XS (l.filter p) f = XS l (fun k => if p k then f k else 0) := by
  induction l with
  | nil => rfl
  | cons a l ih =>
    rcases Bool.eq_false_or_eq_true (p a) with e | e
    · rw [List.filter_cons_of_pos e]
      show f a ^^^ XS (l.filter p) f = (if p a then f a else 0) ^^^ XS l (fun k => if p k then f k else 0)
      rw [ih, if_pos e]
    · rw [List.filter_cons_of_neg (by rw [e]; decide)]
      show XS (l.filter p) f = (if p a then f a else 0) ^^^ XS l (fun k => if p k then f k else 0)
      rw [ih, if_neg (by rw [e]; decide), Nat.zero_xor]
theorem xs_foldl {α : Type} (l : List α) (f : α → Nat) : ∀ t, l.foldl (fun t k => t ^^^ f k) t = t ^^^ XS l f := by
  induction l with
  | nil => intro t; exact (Nat.xor_zero t).symm
  | cons a l ih =>
    intro t
    show List.foldl _ (t ^^^ f a) l = t ^^^ (f a ^^^ XS l f)
    rw [ih, Nat.xor_assoc]
theorem xs_one {α : Type} [DecidableEq α] (f : α → Nat) (i : α) : ∀ {l : List α}, l.Nodup → i ∈ l → XS l (fun k => if k = i then f k else 0) = f i
  | a :: l, hn, hi => by
    show (if a = i then f a else 0) ^^^ XS l _ = f i
    have n2 := List.nodup_cons.mp hn
    by_cases e : a = i
    · subst e
      rw [if_pos rfl, xs_congr (g := fun _ => 0) (fun b hb => if_neg (fun z => n2.1 (by rw [← z]; exact hb))), xs_zero, Nat.xor_zero]
    · rw [if_neg e, xs_one f i n2.2 ((List.mem_cons.mp hi).resolve_left (Ne.symm e)), Nat.zero_xor]
theorem xs_spn {α : Type} {T : List Nat} {l : List α} {f : α → Nat} (h : ∀ a ∈ l, Spn T (f a)) : Spn T (XS l f) := by
  induction l with
  | nil => exact (spn_sub T).1
  | cons a l ih => exact (spn_sub T).2 _ _ (h a List.mem_cons_self) (ih fun b hb => h b (List.mem_cons_of_mem _ hb))
/-! ### the sum of the numbers that marks tell -/
def sx (ns : List Nat) (m : Nat) : Nat := XS (List.range ns.length) fun k => if m.testBit k then ns.getD k 0 else 0
theorem sx_lin (ns : List Nat) (a b : Nat) : sx ns (a ^^^ b) = sx ns a ^^^ sx ns b := by
  unfold sx
  rw [← xs_lin]
  refine xs_congr fun k _ => ?_
  rw [Nat.testBit_xor]
  cases a.testBit k <;> cases b.testBit k <;> simp
theorem sx_zero (ns : List Nat) : sx ns 0 = 0 := by
  unfold sx
  rw [xs_congr (g := fun _ => 0) (fun k _ => by rw [Nat.zero_testBit]; rfl), xs_zero]
theorem sx_pow {ns : List Nat} {i : Nat} (h : i < ns.length) : sx ns (2 ^ i) = ns.getD i 0 := by
  unfold sx
  rw [xs_congr (g := fun k => if k = i then ns.getD k 0 else 0) (fun k _ => ?_), xs_one _ i List.nodup_range (List.mem_range.mpr h)]
  rw [Nat.testBit_two_pow]
  by_cases e : k = i
  · rw [e, decide_eq_true rfl, if_pos rfl, if_pos rfl]
  · rw [decide_eq_false (Ne.symm e), if_neg e]
    rfl
theorem sx_spn (ns : List Nat) (m : Nat) : Spn ns (sx ns m) := by
  refine xs_spn fun k hk => ?_
  split
  · have := List.mem_range.mp hk
    rw [List.getD_eq_getElem?_getD, List.getElem?_eq_getElem this]
    exact spn_mem (List.getElem_mem _)
  · exact (spn_sub ns).1
theorem sx_told (ns : List Nat) (m : Nat) : ((List.range ns.length).filter (m.testBit ·)).foldl (fun t k => t ^^^ ns.getD k 0) 0 = sx ns m := by
  rw [xs_foldl, Nat.zero_xor, xs_filter]
  rfl
theorem spn_snoc_skip {ns : List Nat} {g x : Nat} (h : Spn ns x) : Spn (ns ++ [g]) x := spn_le (fun b hb => spn_mem (List.mem_append_left _ hb)) h
/-- marks of a shorter list -/
theorem sx_more {ns : List Nat} {m g : Nat} (h : m < 2 ^ ns.length) : sx (ns ++ [g]) m = sx ns m := by
  unfold sx XS
  rw [List.length_append, List.length_singleton, List.range_succ, List.foldr_append]
  show List.foldr _ ((if m.testBit ns.length then _ else 0) ^^^ 0) _ = _
  rw [Nat.testBit_lt_two_pow h, if_neg (by decide), Nat.xor_zero]
  refine xs_congr (l := List.range ns.length) fun k hk => ?_
  have := List.mem_range.mp hk
  rw [List.getD_eq_getElem?_getD, List.getD_eq_getElem?_getD, List.getElem?_append_left this]
/-! ### how often two rows meet -/
def par (W x y : Nat) : Nat := ((List.range W).map fun k => (x.testBit (W - 1 - k)).toNat * (y.testBit (W - 1 - k)).toNat).sum % 2
theorem sum_lin : ∀ (l : List Nat) (f g h : Nat → Nat), (∀ k, h k % 2 = (f k + g k) % 2) → (l.map h).sum % 2 = ((l.map f).sum % 2 + (l.map g).sum % 2) % 2
  | [], _, _, _, _ => rfl
  | a :: l, f, g, h, e => by
    rw [List.map_cons, List.map_cons, List.map_cons, List.sum_cons, List.sum_cons, List.sum_cons]
    have h1 := sum_lin l f g h e
    have h2 := e a
    omega
theorem par_linr (W x y z : Nat) : par W x (y ^^^ z) = (par W x y + par W x z) % 2 := by
  unfold par
  refine sum_lin _ _ _ _ fun k => ?_
  rw [Nat.testBit_xor]
  cases x.testBit (W - 1 - k) <;> cases y.testBit (W - 1 - k) <;> cases z.testBit (W - 1 - k) <;> rfl
theorem par_comm (W x y : Nat) : par W x y = par W y x := by
  unfold par
  congr 2
  refine List.map_congr_left fun k _ => ?_
  rw [Nat.mul_comm]
theorem par_sub (W x : Nat) : Sub fun y => par W x y = 0 := by
  refine ⟨?_, fun y z a b => ?_⟩
  · show par W x 0 = 0
    unfold par
    rw [List.map_congr_left (g := fun _ => 0) (fun k _ => by rw [Nat.zero_testBit]; rfl)]
    have : ∀ l : List Nat, (l.map fun _ => 0).sum = 0 := fun l => by
      induction l with
      | nil => rfl
      | cons a l ih => rw [List.map_cons, List.sum_cons, ih]
    rw [this]
  · show par W x (y ^^^ z) = 0
    rw [par_linr, show par W x y = 0 from a, show par W x z = 0 from b]
/-- all of one span meet all of another an even number of times, if their makers do -/
theorem par_spn {W : Nat} {T U : List Nat} (h : ∀ a ∈ T, ∀ b ∈ U, par W a b = 0) {x y : Nat} (hx : Spn T x) (hy : Spn U y) : par W x y = 0 := by
  have h1 : ∀ b ∈ U, par W x b = 0 := fun b hb => by
    rw [par_comm]
    exact hx _ (par_sub W b) fun a ha => by
      show par W b a = 0
      rw [par_comm]
      exact h a ha b hb
  exact hy _ (par_sub W x) h1
end KQ

namespace KQ
open PySem PySem.Spec PyProof.Rows L2
/-! ### the rows that meet all of a table -/
def kstep (p : Nat) (n r : Nat) : Nat := if r.testBit p then n ||| 2 ^ r.log2 else n
def kn (T : List Nat) (p : Nat) : Nat := T.foldl (kstep p) (2 ^ p)
theorem kfold_bit (p j : Nat) : ∀ (T : List Nat) (n : Nat), (T.foldl (kstep p) n).testBit j = (n.testBit j || T.any fun r => r.testBit p && decide (r.log2 = j))
  | [], n => (Bool.or_false _).symm
  | r :: T, n => by
    show (T.foldl (kstep p) (kstep p n r)).testBit j = _
    rw [kfold_bit p j T, List.any_cons, ← Bool.or_assoc]
    congr 1
    unfold kstep
    split
    · rename_i h
      rw [Nat.testBit_or, Nat.testBit_two_pow, h, Bool.true_and]
    · rename_i h
      rw [Bool.eq_false_iff.mpr h, Bool.false_and, Bool.or_false]
theorem kn_bit (T : List Nat) (p j : Nat) : (kn T p).testBit j = (decide (p = j) || T.any fun r => r.testBit p && decide (r.log2 = j)) := by
  unfold kn
  rw [kfold_bit, Nat.testBit_two_pow]
theorem log_lt {r W : Nat} (h0 : r ≠ 0) (h : r < 2 ^ W) : r.log2 < W := (Nat.log2_lt h0).mpr h
theorem kfold_lt {p W : Nat} : ∀ {T : List Nat} {n : Nat}, n < 2 ^ W → (∀ r ∈ T, r ≠ 0 ∧ r < 2 ^ W) → T.foldl (kstep p) n < 2 ^ W
  | [], _, h, _ => h
  | r :: T, n, h, hT => by
    refine kfold_lt (T := T) (n := kstep p n r) ?_ fun q hq => hT q (List.mem_cons_of_mem _ hq)
    unfold kstep
    split
    · obtain ⟨h0, h1⟩ := hT r List.mem_cons_self
      exact Nat.or_lt_two_pow h (Nat.pow_lt_pow_right (by decide) (log_lt h0 h1))
    · exact h
theorem kn_lt {T : List Nat} {p W : Nat} (h : p < W) (hT : ∀ r ∈ T, r ≠ 0 ∧ r < 2 ^ W) : kn T p < 2 ^ W := kfold_lt (Nat.pow_lt_pow_right (by decide) h) hT
theorem sum_ind {i : Nat} : ∀ {l : List Nat}, l.Nodup → i ∈ l → (l.map fun k => (decide (k = i)).toNat).sum = 1
  | a :: l, hn, hi => by
    rw [List.map_cons, List.sum_cons]
    have n2 := List.nodup_cons.mp hn
    by_cases e : a = i
    · subst e
      have z : ∀ m : List Nat, a ∉ m → (m.map fun k => (decide (k = a)).toNat).sum = 0 := by
        intro m
        induction m with
        | nil => intro _; rfl
        | cons b m ih =>
          intro h
          rw [List.map_cons, List.sum_cons, ih fun q => h (List.mem_cons_of_mem _ q), decide_eq_false (fun q => h (by rw [q]; exact List.mem_cons_self))]
          rfl
      rw [z l n2.1, decide_eq_true rfl]
      rfl
    · rw [sum_ind n2.2 ((List.mem_cons.mp hi).resolve_left (Ne.symm e)), decide_eq_false e]
      rfl
theorem sum_add (f g : Nat → Nat) : ∀ l : List Nat, (l.map fun k => f k + g k).sum = (l.map f).sum + (l.map g).sum
  | [] => rfl
  | a :: l => by
    rw [List.map_cons, List.map_cons, List.map_cons, List.sum_cons, List.sum_cons, List.sum_cons, sum_add f g l]
    omega
theorem sum_zero (l : List Nat) : (l.map fun _ => 0).sum = 0 := by
  induction l with
  | nil => rfl
  | cons a l ih => rw [List.map_cons, List.sum_cons, ih]
theorem sum_place {W q : Nat} (h : q < W) : ((List.range W).map fun k => (decide (W - 1 - k = q)).toNat).sum = 1 := by
  rw [List.map_congr_left (g := fun k => (decide (k = W - 1 - q)).toNat) fun k hk => ?_, sum_ind List.nodup_range (List.mem_range.mpr (by omega))]
  have := List.mem_range.mp hk
  congr 1
  exact decide_eq_decide.mpr (by omega)
theorem par_kn {T : List Nat} {W p r : Nat} (R : Red T) (hp : p < W) (hT : ∀ q ∈ T, q.log2 ≠ p) (hr : r ∈ T) (hr2 : r < 2 ^ W) : par W (kn T p) r = 0 := by
  have hl := log_lt (R.nz r hr) hr2
  have key : ∀ j, ((kn T p).testBit j).toNat * (r.testBit j).toNat = if r.testBit p then (decide (j = p)).toNat + (decide (j = r.log2)).toNat else 0 := by
    intro j
    rw [kn_bit]
    by_cases e : p = j
    · subst e
      rw [decide_eq_true (rfl : p = p), Bool.true_or, decide_eq_false (Ne.symm (hT r hr))]
      cases r.testBit p <;> rfl
    · rw [decide_eq_false e, decide_eq_false (Ne.symm e), Bool.false_or]
      by_cases e2 : j = r.log2
      · rw [decide_eq_true e2, e2, bit_top (R.nz r hr)]
        have : (T.any fun q => q.testBit p && decide (q.log2 = r.log2)) = r.testBit p := by
          rcases Bool.eq_false_or_eq_true (r.testBit p) with b | b
          · rw [b]
            exact List.any_eq_true.mpr ⟨r, hr, by rw [b, decide_eq_true rfl]; rfl⟩
          · rw [b]
            refine Bool.eq_false_iff.mpr fun z => ?_
            obtain ⟨q, hq, z⟩ := List.any_eq_true.mp z
            have z1 := (Bool.and_eq_true _ _ ▸ z).1
            have z2 := of_decide_eq_true (Bool.and_eq_true _ _ ▸ z).2
            by_cases eq : q = r
            · rw [eq, b] at z1
              cases z1
            · have := R.bit hq hr eq
              rw [z2, bit_top (R.nz r hr)] at this
              cases this
        rw [this]
        cases r.testBit p <;> rfl
      · rw [decide_eq_false e2]
        rcases Bool.eq_false_or_eq_true (r.testBit j) with b | b
        · have : (T.any fun q => q.testBit p && decide (q.log2 = j)) = false := by
            refine Bool.eq_false_iff.mpr fun z => ?_
            obtain ⟨q, hq, z⟩ := List.any_eq_true.mp z
            have z2 := of_decide_eq_true (Bool.and_eq_true _ _ ▸ z).2
            by_cases eq : q = r
            · exact e2 (by rw [← z2, eq])
            · have := R.bit hq hr eq
              rw [z2, b] at this
              cases this
          rw [this]
          cases r.testBit p <;> simp
        · rw [b]
          cases r.testBit p <;> simp
  unfold par
  rw [List.map_congr_left fun k _ => key (W - 1 - k)]
  rcases Bool.eq_false_or_eq_true (r.testBit p) with b | b
  · rw [List.map_congr_left (g := fun k => (decide (W - 1 - k = p)).toNat + (decide (W - 1 - k = r.log2)).toNat) (fun k _ => if_pos b), sum_add, sum_place hp, sum_place hl]
  · rw [List.map_congr_left (g := fun k => 0) (fun k _ => if_neg (by rw [b]; decide)), sum_zero]
/-! ### lists of which none is made by those before -/
def Indep (ns : List Nat) : Prop := ∀ i x, ns[i]? = some x → ¬ Spn (ns.take i) x
def free (T : List Nat) (W : Nat) : List Nat := (List.range W).filter fun p => !(T.map Nat.log2).contains p
theorem free_mem {T : List Nat} {W p : Nat} (h : p ∈ free T W) : p < W ∧ ∀ q ∈ T, q.log2 ≠ p := by
  obtain ⟨h1, h2⟩ := List.mem_filter.mp h
  refine ⟨List.mem_range.mp h1, fun q hq e => ?_⟩
  have : (T.map Nat.log2).contains p = true := List.contains_iff_mem.mpr (List.mem_map.mpr ⟨q, hq, e⟩)
  rw [this] at h2
  cases h2
theorem kn_indep (T : List Nat) (W : Nat) : Indep ((free T W).map (kn T)) := by
  intro i x hx hs
  rw [List.getElem?_map] at hx
  obtain ⟨p, hp, rfl⟩ := Option.map_eq_some_iff.mp hx
  have hpm := free_mem (List.mem_of_getElem? hp)
  have own : (kn T p).testBit p = true := by
    rw [kn_bit, decide_eq_true rfl]
    rfl
  have : (kn T p).testBit p = false := hs (fun x => x.testBit p = false) ⟨Nat.zero_testBit p, fun x y a b => by show (x ^^^ y).testBit p = false; rw [Nat.testBit_xor, show x.testBit p = false from a, show y.testBit p = false from b]; rfl⟩ fun a ha => by
    rw [← List.map_take] at ha
    obtain ⟨q, hq, rfl⟩ := List.mem_map.mp ha
    show (kn T q).testBit p = false
    rw [kn_bit]
    have ne : q ≠ p := by
      intro e
      subst e
      obtain ⟨j, hj, e⟩ := List.getElem_of_mem hq
      rw [List.length_take] at hj
      rw [List.getElem_take] at e
      have nd : (free T W).Nodup := List.Pairwise.filter _ List.nodup_range
      obtain ⟨hi, e2⟩ := List.getElem?_eq_some_iff.mp hp
      exact absurd (e.trans e2.symm) (List.pairwise_iff_getElem.mp nd j i (by omega) hi (by omega))
    rw [decide_eq_false ne, Bool.false_or]
    refine Bool.eq_false_iff.mpr fun z => ?_
    obtain ⟨r, hr, z⟩ := List.any_eq_true.mp z
    exact hpm.2 r hr (of_decide_eq_true (Bool.and_eq_true _ _ ▸ z).2)
  rw [own] at this
  cases this
theorem filter_two (p : Nat → Bool) : ∀ l : List Nat, (l.filter p).length + (l.filter fun a => !p a).length = l.length
  | [] => rfl
  | a :: l => by
    have ih := filter_two p l
    rcases Bool.eq_false_or_eq_true (p a) with e | e
    · rw [List.filter_cons_of_pos e, List.filter_cons_of_neg (by rw [e]; decide), List.length_cons, List.length_cons]
      omega
    · rw [List.filter_cons_of_neg (by rw [e]; decide), List.filter_cons_of_pos (by rw [e]; decide), List.length_cons, List.length_cons]
      omega
theorem free_len {T : List Nat} {W : Nat} (E : Ec T) (hT : ∀ r ∈ T, r < 2 ^ W) : (free T W).length + T.length = W := by
  have h := filter_two (fun p => (T.map Nat.log2).contains p) (List.range W)
  rw [List.length_range] at h
  have e : ((List.range W).filter fun p => (T.map Nat.log2).contains p).length = T.length := by
    rw [← List.length_map (f := Nat.log2) (as := T)]
    refine Nat.le_antisymm (nodup_le (List.Pairwise.filter _ List.nodup_range) fun a ha => List.contains_iff_mem.mp (List.mem_filter.mp ha).2) (nodup_le E.tops fun a ha => ?_)
    refine List.mem_filter.mpr ⟨?_, List.contains_iff_mem.mpr ha⟩
    obtain ⟨r, hr, rfl⟩ := List.mem_map.mp ha
    exact List.mem_range.mpr (log_lt (E.nz r hr) (hT r hr))
  unfold free
  omega
/-! ### a reduced table as rows -/
structure Tab (W : Nat) (ms : List Nat) : Prop where
  red : Red ms
  lt : ∀ m ∈ ms, m < 2 ^ W
  desc : ms.Pairwise (· > ·)
theorem Tab.piv {W : Nat} {ms : List Nat} (t : Tab W ms) : (ms.map fun m => W - 1 - m.log2).Pairwise (· < ·) := by
  refine List.pairwise_map.mpr (List.Pairwise.imp_of_mem (fun {a b} ha hb h => ?_) t.desc)
  have la := log_lt (t.red.nz a ha) (t.lt a ha)
  have lb := log_lt (t.red.nz b hb) (t.lt b hb)
  have h1 : b.log2 ≤ a.log2 := by
    rcases Nat.lt_or_ge a.log2 b.log2 with z | z
    · have q1 := (log_of (t.red.nz a ha)).2
      have q2 := (log_of (t.red.nz b hb)).1
      have : 2 ^ (a.log2 + 1) ≤ 2 ^ b.log2 := Nat.pow_le_pow_right (by decide) z
      omega
    · exact z
  have h2 : b.log2 ≠ a.log2 := fun e => by
    have := t.red.bit ha hb (fun z => by omega)
    rw [← e, bit_top (t.red.nz b hb)] at this
    cases this
  omega
theorem Tab.col {W : Nat} {ms : List Nat} (t : Tab W ms) {m : Nat} (hm : m ∈ ms) : (ms.map fun r => (r.testBit m.log2).toNat).sum = 1 := by
  rw [List.map_congr_left (g := fun r => (decide (r = m)).toNat) fun r hr => ?_]
  · exact sum_ind t.red.ec.nodup hm
  · congr 1
    by_cases e : r = m
    · rw [e, bit_top (t.red.nz m hm), decide_eq_true rfl]
    · rw [t.red.bit hm hr (Ne.symm e), decide_eq_false e]
theorem row_first {W m : Nat} (h0 : m ≠ 0) (h : m < 2 ^ W) : (rowOf W m)[W - 1 - m.log2]? = some 1 ∧ ∀ k, k < W - 1 - m.log2 → (rowOf W m)[k]? ≠ some 1 := by
  have hl := log_lt h0 h
  refine ⟨?_, fun k hk => ?_⟩
  · rw [rowOf_at (by omega), show W - 1 - (W - 1 - m.log2) = m.log2 by omega, bit_top h0]
    rfl
  · rw [rowOf_at (by omega), bit_above (by omega)]
    decide
end KQ

namespace KQ
open PySem PySem.Spec PyProof.Rows L2
/-! ### set(xs), xs a list of whole numbers: what sorted asks of the set is told -/
section
variable {P : Program} {w : World} {A : Around} {E : Value → Shared → Prop} {s : Shared}
/-- what set(..) lays first -/
abbrev set0 (w : World) : Obj := { cls := .type "set", dict := none, data := .set #[] 0 (.fresh 0 0 (!w.params.followText "set-order")) }
/-- the items of a list put into a new set -/
theorem upd_set_lstI {l : Addr} {items : Array Value} {ns : List Int} {R : Result → Shared → Prop} (hh : A.handled = none) (hl : s.heap.IsList l items) (hit : IntsAre items.toList ns) (hb : ns.length + 1 < scanBound)
    (h : ∀ (h' : Heap) (tk c : Nat), SetR w h' s.heap.objs.size (fun j => decide (j ∈ ns)) c → c ≤ ns.length → (∀ b o, s.heap.get? b = some o → h'.get? b = some o) → R (.ok (.ret .none)) { s with heap := h', toks := tk }) :
    codeAny (model P w) A (.builtin "set.update.loop" ⟨[.ref s.heap.objs.size, .ref (s.heap.objs.size + 1)], []⟩) R
      { s with heap := (s.heap.push (set0 w)).push { cls := .type "list_iterator", data := .fields #[.ref l, .int 0 0] } } := by
  have hsz : items.size = ns.length := by
    have q := IntsAre.length hit
    rwa [Array.length_toList] at q
  have lt : l < s.heap.objs.size := by
    obtain ⟨o, e, _⟩ := hl
    exact Heap.lt_size e
  have hz : (s.heap.push (set0 w)).objs.size = s.heap.objs.size + 1 := Heap.size_push ..
  have W := (Walks.list (prog := P) (w := w) (A := A.in1) (by simpa using hh) (s.heap.objs.size + 1) l (Nat.ne_of_lt (Nat.lt_succ_of_lt lt)) items).toS
  have e0 : ((s.heap.push (set0 w)).push { cls := .type "list_iterator", data := .fields #[.ref l, .int 0 0] }).get? s.heap.objs.size = some (set0 w) := Heap.get?_push_of_some _ (Heap.get?_push_size _ rfl)
  have e1 : ((s.heap.push (set0 w)).push { cls := .type "list_iterator", data := .fields #[.ref l, .int 0 0] }).get? (s.heap.objs.size + 1) = some { cls := .type "list_iterator", data := .fields #[.ref l, .int 0 0] } := by rw [← hz]; exact Heap.get?_push_size _ rfl
  have nm : s.heap.objs.size ∉ [s.heap.objs.size + 1, l] := fun z => by
    rcases List.mem_cons.mp z with z | z
    · exact absurd z (Nat.ne_of_lt (Nat.lt_succ_self _))
    · exact absurd (List.mem_singleton.mp z) (Nat.ne_of_gt lt)
  refine set_update_ints W s.heap.objs.size nm ns hsz hb (fun i v hv => ?_) items.size 0 _ (by omega) (Nat.zero_le _)
    ⟨⟨_, e1, rfl, rfl⟩, (hl.push _).push _⟩ ⟨0, Nat.le_refl 0, setR_new_at e0⟩ fun s' c m hc hS => ?_
  · have hi : i < ns.length := by rw [← hsz]; exact (Array.getElem?_eq_some_iff.mp hv).1
    obtain ⟨t, e⟩ := IntsAre.int_at hit i v (by rw [Array.getElem?_toList]; exact hv)
    rw [List.getD_eq_getElem?_getD, List.getElem?_eq_getElem hi] at e
    exact ⟨ns[i], t, List.getElem?_eq_getElem hi, e⟩
  · obtain ⟨h', g', d', tk', os'⟩ := s'
    obtain rfl : g' = s.gens := m.gens
    obtain rfl : d' = s.drawn := m.drawn
    obtain rfl : os' = s.os := m.os
    refine h h' tk' c hS (by omega) fun b o e => ?_
    have := Heap.lt_size e
    refine m.heap b o (fun z => ?_) (Heap.get?_push_of_some _ (Heap.get?_push_of_some _ e))
    rcases List.mem_cons.mp z with z | z
    · exact absurd z (Nat.ne_of_lt this)
    · exact absurd (List.mem_singleton.mp z) (Nat.ne_of_lt (Nat.lt_succ_of_lt this))
theorem call_set_lstI {l : Addr} {items : Array Value} (ns : List Int) {Q : Value → Shared → Prop} (hh : A.handled = none) (hl : s.heap.IsList l items) (hit : IntsAre items.toList ns) (hb : ns.length + 1 < scanBound)
    (h : ∀ (h' : Heap) (tk c : Nat), SetR w h' s.heap.objs.size (fun j => decide (j ∈ ns)) c → c ≤ ns.length → (∀ b o, s.heap.get? b = some o → h'.get? b = some o) → Q (.ref s.heap.objs.size) { s with heap := h', toks := tk }) :
    wpAny (model P w) A (call (.type "set") [.ref l]) Q E s := by
  obtain ⟨c, tl, hmro⟩ := F.called_set.mro
  have made := F.called_set.made
  have self := F.called_set.sub
  have noType := F.called_set.notType
  have creates := F.called_set.canCreate
  have made1 := F.typeCall_set_1 (.ref l)
  refine wpAny_call (codeAny_of_tree ?_)
  show wpAny _ _ (callAny (.type "set") _) _ _ _
  refine wpAny_pure ⟨Code.quiet_builtin _ (by decide +kernel), codeAny_builtin F.entry_type_call ?_⟩
  rw [Around.under_plain (weight_type_call_type "set" [.ref l] []) rfl]
  repeat (any_goals (first | assumption | wp_step))
  refine codeAny_mono (code_set_led1 (.ref l) (E := E) (Q₁ := fun v t => v = .ref s.heap.objs.size ∧ t = { s with heap := s.heap.push (set0 w) }) ⟨rfl, rfl⟩) fun r t hr => ?_
  match r, hr with
  | .error _, hr => exact hr
  | .ok (.ret v), hr =>
    obtain ⟨rfl, rfl⟩ := hr
    have ty : Shared.TypeIs { s with heap := s.heap.push (set0 w) } (.ref s.heap.objs.size) "set" := ⟨_, Heap.get?_push_size _ rfl, rfl⟩
    have look := F.called_set.init.lookup
    have bind := F.called_set.init.bind (.ref s.heap.objs.size)
    repeat (any_goals (first | assumption | wp_step))
    refine codeAny_mono (codeAny_call_builtin (R := wants (fun v t => v = .none ∧ ∃ h' tk c, t = { s with heap := h', toks := tk } ∧ SetR w h' s.heap.objs.size (fun j => decide (j ∈ ns)) c ∧ c ≤ ns.length ∧ (∀ b o, s.heap.get? b = some o → h'.get? b = some o)) E)
      F.called_set.init.plain F.entry_set_init (check_set_init_1 ty ?_)) fun r2 t2 hr2 => ?_
    · obtain ⟨⟨ocls, odict, odata, osl⟩, hol, hcl, nl, hdl⟩ := id hl
      obtain rfl : ocls = .type "list" := hcl
      obtain rfl : odata = .seq items nl := hdl
      have hol' : (s.heap.push (set0 w)).get? l = some { cls := .type "list", dict := odict, data := .seq items nl, slots := osl } := Heap.get?_push_of_some _ hol
      have hl1 : (s.heap.push (set0 w)).IsList l items := ⟨_, hol', rfl, nl, rfl⟩
      have k1 := F.sub_list_set
      have k2 := F.sub_list_frozenset
      have k3 : (Value.type "list" == Value.type "dict") = false := by decide
      unfold Builtin.«set.__init__» noKeywords Builtin.Frozenset.updateFrom
      generalize hPI : pyIter = PI
      wp_walk
      subst hPI
      refine wpAny_pyIter_list hl1 ?_
      refine wpAny_bind (wpAny_runValue ?_)
      rw [show (s.heap.push (set0 w)).objs.size = s.heap.objs.size + 1 from Heap.size_push ..]
      refine upd_set_lstI (by simpa using hh) hl hit hb fun h' tk c hS hc k => ?_
      refine wpAny_pure ?_
      exact wpAny_pure ⟨rfl, h', tk, c, rfl, hS, hc, k⟩
    · match r2, hr2 with
      | .error _, hr2 => exact hr2
      | .ok (.ret v2), hr2 =>
        obtain ⟨rfl, h', tk, c', rfl, hS, hc, k⟩ := hr2
        repeat (any_goals (first | assumption | wp_step))
        exact h h' tk c' hS hc k
end
section
variable {X : Cx}
/-- set(xs), xs a list of whole numbers -/
def rSetI (K : PySem.W.Frag) (w : World) : List V → Hp → VK → Prop := fun vs H Q => ∃ (l : Addr) (ns : List Int), vs = [V.ref l] ∧ SqL K H l (ns.map V.int) ∧ ns.length < 64 ∧
  ∀ (p : Addr) (c : Nat), H p = none → c ≤ ns.length → Q (.ref p) (upd H p (SetO w p (fun j => decide (j ∈ ns)) c))
/-- .. a tuple of whole numbers -/
def rSetIT (K : PySem.W.Frag) (w : World) : List V → Hp → VK → Prop := fun vs H Q => ∃ (l : Addr) (ns : List Int), vs = [V.ref l] ∧ SqT K H l (ns.map V.int) ∧ ns.length < 64 ∧
  ∀ (p : Addr) (c : Nat), H p = none → c ≤ ns.length → Q (.ref p) (upd H p (SetO w p (fun j => decide (j ∈ ns)) c))
theorem cr_setI (hc : X.calm = true) : CallR X (.type "set") (rSetI X.K X.w) := by
  intro pins s σ H vs us Q I r h
  obtain ⟨l, ns, rfl, hs, hb, q⟩ := h
  obtain ⟨its, rv, hl, _⟩ := I.list hs
  rw [Vals.ref1 r]
  have hi := rv.ints
  exact call_set_lstI ns (I.ok.hd hc) hl.isList hi (by unfold scanBound; omega) fun h' tk c hS hle k =>
    ⟨.ref _, upd H s.heap.objs.size (SetO X.w s.heap.objs.size (fun j => decide (j ∈ ns)) c), I.laid (t' := tk) (fun b u e => k b u e) (Nat.le_refl _) (setO_new hS), rfl, q _ c (I.hok.fresh (Nat.le_refl _)) hle⟩
theorem cr_setIT (hc : X.calm = true) : CallR X (.type "set") (rSetIT X.K X.w) := by
  intro pins s σ H vs us Q I r h
  obtain ⟨l, ns, rfl, hs, hb, q⟩ := h
  obtain ⟨its, rv, hl, _⟩ := I.tuple hs
  rw [Vals.ref1 r]
  have hi := rv.ints
  exact call_set_tupI ns (I.ok.hd hc) hl hi (by unfold scanBound; omega) fun h' tk c hS hle k =>
    ⟨.ref _, upd H s.heap.objs.size (SetO X.w s.heap.objs.size (fun j => decide (j ∈ ns)) c), I.laid (t' := tk) (fun b u e => k b u e) (Nat.le_refl _) (setO_new hS), rfl, q _ c (I.hok.fresh (Nat.le_refl _)) hle⟩
end
end KQ

namespace KQ
open PySem PySem.Spec PyProof.Rows L2
/-! ### a list or a tuple walked -/
def SqLT (K : PySem.W.Frag) (H : Hp) (a : Addr) (xs : List V) : Prop := SqL K H a xs ∨ SqT K H a xs
theorem Same.seqT {K : PySem.W.Frag} {H H' : Hp} {a : Addr} {xs : List V} (e : Same H H') (h : SqT K H a xs) : SqT K H' a xs := by
  rcases h with (h | ⟨o, h⟩) | h
  · exact .inl (.inl (e _ _ h))
  · exact .inl (.inr ⟨o, by first | exact h | exact e _ _ h⟩)
  · exact .inr h
theorem SqLT.same {K : PySem.W.Frag} {H H' : Hp} {a : Addr} {xs : List V} (e : Same H H') (h : SqLT K H a xs) : SqLT K H' a xs := by
  rcases h with h | h
  · exact .inl (Same.seq e h)
  · exact .inr (Same.seqT e h)
/-- what walks xs, S holding -/
structure ItSq (J : It) (S : Hp → Prop) (xs : List V) : Prop where
  go : ∀ i H, S H → i < xs.length → J.go i H
  yld : ∀ i H x H', S H → J.yld i H x H' → H' = H ∧ xs[i]? = some x
  stop : ∀ i H, S H → xs.length ≤ i → J.stop i H
theorem itsq_list {K : PySem.W.Frag} {a : Addr} {xs : List V} : ItSq (Itl K a) (fun H => SqL K H a xs) xs :=
  ⟨fun i H s h => ⟨xs, xs[i], s, List.getElem?_eq_getElem h⟩, fun i H x H' s y => ⟨y.1, y.2 xs s⟩, fun i H s h => ⟨xs, s, h⟩⟩
theorem itsq_tup {K : PySem.W.Frag} {a : Addr} {xs : List V} : ItSq (Itt K a) (fun H => SqT K H a xs) xs :=
  ⟨fun i H s h => ⟨xs, xs[i], s, List.getElem?_eq_getElem h⟩, fun i H x H' s y => ⟨y.1, y.2 xs s⟩, fun i H s h => ⟨xs, s, h⟩⟩
def iSeq (K : PySem.W.Frag) (tl : TE) : TI := fun σ H R => tl σ H fun x H1 => ∃ a xs, x = .ref a ∧ SqLT K H1 a xs ∧ ∀ J S, ItSq J S xs → S H1 → (∀ G G', Same G G' → S G → S G') → R J H1
theorem pi_seq {X : Cx} {tg l : Expr} {tl : TE} (hl : PE X l tl) : PI X tg l (iSeq X.K tl) := by
  refine ⟨fun pins s σ H R I h => ?_⟩
  refine thn (hl.run pins s σ H _ I h) fun v s1 ⟨x, H1, I1, r1, q1⟩ => ?_
  obtain ⟨a, xs, e, hq, q⟩ := q1
  subst e
  cases r1
  rcases hq with hq | hq
  · obtain ⟨its, rv, p, hz⟩ := I1.list hq
    refine wpAny_pyIter_list p.isList (pi_one (tk := s1.toks) I1 _ (turn_list a _) ⟨_, Heap.get?_push_size _ rfl, rfl, rfl⟩ (q _ _ itsq_list hq fun G G' s h => Same.seq s h))
  · obtain ⟨its, rv, p, hz⟩ := I1.tuple hq
    refine wpAny_pyIter_tuple (show s1.heap.IsTuple a its.toArray from p) (pi_one (tk := s1.toks) I1 _ (turn_tuple a _) ⟨_, Heap.get?_push_size _ rfl, rfl, rfl⟩ (q _ _ itsq_tup hq fun G G' s h => Same.seqT s h))
/-- a comprehension over such -/
theorem lc_sq {J : It} {S : Hp → Prop} {xs : List V} (hJ : ItSq J S xs) {g : TG} {tt : TT} {te : TE} {vs : List Nat} {σ : L2.St} {H1 : Hp} {D : Addr} {Qd : Hp → Prop} (Pv : Nat → Hp → Prop) (h0 : Pv 0 (upd H1 D (.lst []))) (hl : ∀ i H, Pv i H → S H)
    (hs : ∀ i x H, xs[i]? = some x → Pv i H → g x (wipe σ vs) H fun σ2 H2 => wipe σ2 vs = wipe σ vs ∧ tt σ2 H2 fun b H3 =>
      if b = true then te σ2 H3 fun y H4 => ∃ acc, H4 D = some (.lst acc) ∧ acc.length < sizeLine ∧ Pv (i + 1) (upd H4 D (.lst (acc ++ [y]))) else Pv (i + 1) H3) (hd : ∀ H, Pv xs.length H → Qd H) :
    ∃ W : Nat → Nat → Hp → Prop, (∃ m, W 0 m (upd H1 D (.lst []))) ∧ ∀ i m H, W i m H →
      (J.stop i H ∧ Qd H) ∨ (J.go i H ∧ ∃ Nx : Hp → Prop, (∀ H', Nx H' → ∃ m', m' < m ∧ W (i + 1) m' H') ∧ ∀ x H', J.yld i H x H' → g x (wipe σ vs) H' fun σ2 H2 => wipe σ2 vs = wipe σ vs ∧ tt σ2 H2 fun b H3 =>
        if b = true then te σ2 H3 fun y H4 => ∃ acc, H4 D = some (.lst acc) ∧ acc.length < sizeLine ∧ Nx (upd H4 D (.lst (acc ++ [y]))) else Nx H3) := by
  refine ⟨fun i m H => m + i = xs.length ∧ Pv i H, ⟨xs.length, rfl, h0⟩, fun i m H ⟨e, p⟩ => ?_⟩
  rcases Nat.lt_or_ge i xs.length with lt | ge
  · refine .inr ⟨hJ.go i H (hl i H p) lt, Pv (i + 1), fun H' p' => ⟨m - 1, by omega, by omega, p'⟩, fun x H' y => ?_⟩
    obtain ⟨rfl, hx⟩ := hJ.yld i H x H' (hl i H p) y
    exact hs i x _ hx p
  · obtain rfl : i = xs.length := by omega
    exact .inl ⟨hJ.stop _ H (hl _ H p) (Nat.le_refl _), hd H p⟩
/-- .. a range from its end -/
theorem lc_down {n : Nat} {lo : Int} {g : TG} {tt : TT} {te : TE} {vs : List Nat} {σ : L2.St} {H1 : Hp} {D : Addr} {Qd : Hp → Prop} (Pv : Nat → Hp → Prop) (h0 : Pv 0 (upd H1 D (.lst [])))
    (hs : ∀ i H, i < n → Pv i H → g (.int (lo + (i : Nat) * (-1))) (wipe σ vs) H fun σ2 H2 => wipe σ2 vs = wipe σ vs ∧ tt σ2 H2 fun b H3 =>
      if b = true then te σ2 H3 fun y H4 => ∃ acc, H4 D = some (.lst acc) ∧ acc.length < sizeLine ∧ Pv (i + 1) (upd H4 D (.lst (acc ++ [y]))) else Pv (i + 1) H3) (hd : ∀ H, Pv n H → Qd H) :
    ∃ W : Nat → Nat → Hp → Prop, (∃ m, W 0 m (upd H1 D (.lst []))) ∧ ∀ i m H, W i m H →
      ((Itc lo (-1) n).stop i H ∧ Qd H) ∨ ((Itc lo (-1) n).go i H ∧ ∃ Nx : Hp → Prop, (∀ H', Nx H' → ∃ m', m' < m ∧ W (i + 1) m' H') ∧ ∀ x H', (Itc lo (-1) n).yld i H x H' → g x (wipe σ vs) H' fun σ2 H2 => wipe σ2 vs = wipe σ vs ∧ tt σ2 H2 fun b H3 =>
        if b = true then te σ2 H3 fun y H4 => ∃ acc, H4 D = some (.lst acc) ∧ acc.length < sizeLine ∧ Nx (upd H4 D (.lst (acc ++ [y]))) else Nx H3) := by
  refine ⟨fun i m H => m + i = n ∧ Pv i H, ⟨n, rfl, h0⟩, fun i m H ⟨e, p⟩ => ?_⟩
  rcases Nat.lt_or_ge i n with lt | ge
  · refine .inr ⟨lt, Pv (i + 1), fun H' p' => ⟨m - 1, by omega, by omega, p'⟩, fun x H' y => ?_⟩
    obtain ⟨rfl, rfl⟩ := y
    exact hs i _ lt p
  · obtain rfl : i = n := by omega
    exact .inl ⟨Nat.le_refl _, hd H p⟩
/-- a loop over such -/
theorem for_sq {J : It} {S : Hp → Prop} {xs : List V} (hJ : ItSq J S xs) {g : TG} {tb : TS} {D : Ends} {σ : L2.St} {H : Hp} (Pv : Nat → L2.St → Hp → Prop) (h0 : Pv 0 σ H) (hl : ∀ i σ H, Pv i σ H → S H)
    (hs : ∀ i x σ H, xs[i]? = some x → Pv i σ H → g x σ H fun σ2 H2 => tb { D with nx := Pv (i + 1), ct := Pv (i + 1), bk := D.nx } σ2 H2) (hd : ∀ σ H, Pv xs.length σ H → D.nx σ H) :
    ∃ W : Nat → Nat → L2.St → Hp → Prop, (∃ m, W 0 m σ H) ∧ ∀ i m σ H, W i m σ H →
      (J.stop i H ∧ D.nx σ H) ∨ (J.go i H ∧ ∃ N : L2.St → Hp → Prop, (∀ σ' H', N σ' H' → ∃ m', m' < m ∧ W (i + 1) m' σ' H') ∧ ∀ x H', J.yld i H x H' → g x σ H' fun σ2 H2 => tb { D with nx := N, ct := N, bk := D.nx } σ2 H2) := by
  refine ⟨fun i m σ H => m + i = xs.length ∧ Pv i σ H, ⟨xs.length, rfl, h0⟩, fun i m σ H ⟨e, p⟩ => ?_⟩
  rcases Nat.lt_or_ge i xs.length with lt | ge
  · refine .inr ⟨hJ.go i H (hl i σ H p) lt, Pv (i + 1), fun σ' H' p' => ⟨m - 1, by omega, by omega, p'⟩, fun x H' y => ?_⟩
    obtain ⟨rfl, hx⟩ := hJ.yld i H x H' (hl i σ H p) y
    exact hs i x σ _ hx p
  · obtain rfl : i = xs.length := by omega
    exact .inl ⟨hJ.stop _ H (hl _ σ H p) (Nat.le_refl _), hd σ H p⟩
/-- a filter by truth, in a block (K told) -/
def tTr (K : PySem.W.Frag) (ta : TE) : TT := fun σ H Q => ta σ H fun x H' => ∃ k, TruV K x H' k ∧ Q k H'
theorem pts_tr {X : Cx} {c : Expr} {ta : TE} (K : PySem.W.Frag) (hK : X.K = K) (ha : PE X c ta) (he : ∀ whole, isTrue c X.env whole = (do let v ← whole; standAt c.pos; holding [v] (truthy v))) : PTs X [c] (tTr K ta) := by
  subst hK
  exact pts_one (pt_truth ha he)
/-! ### a tuple whose methods are called: its object is told -/
def FzT (H : Hp) (a : Addr) (xs : List V) : Prop := ∃ o : Obj, o.dict = none ∧ o.cls = .type "tuple" ∧ H a = some (.frz o (.tup xs))
def TupIs (H : Hp) (a : Addr) (xs : List V) : Prop := H a = some (.tup xs) ∨ FzT H a xs
theorem FzT.same {H H' : Hp} {a : Addr} {xs : List V} (s : Same H H') (h : FzT H a xs) : FzT H' a xs := let ⟨o, h1, h2, h3⟩ := h; ⟨o, h1, h2, s _ _ h3⟩
theorem TupIs.same {H H' : Hp} {a : Addr} {xs : List V} (s : Same H H') (h : TupIs H a xs) : TupIs H' a xs := h.elim (fun z => .inl (s _ _ z)) fun z => .inr (z.same s)
theorem TupIs.sq {K : PySem.W.Frag} {H : Hp} {a : Addr} {xs : List V} (h : TupIs H a xs) : SqT K H a xs := h.elim (fun z => SqT.of z) fun ⟨o, _, _, z⟩ => .inl (.inr ⟨o, z⟩)
theorem TupIs.ob {H : Hp} {a : Addr} {xs : List V} (h : TupIs H a xs) : ∃ o, H a = some o ∧ ∀ ys, o ≠ .lst ys := h.elim (fun z => ⟨_, z, fun _ y => by cases y⟩) fun ⟨_, _, _, z⟩ => ⟨_, z, fun _ y => by cases y⟩
theorem TupIs.keep {H H' : Hp} {a : Addr} {xs : List V} (h : TupIs H a xs) (k : ∀ o, H a = some o → H' a = some o) : TupIs H' a xs := h.elim (fun z => .inl (k _ z)) fun ⟨o, h1, h2, z⟩ => .inr ⟨o, h1, h2, k _ z⟩
theorem TupIs.ty {K : PySem.W.Frag} {H : Hp} {a : Addr} {xs : List V} (h : TupIs H a xs) : TyX K H (.ref a) (.type "tuple") := h.elim (fun z => .base (.tup z)) fun ⟨_, _, _, z⟩ => .fTuple z
theorem call_tupF {X : Cx} : CallR X (.type "tuple") (fun xs H Q => ∃ p ys, xs = [.ref p] ∧ SqL X.K H p ys ∧ ∀ l H', H l = none → Same H H' → FzT H' l ys → Q (.ref l) H') := by
  intro pins s σ H xs us Q I r h
  obtain ⟨p, ys, rfl, hq, q⟩ := h
  obtain ⟨u, rfl, rx⟩ := vals1 r
  cases rx
  obtain ⟨its, r', pl, hz⟩ := I.list hq
  have hlen := r'.length
  refine call_tuple_list pl.isList (fun h' kp => ?_) (by simp only [List.size_toArray] <;> omega)
  have I1 : Inv X pins σ H { s with heap := h' } := I.kept (t' := s.toks) kp
  have I2 : Inv X pins σ (upd H h'.objs.size (.frz { cls := .type "tuple", data := .seq its.toArray } (.tup ys))) { s with heap := h'.push { cls := .type "tuple", data := .seq its.toArray } } :=
    I1.laid (t' := s.toks) (fun b o e => Heap.get?_push_of_some _ e) (Nat.le_refl _) ⟨Heap.get?_push_size _ rfl, hz, its, r', IsTup.new _ _⟩
  have nf := I1.hok.fresh (Nat.le_refl h'.objs.size)
  refine ⟨.ref h'.objs.size, _, I2, rfl, q _ _ nf (fun b u e => ?_) ⟨_, rfl, rfl, upd_same⟩⟩
  rw [upd_ne (ne_of_none e nf)]
  exact e
def tBMT (r : V → List V → Hp → VK → Prop) (to : TE) (t : TA) : TE := fun σ H Q => to σ H fun x H1 => (∃ a xs, x = .ref a ∧ FzT H1 a xs) ∧ t σ H1 fun xs H2 => r x xs H2 Q
theorem pe_bmT {X : Cx} {o e : Expr} {es : List Expr} {to : TE} {t : TA} {name : Str} {apos cpos : Pos} {id : String} {r : V → List V → Hp → VK → Prop} (slot : Slot "tuple" name id) (hty : typeOf (.builtin id) = pure (.type "method_descriptor")) (hm : MtR X id r) (ho : PE X o to) (ha : PA X (e :: es) t)
    (hbase : attributeBase o name X.env (eval o X.env) = eval o X.env := by rfl)
    (hfew : ((backTo cpos (starEach (e :: es) X.env)).all (fun x => !x.1) && (backToKw cpos (keywordEach [] X.env)).all (fun x => x.1.isSome)
      && decide ((e :: es).length + ([] : List Keyword).length + (if ([] : List Keyword).isEmpty then 0 else 1) < 30)) = true := by rfl)
    (hline : (apos.endLine == cpos.line) = true := by rfl) (hs : starEach (e :: es) X.env = (false, eval e X.env) :: starEach es X.env := by rfl) (hplain : (backTo cpos (starEach es X.env)).any (·.1) = false := by rfl) :
    PE X (.Call (.Attribute o name apos) (e :: es) [] cpos) (tBMT r to t) := by
  refine ⟨fun pins s σ H Q I h => ?_⟩
  refine wpAny_Call_method_late hbase hfew hline rfl (thn (ho.run pins s σ H _ I h) fun v s1 ⟨x, H1, I1, r1, ty, q1⟩ => ?_)
  obtain ⟨a, xs, rfl, ob, hd, hc, hf⟩ := ty
  have hg : s1.heap.get? a = some ob := (I1.hok a _ hf).1
  cases r1
  refine ⟨"tuple", id, PySem.F.plainAttrs_tuple, slot, hty, ⟨ob, hg, hc⟩, fun b z => ?_, ?_⟩
  · cases z
    exact ⟨ob, hg, hd⟩
  · have hA := ha.run cpos pins s1 σ H1 _ I1 q1
    rw [hs] at hA ⊢
    refine Calls.callWith_builtin (by show (false || (backTo cpos (starEach es X.env)).any (·.1)) = false; rw [hplain] <;> rfl) (Calls.evalArgs_plain ?_)
    exact thn hA fun us s2 ⟨vs, H2, I2, r2, q2⟩ => hm pins s2 σ H2 (.ref a) vs (.ref a) us Q I2 rfl r2 q2
end KQ

namespace KQ
open PySem PySem.Spec PyProof.Rows L2
/-! ### the program's defs -/
theorem band (a b : Nat) : Builtin.bitAnd (a : Int) (b : Int) = ((a &&& b : Nat) : Int) := by
  unfold Builtin.bitAnd
  rw [decide_eq_true (Int.natCast_nonneg a), decide_eq_true (Int.natCast_nonneg b)]
  rfl
theorem bor (a b : Nat) : Builtin.bitOr (a : Int) (b : Int) = ((a ||| b : Nat) : Int) := by
  have n1 : ∀ n : Nat, Builtin.bitNot (n : Int) = -(n : Int) - 1 := fun n => by
    unfold Builtin.bitNot
    omega
  have n2 : ∀ n : Nat, Builtin.bitNot (-(n : Int) - 1) = (n : Int) := fun n => by
    unfold Builtin.bitNot
    omega
  unfold Builtin.bitOr
  rw [n1, n1]
  unfold Builtin.bitAnd
  rw [decide_eq_false (by omega : ¬ (0 ≤ -(a : Int) - 1)), decide_eq_false (by omega : ¬ (0 ≤ -(b : Int) - 1))]
  show Builtin.bitNot (Builtin.bitNot (((Builtin.bitNot (-(a : Int) - 1)).toNat ||| (Builtin.bitNot (-(b : Int) - 1)).toNat : Nat) : Int)) = _
  rw [n2, n2, n1, n2]
  rfl
theorem xor_two (a b i j : Nat) (hi : i < 2) (hj : j < 2) : (2 * a + i) ^^^ (2 * b + j) = 2 * (a ^^^ b) + (i ^^^ j) := by
  have h1 : ((2 * a + i) ^^^ (2 * b + j)) / 2 = a ^^^ b := by
    rw [Nat.xor_div_two, show (2 * a + i) / 2 = a from by omega, show (2 * b + j) / 2 = b from by omega]
  have h2 : ((2 * a + i) ^^^ (2 * b + j)) % 2 = i ^^^ j := by
    have := Nat.xor_mod_two_pow (a := 2 * a + i) (b := 2 * b + j) (n := 1)
    rw [Nat.pow_one] at this
    rw [this, show (2 * a + i) % 2 = i from by omega, show (2 * b + j) % 2 = j from by omega]
  omega
def md (a b : Nat) : Nat := if h : b = 0 then 0 else (if b % 2 = 1 then a else 0) ^^^ md (2 * a) (b / 2)
termination_by b
decreasing_by omega
theorem or_sub_and : ∀ (n m : Nat), (n ||| m) = (n ^^^ m) + (n &&& m) := by
  intro n
  induction n using Nat.strongRecOn with
  | ind n ih =>
    intro m
    by_cases h : n = 0
    · subst h
      rw [Nat.zero_or, Nat.zero_xor, Nat.zero_and]
      rfl
    · have e : n = 2 * (n / 2) + n % 2 := by omega
      have e2 : m = 2 * (m / 2) + m % 2 := by omega
      have k := ih (n / 2) (by omega) (m / 2)
      have l1 : n % 2 < 2 := Nat.mod_lt _ (by decide)
      have l2 : m % 2 < 2 := Nat.mod_lt _ (by decide)
      rw [e, e2, or_two _ _ _ _ l1 l2, xor_two _ _ _ _ l1 l2, and_two _ _ _ _ l1 l2, k]
      have hb : ∀ i j : Nat, i < 2 → j < 2 → (i ||| j) = (i ^^^ j) + (i &&& j) := by
        intro i j hi hj
        match i, j, hi, hj with
        | 0, 0, _, _ => rfl
        | 0, 1, _, _ => rfl
        | 1, 0, _, _ => rfl
        | 1, 1, _, _ => rfl
      rw [hb _ _ l1 l2]
      omega
theorem bxor (a b : Nat) : Builtin.bitXor (a : Int) (b : Int) = ((a ^^^ b : Nat) : Int) := by
  unfold Builtin.bitXor
  rw [bor, band, or_sub_and]
  omega
theorem same_new {H : Hp} {r : Addr} {o : HO} (n : H r = none) : Same H (upd H r o) := fun b u e => by
  rw [upd_ne (ne_of_none e n)]
  exact e
abbrev sRedN : Stmt := topS 1
abbrev sRestBy : Stmt := topS 2
abbrev sComb : Stmt := topS 3
abbrev sLow : Stmt := topS 4
abbrev sRedB : Stmt := topS 6
abbrev sRank : Stmt := topS 7
abbrev sCombd : Stmt := topS 8
abbrev sKern : Stmt := topS 9
abbrev sNum : Stmt := topS 10
abbrev sBits : Stmt := topS 11
abbrev sKnum : Stmt := topS 12
structure Bl (mg : Str → Option Value) : Prop where
  isi : mg "isinstance" = none
  int : mg "int" = none
  len : mg "len" = none
  range : mg "range" = none
  list : mg "list" = none
  tuple : mg "tuple" = none
  min : mg "min" = none
  sorted : mg "sorted" = none
  reversed : mg "reversed" = none
  set : mg "set" = none
  sum : mg "sum" = none
  enum : mg "enumerate" = none
  all : mg "all" = none
  bool : mg "bool" = none
theorem bootI : bootBuiltins "int" = some (.type "int") := by decide +kernel
theorem bootT : bootBuiltins "tuple" = some (.type "tuple") := by decide +kernel
theorem bootS : bootBuiltins "set" = some (.type "set") := by decide +kernel
def rowV (W m : Nat) : List V := (rowOf W m).map fun b => V.int (b : Nat)
theorem rowV_len (W m : Nat) : (rowV W m).length = W := by
  unfold rowV
  rw [List.length_map, rowOf_len]
def natV (ns : List Nat) : List V := ns.map fun n => V.int (n : Nat)
theorem natV_int (ns : List Nat) : natV ns = (ns.map fun n => ((n : Nat) : Int)).map V.int := by
  unfold natV
  rw [List.map_map]
  rfl
theorem natV_at {ns : List Nat} {i : Nat} {v : V} (h : (natV ns)[i]? = some v) : ∃ n, ns[i]? = some n ∧ v = .int (n : Nat) := by
  unfold natV at h
  rw [List.getElem?_map] at h
  obtain ⟨n, hn, rfl⟩ := Option.map_eq_some_iff.mp h
  exact ⟨n, hn, rfl⟩
theorem natV_len (ns : List Nat) : (natV ns).length = ns.length := List.length_map ..
theorem take_snoc {α : Type} {l : List α} {i : Nat} {x : α} (h : l[i]? = some x) : l.take (i + 1) = l.take i ++ [x] := by
  rw [List.take_succ, h]
  rfl
/-- a row's number -/
def spNum : Sp := fun vs H Q _ => ∃ (a : Addr) (W m : Nat), vs = [.ref a] ∧ TupIs H a (rowV W m) ∧ m < 2 ^ W ∧ Q (.int (m : Nat)) H
def spBits : Sp := fun vs H Q _ => ∃ m W : Nat, vs = [.int (m : Nat), .int (W : Nat)] ∧ W ≤ 100 ∧ ∀ p H', Same H H' → H p = none → FzT H' p (rowV W m) → Q (.ref p) H'
def spRestBy : Sp := fun vs H Q _ => ∃ (n : Nat) (a : Addr) (T : List Nat), vs = [.int (n : Nat), .ref a] ∧ H a = some (.lst (natV T)) ∧ (∀ r ∈ T, r ≠ 0) ∧ Q (.int (rst T n : Nat)) H
theorem scNum : FnScope ["row", "number", "bit"] ["row"] (defScope sNum) := ⟨rfl, rfl, rfl, by decide +kernel, rfl, by decide +kernel, by decide +kernel⟩
theorem scBits : FnScope ["number", "width", "place"] ["number", "width"] (defScope sBits) := ⟨rfl, rfl, rfl, by decide +kernel, rfl, by decide +kernel, by decide +kernel⟩
theorem scRestBy : FnScope ["number", "table", "row"] ["number", "table"] (defScope sRestBy) := ⟨rfl, rfl, rfl, by decide +kernel, rfl, by decide +kernel, by decide +kernel⟩
section
variable {P : Program} {w : World} {K : PySem.W.Frag} {mg : Str → Option Value} {base : Heap}
theorem ok_num {f : Addr} {fd : FuncData} {k : Nat} (F : Fun K "_number_of" "_number_of" sNum f fd) : FnOk P w K mg base CX0 (k + 1) f fd ["row"] spNum := by
  refine F.ok scNum (fun vs H Q E h => ?_) (fun cdv A outer s H vs Q E hr h => ?_)
  · obtain ⟨a, W, m, rfl, _⟩ := h
    rfl
  · obtain ⟨a, W, m, rfl, hS, hm, q⟩ := h
    refine ⟨_, C8.pss_cut (ps_set (i := 1) scNum.nd rfl (.inl rfl) pe_int)
      (C8.pss_cut (ps_for PassesOwn.never rfl (pi_tup (pv 0)) (pg_name (i := 2) scNum.nd rfl (.inl rfl))
        (pss_one (ps_set (i := 1) scNum.nd rfl (.inl rfl) (pe_op op_add (pe_op op_mul pe_int (pv 1)) (pv 2)))))
      (pss_one (ps_ret (pv 1)))), ?_⟩
    refine ⟨fun σ' H' => σ' = [some (.ref a), some (.int 0), none] ∧ H' = H, ⟨rfl, rfl⟩, ?_⟩
    rintro _ H1 ⟨rfl, rfl⟩
    refine ⟨fun σ' H' => ∃ v, σ' = [some (.ref a), some (.int (m : Nat)), v] ∧ H' = H1, ?_, ?_⟩
    · refine ⟨_, rfl, a, rfl, ⟨_, hS.sq⟩, for_tup (K := K) (a := a) (xs := rowV W m) (fun i σ H2 => ∃ v : Option V, σ = [some (.ref a), some (.int (nb 0 ((rowOf W m).take i) : Nat)), v] ∧ H2 = H1) ⟨none, rfl, rfl⟩ (fun i σ H2 _ ⟨_, _, e⟩ => by rw [e]; exact hS.sq) ?_ ?_⟩
      · rintro i y σ H2 hi ⟨v, rfl, rfl⟩
        obtain ⟨b, hb, rfl⟩ := natV_at hi
        refine ⟨_, rfl, _, _, rfl, rfl, .inl ⟨by decide, by decide⟩, _, rfl, _, _, rfl, rfl, some (.int (b : Nat)), ?_, rfl⟩
        have e : nb 0 ((rowOf W m).take (i + 1)) = 2 * nb 0 ((rowOf W m).take i) + b := by
          rw [take_snoc hb]
          unfold nb
          rw [List.foldl_append]
          rfl
        rw [e]
        rfl
      · rintro σ H2 ⟨v, rfl, rfl⟩
        refine ⟨v, ?_, rfl⟩
        rw [List.take_of_length_le (by rw [rowV_len, rowOf_len]; exact Nat.le_refl _), nb_row, Nat.mod_eq_of_lt hm]
    rintro _ H2 ⟨v, rfl, rfl⟩
    exact ⟨_, rfl, q⟩
theorem ok_bits {f : Addr} {fd : FuncData} {k : Nat} (F : Fun K "_bits_of" "_bits_of" sBits f fd) (B : Bl mg) : FnOk P w K mg base CX0 (k + 1) f fd ["number", "width"] spBits := by
  refine F.ok scBits (fun vs H Q E h => ?_) (fun cdv A outer s H vs Q E hr h => ?_)
  · obtain ⟨m, W, rfl, _⟩ := h
    rfl
  · obtain ⟨m, W, rfl, hW, q⟩ := h
    refine ⟨_, pss_one (ps_ret (pe_callTy call_tupF (by rfl) B.tuple bootT (pa_cons (pe_lc (own := [("place", 2)]) (g := gName 2) (by rfl) scBits.nd (pi_revR (by rfl) B.reversed (prg_1 (by rfl) B.range (pv 1))) (blkOk_by (own := [("place", 2)]) (N := ["number", "width", "place"]) (sc := defScope sBits) (by decide +kernel))
          (fun _ _ _ _ _ => pg_name (i := 2) scBits.nd rfl (Or.inl rfl)) (fun _ _ _ _ _ => pts_nil) (fun _ _ _ _ _ => pe_op op_odd (pe_op op_shrN (pv 0) (pv 2)) pe_int)) pa_nil))), ?_⟩
    refine ⟨_, rfl, _, rfl, by omega, by omega, by omega, by omega, ?_⟩

    intro D nD
    refine lc_down (Pv := fun i Hc => Hc D = some (.lst ((rowV W m).take i)) ∧ Same H Hc) ⟨upd_same, same_new nD⟩ ?_ ?_
    · rintro i Hc hi ⟨eD, sc⟩
      have hi' : i < W := by omega
      have hb := rowOf_at (m := m) hi'
      refine ⟨rfl, _, rfl, _, rfl, (m : Int), W - 1 - i, rfl, ?_, m / 2 ^ (W - 1 - i), ?_, rfl, _, eD, ?_, ?_, ?_⟩
      · show V.int (0 + (((W : Int) - 0).toNat : Int) - 1 + (i : Nat) * (-1)) = _
        rw [show (0 : Int) + (((W : Int) - 0).toNat : Int) - 1 + (i : Nat) * (-1) = ((W - 1 - i : Nat) : Int) by omega]
      · push_cast
        rfl
      · rw [List.length_take, rowV_len]
        exact Nat.lt_of_le_of_lt (by omega : _ ≤ 100) (by decide)
      · rw [upd_same, take_snoc (x := V.int ((m / 2 ^ (W - 1 - i) % 2 : Nat) : Int))]
        unfold rowV
        rw [List.getElem?_map, hb]
        show some (V.int _) = _
        rw [Nat.testBit_eq_decide_div_mod_eq]
        have : m / 2 ^ (W - 1 - i) % 2 < 2 := Nat.mod_lt _ (by decide)
        by_cases e : m / 2 ^ (W - 1 - i) % 2 = 1
        · rw [decide_eq_true e, e]
          rfl
        · rw [decide_eq_false e, show m / 2 ^ (W - 1 - i) % 2 = 0 by omega]
          rfl
      · intro b o e
        rw [upd_ne (ne_of_none e nD)]
        exact sc _ _ e
    · rintro Hc ⟨eD, sc⟩
      rw [List.take_of_length_le (by rw [rowV_len]; omega)] at eD
      refine ⟨D, _, rfl, SqL.of eD, fun l H' nl s' fz => ?_⟩
      have nl' : H l = none := by
        cases e : H l with
        | none => rfl
        | some o => rw [sc _ _ e] at nl; cases nl
      exact q l H' (sc.trans s') nl' fz
theorem ok_restby {f : Addr} {fd : FuncData} {k : Nat} (F : Fun K "rest_by" "rest_by" sRestBy f fd) (B : Bl mg) : FnOk P w K mg base CX0 (k + 1) f fd ["number", "table"] spRestBy := by
  refine F.ok scRestBy (fun vs H Q E h => ?_) (fun cdv A outer s H vs Q E hr h => ?_)
  · obtain ⟨n, a, T, rfl, _⟩ := h
    rfl
  · obtain ⟨n, a, T, rfl, hS, hz, q⟩ := h
    refine ⟨_, C8.pss_cut (ps_for PassesOwn.never rfl (pi_list (pv 1)) (pg_name (i := 2) scRestBy.nd rfl (.inl rfl))
        (pss_one (ps_set (i := 0) scRestBy.nd rfl (.inl rfl) (pe_callB (call_min2 rfl) (by rfl) B.min PyProof.Rows.boot_min (pa_cons (pv 0) (pa_cons (pe_op op_xor (pv 0) (pv 2)) pa_nil))))))
      (pss_one (ps_ret (pv 0))), ?_⟩
    refine ⟨fun σ' H' => ∃ v, σ' = [some (.int (rst T n : Nat)), some (.ref a), v] ∧ H' = H, ?_, ?_⟩
    · refine ⟨_, rfl, a, rfl, ⟨_, SqL.of hS⟩, for_list (K := K) (a := a) (xs := natV T) (fun i σ H2 => ∃ v : Option V, σ = [some (.int (rst (T.take i) n : Nat)), some (.ref a), v] ∧ H2 = H) ⟨none, rfl, rfl⟩ (fun i σ H2 _ ⟨_, _, e⟩ => by rw [e]; exact SqL.of hS) ?_ ?_⟩
      · rintro i y σ H2 hi ⟨v, rfl, rfl⟩
        obtain ⟨b, hb, rfl⟩ := natV_at hi
        refine ⟨_, rfl, _, rfl, _, rfl, _, _, rfl, rfl, _, _, rfl, some (.int (b : Nat)), ?_, rfl⟩
        have e : rst (T.take (i + 1)) n = lw (rst (T.take i) n) b := by
          rw [take_snoc hb]
          unfold rst
          rw [List.foldl_append]
          rfl
        rw [e, bxor]
        rw [min_lw (hz b (List.mem_of_getElem? hb))]
        rfl
      · rintro σ H2 ⟨v, rfl, rfl⟩
        refine ⟨v, ?_, rfl⟩
        rw [List.take_of_length_le (Nat.le_of_eq (natV_len T).symm)]
    rintro _ H2 ⟨v, rfl, rfl⟩
    exact ⟨_, rfl, q⟩
end
end KQ

namespace KQ
open PySem PySem.Spec PyProof.Rows L2
def spRedN (K : PySem.W.Frag) : Sp := fun vs H Q _ => ∃ (a : Addr) (ns : List Nat), vs = [.ref a] ∧ SqL K H a (natV ns) ∧ ns.length ≤ 100 ∧
  ∀ p ms H', Same H H' → H p = none → H' p = some (.lst (natV ms)) → Red ms → ms.Pairwise (· > ·) → (∀ x, Spn ms x ↔ Spn ns x) → (∀ k, (∀ n ∈ ns, n < 2 ^ k) → ∀ m ∈ ms, m < 2 ^ k) → (Indep ns → ms.length = ns.length) → Q (.ref p) H'
theorem scRedN : FnScope ["numbers", "table", "given", "number", "row"] ["numbers"] (defScope sRedN) := ⟨rfl, rfl, rfl, by decide +kernel, rfl, by decide +kernel, by decide +kernel⟩
theorem natV_map (T : List Nat) (f : Nat → Nat) : natV (T.map f) = T.map fun r => V.int (f r : Nat) := by
  unfold natV
  rw [List.map_map]
  rfl
theorem natV_app (T U : List Nat) : natV (T ++ U) = natV T ++ natV U := List.map_append ..
theorem perm_nat {ns' : List Int} {T : List Nat} (p : ns'.Perm (T.map fun n => ((n : Nat) : Int))) : ∃ U : List Nat, ns' = U.map (fun n => ((n : Nat) : Int)) ∧ U.Perm T := by
  refine ⟨ns'.map Int.toNat, ?_, ?_⟩
  · rw [List.map_map]
    have : ∀ z ∈ ns', ((fun n : Nat => (n : Int)) ∘ Int.toNat) z = z := fun z hz => by
      obtain ⟨n, _, rfl⟩ := List.mem_map.mp (p.mem_iff.mp hz)
      rfl
    have e : ns'.map ((fun n : Nat => (n : Int)) ∘ Int.toNat) = ns' := by
      have := List.map_congr_left this
      rw [this]
      exact List.map_id' _
    exact e.symm
  · have := p.map Int.toNat
    rw [List.map_map] at this
    have e : T.map (Int.toNat ∘ fun n => ((n : Nat) : Int)) = T := by
      have : (Int.toNat ∘ fun n : Nat => ((n : Nat) : Int)) = id := rfl
      rw [this, List.map_id]
    rwa [e] at this
section
variable {P : Program} {w : World} {K : PySem.W.Frag} {mg : Str → Option Value} {base : Heap}
theorem ok_redn {f fR : Addr} {fd dR : FuncData} {k : Nat} (F : Fun K "reduced_numbers" "reduced_numbers" sRedN f fd) (FR : Fun K "rest_by" "rest_by" sRestBy fR dR) (bR : Binds K dR ["number", "table"] []) (gR : mg "rest_by" = some (.ref fR)) (B : Bl mg) :
    FnOk P w K mg base CX0 (k + 2) f fd ["numbers"] (spRedN K) := by
  have GR : FnOk P w K mg base CX0 (k + 1) fR dR ["number", "table"] spRestBy := ok_restby FR B
  refine F.ok scRedN (fun vs H Q E h => ?_) (fun cdv A outer s H vs Q E hr h => ?_)
  · obtain ⟨a, ns, rfl, _⟩ := h
    rfl
  · obtain ⟨a, ns, rfl, hS, hlen, q⟩ := h
    refine ⟨_, C8.pss_cut (ps_set (i := 1) scRedN.nd rfl (.inl rfl) (pe_lst pa_nil))
      (C8.pss_cut (ps_for PassesOwn.never rfl (pi_list (pv 0)) (pg_name (i := 2) scRedN.nd rfl (.inl rfl))
        (C8.pss_cut (ps_set (i := 3) scRedN.nd rfl (.inr rfl) (pe_call GR hr (by rfl) gR FR.kp bR .nil pass0 (pa_cons (pv 2) (pa_cons (pv 1) pa_nil))))
        (pss_one (ps_if (pt_truth (pv 3) (by intro _; rfl))
          (C8.pss_cut (ps_setLc (i := 1) (own := [("row", 4)]) (g := gName 4) (by rfl) scRedN.nd rfl rfl (sw_true rfl rfl rfl (by decide +kernel)) (pi_list (pv 1)) (blkOk_by (own := [("row", 4)]) (N := ["numbers", "table", "given", "number", "row"]) (sc := defScope sRedN) (by decide +kernel))
            (fun _ _ _ _ _ => pg_name (i := 4) scRedN.nd rfl (Or.inl rfl)) (fun _ _ _ _ _ => pts_nil) (fun _ _ _ _ _ => pe_callB (call_min2 rfl) (by rfl) B.min PyProof.Rows.boot_min (pa_cons (pv 4) (pa_cons (pe_op op_xor (pv 4) (pv 3)) pa_nil))))
          (pss_one (ps_expr (pe_bm PySem.F.plainAttrs_list PySem.F.slot_list_append PySem.F.type_list_append mt_append (pv 1) (pa_cons (pv 3) pa_nil))))) pss_nil))))
      (pss_one (ps_ret (pe_callBK (cr_sortedRev (b := true)) (by rfl) B.sorted PyProof.Rows.boot_sorted (pa_cons (pv 1) pa_nil) (pk_cons pe_bl pk_nil))))), ?_⟩
    have off : ∀ {G : Hp} {t : Addr}, Same H G → G t = none → H t = none := fun {G t} sg n => by
      cases e : H t with
      | none => rfl
      | some o => rw [sg _ _ e] at n; cases n
    refine ⟨fun σ' H' => ∃ t, σ' = [some (.ref a), some (.ref t), none, none, none] ∧ Same H H' ∧ H t = none ∧ H' t = some (.lst []), ?_, ?_⟩
    · exact ⟨by show 0 ≤ sizeLine; decide, fun t nt => ⟨t, rfl, same_new nt, nt, upd_same⟩⟩
    rintro _ H1 ⟨t0, rfl, s1, n0, e0⟩
    refine ⟨fun σ' H' => ∃ t T v2 v3, σ' = [some (.ref a), some (.ref t), v2, v3, none] ∧ Same H H' ∧ H t = none ∧ H' t = some (.lst (natV T)) ∧ Red T ∧ (∀ x, Spn T x ↔ Spn ns x) ∧ (∀ k, (∀ n ∈ ns, n < 2 ^ k) → ∀ m ∈ T, m < 2 ^ k) ∧ (Indep ns → T.length = ns.length), ?_, ?_⟩
    · refine ⟨_, rfl, a, rfl, ⟨_, Same.seq s1 hS⟩, for_list (K := K) (a := a) (xs := natV ns) (fun i σ H2 => ∃ t T v2 v3, σ = [some (.ref a), some (.ref t), v2, v3, none] ∧ Same H H2 ∧ H t = none ∧ H2 t = some (.lst (natV T)) ∧ Red T ∧ (∀ x, Spn T x ↔ Spn (ns.take i) x) ∧ (∀ k, (∀ n ∈ ns, n < 2 ^ k) → ∀ m ∈ T, m < 2 ^ k) ∧ (Indep ns → T.length = i) ∧ T.length ≤ i)
        ⟨t0, [], none, none, rfl, s1, n0, e0, Red.nil, fun x => Iff.rfl, fun _ _ _ z => (by cases z), fun _ => rfl, Nat.zero_le _⟩ (fun i σ H2 _ ⟨_, _, _, _, _, s2, _⟩ => Same.seq s2 hS) ?_ ?_⟩
      · rintro i y σ H2 hi ⟨t, T, v2, v3, rfl, s2, nt, et, R, hsp, hb, hI, hl⟩
        obtain ⟨g, hg, rfl⟩ := natV_at hi
        have tk := take_snoc hg
        refine ⟨fun σ' H' => σ' = [some (.ref a), some (.ref t), some (.int (g : Nat)), some (.int (rst T g : Nat)), none] ∧ H' = H2, ?_, ?_⟩
        · exact ⟨_, rfl, _, rfl, g, t, T, rfl, et, R.nz, rfl, rfl⟩
        rintro _ H3 ⟨rfl, rfl⟩
        refine ⟨_, rfl, _, rfl, ?_⟩
        by_cases z : rst T g = 0
        · rw [z]
          refine iteF ⟨t, T, _, _, rfl, s2, nt, et, R, fun x => by rw [tk]; exact spn_skip R.ec hsp z x, hb, fun ind => ?_, by omega⟩
          exact absurd ((hsp g).mp ((spn_rst R.ec g).mpr z)) (ind i g hg)
        · have nz : (((rst T g : Nat) : Int) != 0) = true := bne_iff_ne.mpr (by omega)
          rw [nz]
          refine iteT ⟨fun σ' H' => ∃ D, σ' = [some (.ref a), some (.ref D), some (.int (g : Nat)), some (.int (rst T g : Nat)), none] ∧ Same H H' ∧ H D = none ∧ H' D = some (.lst (natV (T.map (lw · (rst T g))))), ?_, ?_⟩
          · refine ⟨_, rfl, t, rfl, ⟨_, SqL.of et⟩, fun D nD => ?_⟩
            refine lc_list (K := K) (a := t) (xs := natV T) (Pv := fun j Hc => Hc D = some (.lst (natV ((T.take j).map (lw · (rst T g))))) ∧ Same H3 Hc) ⟨upd_same, same_new nD⟩ (fun j Hc _ ⟨_, sc⟩ => SqL.of (sc _ _ et)) ?_ ?_
            · rintro j v Hc hj ⟨eD, sc⟩
              obtain ⟨r, hr', rfl⟩ := natV_at hj
              refine ⟨rfl, _, rfl, _, rfl, _, rfl, _, _, rfl, rfl, _, _, rfl, _, eD, ?_, ?_, ?_⟩
              · rw [natV_len, List.length_map, List.length_take]
                have : T.length ≤ 100 := by
                  have := (List.getElem?_eq_some_iff.mp hg).1
                  omega
                exact Nat.lt_of_le_of_lt (by omega : _ ≤ 100) (by decide)
              · rw [upd_same, take_snoc hr', List.map_append, natV_app, bxor, min_lw z]
                rfl
              · intro b o e
                rw [upd_ne (ne_of_none e nD)]
                exact sc _ _ e
            · rintro Hc ⟨eD, sc⟩
              rw [List.take_of_length_le (Nat.le_of_eq (natV_len T).symm)] at eD
              exact ⟨D, rfl, s2.trans sc, off s2 nD, eD⟩
          rintro _ H4 ⟨D, rfl, s4, nD, eD⟩
          have len2 : (T.map (lw · (rst T g)) ++ [rst T g]).length = T.length + 1 := by rw [List.length_append, List.length_map]; rfl
          refine ⟨_, rfl, .inl ⟨rfl, _, SqL.of eD⟩, _, rfl, D, _, _, rfl, rfl, eD, ?_, ?_⟩
          · rw [natV_len, List.length_map]
            have := (List.getElem?_eq_some_iff.mp hg).1
            exact Nat.lt_of_le_of_lt (by omega : _ ≤ 100) (by decide)
          · refine ⟨D, T.map (lw · (rst T g)) ++ [rst T g], _, _, rfl, ?_, nD, ?_, R.add z (rst_clear R.ec), fun x => by rw [tk]; exact spn_add hsp z x, fun k hk m hm => ?_, fun ind => by rw [len2, hI ind], by omega⟩
            · intro b o e
              rw [upd_ne (ne_of_none e nD)]
              exact s4 _ _ e
            · rw [upd_same, natV_app]
              rfl
            · have hv : rst T g < 2 ^ k := rst_lt (hk g (List.mem_of_getElem? hg)) (hb k hk)
              rcases List.mem_append.mp hm with h' | h'
              · obtain ⟨c, hc, rfl⟩ := List.mem_map.mp h'
                exact lw_lt (hb k hk c hc) hv
              · rw [List.mem_singleton.mp h']
                exact hv
      · rintro σ H2 ⟨t, T, v2, v3, rfl, s2, nt, et, R, hsp, hb, hI, hl⟩
        rw [natV_len] at hsp hI
        rw [List.take_length] at hsp
        exact ⟨t, T, v2, v3, rfl, s2, nt, et, R, hsp, hb, hI⟩
    rintro _ H2 ⟨t, T, v2, v3, rfl, s2, nt, et, R, hsp, hb, hI⟩
    refine ⟨_, rfl, t, T.map fun n => ((n : Nat) : Int), rfl, rfl, by rw [← natV_int]; exact SqL.of et, fun ns' p pm od np => ?_⟩
    obtain ⟨U, rfl, pu⟩ := perm_nat pm
    rw [← natV_int]
    have od' : (U.map fun n => ((n : Nat) : Int)).Pairwise (· ≥ ·) := od
    have desc : U.Pairwise (· > ·) := by
      have h1 := List.pairwise_map.mp od'
      have h2 := (R.perm pu.symm).ec.nodup
      refine List.Pairwise.imp₂ (fun x y (g : ((x : Nat) : Int) ≥ y) (n : x ≠ y) => by omega) h1 h2
    refine q p U _ (s2.trans (same_new np)) (off s2 np) upd_same (R.perm pu.symm) desc (fun x => (spn_perm pu x).trans (hsp x)) (fun k hk m hm => hb k hk m (pu.mem_iff.mp hm)) fun ind => by rw [pu.length_eq, hI ind]
end
end KQ

namespace KQ
open PySem PySem.Spec PyProof.Rows L2
/-! ### numbers with marks -/
/-- the marked rows at a list's items -/
def MkAt (H : Hp) (L : List (Addr × Nat × Nat)) : Prop := ∀ p ∈ L, H p.1 = some (.tup [.int (p.2.1 : Nat), .int (p.2.2 : Nat)])
def refV (L : List (Addr × Nat × Nat)) : List V := L.map fun p => V.ref p.1
def numL (L : List (Addr × Nat × Nat)) : List Nat := L.map fun p => p.2.1
theorem MkAt.same {H H' : Hp} {L : List (Addr × Nat × Nat)} (s : Same H H') (h : MkAt H L) : MkAt H' L := fun p hp => s _ _ (h p hp)
/-- what the marks keep -/
structure MkRel (L : List (Addr × Nat × Nat)) (n m mk : Nat) : Prop where
  lin : ∀ φ : Nat → Nat, (∀ x y, φ (x ^^^ y) = φ x ^^^ φ y) → (∀ p ∈ L, φ p.2.2 = p.2.1) → rst (numL L) n ^^^ φ mk = n ^^^ φ m
  lt : ∀ B, m < 2 ^ B → (∀ p ∈ L, p.2.2 < 2 ^ B) → mk < 2 ^ B
def spLow : Sp := fun vs H Q _ => ∃ (n m : Nat) (t : Addr) (L : List (Addr × Nat × Nat)), vs = [.int (n : Nat), .int (m : Nat), .ref t] ∧ H t = some (.lst (refV L)) ∧ MkAt H L ∧ (∀ r ∈ numL L, r ≠ 0) ∧
  ∀ mk H' p, MkRel L n m mk → Same H H' → H p = none → H' p = some (.tup [.int (rst (numL L) n : Nat), .int (mk : Nat)]) → Q (.ref p) H'
def spComb (K : PySem.W.Frag) : Sp := fun vs H Q _ => ∃ (a : Addr) (ns : List Nat) (n : Nat), vs = [.ref a, .int (n : Nat)] ∧ SqL K H a (natV ns) ∧ ns.length ≤ 100 ∧ (¬ Spn ns n → ∀ H', Same H H' → Q .non H') ∧
  (∀ mk H' p, mk < 2 ^ ns.length → sx ns mk = n → Same H H' → H p = none → H' p = some (.tup (natV ((List.range ns.length).filter (mk.testBit ·)))) → Q (.ref p) H')
def spKnum : Sp := fun vs H Q _ => ∃ (t : Addr) (T : List Nat) (p : Nat), vs = [.ref t, .int (p : Nat)] ∧ H t = some (.lst (natV T)) ∧ (∀ r ∈ T, r ≠ 0 ∧ r < 2 ^ 1000) ∧ p ≤ 1000 ∧ Q (.int (kn T p : Nat)) H
theorem scLow : FnScope ["number", "marks", "table", "row", "row_marks"] ["number", "marks", "table"] (defScope sLow) := ⟨rfl, rfl, rfl, by decide +kernel, rfl, by decide +kernel, by decide +kernel⟩
theorem scComb : FnScope ["numbers", "number", "table", "index", "given", "rest", "marks"] ["numbers", "number"] (defScope sComb) := ⟨rfl, rfl, rfl, by decide +kernel, rfl, by decide +kernel, by decide +kernel⟩
theorem scKnum : FnScope ["table", "place", "number", "row"] ["table", "place"] (defScope sKnum) := ⟨rfl, rfl, rfl, by decide +kernel, rfl, by decide +kernel, by decide +kernel⟩
theorem spn_add0 {T ns : List Nat} {g : Nat} (hT : ∀ x, Spn T x ↔ Spn ns x) (x : Nat) : Spn (T ++ [rst T g]) x ↔ Spn (ns ++ [g]) x := by
  refine spn_iff_of (fun a ha => ?_) (fun a ha => ?_) x
  · rcases List.mem_append.mp ha with q | q
    · exact spn_le (fun b hb => spn_mem (List.mem_append_left _ hb)) ((hT a).mp (spn_mem q))
    · rw [List.mem_singleton.mp q]
      have h1 : Spn (ns ++ [g]) (g ^^^ rst T g) := spn_le (fun b hb => spn_mem (List.mem_append_left _ hb)) ((hT _).mp (rst_spn (T := T) g))
      have h2 := (spn_sub _).2 _ _ (spn_mem (T := ns ++ [g]) (List.mem_append_right _ (List.mem_singleton_self g))) h1
      rwa [← Nat.xor_assoc, Nat.xor_self, Nat.zero_xor] at h2
  · rcases List.mem_append.mp ha with q | q
    · exact spn_le (fun b hb => spn_mem (List.mem_append_left _ hb)) ((hT a).mpr (spn_mem q))
    · rw [List.mem_singleton.mp q]
      have h1 : Spn (T ++ [rst T g]) (g ^^^ rst T g) := spn_le (fun b hb => spn_mem (List.mem_append_left _ hb)) (rst_spn (T := T) g)
      have := (spn_sub _).2 _ _ h1 (spn_mem (T := T ++ [rst T g]) (List.mem_append_right _ (List.mem_singleton_self _)))
      rwa [Nat.xor_assoc, Nat.xor_self, Nat.xor_zero] at this
theorem Ec.snoc {T : List Nat} {v : Nat} (E : Ec T) (v0 : v ≠ 0) (h : ∀ r ∈ T, v.testBit r.log2 = false) : Ec (T ++ [v]) := by
  refine ⟨fun r hr => ?_, List.pairwise_append.mpr ⟨E.pw, List.pairwise_singleton _ _, fun a ha b hb => ?_⟩⟩
  · rcases List.mem_append.mp hr with q | q
    · exact E.nz r q
    · rw [List.mem_singleton.mp q]
      exact v0
  · rw [List.mem_singleton.mp hb]
    exact h a ha
section
variable {P : Program} {w : World} {K : PySem.W.Frag} {mg : Str → Option Value} {base : Heap}
theorem ok_low {f : Addr} {fd : FuncData} {k : Nat} (F : Fun K "_lowered" "_lowered" sLow f fd) : FnOk P w K mg base CX0 (k + 1) f fd ["number", "marks", "table"] spLow := by
  refine F.ok scLow (fun vs H Q E h => ?_) (fun cdv A outer s H vs Q E hr h => ?_)
  · obtain ⟨n, m, t, L, rfl, _⟩ := h
    rfl
  · obtain ⟨n, m, t, L, rfl, hS, hM, hz, q⟩ := h
    refine ⟨_, C8.pss_cut (ps_for PassesOwn.never rfl (pi_list (pv 2)) (pg_tup rfl (pgs_cons (pg_name (i := 3) scLow.nd rfl (.inl rfl)) (pgs_cons (pg_name (i := 4) scLow.nd rfl (.inl rfl)) pgs_nil)))
        (pss_one (ps_if (pt_cmpR op_lt (pe_op op_xor (pv 0) (pv 3)) (pv 0) (nomark _))
          (C8.pss_cut (ps_set (i := 0) scLow.nd rfl (.inl rfl) (pe_op op_xor (pv 0) (pv 3))) (pss_one (ps_set (i := 1) scLow.nd rfl (.inl rfl) (pe_op op_xor (pv 1) (pv 4))))) pss_nil)))
      (pss_one (ps_ret (pe_tup (pa_cons (pv 0) (pa_cons (pv 1) pa_nil))))), ?_⟩
    have key : ∀ {i : Nat} {p : Addr × Nat × Nat} {mk : Nat}, L[i]? = some p → MkRel (L.take i) n m mk → MkRel (L.take (i + 1)) n m (if (rst (numL (L.take i)) n).testBit p.2.1.log2 then mk ^^^ p.2.2 else mk) ∧ rst (numL (L.take (i + 1))) n = lw (rst (numL (L.take i)) n) p.2.1 := by
      intro i p mk hp R
      have tk := take_snoc hp
      have e : rst (numL (L.take (i + 1))) n = lw (rst (numL (L.take i)) n) p.2.1 := by
        rw [tk]
        unfold numL rst
        rw [List.map_append, List.foldl_append]
        rfl
      refine ⟨⟨fun φ lin hφ => ?_, fun B hm hB => ?_⟩, e⟩
      · have h1 := R.lin φ lin fun q hq => hφ q (by rw [tk]; exact List.mem_append_left _ hq)
        have h2 := hφ p (by rw [tk]; exact List.mem_append_right _ (List.mem_singleton_self _))
        rw [e]
        unfold lw
        split
        · rw [lin, h2, Nat.xor_assoc, Nat.xor_comm (φ mk), ← Nat.xor_assoc p.2.1, Nat.xor_self, Nat.zero_xor]
          exact h1
        · exact h1
      · have h1 := R.lt B hm fun q hq => hB q (by rw [tk]; exact List.mem_append_left _ hq)
        split
        · exact Nat.xor_lt_two_pow h1 (hB p (by rw [tk]; exact List.mem_append_right _ (List.mem_singleton_self _)))
        · exact h1
    refine ⟨fun σ' H' => ∃ mk v3 v4, σ' = [some (.int (rst (numL L) n : Nat)), some (.int (mk : Nat)), some (.ref t), v3, v4] ∧ H' = H ∧ MkRel L n m mk, ?_, ?_⟩
    · refine ⟨_, rfl, t, rfl, ⟨_, SqL.of hS⟩, for_list (K := K) (a := t) (xs := refV L) (fun i σ H2 => ∃ mk v3 v4, σ = [some (.int (rst (numL (L.take i)) n : Nat)), some (.int (mk : Nat)), some (.ref t), v3, v4] ∧ H2 = H ∧ MkRel (L.take i) n m mk)
        ⟨m, none, none, rfl, rfl, ⟨fun _ _ _ => rfl, fun _ h _ => h⟩⟩ (fun i σ H2 _ ⟨_, _, _, _, e, _⟩ => by rw [e]; exact SqL.of hS) ?_ ?_⟩
      · rintro i y σ H2 hi ⟨mk, v3, v4, rfl, rfl, R⟩
        unfold refV at hi
        rw [List.getElem?_map] at hi
        obtain ⟨p, hp, rfl⟩ := Option.map_eq_some_iff.mp hi
        obtain ⟨R', e⟩ := key hp R
        have pz : p.2.1 ≠ 0 := hz _ (List.mem_map.mpr ⟨p, List.mem_of_getElem? hp, rfl⟩)
        refine ⟨_, _, rfl, .inl (.inl (hM p (List.mem_of_getElem? hp))), rfl, _, _, rfl, _, _, rfl, rfl, ?_⟩
        refine ⟨_, rfl, _, rfl, _, _, rfl, rfl, _, rfl, _, _, rfl, rfl, _, rfl, ?_⟩
        rw [bxor]
        by_cases c : rst (numL (L.take i)) n ^^^ p.2.1 < rst (numL (L.take i)) n
        · rw [decide_eq_true (by omega)]
          have c' := (lt_iff pz).mp c
          rw [if_pos c'] at R'
          refine iteT ⟨fun σ' H' => σ' = [some (.int (rst (numL (L.take i)) n ^^^ p.2.1 : Nat)), some (.int (mk : Nat)), some (.ref t), some (.int (p.2.1 : Nat)), some (.int (p.2.2 : Nat))] ∧ H' = H2, ?_, ?_⟩
          · refine ⟨_, rfl, _, rfl, _, _, rfl, rfl, ?_, rfl⟩
            show [some (V.int (Builtin.bitXor ((rst (numL (L.take i)) n : Nat) : Int) ((p.2.1 : Nat) : Int))), _, _, _, _] = _
            rw [bxor]
          rintro _ H3 ⟨rfl, rfl⟩
          refine ⟨_, rfl, _, rfl, _, _, rfl, rfl, mk ^^^ p.2.2, some (.int (p.2.1 : Nat)), some (.int (p.2.2 : Nat)), ?_, rfl, R'⟩
          show [_, some (V.int (Builtin.bitXor ((mk : Nat) : Int) ((p.2.2 : Nat) : Int))), _, _, _] = _
          rw [bxor, e]
          unfold lw
          rw [if_pos c']
        · rw [decide_eq_false (by omega)]
          have c' : ¬ (rst (numL (L.take i)) n).testBit p.2.1.log2 = true := fun z => c ((lt_iff pz).mpr z)
          rw [if_neg c'] at R'
          refine iteF ⟨mk, some (.int (p.2.1 : Nat)), some (.int (p.2.2 : Nat)), ?_, rfl, R'⟩
          rw [e]
          unfold lw
          rw [if_neg c']
          rfl
      · rintro σ H2 ⟨mk, v3, v4, rfl, rfl, R⟩
        have l : L.take (refV L).length = L := List.take_of_length_le (by unfold refV; rw [List.length_map]; exact Nat.le_refl _)
        rw [l] at R ⊢
        exact ⟨mk, v3, v4, rfl, rfl, R⟩
    rintro _ H2 ⟨mk, v3, v4, rfl, rfl, R⟩
    exact ⟨_, rfl, _, rfl, by show 2 ≤ sizeLine; decide, fun p np => q mk _ p R (same_new np) np upd_same⟩
theorem ok_knum {f : Addr} {fd : FuncData} {k : Nat} (F : Fun K "_kernel_number" "_kernel_number" sKnum f fd) : FnOk P w K mg base CX0 (k + 1) f fd ["table", "place"] spKnum := by
  refine F.ok scKnum (fun vs H Q E h => ?_) (fun cdv A outer s H vs Q E hr h => ?_)
  · obtain ⟨t, T, p, rfl, _⟩ := h
    rfl
  · obtain ⟨t, T, p, rfl, hS, hz, hp, q⟩ := h
    refine ⟨_, C8.pss_cut (ps_set (i := 2) scKnum.nd rfl (.inl rfl) (pe_op op_oneShl pe_int (pv 1)))
      (C8.pss_cut (ps_for PassesOwn.never rfl (pi_list (pv 0)) (pg_name (i := 3) scKnum.nd rfl (.inl rfl))
        (pss_one (ps_if (pt_truth (pe_op op_odd (pe_op op_shrN (pv 3) (pv 1)) pe_int) (by intro _; rfl))
          (pss_one (ps_set (i := 2) scKnum.nd rfl (.inl rfl) (pe_op op_or (pv 2) (pe_op op_oneShl pe_int (pe_op op_sub (pe_bits (pv 3)) pe_int))))) pss_nil)))
      (pss_one (ps_ret (pv 2)))), ?_⟩
    refine ⟨fun σ' H' => σ' = [some (.ref t), some (.int (p : Nat)), some (.int (2 ^ p : Nat)), none] ∧ H' = H, ?_, ?_⟩
    · refine ⟨_, rfl, p, rfl, rfl, by omega, ?_, rfl⟩
      show [_, _, some (V.int ((2 : Int) ^ p)), _] = _
      rw [show ((2 : Int) ^ p) = ((2 ^ p : Nat) : Int) by push_cast; rfl]
    rintro _ H1 ⟨rfl, rfl⟩
    refine ⟨fun σ' H' => ∃ v, σ' = [some (.ref t), some (.int (p : Nat)), some (.int (kn T p : Nat)), v] ∧ H' = H1, ?_, ?_⟩
    · refine ⟨_, rfl, t, rfl, ⟨_, SqL.of hS⟩, for_list (K := K) (a := t) (xs := natV T) (fun i σ H2 => ∃ v : Option V, σ = [some (.ref t), some (.int (p : Nat)), some (.int (kn (T.take i) p : Nat)), v] ∧ H2 = H1) ⟨none, rfl, rfl⟩ (fun i σ H2 _ ⟨_, _, e⟩ => by rw [e]; exact SqL.of hS) ?_ ?_⟩
      · rintro i y σ H2 hi ⟨v, rfl, rfl⟩
        obtain ⟨r, hr', rfl⟩ := natV_at hi
        obtain ⟨r0, r1⟩ := hz r (List.mem_of_getElem? hr')
        have e : kn (T.take (i + 1)) p = kstep p (kn (T.take i) p) r := by
          rw [take_snoc hr']
          unfold kn
          rw [List.foldl_append]
          rfl
        refine ⟨_, rfl, _, rfl, (r : Int), p, rfl, rfl, r / 2 ^ p, by push_cast; rfl, rfl, _, rfl, ?_⟩
        rw [e]
        unfold kstep
        rw [Nat.testBit_eq_decide_div_mod_eq]
        by_cases c : r / 2 ^ p % 2 = 1
        · rw [c, decide_eq_true rfl, if_pos rfl]
          refine iteT ⟨_, rfl, _, rfl, _, rfl, _, _, rfl, rfl, r.log2, rfl, ?_, ?_, _, _, rfl, rfl, some (.int (r : Nat)), ?_, rfl⟩
          · have : Builtin.Int.intBits (r : Int) = r.log2 + 1 := by
              unfold Builtin.Int.intBits
              rw [if_neg (by simpa using r0), Int.natAbs_natCast]
            rw [this]
            show V.int (((r.log2 + 1 : Nat) : Int) - 1) = _
            rw [show ((r.log2 + 1 : Nat) : Int) - 1 = (r.log2 : Int) by omega]
          · have := log_lt r0 r1
            omega
          · show [_, _, some (V.int (Builtin.bitOr ((kn (T.take i) p : Nat) : Int) ((2 : Int) ^ r.log2))), _] = _
            rw [show ((2 : Int) ^ r.log2) = ((2 ^ r.log2 : Nat) : Int) by push_cast; rfl, bor]
        · rw [show r / 2 ^ p % 2 = 0 by omega, decide_eq_false (by decide), if_neg (by decide)]
          exact iteF ⟨_, rfl, rfl⟩
      · rintro σ H2 ⟨v, rfl, rfl⟩
        rw [List.take_of_length_le (Nat.le_of_eq (natV_len T).symm)]
        exact ⟨v, rfl, rfl⟩
    rintro _ H2 ⟨v, rfl, rfl⟩
    exact ⟨_, rfl, q⟩
theorem ok_comb {f fL : Addr} {fd dL : FuncData} {k : Nat} (F : Fun K "combination" "combination" sComb f fd) (FL : Fun K "_lowered" "_lowered" sLow fL dL) (bL : Binds K dL ["number", "marks", "table"] []) (gL : mg "_lowered" = some (.ref fL)) (B : Bl mg) :
    FnOk P w K mg base CX0 (k + 2) f fd ["numbers", "number"] (spComb K) := by
  have GL : FnOk P w K mg base CX0 (k + 1) fL dL ["number", "marks", "table"] spLow := ok_low FL
  refine F.ok scComb (fun vs H Q E h => ?_) (fun cdv A outer s H vs Q E hr h => ?_)
  · obtain ⟨a, ns, n, rfl, _⟩ := h
    rfl
  · obtain ⟨a, ns, n, rfl, hS, hlen, q0, q1⟩ := h
    refine ⟨_, C8.pss_cut (ps_set (i := 2) scComb.nd rfl (.inl rfl) (pe_lst pa_nil))
      (C8.pss_cut (ps_for PassesOwn.never rfl (pi_enum (by rfl) B.enum (pa_cons (pv 0) pa_nil)) (pg_tup rfl (pgs_cons (pg_name (i := 3) scComb.nd rfl (.inl rfl)) (pgs_cons (pg_name (i := 4) scComb.nd rfl (.inl rfl)) pgs_nil)))
        (C8.pss_cut (ps_asg (pe_call GL hr (by rfl) gL FL.kp bL .nil pass0 (pa_cons (pv 4) (pa_cons (pe_op op_oneShl pe_int (pv 3)) (pa_cons (pv 2) pa_nil)))) (pg_tup rfl (pgs_cons (pg_name (i := 5) scComb.nd rfl (.inl rfl)) (pgs_cons (pg_name (i := 6) scComb.nd rfl (.inr rfl)) pgs_nil))))
        (pss_one (ps_if (pt_truth (pv 5) (by intro _; rfl))
          (pss_one (ps_expr (pe_bm PySem.F.plainAttrs_list PySem.F.slot_list_append PySem.F.type_list_append mt_append (pv 2) (pa_cons (pe_tup (pa_cons (pv 5) (pa_cons (pv 6) pa_nil))) pa_nil)))) pss_nil))))
      (C8.pss_cut (ps_asg (pe_call GL hr (by rfl) gL FL.kp bL .nil pass0 (pa_cons (pv 1) (pa_cons pe_int (pa_cons (pv 2) pa_nil)))) (pg_tup rfl (pgs_cons (pg_name (i := 5) scComb.nd rfl (.inl rfl)) (pgs_cons (pg_name (i := 6) scComb.nd rfl (.inr rfl)) pgs_nil))))
      (C8.pss_cut (ps_if (pt_truth (pv 5) (by intro _; rfl)) (pss_one (ps_ret pe_non)) pss_nil)
      (pss_one (ps_ret (pe_callTy call_tuple_of (by rfl) B.tuple bootT (pa_cons (pe_lc (own := [("index", 3)]) (g := gName 3) (by rfl) scComb.nd (pi_range1 (by rfl) B.range (pa_cons (pe_callB call_len_seq (by rfl) B.len PySem.boot_len (pa_cons (pv 0) pa_nil)) pa_nil)) (blkOk_by (own := [("index", 3)]) (N := ["numbers", "number", "table", "index", "given", "rest", "marks"]) (sc := defScope sComb) (by decide +kernel))
          (fun _ _ _ _ _ => pg_name (i := 3) scComb.nd rfl (Or.inl rfl)) (fun _ _ _ _ _ => pts_tr K rfl (pe_op op_odd (pe_op op_shrN (pv 6) (pv 3)) pe_int) (by intro _; rfl)) (fun _ _ _ _ _ => pv 3)) pa_nil))))))), ?_⟩
    have off : ∀ {G : Hp} {t : Addr}, Same H G → G t = none → H t = none := fun {G t} sg n => by
      cases e : H t with
      | none => rfl
      | some o => rw [sg _ _ e] at n; cases n
    refine ⟨fun σ' H' => ∃ t, σ' = [some (.ref a), some (.int (n : Nat)), some (.ref t), none, none, none, none] ∧ Same H H' ∧ H t = none ∧ H' t = some (.lst []), ?_, ?_⟩
    · exact ⟨by show 0 ≤ sizeLine; decide, fun t nt => ⟨t, rfl, same_new nt, nt, upd_same⟩⟩
    rintro _ H1 ⟨t, rfl, s1, n0, e0⟩
    refine ⟨fun σ' H' => ∃ L v3 v4 v5 v6, σ' = [some (.ref a), some (.int (n : Nat)), some (.ref t), v3, v4, v5, v6] ∧ Same H H' ∧ H' t = some (.lst (refV L)) ∧ MkAt H' L ∧ Ec (numL L) ∧ (∀ x, Spn (numL L) x ↔ Spn ns x) ∧ (∀ p ∈ L, p.2.2 < 2 ^ ns.length ∧ sx ns p.2.2 = p.2.1), ?_, ?_⟩
    · refine ⟨_, rfl, a, _, rfl, Same.seq s1 hS, L2.for_it (walk_enum (K := K) (a := a) (xs := natV ns)) (fun i σ H' => ∃ L v3 v4 v5 v6, σ = [some (.ref a), some (.int (n : Nat)), some (.ref t), v3, v4, v5, v6] ∧ Same H H' ∧ H' t = some (.lst (refV L)) ∧ MkAt H' L ∧ Ec (numL L) ∧ (∀ x, Spn (numL L) x ↔ Spn (ns.take i) x) ∧ (∀ p ∈ L, p.2.2 < 2 ^ i ∧ sx (ns.take i) p.2.2 = p.2.1) ∧ L.length ≤ i)
        ⟨[], none, none, none, none, rfl, s1, e0, fun p z => (by cases z), ⟨fun _ z => (by cases z), List.Pairwise.nil⟩, fun x => Iff.rfl, fun p z => (by cases z), Nat.zero_le _⟩ (fun i σ H' _ ⟨_, _, _, _, _, _, s2, _⟩ => Same.seq s2 hS) ?_ ?_⟩
      · rintro i x _ H2 H3 hi ⟨L, v3, v4, v5, v6, rfl, s2, et, hM, hE, hsp, hmk, hl⟩ ⟨T, x1, x2, rfl, nT, rfl, g1, g2⟩
        cases Option.some.inj g1
        obtain ⟨g, hg, rfl⟩ := natV_at g2
        have tk := take_snoc hg
        have li : (ns.take i).length = i := by
          rw [List.length_take]
          have := (List.getElem?_eq_some_iff.mp hg).1
          omega
        have s3 := s2.trans (same_new (o := .tup [.int (i : Nat), .int (g : Nat)]) nT)
        have n3 : Same H2 (upd H2 T (.tup [.int (i : Nat), .int (g : Nat)])) := same_new nT
        have eT : (upd H2 T (.tup [.int (i : Nat), .int (g : Nat)])) T = some (.tup [.int (i : Nat), .int (g : Nat)]) := upd_same
        generalize upd H2 T (.tup [.int (i : Nat), .int (g : Nat)]) = H3 at s3 n3 eT ⊢
        refine ⟨T, _, rfl, .inl (.inl eT), rfl, _, _, rfl, _, _, rfl, rfl, ?_⟩
        refine ⟨fun σ' H' => ∃ mk, σ' = [some (.ref a), some (.int (n : Nat)), some (.ref t), some (.int (i : Nat)), some (.int (g : Nat)), some (.int (rst (numL L) g : Nat)), some (.int (mk : Nat))] ∧ Same H3 H' ∧ MkRel L g (2 ^ i) mk, ?_, ?_⟩
        · refine ⟨_, rfl, _, rfl, i, rfl, rfl, by have := (List.getElem?_eq_some_iff.mp hg).1; omega, _, rfl, g, 2 ^ i, t, L, ?_, n3 _ _ et, hM.same n3, hE.nz, fun mk H' p R s' _ e' => ⟨p, _, rfl, .inl (.inl e'), rfl, _, _, rfl, _, _, rfl, rfl, mk, rfl, s', R⟩⟩
          rw [show ((2 : Int) ^ i) = ((2 ^ i : Nat) : Int) by push_cast; rfl]
          rfl
        rintro _ H4 ⟨mk, rfl, s4, R⟩
        have e4 := s4 _ _ (n3 _ _ et)
        have lg : (ns.take i ++ [g]).length = i + 1 := by rw [List.length_append, li]; rfl
        have hφ : ∀ p ∈ L, sx (ns.take i ++ [g]) p.2.2 = p.2.1 := fun p hp => by
          obtain ⟨h1, h2⟩ := hmk p hp
          rw [sx_more (by rw [li]; exact h1), h2]
        have rel := R.lin (sx (ns.take i ++ [g])) (sx_lin _) hφ
        rw [sx_pow (by rw [lg]; omega), List.getD_eq_getElem?_getD, List.getElem?_append_right (by omega), li, Nat.sub_self] at rel
        have rel : rst (numL L) g ^^^ sx (ns.take i ++ [g]) mk = g ^^^ g := rel
        rw [Nat.xor_self] at rel
        have val : sx (ns.take i ++ [g]) mk = rst (numL L) g := by
          have : rst (numL L) g ^^^ (rst (numL L) g ^^^ sx (ns.take i ++ [g]) mk) = rst (numL L) g ^^^ 0 := by rw [rel]
          rwa [← Nat.xor_assoc, Nat.xor_self, Nat.zero_xor, Nat.xor_zero] at this
        have mlt : mk < 2 ^ (i + 1) := R.lt (i + 1) (Nat.pow_lt_pow_right (by decide) (Nat.lt_succ_self i)) fun p hp => Nat.lt_trans (hmk p hp).1 (Nat.pow_lt_pow_right (by decide) (Nat.lt_succ_self i))
        have more : ∀ p ∈ L, p.2.2 < 2 ^ (i + 1) ∧ sx (ns.take (i + 1)) p.2.2 = p.2.1 := fun p hp => ⟨Nat.lt_trans (hmk p hp).1 (Nat.pow_lt_pow_right (by decide) (Nat.lt_succ_self i)), by rw [tk]; exact hφ p hp⟩
        refine ⟨_, rfl, _, rfl, ?_⟩
        by_cases z : rst (numL L) g = 0
        · rw [z]
          exact iteF ⟨L, _, _, _, _, rfl, s3.trans s4, e4, (hM.same n3).same s4, hE, fun x => by rw [tk]; exact spn_skip hE hsp z x, more, by omega⟩
        · have nz : (((rst (numL L) g : Nat) : Int) != 0) = true := bne_iff_ne.mpr (by omega)
          rw [nz]
          refine iteT ⟨_, rfl, .inl ⟨rfl, _, SqL.of e4⟩, _, rfl, _, rfl, by show 2 ≤ sizeLine; decide, fun r nr => ⟨t, _, _, rfl, rfl, (upd_ne (ne_of_none e4 nr)).trans e4, ?_, ?_⟩⟩
          · unfold refV
            rw [List.length_map]
            have := (List.getElem?_eq_some_iff.mp hg).1
            exact Nat.lt_of_le_of_lt (by omega : _ ≤ 100) (by decide)
          · have tr : t ≠ r := ne_of_none e4 nr
            have keep : ∀ {b : Addr} {o o1 o2 : HO}, b ≠ t → H4 b = some o → (upd (upd H4 r o1) t o2) b = some o := fun hb e => by
              rw [upd_ne hb, upd_ne (ne_of_none e nr)]
              exact e
            have er : ∀ {o1 o2 : HO}, (upd (upd H4 r o1) t o2) r = some o1 := fun {_ _} => by rw [upd_ne (Ne.symm tr), upd_same]
            refine ⟨L ++ [(r, rst (numL L) g, mk)], _, _, _, _, rfl, ?_, ?_, ?_, ?_, ?_, ?_, ?_⟩
            · intro b o e
              exact keep (ne_of_none e n0) (s4 _ _ (s3 _ _ e))
            · rw [upd_same]
              unfold refV
              rw [List.map_append]
              rfl
            · intro p hp
              rcases List.mem_append.mp hp with h' | h'
              · have e := s4 _ _ (n3 _ _ (hM p h'))
                refine keep (fun y => ?_) e
                rw [y, e4] at e
                cases e
              · rw [List.mem_singleton.mp h']
                exact er
            · unfold numL
              rw [List.map_append]
              exact hE.snoc z (rst_clear hE)
            · intro x
              rw [tk]
              unfold numL
              rw [List.map_append]
              exact spn_add0 hsp x
            · intro p hp
              rcases List.mem_append.mp hp with h' | h'
              · exact more p h'
              · rw [List.mem_singleton.mp h', tk]
                exact ⟨mlt, val⟩
            · rw [List.length_append]
              show L.length + 1 ≤ i + 1
              omega
      · rintro σ H2 ⟨L, v3, v4, v5, v6, rfl, s2, et, hM, hE, hsp, hmk, hl⟩
        rw [natV_len] at hsp hmk
        rw [List.take_length] at hsp hmk
        exact ⟨L, v3, v4, v5, v6, rfl, s2, et, hM, hE, hsp, hmk⟩
    rintro _ H2 ⟨L, v3, v4, v5, v6, rfl, s2, et, hM, hE, hsp, hmk⟩
    refine ⟨fun σ' H' => ∃ mk, σ' = [some (.ref a), some (.int (n : Nat)), some (.ref t), v3, v4, some (.int (rst (numL L) n : Nat)), some (.int (mk : Nat))] ∧ Same H2 H' ∧ MkRel L n 0 mk, ?_, ?_⟩
    · exact ⟨_, rfl, _, rfl, n, 0, t, L, rfl, et, hM, hE.nz, fun mk H' p R s' _ e' => ⟨p, _, rfl, .inl (.inl e'), rfl, _, _, rfl, _, _, rfl, rfl, mk, rfl, s', R⟩⟩
    rintro _ H3 ⟨mk, rfl, s3, R⟩
    have rel := R.lin (sx ns) (sx_lin _) fun p hp => (hmk p hp).2
    rw [sx_zero, Nat.xor_zero] at rel
    have mlt : mk < 2 ^ ns.length := R.lt ns.length (Nat.two_pow_pos _) fun p hp => (hmk p hp).1
    refine ⟨fun σ' H' => σ' = [some (.ref a), some (.int (n : Nat)), some (.ref t), v3, v4, some (.int (rst (numL L) n : Nat)), some (.int (mk : Nat))] ∧ H' = H3 ∧ rst (numL L) n = 0, ?_, ?_⟩
    · refine ⟨_, rfl, _, rfl, ?_⟩
      by_cases z : rst (numL L) n = 0
      · rw [z]
        exact iteF ⟨rfl, rfl, rfl⟩
      · have nz : (((rst (numL L) n : Nat) : Int) != 0) = true := bne_iff_ne.mpr (by omega)
        rw [nz]
        exact iteT (q0 (fun y => z ((spn_rst hE n).mp ((hsp n).mpr y))) _ (s2.trans s3))
    rintro _ H4 ⟨rfl, rfl, z⟩
    rw [z, Nat.zero_xor] at rel
    refine ⟨_, rfl, a, _, rfl, .inl (Same.seq (s2.trans s3) hS), _, rfl, by rw [natV_len]; omega, by rw [natV_len]; omega, fun D nD => ?_⟩
    rw [natV_len, Int.toNat_natCast]
    refine lc_range (lo := 0) (n := ns.length) (Pv := fun i Hc => Hc D = some (.lst (natV ((List.range i).filter (mk.testBit ·)))) ∧ Same H4 Hc) ⟨upd_same, same_new nD⟩ ?_ ?_
    · rintro i Hc hi ⟨eD, sc⟩
      refine ⟨rfl, _, rfl, _, rfl, (mk : Int), i, rfl, ?_, mk / 2 ^ i, by push_cast; rfl, rfl, _, rfl, ?_⟩
      · show V.int (0 + (i : Nat)) = _
        rw [Int.zero_add]
      · have bit := Nat.testBit_eq_decide_div_mod_eq (x := mk) (i := i)
        have rs : List.range (i + 1) = List.range i ++ [i] := List.range_succ
        by_cases c : mk / 2 ^ i % 2 = 1
        · rw [c]
          refine iteT ⟨_, rfl, _, eD, ?_, ?_, ?_⟩
          · rw [natV_len]
            have := List.length_filter_le (mk.testBit ·) (List.range i)
            rw [List.length_range] at this
            exact Nat.lt_of_le_of_lt (by omega : _ ≤ 100) (by decide)
          · rw [upd_same, rs, List.filter_append, List.filter_cons_of_pos (by rw [bit, decide_eq_true c]), List.filter_nil, natV_app]
            show some (HO.lst (_ ++ [V.int (0 + (i : Nat))])) = _
            rw [Int.zero_add]
            rfl
          · intro b o e
            rw [upd_ne (ne_of_none e nD)]
            exact sc _ _ e
        · rw [show mk / 2 ^ i % 2 = 0 by omega]
          refine iteF ⟨?_, sc⟩
          rw [rs, List.filter_append, List.filter_cons_of_neg (by rw [bit, decide_eq_false c]; decide), List.filter_nil, List.append_nil]
          exact eD
    · rintro Hc ⟨eD, sc⟩
      refine ⟨D, _, rfl, .inl ⟨SqL.of eD, fun l nl => ?_⟩⟩
      exact q1 mk _ l mlt rel ((s2.trans s3).trans (sc.trans (same_new nl))) (off ((s2.trans s3).trans sc) nl) upd_same
end
end KQ

namespace KQ
open PySem PySem.Spec PyProof.Rows L2
/-! ### rows -/
abbrev Rws := List (Addr × Nat)
def refs (L : Rws) : List V := L.map fun p => V.ref p.1
def nums (L : Rws) : List Nat := L.map fun p => p.2
theorem refs_len (L : Rws) : (refs L).length = L.length := List.length_map ..
theorem refs_at {L : Rws} {i : Nat} {v : V} (h : (refs L)[i]? = some v) : ∃ p, L[i]? = some p ∧ v = .ref p.1 := by
  unfold refs at h
  rw [List.getElem?_map] at h
  obtain ⟨p, hp, rfl⟩ := Option.map_eq_some_iff.mp h
  exact ⟨p, hp, rfl⟩
def RowsAt (H : Hp) (W : Nat) (L : Rws) : Prop := ∀ p ∈ L, TupIs H p.1 (rowV W p.2) ∧ p.2 < 2 ^ W
def RowsFz (H : Hp) (W : Nat) (L : Rws) : Prop := ∀ p ∈ L, FzT H p.1 (rowV W p.2) ∧ p.2 < 2 ^ W
theorem RowsFz.rows {H : Hp} {W : Nat} {L : Rws} (h : RowsFz H W L) : RowsAt H W L := fun p hp => ⟨.inr (h p hp).1, (h p hp).2⟩
theorem RowsFz.same {H H' : Hp} {W : Nat} {L : Rws} (s : Same H H') (h : RowsFz H W L) : RowsFz H' W L := fun p hp => ⟨(h p hp).1.same s, (h p hp).2⟩
theorem RowsAt.same {H H' : Hp} {W : Nat} {L : Rws} (s : Same H H') (h : RowsAt H W L) : RowsAt H' W L := fun p hp => ⟨(h p hp).1.same s, (h p hp).2⟩
theorem off_of {H G : Hp} {t : Addr} (sg : Same H G) (n : G t = none) : H t = none := by
  cases e : H t with
  | none => rfl
  | some o => rw [sg _ _ e] at n; cases n
theorem same_put {H H' : Hp} {D : Addr} {o : HO} (s : Same H H') (n : H D = none) : Same H (upd H' D o) := fun b u e => by
  rw [upd_ne (ne_of_none e n)]
  exact s _ _ e
/-- [number_of(row) for row in rows] -/
theorem nums_lc {K : PySem.W.Frag} {L : Rws} {W i j : Nat} {a : Addr} {σ : L2.St} {H : Hp} {Q : VK} {E : XK} (hi : σ[i]? = some (some (.ref a))) (hj : j < σ.length) (hS : SqLT K H a (refs L)) (hR : RowsAt H W L) (hl : L.length ≤ 100)
    (q : ∀ D H', Same H H' → H D = none → H' D = some (.lst (natV (nums L))) → Q (.ref D) H') :
    tLc (iSeq K (tVar i)) (gName j) tYes (tCall spNum [] E (tCons (tVar j) tNil)) [j] σ H Q := by
  refine ⟨_, hi, a, refs L, rfl, hS, fun J S hJ s0 sk D nD => ?_⟩
  refine lc_sq hJ (Pv := fun k Hc => Hc D = some (.lst (natV ((nums L).take k))) ∧ Same H Hc) ⟨upd_same, same_new nD⟩ (fun k Hc ⟨_, sc⟩ => sk _ _ sc s0) ?_ ?_
  · rintro k x Hc hk ⟨eD, sc⟩
    obtain ⟨p, hp, rfl⟩ := refs_at hk
    have hn : (nums L)[k]? = some p.2 := by
      unfold nums
      rw [List.getElem?_map, hp]
      rfl
    obtain ⟨h1, h2⟩ := hR p (List.mem_of_getElem? hp)
    refine ⟨by show ((List.set (List.set σ j none) j _).set j none) = List.set σ j none; rw [List.set_set, List.set_set], ?_⟩
    refine ⟨_, List.getElem?_set_self (by show j < (List.set σ j none).length; rw [List.length_set]; exact hj), p.1, W, p.2, rfl, h1.same sc, h2, _, eD, ?_, ?_, same_put sc nD⟩
    · rw [natV_len, List.length_take]
      unfold nums
      rw [List.length_map]
      exact Nat.lt_of_le_of_lt (by omega : _ ≤ 100) (by decide)
    · rw [upd_same, take_snoc hn, natV_app]
      rfl
  · rintro Hc ⟨eD, sc⟩
    rw [List.take_of_length_le (by unfold nums; rw [refs_len, List.length_map]; exact Nat.le_refl _)] at eD
    exact q D _ sc nD eD
def tNums (K : PySem.W.Frag) (i j : Nat) : TE := fun σ H Q => ∃ (a : Addr) (L : Rws) (W : Nat), σ[i]? = some (some (.ref a)) ∧ j < σ.length ∧ SqLT K H a (refs L) ∧ RowsAt H W L ∧ L.length ≤ 100 ∧ ∀ D H', Same H H' → H D = none → H' D = some (.lst (natV (nums L))) → Q (.ref D) H'
theorem pe_weak {X : Cx} {e : Expr} {te te' : TE} (h : PE X e te) (le : ∀ σ H Q, te' σ H Q → te σ H Q) : PE X e te' := ⟨fun pins s σ H Q I q => h.run pins s σ H Q I (le σ H Q q)⟩
theorem pe_nums {X : Cx} {e : Expr} {i j : Nat} {E : XK} (h : PE X e (tLc (iSeq X.K (tVar i)) (gName j) tYes (tCall spNum [] E (tCons (tVar j) tNil)) [j])) : PE X e (tNums X.K i j) :=
  pe_weak h fun _ _ _ ⟨_, _, _, h1, h2, h3, h4, h5, q⟩ => nums_lc h1 h2 h3 h4 h5 q
theorem rIx_of {K : PySem.W.Frag} {a : Addr} {xs : List V} {i : Int} {v : V} {H : Hp} {Q : VK} (h : SqLT K H a xs) (e : atI xs i = some v) (q : Q v H) : rIx K (.ref a) (.int i) H Q :=
  h.elim (fun z => .inl ⟨a, xs, i, v, rfl, rfl, z, e, q⟩) fun z => .inr (.inl ⟨a, xs, i, v, rfl, rfl, z, e, q⟩)
theorem Tab.len {W : Nat} {ms : List Nat} (t : Tab W ms) : ms.length ≤ W := by
  have := free_len t.red.ec t.lt
  omega
def spRedB (K : PySem.W.Frag) : Sp := fun vs H Q _ => ∃ (a : Addr) (L : Rws) (W : Nat), vs = [.ref a] ∧ SqLT K H a (refs L) ∧ RowsAt H W L ∧ L.length ≤ 100 ∧ W ≤ 100 ∧
  ∀ p H' (M : Rws), Same H H' → H p = none → H' p = some (.tup (refs M)) → RowsFz H' W M → Tab W (nums M) → (∀ x, Spn (nums M) x ↔ Spn (nums L) x) → M.length ≤ 100 → Q (.ref p) H'
def spRank (K : PySem.W.Frag) : Sp := fun vs H Q _ => ∃ (a : Addr) (L : Rws) (W : Nat), vs = [.ref a] ∧ SqLT K H a (refs L) ∧ RowsAt H W L ∧ L.length ≤ 100 ∧
  ∀ H' ms, Same H H' → Ec ms → (∀ x, Spn ms x ↔ Spn (nums L) x) → Q (.int (ms.length : Nat)) H'
def spCombd (K : PySem.W.Frag) : Sp := fun vs H Q _ => ∃ (a b : Addr) (L : Rws) (W n : Nat), vs = [.ref a, .ref b] ∧ SqLT K H a (refs L) ∧ RowsAt H W L ∧ L.length ≤ 100 ∧ TupIs H b (rowV W n) ∧ n < 2 ^ W ∧ (¬ Spn (nums L) n → ∀ H', Same H H' → Q .non H') ∧
  (∀ mk H' p, mk < 2 ^ L.length → sx (nums L) mk = n → Same H H' → H p = none → H' p = some (.tup (natV ((List.range L.length).filter (mk.testBit ·)))) → Q (.ref p) H')
theorem scRedB : FnScope ["rows", "numbers", "row", "number"] ["rows"] (defScope sRedB) := ⟨rfl, rfl, rfl, by decide +kernel, rfl, by decide +kernel, by decide +kernel⟩
theorem scRank : FnScope ["rows", "row"] ["rows"] (defScope sRank) := ⟨rfl, rfl, rfl, by decide +kernel, rfl, by decide +kernel, by decide +kernel⟩
theorem scCombd : FnScope ["rows", "row", "given"] ["rows", "row"] (defScope sCombd) := ⟨rfl, rfl, rfl, by decide +kernel, rfl, by decide +kernel, by decide +kernel⟩
theorem nums_len (L : Rws) : (nums L).length = L.length := List.length_map ..
theorem RowsAt.lt {H : Hp} {W : Nat} {L : Rws} (h : RowsAt H W L) : ∀ n ∈ nums L, n < 2 ^ W := fun n hn => by
  obtain ⟨p, hp, rfl⟩ := List.mem_map.mp hn
  exact (h p hp).2
theorem spn_nil {x : Nat} (h : Spn [] x) : x = 0 := h (fun x => x = 0) ⟨rfl, fun x y a b => by show x ^^^ y = 0; rw [show x = 0 from a, show y = 0 from b]; rfl⟩ fun _ z => (by cases z)
section
variable {P : Program} {w : World} {K : PySem.W.Frag} {mg : Str → Option Value} {base : Heap}
theorem ok_rank {f fN fR fRB : Addr} {fd dN dR dRB : FuncData} {k : Nat} (F : Fun K "bit_rank" "bit_rank" sRank f fd) (FN : Fun K "_number_of" "_number_of" sNum fN dN) (bN : Binds K dN ["row"] []) (gN : mg "_number_of" = some (.ref fN))
    (FR : Fun K "reduced_numbers" "reduced_numbers" sRedN fR dR) (bR : Binds K dR ["numbers"] []) (gR : mg "reduced_numbers" = some (.ref fR)) (FRB : Fun K "rest_by" "rest_by" sRestBy fRB dRB) (bRB : Binds K dRB ["number", "table"] []) (gRB : mg "rest_by" = some (.ref fRB)) (B : Bl mg) :
    FnOk P w K mg base CX0 (k + 3) f fd ["rows"] (spRank K) := by
  have GN : FnOk P w K mg base CX0 (k + 2) fN dN ["row"] spNum := ok_num FN
  have GR : FnOk P w K mg base CX0 (k + 2) fR dR ["numbers"] (spRedN K) := ok_redn FR FRB bRB gRB B
  refine F.ok scRank (fun vs H Q E h => ?_) (fun cdv A outer s H vs Q E hr h => ?_)
  · obtain ⟨a, L, W, rfl, _⟩ := h
    rfl
  · obtain ⟨a, L, W, rfl, hS, hR, hl, q⟩ := h
    refine ⟨_, pss_one (ps_ret (pe_callB call_len_seq (by rfl) B.len PySem.boot_len (pa_cons (pe_call GR hr (by rfl) gR FR.kp bR .nil pass0 (pa_cons
      (pe_nums (j := 1) (pe_lc (own := [("row", 1)]) (g := gName 1) (by rfl) scRank.nd (pi_seq (pv 0)) (blkOk_by (own := [("row", 1)]) (N := ["rows", "row"]) (sc := defScope sRank) (by decide +kernel))
          (fun _ _ _ _ _ => pg_name (i := 1) scRank.nd rfl (Or.inl rfl)) (fun _ _ _ _ _ => pts_nil) (fun _ _ _ _ _ => pe_call GN hr (by rfl) gN FN.kp bN .nil pass0 (pa_cons (pv 1) pa_nil)))) pa_nil)) pa_nil))), ?_⟩
    refine ⟨a, L, W, rfl, show 1 < 2 by decide, hS, hR, hl, fun D H1 s1 nD eD => ?_⟩
    refine ⟨D, nums L, rfl, SqL.of eD, by rw [nums_len]; exact hl, fun p ms H2 s2 np ep R ds sp bd _ => ?_⟩
    refine ⟨p, _, rfl, .inl (SqL.of ep), ?_⟩
    rw [natV_len]
    exact q H2 ms (s1.trans s2) R.ec sp
theorem ok_combd {f fN fC fL : Addr} {fd dN dC dL : FuncData} {k : Nat} (F : Fun K "combined" "combined" sCombd f fd) (FN : Fun K "_number_of" "_number_of" sNum fN dN) (bN : Binds K dN ["row"] []) (gN : mg "_number_of" = some (.ref fN))
    (FC : Fun K "combination" "combination" sComb fC dC) (bC : Binds K dC ["numbers", "number"] []) (gC : mg "combination" = some (.ref fC)) (FL : Fun K "_lowered" "_lowered" sLow fL dL) (bL : Binds K dL ["number", "marks", "table"] []) (gL : mg "_lowered" = some (.ref fL)) (B : Bl mg) :
    FnOk P w K mg base CX0 (k + 3) f fd ["rows", "row"] (spCombd K) := by
  have GN : FnOk P w K mg base CX0 (k + 2) fN dN ["row"] spNum := ok_num FN
  have GC : FnOk P w K mg base CX0 (k + 2) fC dC ["numbers", "number"] (spComb K) := ok_comb FC FL bL gL B
  refine F.ok scCombd (fun vs H Q E h => ?_) (fun cdv A outer s H vs Q E hr h => ?_)
  · obtain ⟨a, b, L, W, n, rfl, _⟩ := h
    rfl
  · obtain ⟨a, b, L, W, n, rfl, hS, hR, hl, hb, hn, q0, q1⟩ := h
    refine ⟨_, pss_one (ps_ret (pe_call GC hr (by rfl) gC FC.kp bC .nil pass0 (pa_cons
      (pe_nums (j := 2) (pe_lc (own := [("given", 2)]) (g := gName 2) (by rfl) scCombd.nd (pi_seq (pv 0)) (blkOk_by (own := [("given", 2)]) (N := ["rows", "row", "given"]) (sc := defScope sCombd) (by decide +kernel))
          (fun _ _ _ _ _ => pg_name (i := 2) scCombd.nd rfl (Or.inl rfl)) (fun _ _ _ _ _ => pts_nil) (fun _ _ _ _ _ => pe_call GN hr (by rfl) gN FN.kp bN .nil pass0 (pa_cons (pv 2) pa_nil))))
      (pa_cons (pe_call GN hr (by rfl) gN FN.kp bN .nil pass0 (pa_cons (pv 1) pa_nil)) pa_nil)))), ?_⟩
    refine ⟨a, L, W, rfl, show 2 < 3 by decide, hS, hR, hl, fun D H1 s1 nD eD => ?_⟩
    refine ⟨_, rfl, b, W, n, rfl, hb.same s1, hn, D, nums L, n, rfl, SqL.of eD, by rw [nums_len]; exact hl, fun no H' s' => q0 no H' (s1.trans s'), fun mk H' p lt e s' np ep => ?_⟩
    rw [nums_len] at lt ep
    exact q1 mk H' p lt e (s1.trans s') (off_of s1 np) ep
theorem rows_tup {H : Hp} {W : Nat} {L : Rws} (D : Addr) (h : RowsAt H W L) : RowsAt H W L := h
/-- tuple([bits_of(number, ..) for number in numbers]): what has been laid -/
theorem Tab.of {W : Nat} {ms : List Nat} (R : Red ms) (ds : ms.Pairwise (· > ·)) (bd : ∀ m ∈ ms, m < 2 ^ W) : Tab W ms := ⟨R, bd, ds⟩
theorem ok_redb {f fN fR fRB fB : Addr} {fd dN dR dRB dB : FuncData} {k : Nat} (F : Fun K "reduced_bits" "reduced_bits" sRedB f fd) (FN : Fun K "_number_of" "_number_of" sNum fN dN) (bN : Binds K dN ["row"] []) (gN : mg "_number_of" = some (.ref fN))
    (FR : Fun K "reduced_numbers" "reduced_numbers" sRedN fR dR) (bR : Binds K dR ["numbers"] []) (gR : mg "reduced_numbers" = some (.ref fR)) (FRB : Fun K "rest_by" "rest_by" sRestBy fRB dRB) (bRB : Binds K dRB ["number", "table"] []) (gRB : mg "rest_by" = some (.ref fRB))
    (FB : Fun K "_bits_of" "_bits_of" sBits fB dB) (bB : Binds K dB ["number", "width"] []) (gB : mg "_bits_of" = some (.ref fB)) (B : Bl mg) :
    FnOk P w K mg base CX0 (k + 3) f fd ["rows"] (spRedB K) := by
  have GN : FnOk P w K mg base CX0 (k + 2) fN dN ["row"] spNum := ok_num FN
  have GR : FnOk P w K mg base CX0 (k + 2) fR dR ["numbers"] (spRedN K) := ok_redn FR FRB bRB gRB B
  have GB : FnOk P w K mg base CX0 (k + 2) fB dB ["number", "width"] spBits := ok_bits FB B
  refine F.ok scRedB (fun vs H Q E h => ?_) (fun cdv A outer s H vs Q E hr h => ?_)
  · obtain ⟨a, L, W, rfl, _⟩ := h
    rfl
  · obtain ⟨a, L, W, rfl, hS, hR, hl, hW, q⟩ := h
    refine ⟨_, C8.pss_cut (ps_set (i := 1) scRedB.nd rfl (.inl rfl) (pe_call GR hr (by rfl) gR FR.kp bR .nil pass0 (pa_cons
      (pe_nums (j := 2) (pe_lc (own := [("row", 2)]) (g := gName 2) (by rfl) scRedB.nd (pi_seq (pv 0)) (blkOk_by (own := [("row", 2)]) (N := ["rows", "numbers", "row", "number"]) (sc := defScope sRedB) (by decide +kernel))
          (fun _ _ _ _ _ => pg_name (i := 2) scRedB.nd rfl (Or.inl rfl)) (fun _ _ _ _ _ => pts_nil) (fun _ _ _ _ _ => pe_call GN hr (by rfl) gN FN.kp bN .nil pass0 (pa_cons (pv 2) pa_nil)))) pa_nil)))
      (pss_one (ps_ret (pe_callTy call_tuple_of (by rfl) B.tuple bootT (pa_cons (pe_lc (own := [("number", 3)]) (g := gName 3) (by rfl) scRedB.nd (pi_list (pv 1)) (blkOk_by (own := [("number", 3)]) (N := ["rows", "numbers", "row", "number"]) (sc := defScope sRedB) (by decide +kernel))
          (fun _ _ _ _ _ => pg_name (i := 3) scRedB.nd rfl (Or.inl rfl)) (fun _ _ _ _ _ => pts_nil) (fun _ _ _ _ _ => pe_call GB hr (by rfl) gB FB.kp bB .nil pass0 (pa_cons (pv 3) (pa_cons (pe_callB (r := fun xs H Q => ∃ p ys, xs = [.ref p] ∧ (SqL K H p ys ∨ SqT K H p ys) ∧ Q (.int ys.length) H) call_len_seq (by rfl) B.len PySem.boot_len (pa_cons (pe_ix (r := rIx K) ix_seq (pv 0) pe_int (fun _ _ => rfl)) pa_nil)) pa_nil)))) pa_nil)))), ?_⟩
    refine ⟨fun σ' H' => ∃ D ms, σ' = [some (.ref a), some (.ref D), none, none] ∧ Same H H' ∧ H' D = some (.lst (natV ms)) ∧ Tab W ms ∧ (∀ x, Spn ms x ↔ Spn (nums L) x) ∧ ms.length ≤ 100, ?_, ?_⟩
    · refine ⟨a, L, W, rfl, show 2 < 4 by decide, hS, hR, hl, fun D H1 s1 nD eD => ?_⟩
      refine ⟨D, nums L, rfl, SqL.of eD, by rw [nums_len]; exact hl, fun p ms H2 s2 np ep R ds sp bd _ => ⟨p, ms, rfl, s1.trans s2, ep, ⟨R, bd W hR.lt, ds⟩, sp, Nat.le_trans (Tab.len (W := W) ⟨R, bd W hR.lt, ds⟩) hW⟩⟩
    rintro _ H1 ⟨D, ms, rfl, s1, eD, tb, sp, lm⟩
    refine ⟨_, rfl, D, rfl, ⟨_, SqL.of eD⟩, fun G nG => ?_⟩
    refine lc_list (K := K) (a := D) (xs := natV ms) (Pv := fun i Hc => ∃ M : Rws, nums M = ms.take i ∧ Hc G = some (.lst (refs M)) ∧ RowsFz Hc W M ∧ Same H1 Hc) ⟨[], (List.take_zero).symm, upd_same, fun p z => (by cases z), same_new nG⟩ (fun i Hc _ ⟨_, _, _, _, sc⟩ => SqL.of (sc _ _ eD)) ?_ ?_
    · rintro i v Hc hi ⟨M, eM, eG, rM, sc⟩
      obtain ⟨m, hm, rfl⟩ := natV_at hi
      have mm := List.mem_of_getElem? hm
      obtain ⟨p0, h0⟩ : ∃ p0, L[0]? = some p0 := by
        cases hL : L with
        | nil =>
          rw [hL] at sp
          exact absurd (spn_nil ((sp m).mp (spn_mem mm))) (tb.red.nz m mm)
        | cons p0 L' => exact ⟨p0, rfl⟩
      have hp0 := hR p0 (List.mem_of_getElem? h0)
      have st := s1.trans sc
      have il : i < 100 := by
        have := (List.getElem?_eq_some_iff.mp hm).1
        omega
      have lM : M.length = i := by
        rw [← nums_len, eM, List.length_take]
        have := (List.getElem?_eq_some_iff.mp hm).1
        omega
      have ea : atI (refs L) 0 = some (V.ref p0.1) := by
        refine at_of (j := 0) rfl ?_
        unfold refs
        rw [List.getElem?_map, h0]
        rfl
      refine ⟨rfl, _, rfl, _, rfl, rIx_of (SqLT.same st hS) ea ⟨p0.1, rowV W p0.2, rfl, .inr (hp0.1.same st).sq, m, W, ?_, hW, fun r H' s' nr er => ?_⟩⟩
      · rw [rowV_len]
        rfl
      · have nrG : r ≠ G := fun y => by rw [y, eG] at nr; cases nr
        refine ⟨_, s' _ _ eG, ?_, M ++ [(r, m)], ?_, ?_, ?_, ?_⟩
        · rw [refs_len, lM]
          exact Nat.lt_trans il (by decide)
        · rw [take_snoc hm, ← eM]
          exact List.map_append ..
        · rw [upd_same]
          unfold refs
          rw [List.map_append]
          rfl
        · intro p hp
          rcases List.mem_append.mp hp with h' | h'
          · obtain ⟨z1, z2⟩ := rM p h'
            obtain ⟨o, z3, z4, z5⟩ := z1
            refine ⟨⟨o, z3, z4, ?_⟩, z2⟩
            have z6 := s' _ _ z5
            rw [upd_ne (fun y => by rw [y, s' _ _ eG] at z6; cases z6)]
            exact z6
          · rw [List.mem_singleton.mp h']
            obtain ⟨o, z3, z4, z5⟩ := er
            refine ⟨⟨o, z3, z4, ?_⟩, tb.lt m mm⟩
            rw [upd_ne nrG]
            exact z5
        · exact same_put (sc.trans s') nG
    · rintro Hc ⟨M, eM, eG, rM, sc⟩
      rw [List.take_of_length_le (Nat.le_of_eq (natV_len ms).symm)] at eM
      refine ⟨G, _, rfl, .inl ⟨SqL.of eG, fun l nl => ?_⟩⟩
      refine q l _ M ((s1.trans sc).trans (same_new nl)) (off_of (s1.trans sc) nl) upd_same (rM.same (same_new nl)) (by rw [eM]; exact tb) (fun x => by rw [eM]; exact sp x) ?_
      rw [← nums_len, eM]
      exact lm
theorem scKern : FnScope ["rows", "width", "table", "pivots", "found", "place", "row", "number"] ["rows", "width"] (defScope sKern) := ⟨rfl, rfl, rfl, by decide +kernel, rfl, by decide +kernel, by decide +kernel⟩
def spKern (K : PySem.W.Frag) : Sp := fun vs H Q _ => ∃ (a : Addr) (L : Rws) (W : Nat), vs = [.ref a, .int (W : Nat)] ∧ SqLT K H a (refs L) ∧ RowsAt H W L ∧ L.length ≤ 100 ∧ W ≤ 100 ∧
  ∀ p H' (M : Rws), Same H H' → H p = none → H' p = some (.tup (refs M)) → RowsFz H' W M → Tab W (nums M) → (∀ x ∈ nums M, ∀ y ∈ nums L, par W x y = 0) → (∀ T, Ec T → (∀ x, Spn T x ↔ Spn (nums L) x) → M.length + T.length = W) → Q (.ref p) H'
theorem ok_kern {f fN fR fRB fB fK : Addr} {fd dN dR dRB dB dK : FuncData} {k : Nat} (F : Fun K "kernel_bits" "kernel_bits" sKern f fd) (FN : Fun K "_number_of" "_number_of" sNum fN dN) (bN : Binds K dN ["row"] []) (gN : mg "_number_of" = some (.ref fN))
    (FR : Fun K "reduced_numbers" "reduced_numbers" sRedN fR dR) (bR : Binds K dR ["numbers"] []) (gR : mg "reduced_numbers" = some (.ref fR)) (FRB : Fun K "rest_by" "rest_by" sRestBy fRB dRB) (bRB : Binds K dRB ["number", "table"] []) (gRB : mg "rest_by" = some (.ref fRB))
    (FB : Fun K "_bits_of" "_bits_of" sBits fB dB) (bB : Binds K dB ["number", "width"] []) (gB : mg "_bits_of" = some (.ref fB)) (FK : Fun K "_kernel_number" "_kernel_number" sKnum fK dK) (bK : Binds K dK ["table", "place"] []) (gK : mg "_kernel_number" = some (.ref fK)) (B : Bl mg) :
    FnOk P w K mg base CX0 (k + 3) f fd ["rows", "width"] (spKern K) := by
  have GN : FnOk P w K mg base CX0 (k + 2) fN dN ["row"] spNum := ok_num FN
  have GR : FnOk P w K mg base CX0 (k + 2) fR dR ["numbers"] (spRedN K) := ok_redn FR FRB bRB gRB B
  have GB : FnOk P w K mg base CX0 (k + 2) fB dB ["number", "width"] spBits := ok_bits FB B
  have GK : FnOk P w K mg base CX0 (k + 2) fK dK ["table", "place"] spKnum := ok_knum FK
  refine F.ok scKern (fun vs H Q E h => ?_) (fun cdv A outer s H vs Q E hr h => ?_)
  · obtain ⟨a, L, W, rfl, _⟩ := h
    rfl
  · obtain ⟨a, L, W, rfl, hS, hR, hl, hW, q⟩ := h
    refine ⟨_, C8.pss_cut (ps_set (i := 2) scKern.nd rfl (.inl rfl) (pe_call GR hr (by rfl) gR FR.kp bR .nil pass0 (pa_cons
      (pe_nums (j := 6) (pe_lc (own := [("row", 6)]) (g := gName 6) (by rfl) scKern.nd (pi_seq (pv 0)) (blkOk_by (own := [("row", 6)]) (N := ["rows", "width", "table", "pivots", "found", "place", "row", "number"]) (sc := defScope sKern) (by decide +kernel))
          (fun _ _ _ _ _ => pg_name (i := 6) scKern.nd rfl (Or.inl rfl)) (fun _ _ _ _ _ => pts_nil) (fun _ _ _ _ _ => pe_call GN hr (by rfl) gN FN.kp bN .nil pass0 (pa_cons (pv 6) pa_nil)))) pa_nil)))
      (C8.pss_cut (ps_setLc (i := 3) (own := [("number", 7)]) (g := gName 7) (by rfl) scKern.nd rfl rfl (sw_true rfl rfl rfl (by decide +kernel)) (pi_list (pv 2)) (blkOk_by (own := [("number", 7)]) (N := ["rows", "width", "table", "pivots", "found", "place", "row", "number"]) (sc := defScope sKern) (by decide +kernel))
          (fun _ _ _ _ _ => pg_name (i := 7) scKern.nd rfl (Or.inl rfl)) (fun _ _ _ _ _ => pts_nil) (fun _ _ _ _ _ => pe_op op_sub (pe_bits (pv 7)) pe_int))
      (C8.pss_cut (ps_set (i := 4) scKern.nd rfl (.inl rfl) (pe_lst pa_nil))
      (C8.pss_cut (ps_for PassesOwn.never rfl (pi_range1 (by rfl) B.range (pa_cons (pv 1) pa_nil)) (pg_name (i := 5) scKern.nd rfl (.inl rfl))
        (pss_one (ps_if (pt_cmpR op_notIn_seq (pv 5) (pv 3) (by rfl))
          (pss_one (ps_expr (pe_bm PySem.F.plainAttrs_list PySem.F.slot_list_append PySem.F.type_list_append mt_append (pv 4) (pa_cons (pe_call GK hr (by rfl) gK FK.kp bK .nil pass0 (pa_cons (pv 2) (pa_cons (pv 5) pa_nil))) pa_nil)))) pss_nil)))
      (pss_one (ps_ret (pe_callTy call_tuple_of (by rfl) B.tuple bootT (pa_cons (pe_lc (own := [("number", 7)]) (g := gName 7) (by rfl) scKern.nd (pi_list (pe_call GR hr (by rfl) gR FR.kp bR .nil pass0 (pa_cons (pv 4) pa_nil))) (blkOk_by (own := [("number", 7)]) (N := ["rows", "width", "table", "pivots", "found", "place", "row", "number"]) (sc := defScope sKern) (by decide +kernel))
          (fun _ _ _ _ _ => pg_name (i := 7) scKern.nd rfl (Or.inl rfl)) (fun _ _ _ _ _ => pts_nil) (fun _ _ _ _ _ => pe_call GB hr (by rfl) gB FB.kp bB .nil pass0 (pa_cons (pv 7) (pa_cons (pv 1) pa_nil)))) pa_nil))))))), ?_⟩
    refine ⟨fun σ' H' => ∃ D ms, σ' = [some (.ref a), some (.int (W : Nat)), some (.ref D), none, none, none, none, none] ∧ Same H H' ∧ H' D = some (.lst (natV ms)) ∧ Tab W ms ∧ (∀ x, Spn ms x ↔ Spn (nums L) x), ?_, ?_⟩
    · refine ⟨a, L, W, rfl, show 6 < 8 by decide, hS, hR, hl, fun D H1 s1 nD eD => ?_⟩
      exact ⟨D, nums L, rfl, SqL.of eD, by rw [nums_len]; exact hl, fun p ms H2 s2 np ep R ds sp bd _ => ⟨p, ms, rfl, s1.trans s2, ep, ⟨R, bd W hR.lt, ds⟩, sp⟩⟩
    rintro _ H1 ⟨D, ms, rfl, s1, eD, tb, sp⟩
    have lm := Nat.le_trans tb.len hW
    refine ⟨fun σ' H' => ∃ G, σ' = [some (.ref a), some (.int (W : Nat)), some (.ref D), some (.ref G), none, none, none, none] ∧ Same H1 H' ∧ H' G = some (.lst (natV (ms.map Nat.log2))), ?_, ?_⟩
    · refine ⟨_, rfl, D, rfl, ⟨_, SqL.of eD⟩, fun G nG => ?_⟩
      refine lc_list (K := K) (a := D) (xs := natV ms) (Pv := fun i Hc => Hc G = some (.lst (natV ((ms.map Nat.log2).take i))) ∧ Same H1 Hc) ⟨upd_same, same_new nG⟩ (fun i Hc _ ⟨_, sc⟩ => SqL.of (sc _ _ eD)) ?_ ?_
      · rintro i v Hc hi ⟨eG, sc⟩
        obtain ⟨m, hm, rfl⟩ := natV_at hi
        have m0 := tb.red.nz m (List.mem_of_getElem? hm)
        have hm' : (ms.map Nat.log2)[i]? = some m.log2 := by
          rw [List.getElem?_map, hm]
          rfl
        refine ⟨rfl, _, rfl, _, rfl, _, _, rfl, rfl, _, eG, ?_, ?_, same_put sc nG⟩
        · rw [natV_len, List.length_take, List.length_map]
          exact Nat.lt_of_le_of_lt (by omega : _ ≤ 100) (by decide)
        · rw [upd_same, take_snoc hm', natV_app]
          have e1 : Builtin.Int.intBits (m : Int) = m.log2 + 1 := by
            unfold Builtin.Int.intBits
            rw [if_neg (by simpa using m0), Int.natAbs_natCast]
          show some (HO.lst (_ ++ [V.int (((Builtin.Int.intBits (m : Int) : Nat) : Int) - 1)])) = _
          rw [e1, show ((m.log2 + 1 : Nat) : Int) - 1 = (m.log2 : Int) by omega]
          rfl
      · rintro Hc ⟨eG, sc⟩
        rw [List.take_of_length_le (by rw [natV_len, List.length_map]; exact Nat.le_refl _)] at eG
        exact ⟨G, rfl, sc, eG⟩
    rintro _ H2 ⟨G, rfl, s2, eG⟩
    refine ⟨fun σ' H' => ∃ t, σ' = [some (.ref a), some (.int (W : Nat)), some (.ref D), some (.ref G), some (.ref t), none, none, none] ∧ Same H2 H' ∧ H2 t = none ∧ H' t = some (.lst []), ?_, ?_⟩
    · exact ⟨by show 0 ≤ sizeLine; decide, fun t nt => ⟨t, rfl, same_new nt, nt, upd_same⟩⟩
    rintro _ H3 ⟨t, rfl, s3, n3, e3⟩
    refine ⟨fun σ' H' => ∃ v5, σ' = [some (.ref a), some (.int (W : Nat)), some (.ref D), some (.ref G), some (.ref t), v5, none, none] ∧ Same H2 H' ∧ H' t = some (.lst (natV ((free ms W).map (kn ms)))), ?_, ?_⟩
    · refine ⟨_, rfl, _, rfl, by omega, by omega, for_range (lo := 0) (n := W) (fun i σ H' => ∃ v5, σ = [some (.ref a), some (.int (W : Nat)), some (.ref D), some (.ref G), some (.ref t), v5, none, none] ∧ Same H2 H' ∧ H' t = some (.lst (natV ((free ms i).map (kn ms))))) ⟨none, rfl, s3, e3⟩ ?_ ?_⟩
      · rintro i σ H4 hi ⟨v5, rfl, s4, e4⟩
        have inv : inV (.int (0 + (i : Nat))) (natV (ms.map Nat.log2)) = (ms.map Nat.log2).contains i := by
          rw [Int.zero_add]
          unfold inV natV
          rw [List.any_map]
          rw [Bool.eq_iff_iff, List.any_eq_true, List.contains_iff_mem]
          constructor
          · rintro ⟨x, hx, e⟩
            have e' : x = i := by
              have : eqV (V.int (x : Nat)) (V.int (i : Nat)) = true := e
              unfold eqV at this
              have z : ((x : Nat) : Int) = ((i : Nat) : Int) := by simpa using this
              omega
            rw [← e']
            exact hx
          · intro hx
            refine ⟨i, hx, ?_⟩
            show eqV (V.int (i : Nat)) (V.int (i : Nat)) = true
            unfold eqV
            simp
        refine ⟨_, rfl, _, rfl, G, natV (ms.map Nat.log2), rfl, .inl (SqL.of (s4 _ _ eG)), rfl, ?_, _, rfl, ?_⟩
        · rw [List.all_eq_true]
          intro v hv
          obtain ⟨n, _, rfl⟩ := List.mem_map.mp hv
          rfl
        · have fs : free ms (i + 1) = free ms i ++ (if (ms.map Nat.log2).contains i then [] else [i]) := by
            unfold free
            rw [List.range_succ, List.filter_append]
            congr 1
            rcases Bool.eq_false_or_eq_true ((ms.map Nat.log2).contains i) with c | c
            · rw [List.filter_cons_of_neg (by rw [c]; decide), if_pos c, List.filter_nil]
            · rw [List.filter_cons_of_pos (by rw [c]; decide), if_neg (by rw [c]; decide), List.filter_nil]
          have fl : (free ms i).length ≤ i := by
            unfold free
            have := List.length_filter_le (fun p => !(ms.map Nat.log2).contains p) (List.range i)
            rwa [List.length_range] at this
          rw [if_pos rfl, inv]
          rcases Bool.eq_false_or_eq_true ((ms.map Nat.log2).contains i) with c | c
          · rw [c]
            rw [if_pos c, List.append_nil] at fs
            refine iteF ⟨_, rfl, s4, ?_⟩
            rw [fs]
            exact e4
          · rw [c]
            rw [if_neg (by rw [c]; decide)] at fs
            refine iteT ⟨_, rfl, .inl ⟨rfl, _, SqL.of e4⟩, _, rfl, _, rfl, D, ms, i, ?_, s4 _ _ (s2 _ _ eD), fun r hr' => ⟨tb.red.nz r hr', Nat.lt_of_lt_of_le (tb.lt r hr') (Nat.pow_le_pow_right (by decide) (by omega))⟩, by omega, t, _, _, rfl, rfl, e4, ?_, ?_⟩
            · rw [Int.zero_add]
              rfl
            · rw [natV_len, List.length_map]
              exact Nat.lt_of_le_of_lt (by omega : _ ≤ 100) (by decide)
            · refine ⟨_, rfl, same_put s4 n3, ?_⟩
              rw [upd_same, fs, List.map_append, natV_app]
              rfl
      · rintro σ H4 ⟨v5, rfl, s4, e4⟩
        exact ⟨v5, rfl, s4, e4⟩
    rintro _ H4 ⟨v5, rfl, s4, e4⟩
    have fl : (free ms W).length ≤ W := by
      unfold free
      have := List.length_filter_le (fun p => !(ms.map Nat.log2).contains p) (List.range W)
      rwa [List.length_range] at this
    have fm : ((free ms W).map (kn ms)).length = (free ms W).length := List.length_map ..
    refine ⟨_, rfl, t, (free ms W).map (kn ms), rfl, SqL.of e4, by rw [fm]; omega, fun p ms2 H5 s5 np ep R ds sp2 bd ind => ⟨p, rfl, ⟨_, SqL.of ep⟩, fun G2 nG => ?_⟩⟩
    have flt : ∀ n ∈ (free ms W).map (kn ms), n < 2 ^ W := fun n hn => by
      obtain ⟨p, hp, rfl⟩ := List.mem_map.mp hn
      exact kn_lt (free_mem hp).1 fun r hr' => ⟨tb.red.nz r hr', tb.lt r hr'⟩
    have tb2 : Tab W ms2 := ⟨R, bd W flt, ds⟩
    have len2 : ms2.length + ms.length = W := by
      rw [ind (kn_indep ms W), fm]
      exact free_len tb.red.ec tb.lt
    have pr : ∀ x ∈ ms2, ∀ y ∈ nums L, par W x y = 0 := fun x hx y hy => by
      refine par_spn (T := (free ms W).map (kn ms)) (U := ms) (fun f hf r hr' => ?_) ((sp2 x).mp (spn_mem hx)) ((sp y).mpr (spn_mem hy))
      obtain ⟨p, hp, rfl⟩ := List.mem_map.mp hf
      exact par_kn tb.red (free_mem hp).1 (free_mem hp).2 hr' (tb.lt r hr')
    have ss := s1.trans (s2.trans (s4.trans s5))
    refine lc_list (K := K) (a := p) (xs := natV ms2) (Pv := fun i Hc => ∃ M : Rws, nums M = ms2.take i ∧ Hc G2 = some (.lst (refs M)) ∧ RowsFz Hc W M ∧ Same H5 Hc) ⟨[], (List.take_zero).symm, upd_same, fun p z => (by cases z), same_new nG⟩ (fun i Hc _ ⟨_, _, _, _, sc⟩ => SqL.of (sc _ _ ep)) ?_ ?_
    · rintro i v Hc hi ⟨M, eM, eG2, rM, sc⟩
      obtain ⟨m, hm, rfl⟩ := natV_at hi
      have mm := List.mem_of_getElem? hm
      have il : i < 100 := by
        have := (List.getElem?_eq_some_iff.mp hm).1
        omega
      have lM : M.length = i := by
        rw [← nums_len, eM, List.length_take]
        have := (List.getElem?_eq_some_iff.mp hm).1
        omega
      refine ⟨rfl, _, rfl, _, rfl, m, W, rfl, hW, fun r H' s' nr er => ?_⟩
      have nrG : r ≠ G2 := fun y => by rw [y, eG2] at nr; cases nr
      refine ⟨_, s' _ _ eG2, ?_, M ++ [(r, m)], ?_, ?_, ?_, same_put (sc.trans s') nG⟩
      · rw [refs_len, lM]
        exact Nat.lt_trans il (by decide)
      · rw [take_snoc hm, ← eM]
        exact List.map_append ..
      · rw [upd_same]
        unfold refs
        rw [List.map_append]
        rfl
      · intro p hp
        rcases List.mem_append.mp hp with h' | h'
        · obtain ⟨z1, z2⟩ := rM p h'
          obtain ⟨o, z3, z4, z5⟩ := z1
          refine ⟨⟨o, z3, z4, ?_⟩, z2⟩
          have z6 := s' _ _ z5
          rw [upd_ne (fun y => by rw [y, s' _ _ eG2] at z6; cases z6)]
          exact z6
        · rw [List.mem_singleton.mp h']
          obtain ⟨o, z3, z4, z5⟩ := er
          refine ⟨⟨o, z3, z4, ?_⟩, tb2.lt m mm⟩
          rw [upd_ne nrG]
          exact z5
    · rintro Hc ⟨M, eM, eG2, rM, sc⟩
      rw [List.take_of_length_le (Nat.le_of_eq (natV_len ms2).symm)] at eM
      refine ⟨G2, _, rfl, .inl ⟨SqL.of eG2, fun l nl => ?_⟩⟩
      refine q l _ M ((ss.trans sc).trans (same_new nl)) (off_of (ss.trans sc) nl) upd_same (rM.same (same_new nl)) (by rw [eM]; exact tb2) (by rw [eM]; exact pr) fun T ET hT => ?_
      rw [← nums_len, eM, ← len2, len_eq ET tb.red.ec fun x => (hT x).trans (sp x).symm]
end
end KQ

namespace KQ
open PySem PySem.Spec PyProof.Rows L2
/-! ### the law's numbers and tables -/
abbrev sLWh : Stmt := topS 17
abbrev sLNum : Stmt := topS 18
abbrev sLLeft : Stmt := topS 19
abbrev sLTab : Stmt := topS 20
theorem scLWh : FnScope ["_law_value"] ["_law_value"] (defScope sLWh) := ⟨rfl, rfl, rfl, by decide +kernel, rfl, by decide +kernel, by decide +kernel⟩
theorem scLNum : FnScope ["_law_row", "_law_total", "_law_bit"] ["_law_row"] (defScope sLNum) := ⟨rfl, rfl, rfl, by decide +kernel, rfl, by decide +kernel, by decide +kernel⟩
theorem scLLeft : FnScope ["_law_table_here", "_law_number_here", "_law_head"] ["_law_table_here", "_law_number_here"] (defScope sLLeft) := ⟨rfl, rfl, rfl, by decide +kernel, rfl, by decide +kernel, by decide +kernel⟩
theorem scLTab : FnScope ["_law_numbers", "_law_table_here", "_law_number_here"] ["_law_numbers"] (defScope sLTab) := ⟨rfl, rfl, rfl, by decide +kernel, rfl, by decide +kernel, by decide +kernel⟩
def spLWh : Sp := fun vs H Q _ => ∃ i : Int, vs = [.int i] ∧ Q (.bl true) H
def spLLeft : Sp := fun vs H Q _ => ∃ (n : Nat) (a : Addr) (T : List Nat), vs = [.ref a, .int (n : Nat)] ∧ H a = some (.lst (natV T)) ∧ (∀ r ∈ T, r ≠ 0) ∧ Q (.int (rst T n : Nat)) H
def spLTab (K : PySem.W.Frag) : Sp := fun vs H Q _ => ∃ (a : Addr) (ns : List Nat), vs = [.ref a] ∧ SqL K H a (natV ns) ∧ ns.length ≤ 100 ∧
  ∀ p T H', Same H H' → H p = none → H' p = some (.lst (natV T)) → Ec T → (∀ x, Spn T x ↔ Spn ns x) → Q (.ref p) H'
theorem bits_log {m : Nat} (m0 : m ≠ 0) : Builtin.Int.intBits (m : Int) = m.log2 + 1 := by
  unfold Builtin.Int.intBits
  rw [if_neg (by simpa using m0), Int.natAbs_natCast]
theorem ec_sorted {T U : List Nat} (E : Ec T) (p : U.Perm T) (h : U.Pairwise (· ≥ ·)) : Ec U := by
  refine ⟨fun r hr => E.nz r (p.mem_iff.mp hr), ?_⟩
  have nd : (U.map Nat.log2).Nodup := (p.map Nat.log2).nodup_iff.mpr E.tops
  refine List.Pairwise.imp₂ (fun a b g n => ?_) h (List.pairwise_map.mp nd)
  have n : a.log2 ≠ b.log2 := n
  by_cases b0 : b = 0
  · rw [b0]
    exact Nat.zero_testBit _
  by_cases a0 : a = 0
  · exact absurd (by omega : b = 0) b0
  have h1 : b.log2 ≤ a.log2 := by
    rcases Nat.lt_or_ge a.log2 b.log2 with z | z
    · have q1 := (log_of a0).2
      have q2 := (log_of b0).1
      have : 2 ^ (a.log2 + 1) ≤ 2 ^ b.log2 := Nat.pow_le_pow_right (by decide) z
      omega
    · exact z
  exact bit_above (by omega)
theorem iteNe {v : V} {A B : Prop} (h : B) : if (!decide (v = v)) = true then A else B := by
  rw [decide_eq_true rfl]
  exact h
theorem iteNt {v w : V} {A B : Prop} (n : v ≠ w) (h : A) : if (!decide (v = w)) = true then A else B := by
  rw [decide_eq_false n]
  exact h
theorem iteEt {v : V} {A B : Prop} (h : A) : if decide (v = v) = true then A else B := by
  rw [decide_eq_true rfl]
  exact h
theorem iteEf {v w : V} {A B : Prop} (n : v ≠ w) (h : B) : if decide (v = w) = true then A else B := by
  rw [decide_eq_false n]
  exact h
theorem bootB : bootBuiltins "bool" = some (.type "bool") := by decide +kernel
section
variable {P : Program} {w : World} {K : PySem.W.Frag} {mg : Str → Option Value} {base : Heap}
theorem ok_lwh {f : Addr} {fd : FuncData} {k : Nat} (F : Fun K "_law_is_whole" "_law_is_whole" sLWh f fd) (B : Bl mg) : FnOk P w K mg base CX0 (k + 1) f fd ["_law_value"] spLWh := by
  refine F.ok scLWh (fun vs H Q E h => ?_) (fun cdv A outer s H vs Q E hr h => ?_)
  · obtain ⟨i, rfl, _⟩ := h
    rfl
  · obtain ⟨i, rfl, q⟩ := h
    refine ⟨_, pss_one (ps_ret (pe_and (pe_callB call_isi (by rfl) B.isi PyProof.Rows.boot_isinstance (pa_cons (pv 0) (pa_cons (pe_bltn (v := .ty "int") (by rfl) B.int bootI rfl) pa_nil)))
      (pe_one (pe_not (pe_callB call_isi (by rfl) B.isi PyProof.Rows.boot_isinstance (pa_cons (pv 0) (pa_cons (pe_bltn (v := .ty "bool") (by rfl) B.bool bootB rfl) pa_nil))))))), ?_⟩
    have ty : TyX K H (.int i) (.type "int") := .base (.int i)
    refine ⟨_, rfl, .int i, _, _, _, true, rfl, .ty "int", ty, kit_ty (by decide +kernel), _, rfl, ?_⟩
    refine ⟨_, rfl, .int i, _, _, _, false, rfl, .ty "bool", ty, kit_ty (by decide +kernel), _, rfl, q⟩
theorem ok_lnum {f : Addr} {fd : FuncData} {k : Nat} (F : Fun K "_law_number" "_law_number" sLNum f fd) : FnOk P w K mg base CX0 (k + 1) f fd ["_law_row"] spNum := by
  refine F.ok scLNum (fun vs H Q E h => ?_) (fun cdv A outer s H vs Q E hr h => ?_)
  · obtain ⟨a, W, m, rfl, _⟩ := h
    rfl
  · obtain ⟨a, W, m, rfl, hS, hm, q⟩ := h
    refine ⟨_, C8.pss_cut (ps_set (i := 1) scLNum.nd rfl (.inl rfl) pe_int)
      (C8.pss_cut (ps_for PassesOwn.never rfl (pi_tup (pv 0)) (pg_name (i := 2) scLNum.nd rfl (.inl rfl))
        (pss_one (ps_set (i := 1) scLNum.nd rfl (.inl rfl) (pe_op op_add (pe_op op_mul pe_int (pv 1)) (pv 2)))))
      (pss_one (ps_ret (pv 1)))), ?_⟩
    refine ⟨fun σ' H' => σ' = [some (.ref a), some (.int 0), none] ∧ H' = H, ⟨rfl, rfl⟩, ?_⟩
    rintro _ H1 ⟨rfl, rfl⟩
    refine ⟨fun σ' H' => ∃ v, σ' = [some (.ref a), some (.int (m : Nat)), v] ∧ H' = H1, ?_, ?_⟩
    · refine ⟨_, rfl, a, rfl, ⟨_, hS.sq⟩, for_tup (K := K) (a := a) (xs := rowV W m) (fun i σ H2 => ∃ v : Option V, σ = [some (.ref a), some (.int (nb 0 ((rowOf W m).take i) : Nat)), v] ∧ H2 = H1) ⟨none, rfl, rfl⟩ (fun i σ H2 _ ⟨_, _, e⟩ => by rw [e]; exact hS.sq) ?_ ?_⟩
      · rintro i y σ H2 hi ⟨v, rfl, rfl⟩
        obtain ⟨b, hb, rfl⟩ := natV_at hi
        refine ⟨_, rfl, _, _, rfl, rfl, .inl ⟨by decide, by decide⟩, _, rfl, _, _, rfl, rfl, some (.int (b : Nat)), ?_, rfl⟩
        have e : nb 0 ((rowOf W m).take (i + 1)) = 2 * nb 0 ((rowOf W m).take i) + b := by
          rw [take_snoc hb]
          unfold nb
          rw [List.foldl_append]
          rfl
        rw [e]
        rfl
      · rintro σ H2 ⟨v, rfl, rfl⟩
        refine ⟨v, ?_, rfl⟩
        rw [List.take_of_length_le (by rw [rowV_len, rowOf_len]; exact Nat.le_refl _), nb_row, Nat.mod_eq_of_lt hm]
    rintro _ H2 ⟨v, rfl, rfl⟩
    exact ⟨_, rfl, q⟩
theorem ok_lleft {f : Addr} {fd : FuncData} {k : Nat} (F : Fun K "_law_left" "_law_left" sLLeft f fd) (B : Bl mg) : FnOk P w K mg base CX0 (k + 1) f fd ["_law_table_here", "_law_number_here"] spLLeft := by
  refine F.ok scLLeft (fun vs H Q E h => ?_) (fun cdv A outer s H vs Q E hr h => ?_)
  · obtain ⟨n, a, T, rfl, _⟩ := h
    rfl
  · obtain ⟨n, a, T, rfl, hS, hz, q⟩ := h
    refine ⟨_, C8.pss_cut (ps_for PassesOwn.never rfl (pi_list (pv 0)) (pg_name (i := 2) scLLeft.nd rfl (.inl rfl))
        (pss_one (ps_if (pw_and (pt_cmpR op_ge (pe_bits (pv 1)) (pe_bits (pv 2)) (nomark _))
            (pw_and1 (pt_cmpR op_eq (pe_op op_mod (pe_callTy call_int1 (by rfl) B.int bootI (pa_cons (pe_op op_shrN (pv 1) (pe_op op_sub (pe_bits (pv 2)) pe_int)) pa_nil)) pe_int) pe_int (nomark _)))).pt
          (pss_one (ps_set (i := 1) scLLeft.nd rfl (.inl rfl) (pe_op op_xor (pv 1) (pv 2)))) pss_nil)))
      (pss_one (ps_ret (pv 1))), ?_⟩
    refine ⟨fun σ' H' => ∃ v, σ' = [some (.ref a), some (.int (rst T n : Nat)), v] ∧ H' = H, ?_, ?_⟩
    · refine ⟨_, rfl, a, rfl, ⟨_, SqL.of hS⟩, for_list (K := K) (a := a) (xs := natV T) (fun i σ H2 => ∃ v : Option V, σ = [some (.ref a), some (.int (rst (T.take i) n : Nat)), v] ∧ H2 = H) ⟨none, rfl, rfl⟩ (fun i σ H2 _ ⟨_, _, e⟩ => by rw [e]; exact SqL.of hS) ?_ ?_⟩
      · rintro i y σ H2 hi ⟨v, rfl, rfl⟩
        obtain ⟨b, hb, rfl⟩ := natV_at hi
        have b0 := hz b (List.mem_of_getElem? hb)
        have e : rst (T.take (i + 1)) n = lw (rst (T.take i) n) b := by
          rw [take_snoc hb]
          unfold rst
          rw [List.foldl_append]
          rfl
        rw [e]
        generalize rst (T.take i) n = x
        have lx : ¬ x.testBit b.log2 = true → lw x b = x := fun c => by
          unfold lw
          rw [if_neg c]
        refine ⟨_, rfl, _, rfl, _, rfl, _, rfl, _, _, rfl, rfl, _, rfl, ?_⟩
        rw [bits_log b0]
        by_cases g : ((b.log2 + 1 : Nat) : Int) ≤ ((Builtin.Int.intBits (x : Int) : Nat) : Int)
        · rw [decide_eq_true g]
          refine iteT ⟨_, rfl, _, rfl, _, rfl, _, _, rfl, rfl, (x : Int), b.log2, rfl, ?_, .inl ⟨_, rfl, _, _, rfl, rfl, (by show (0 : Int) < 2; decide), rfl, _, rfl, ?_⟩⟩
          · rw [bits_log b0]
            show V.int (((b.log2 + 1 : Nat) : Int) - 1) = _
            rw [show ((b.log2 + 1 : Nat) : Int) - 1 = ((b.log2 : Nat) : Int) by omega]
          · have e2 : ((x : Int) / 2 ^ b.log2) % 2 = ((x / 2 ^ b.log2 % 2 : Nat) : Int) := by push_cast; rfl
            by_cases c : x / 2 ^ b.log2 % 2 = 1
            · have hv : V.int ((x : Int) / 2 ^ b.log2 % 2) = V.int 1 := by rw [e2, c]; rfl
              have c' : x.testBit b.log2 = true := by rw [Nat.testBit_eq_decide_div_mod_eq, decide_eq_true c]
              show if decide (V.int ((x : Int) / 2 ^ b.log2 % 2) = V.int 1) = true then _ else _
              rw [hv]
              refine iteEt ⟨_, rfl, _, rfl, _, _, rfl, rfl, some (.int (b : Nat)), ?_, rfl⟩
              show [_, some (V.int (Builtin.bitXor ((x : Nat) : Int) ((b : Nat) : Int))), _] = _
              rw [bxor]
              unfold lw
              rw [if_pos c']
            · show if decide (V.int ((x : Int) / 2 ^ b.log2 % 2) = V.int 1) = true then _ else _
              refine iteEf (fun y => c (by have := V.int.inj y; omega)) ⟨some (.int (b : Nat)), ?_, rfl⟩
              rw [lx]
              · rfl
              · rw [Nat.testBit_eq_decide_div_mod_eq, decide_eq_false c]
                decide
        · rw [decide_eq_false g]
          refine iteF ⟨some (.int (b : Nat)), ?_, rfl⟩
          rw [lx]
          · rfl
          · intro c
            have x0 : x ≠ 0 := fun y => by
              rw [y, Nat.zero_testBit] at c
              cases c
            have hl : b.log2 ≤ x.log2 := by
              rcases Nat.lt_or_ge x.log2 b.log2 with y | y
              · rw [bit_above y] at c
                cases c
              · exact y
            rw [bits_log x0] at g
            omega
      · rintro σ H2 ⟨v, rfl, rfl⟩
        refine ⟨v, ?_, rfl⟩
        rw [List.take_of_length_le (Nat.le_of_eq (natV_len T).symm)]
    rintro _ H2 ⟨v, rfl, rfl⟩
    exact ⟨_, rfl, q⟩
theorem ok_ltab {f fL : Addr} {fd dL : FuncData} {k : Nat} (F : Fun K "_law_table" "_law_table" sLTab f fd) (FL : Fun K "_law_left" "_law_left" sLLeft fL dL) (bL : Binds K dL ["_law_table_here", "_law_number_here"] []) (gL : mg "_law_left" = some (.ref fL)) (B : Bl mg) :
    FnOk P w K mg base CX0 (k + 2) f fd ["_law_numbers"] (spLTab K) := by
  have GL : FnOk P w K mg base CX0 (k + 1) fL dL ["_law_table_here", "_law_number_here"] spLLeft := ok_lleft FL B
  refine F.ok scLTab (fun vs H Q E h => ?_) (fun cdv A outer s H vs Q E hr h => ?_)
  · obtain ⟨a, ns, rfl, _⟩ := h
    rfl
  · obtain ⟨a, ns, rfl, hS, hlen, q⟩ := h
    refine ⟨_, C8.pss_cut (ps_set (i := 1) scLTab.nd rfl (.inl rfl) (pe_lst pa_nil))
      (C8.pss_cut (ps_for PassesOwn.never rfl (pi_list (pv 0)) (pg_name (i := 2) scLTab.nd rfl (.inl rfl))
        (C8.pss_cut (ps_set (i := 2) scLTab.nd rfl (.inl rfl) (pe_call GL hr (by rfl) gL FL.kp bL .nil pass0 (pa_cons (pv 1) (pa_cons (pv 2) pa_nil))))
        (pss_one (ps_if (pt_cmpR op_ne (pv 2) pe_int (nomark _))
          (pss_one (ps_set (i := 1) scLTab.nd rfl (.inl rfl) (pe_callBK (cr_sortedRev (b := true)) (by rfl) B.sorted PyProof.Rows.boot_sorted (pa_cons (pe_op op_cat (pv 1) (pe_lst (pa_cons (pv 2) pa_nil))) pa_nil) (pk_cons pe_bl pk_nil)))) pss_nil))))
      (pss_one (ps_ret (pv 1)))), ?_⟩
    refine ⟨fun σ' H' => ∃ t, σ' = [some (.ref a), some (.ref t), none] ∧ Same H H' ∧ H t = none ∧ H' t = some (.lst []), ?_, ?_⟩
    · exact ⟨by show 0 ≤ sizeLine; decide, fun t nt => ⟨t, rfl, same_new nt, nt, upd_same⟩⟩
    rintro _ H1 ⟨t0, rfl, s1, n0, e0⟩
    refine ⟨fun σ' H' => ∃ t T v2, σ' = [some (.ref a), some (.ref t), v2] ∧ Same H H' ∧ H t = none ∧ H' t = some (.lst (natV T)) ∧ Ec T ∧ (∀ x, Spn T x ↔ Spn ns x), ?_, ?_⟩
    · refine ⟨_, rfl, a, rfl, ⟨_, Same.seq s1 hS⟩, for_list (K := K) (a := a) (xs := natV ns) (fun i σ H2 => ∃ t T v2, σ = [some (.ref a), some (.ref t), v2] ∧ Same H H2 ∧ H t = none ∧ H2 t = some (.lst (natV T)) ∧ Ec T ∧ (∀ x, Spn T x ↔ Spn (ns.take i) x) ∧ T.length ≤ i)
        ⟨t0, [], none, rfl, s1, n0, e0, ⟨fun _ z => (by cases z), List.Pairwise.nil⟩, fun x => Iff.rfl, Nat.zero_le _⟩ (fun i σ H2 _ ⟨_, _, _, _, s2, _⟩ => Same.seq s2 hS) ?_ ?_⟩
      · rintro i y σ H2 hi ⟨t, T, v2, rfl, s2, nt, et, hE, hsp, hl⟩
        obtain ⟨g, hg, rfl⟩ := natV_at hi
        have tk := take_snoc hg
        have il := (List.getElem?_eq_some_iff.mp hg).1
        refine ⟨fun σ' H' => σ' = [some (.ref a), some (.ref t), some (.int (rst T g : Nat))] ∧ H' = H2, ?_, ?_⟩
        · exact ⟨_, rfl, _, rfl, g, t, T, rfl, et, hE.nz, rfl, rfl⟩
        rintro _ H3 ⟨rfl, rfl⟩
        refine ⟨_, rfl, rfl, _, rfl, ?_⟩
        by_cases z : rst T g = 0
        · rw [z]
          exact iteNe ⟨t, T, _, rfl, s2, nt, et, hE, fun x => by rw [tk]; exact spn_skip hE hsp z x, by omega⟩
        · refine iteNt (fun y => z (by have := V.int.inj y; omega)) ⟨_, rfl, _, rfl, by show 1 ≤ sizeLine; decide, fun r nr => ⟨t, r, natV T, [.int (rst T g : Nat)], rfl, rfl, (upd_ne (ne_of_none et nr)).trans et, upd_same, ?_, fun r2 nr2 => ?_⟩⟩
          · rw [natV_len]
            exact Nat.le_trans (by show T.length + 1 ≤ 101; omega) (by decide)
          have snew := (s2.trans (same_new (o := .lst [.int (rst T g : Nat)]) nr)).trans (same_new (o := .lst (natV T ++ [.int (rst T g : Nat)])) nr2)
          refine ⟨r2, (T ++ [rst T g]).map fun n => ((n : Nat) : Int), rfl, rfl, ?_, fun ns' p pm od np => ?_⟩
          · rw [← natV_int, natV_app]
            exact SqL.of upd_same
          obtain ⟨U, rfl, pu⟩ := perm_nat pm
          rw [← natV_int]
          have od' : (U.map fun n => ((n : Nat) : Int)).Pairwise (· ≥ ·) := od
          have ge : U.Pairwise (· ≥ ·) := (List.pairwise_map.mp od').imp fun h => by omega
          refine ⟨p, U, _, rfl, snew.trans (same_new np), off_of snew np, upd_same, ec_sorted (hE.snoc z (rst_clear hE)) pu ge, fun x => ?_, ?_⟩
          · rw [tk]
            exact (spn_perm pu x).trans (spn_add0 hsp x)
          · rw [pu.length_eq, List.length_append]
            show T.length + 1 ≤ i + 1
            omega
      · rintro σ H2 ⟨t, T, v2, rfl, s2, nt, et, hE, hsp, hl⟩
        rw [natV_len] at hsp
        rw [List.take_length] at hsp
        exact ⟨t, T, v2, rfl, s2, nt, et, hE, hsp⟩
    rintro _ H2 ⟨t, T, v2, rfl, s2, nt, et, hE, hsp⟩
    exact ⟨_, rfl, q t T _ s2 nt et hE hsp⟩
end
end KQ

namespace KQ
open PySem PySem.Spec PyProof.Rows L2
/-! ### what is compared deep -/
theorem dpall_ints (K : PySem.W.Frag) (H : Hp) : ∀ ns : List Int, DpAll K H (ns.map V.int) (ns.map PyData.int)
  | [] => .nil
  | n :: ns => .cons (.int n) (dpall_ints K H ns)
theorem eqv_ints : ∀ ns : List Int, PyData.eqv (.list (ns.map PyData.int)) (.list (ns.map PyData.int)) = true
  | [] => by decide +kernel
  | n :: ns => by
    have := eqv_ints ns
    simp [PyData.eqv, PyData.eqvAll] at this ⊢
    exact this
theorem lay_ints : ∀ ns : List Int, PyData.canLayAll0 (ns.map PyData.int) = true ∧ PyData.depthAll (ns.map PyData.int) ≤ 1
  | [] => by simp [PyData.canLayAll0, PyData.depthAll]
  | n :: ns => by
    obtain ⟨h1, h2⟩ := lay_ints ns
    simp [PyData.canLayAll0, PyData.depthAll, PyData.canLay0, PyData.depth, h1] at h2 ⊢
    omega
theorem sh_ints (ns : List Int) : SeqAt.shaped (.list (ns.map PyData.int)) = true := by
  obtain ⟨h1, h2⟩ := lay_ints ns
  simp [SeqAt.shaped, PyData.canLay0, PyData.depth, h1]
  omega
theorem ne_same {K : PySem.W.Frag} {H : Hp} {a b : Addr} {ns : List Int} {Q : VK} (ha : SqL K H a (ns.map V.int)) (hb : SqL K H b (ns.map V.int)) (q : Q (.bl false) H) : rNeD K (.ref a) (.ref b) H Q := by
  refine ⟨_, _, .lst ha (dpall_ints K H ns), .lst hb (dpall_ints K H ns), sh_ints ns, sh_ints ns, ?_⟩
  rw [eqv_ints]
  exact q
/-! ### t.index(x), whole numbers -/
section
variable {X : Cx}
theorem flat_ints (ys : List Int) : (ys.map V.int).all flatV = true := by
  rw [List.all_map]
  exact List.all_eq_true.mpr fun _ _ => rfl
theorem mt_tup_indexI : MtR X "tuple.index" (fun x xs H Q => ∃ p, ∃ ys : List Int, ∃ z j, x = .ref p ∧ xs = [.int z] ∧ SqT X.K H p (ys.map V.int) ∧ ys[j]? = some z ∧ (∀ m, m < j → ys[m]? ≠ some z) ∧ Q (.int (j : Nat)) H) := by
  intro pins s σ H x xs v us Q I rx rs h
  obtain ⟨p, ys, z, j, rfl, rfl, hq, hy, hno, q⟩ := h
  cases rx
  obtain ⟨u, rfl, t, rfl⟩ := vals1 rs
  obtain ⟨its, r, pl, hz⟩ := I.tuple hq
  have rl : its.length = ys.length := by rw [← r.length, List.length_map]
  have hat : ∀ m (hm : m < its.toArray.size), ∃ t', ∃ y, ys[m]? = some y ∧ its.toArray[m] = Value.int y t' := fun m hm => by
    have hm' : m < ys.length := by rw [← rl]; simpa using hm
    obtain ⟨w, hw, t', hw'⟩ := r.get (i := m) (x := .int ys[m]) (by simp [hm'])
    refine ⟨t', ys[m], List.getElem?_eq_getElem hm', ?_⟩
    rw [← hw', ← (List.getElem?_eq_some_iff.mp hw).2]
    simp
  have hj : j < its.toArray.size := by
    rw [List.size_toArray, rl]
    exact (List.getElem?_eq_some_iff.mp hy).1
  obtain ⟨⟨cls, dd, dt, sl⟩, ho, hc, n, hd⟩ := pl
  obtain rfl : cls = .type "tuple" := hc
  obtain rfl : dt = .seq its.toArray n := hd
  refine call_meets PySem.F.slot_tuple_index ⟨_, ho, rfl⟩ PySem.F.entry_tuple_index (PySem.F.args_tuple_index_2 _ _) (TI.tuple_indexAt p its.toArray n dd sl (.int z t) (eqU (.int z)) j hj ?_ ?_)
    ⟨ho, fun w hw => mem_eqAt (x := .int z) ⟨t, rfl⟩ rfl r (flat_ints ys) w (by simpa using hw), ⟨.int (j : Nat), H, I.tok _, ⟨_, rfl⟩, q⟩⟩
  · obtain ⟨t', y, h1, h2⟩ := hat j hj
    rw [hy] at h1
    cases h1
    rw [h2]
    show eqV (.int z) (.int z) = true
    unfold eqV
    simp
  · intro m hm hmj
    obtain ⟨t', y, h1, h2⟩ := hat m hm
    rw [h2]
    refine Bool.eq_false_iff.mpr fun e => hno m hmj ?_
    have e : eqV (.int y) (.int z) = true := e
    unfold eqV at e
    have : y = z := by simpa using e
    rw [h1, this]
end
end KQ

namespace KQ
open PySem PySem.Spec PyProof.Rows L2
/-! ### a reduced table -/
abbrev sLRed : Stmt := topS 21
theorem scLRed : FnScope ["_law_rows", "_law_width", "_law_pivots", "_law_row", "_law_bit", "_law_pivot"] ["_law_rows", "_law_width"] (defScope sLRed) := ⟨rfl, rfl, rfl, by decide +kernel, rfl, by decide +kernel, by decide +kernel⟩
def spLRed : Sp := fun vs H Q _ => ∃ (a : Addr) (M : Rws) (W : Nat), vs = [.ref a, .int (W : Nat)] ∧ H a = some (.tup (refs M)) ∧ RowsFz H W M ∧ Tab W (nums M) ∧ W ≤ 60 ∧ ∀ H', Same H H' → Q (.bl true) H'
theorem bootAll : bootBuiltins "all" = some (.builtin "all") := by decide +kernel
/-- the scope of the comprehension over pivots -/
abbrev scPiv : Scope := { kind := .function, names := [(".0", .local), ("_law_pivot", .cell), ("sum", .globalImplicit), ("_law_rows", .cell)], isGenerator := false, isCoroutine := false }
theorem strict_eq : ∀ {l m : List Int}, l.Pairwise (· < ·) → m.Pairwise (· < ·) → (∀ k, k ∈ l ↔ k ∈ m) → l = m := by
  intro l m hl hm h
  have nl : l.Nodup := hl.imp fun h => by omega
  have nm : m.Nodup := hm.imp fun h => by omega
  exact List.Perm.eq_of_pairwise (fun a b _ _ h1 h2 => by omega) hl hm ((List.perm_ext_iff_of_nodup nl nm).mpr h)
section
variable {P : Program} {w : World} {K : PySem.W.Frag} {mg : Str → Option Value} {base : Heap}
theorem ok_lred {f fW : Addr} {fd dW : FuncData} {k : Nat} (F : Fun K "_law_is_reduced" "_law_is_reduced" sLRed f fd) (FW : Fun K "_law_is_whole" "_law_is_whole" sLWh fW dW) (bW : Binds K dW ["_law_value"] []) (gW : mg "_law_is_whole" = some (.ref fW)) (B : Bl mg) :
    FnOk P w K mg base CX0 (k + 2) f fd ["_law_rows", "_law_width"] spLRed := by
  have GW : FnOk P w K mg base CX0 (k + 1) fW dW ["_law_value"] spLWh := ok_lwh FW B
  refine F.ok scLRed (fun vs H Q E h => ?_) (fun cdv A outer s H vs Q E hr h => ?_)
  · obtain ⟨a, M, W, rfl, _⟩ := h
    rfl
  · obtain ⟨a, M, W, rfl, hS, hR, tb, hW, q⟩ := h
    have hu : (A.deeper (envOfC "_law_is_reduced" (defScope sLRed) s.heap.objs.size f cdv)).units + 64 < cLine := hr.units
    refine ⟨_, C8.pss_cut (ps_if (pt_not (pt_val (pe_callB call_isi (by rfl) B.isi PyProof.Rows.boot_isinstance (pa_cons (pv 0) (pa_cons (pe_bltn (v := .ty "tuple") (by rfl) B.tuple bootT rfl) pa_nil))))) (pss_one (ps_ret pe_bl)) pss_nil)
      (C8.pss_cut (ps_set (i := 2) scLRed.nd rfl (.inl rfl) (pe_lst pa_nil))
      (C8.pss_cut (ps_for PassesOwn.never rfl (pi_tup (pv 0)) (pg_name (i := 3) scLRed.nd rfl (.inl rfl))
        (C8.pss_cut (ps_if (pw_or (pt_not (pt_val (pe_callB call_isi (by rfl) B.isi PyProof.Rows.boot_isinstance (pa_cons (pv 3) (pa_cons (pe_bltn (v := .ty "tuple") (by rfl) B.tuple bootT rfl) pa_nil)))))
            (pw_or (pt_cmpR op_ne (pe_callB call_len_seq (by rfl) B.len PySem.boot_len (pa_cons (pv 3) pa_nil)) (pv 1) (nomark _))
            (pw_or1 (pt_cmpR (op_neD hu) (pe_lc (own := [("_law_bit", 4)]) (g := gName 4) (by rfl) scLRed.nd (pi_tup (pv 3)) (blkOk_by (own := [("_law_bit", 4)]) (N := ["_law_rows", "_law_width", "_law_pivots", "_law_row", "_law_bit", "_law_pivot"]) (sc := defScope sLRed) (by decide +kernel))
              (fun _ _ _ _ _ => pg_name (i := 4) scLRed.nd rfl (Or.inl rfl)) (fun _ _ _ _ _ => pts_one (pt_cmpR (r := rIn K true) op_notIn_seq (pv 4) (pe_lst (pa_cons pe_int (pa_cons pe_int pa_nil))) (by with_unfolding_all rfl))) (fun _ _ _ _ _ => pv 4)) (pe_lst pa_nil) (nomark _))))).pt (pss_one (ps_ret pe_bl)) pss_nil)
        (C8.pss_cut (ps_if (pw_or (pt_cmpR op_notIn_seq pe_int (pv 3) (by with_unfolding_all rfl))
            (pw_or1 (pt_cmpR (op_neD hu) (pe_lc (own := [("_law_bit", 4)]) (g := gName 4) (by rfl) scLRed.nd (pi_tup (pv 3)) (blkOk_by (own := [("_law_bit", 4)]) (N := ["_law_rows", "_law_width", "_law_pivots", "_law_row", "_law_bit", "_law_pivot"]) (sc := defScope sLRed) (by decide +kernel))
              (fun _ _ _ _ _ => pg_name (i := 4) scLRed.nd rfl (Or.inl rfl)) (fun _ _ _ _ _ => pts_one (pt_not (pt_val (pe_call GW hr (by rfl) gW FW.kp bW .nil pass0 (pa_cons (pv 4) pa_nil))))) (fun _ _ _ _ _ => pv 4)) (pe_lst pa_nil) (nomark _)))).pt (pss_one (ps_ret pe_bl)) pss_nil)
        (pss_one (ps_expr (pe_bm PySem.F.plainAttrs_list PySem.F.slot_list_append PySem.F.type_list_append mt_append (pv 2) (pa_cons (pe_bmT PySem.F.slot_tuple_index PySem.F.type_tuple_index mt_tup_indexI (pv 3) (pa_cons pe_int pa_nil)) pa_nil)))))))
      (C8.pss_cut (ps_if (pt_cmpR (op_neD hu) (pv 2) (pe_callB (cr_sortedSet rfl) (by rfl) B.sorted PyProof.Rows.boot_sorted (pa_cons (pe_callTy (cr_setI rfl) (by rfl) B.set bootS (pa_cons (pv 2) pa_nil)) pa_nil)) (nomark _)) (pss_one (ps_ret pe_bl)) pss_nil)
      (pss_one (ps_ret (pe_callB (cr_all rfl) (by rfl) B.all bootAll (pa_cons (pe_lc (own := [("_law_pivot", 5)]) (g := gName 5) (by rfl) scLRed.nd (pi_list (pv 2)) (blkOk_by (own := [("_law_pivot", 5)]) (N := ["_law_rows", "_law_width", "_law_pivots", "_law_row", "_law_bit", "_law_pivot"]) (sc := defScope sLRed) (by decide +kernel))
          (fun _ _ _ _ _ => pg_name (i := 5) scLRed.nd rfl (Or.inr rfl)) (fun _ _ _ _ _ => pts_nil) (fun _ _ _ _ _ => pe_cmpR op_eq (pe_callB (r := rSum K) (cr_sum rfl) (by rfl) B.sum PyProof.Rows.boot_sum (pa_cons
            (pe_lc (wi := iTup K (tVar 0)) (own := [("_law_row", 3)]) (g := gName 3) (by rfl) scLRed.nd (pi_tup (pv 0)) (blkOk_by (own := [("_law_row", 3)]) (N := ["_law_rows", "_law_width", "_law_pivots", "_law_row", "_law_bit", "_law_pivot"]) (sc := scPiv) (by decide +kernel))
              (fun _ _ _ _ _ => pg_name (i := 3) scLRed.nd rfl (Or.inl rfl)) (fun _ _ _ _ _ => pts_nil) (fun _ _ _ _ _ => pe_ix (r := rIxT K) ix_tup (pv 3) (pv 5) (fun _ _ => rfl))) pa_nil)) pe_int (nomark _))) pa_nil))))))), ?_⟩
    have lM : M.length ≤ 60 := by
      rw [← nums_len]
      exact Nat.le_trans tb.len hW
    have K1 : PySem.W.kitOne K (.type "tuple") (.type "tuple") = some true := kit_ty (by decide +kernel)
    refine ⟨fun σ' H' => σ' = [some (.ref a), some (.int (W : Nat)), none, none, none, none] ∧ H' = H, ?_, ?_⟩
    · exact ⟨_, rfl, .ref a, _, _, _, true, rfl, .ty "tuple", .base (.tup hS), K1, _, rfl, iteF ⟨rfl, rfl⟩⟩
    rintro _ H1 ⟨rfl, rfl⟩
    refine ⟨fun σ' H' => ∃ t, σ' = [some (.ref a), some (.int (W : Nat)), some (.ref t), none, none, none] ∧ Same H1 H' ∧ H1 t = none ∧ H' t = some (.lst []), ?_, ?_⟩
    · exact ⟨by show 0 ≤ sizeLine; decide, fun t nt => ⟨t, rfl, same_new nt, nt, upd_same⟩⟩
    rintro _ H2 ⟨t, rfl, s2, nt, e2⟩
    let pv' := (nums M).map fun m => W - 1 - m.log2
    have lp : pv'.length = M.length := by
      show ((nums M).map _).length = _
      rw [List.length_map, nums_len]
    refine ⟨fun σ' H' => ∃ v3, σ' = [some (.ref a), some (.int (W : Nat)), some (.ref t), v3, none, none] ∧ Same H1 H' ∧ H' t = some (.lst (natV pv')), ?_, ?_⟩
    · refine ⟨_, rfl, a, rfl, ⟨_, SqT.of (s2 _ _ hS)⟩, for_tup (K := K) (a := a) (xs := refs M) (fun i σ H' => ∃ v3, σ = [some (.ref a), some (.int (W : Nat)), some (.ref t), v3, none, none] ∧ Same H1 H' ∧ H' t = some (.lst (natV (pv'.take i)))) ⟨none, rfl, s2, e2⟩ (fun i σ H' _ ⟨_, _, s, _⟩ => SqT.of (s _ _ hS)) ?_ ?_⟩
      · rintro i y σ H3 hi ⟨v3, rfl, s3, e3⟩
        obtain ⟨p, hp, rfl⟩ := refs_at hi
        obtain ⟨fz0, lt⟩ := hR p (List.mem_of_getElem? hp)
        have mn : p.2 ∈ nums M := List.mem_map.mpr ⟨p, List.mem_of_getElem? hp, rfl⟩
        have m0 := tb.red.nz _ mn
        have fz := fz0.same s3
        have tp : TupIs H3 p.1 (rowV W p.2) := .inr fz
        -- the first question
        refine ⟨fun σ' H' => σ' = [some (.ref a), some (.int (W : Nat)), some (.ref t), some (.ref p.1), none, none] ∧ Same H1 H' ∧ H' t = some (.lst (natV (pv'.take i))) ∧ Same H3 H', ?_, ?_⟩
        · refine ⟨_, rfl, .ref p.1, _, _, _, true, rfl, .ty "tuple", tp.ty, K1, _, rfl, iteF ⟨_, rfl, p.1, _, rfl, .inr tp.sq, _, rfl, rfl, _, rfl, ?_⟩⟩
          rw [rowV_len]
          refine iteNe ⟨_, rfl, p.1, rfl, ⟨_, tp.sq⟩, fun D nD => ?_⟩
          refine lc_tup (K := K) (a := p.1) (xs := rowV W p.2) (Pv := fun _ Hc => Hc D = some (.lst []) ∧ Same H3 Hc) ⟨upd_same, same_new nD⟩ (fun j Hc _ ⟨_, sc⟩ => (tp.same sc).sq) ?_ ?_
          · rintro j v Hc hj ⟨eD, sc⟩
            obtain ⟨b, hb, rfl⟩ := natV_at hj
            have b2 := rowOf_bit (List.mem_of_getElem? hb)
            refine ⟨rfl, _, rfl, by show 2 ≤ sizeLine; decide, fun r nr => ⟨r, [.int 0, .int 1], rfl, .inl (SqL.of upd_same), rfl, rfl, _, rfl, ?_⟩⟩
            have inv : inV (.int (b : Nat)) [.int 0, .int 1] = true := by
              have : b = 0 ∨ b = 1 := by omega
              rcases this with rfl | rfl <;> decide +kernel
            rw [if_pos rfl, inv]
            exact iteF ⟨(upd_ne (ne_of_none eD nr)).trans eD, sc.trans (same_new nr)⟩
          · rintro Hc ⟨eD, sc⟩
            refine ⟨by show 0 ≤ sizeLine; decide, fun r nr => ne_same (ns := []) (SqL.of ((upd_ne (ne_of_none eD nr)).trans eD)) (SqL.of upd_same) ⟨_, rfl, iteF ⟨rfl, ?_, ?_, ?_⟩⟩⟩
            · exact (s3.trans sc).trans (same_new nr)
            · exact (sc.trans (same_new nr)) _ _ e3
            · exact sc.trans (same_new nr)
        rintro _ H4 ⟨rfl, s4, e4, s34⟩
        have tp4 := tp.same s34
        obtain ⟨f1, f2⟩ := row_first m0 lt
        -- the second one
        refine ⟨fun σ' H' => σ' = [some (.ref a), some (.int (W : Nat)), some (.ref t), some (.ref p.1), none, none] ∧ Same H1 H' ∧ H' t = some (.lst (natV (pv'.take i))) ∧ Same H4 H', ?_, ?_⟩
        · refine ⟨_, rfl, p.1, rowV W p.2, rfl, .inr tp4.sq, rfl, ?_, _, rfl, ?_⟩
          · rw [List.all_eq_true]
            intro v hv
            obtain ⟨n, _, rfl⟩ := List.mem_map.mp hv
            rfl
          have inv : inV (.int 1) (rowV W p.2) = true := by
            unfold inV
            refine List.any_eq_true.mpr ⟨.int 1, ?_, by decide +kernel⟩
            exact List.mem_map.mpr ⟨1, List.mem_of_getElem? f1, rfl⟩
          rw [if_pos rfl, inv]
          refine iteF ⟨_, rfl, p.1, rfl, ⟨_, tp4.sq⟩, fun D nD => ?_⟩
          refine lc_tup (K := K) (a := p.1) (xs := rowV W p.2) (Pv := fun _ Hc => Hc D = some (.lst []) ∧ Same H4 Hc) ⟨upd_same, same_new nD⟩ (fun j Hc _ ⟨_, sc⟩ => (tp4.same sc).sq) ?_ ?_
          · rintro j v Hc hj ⟨eD, sc⟩
            obtain ⟨b, hb, rfl⟩ := natV_at hj
            exact ⟨rfl, _, rfl, (b : Int), rfl, _, rfl, iteF ⟨eD, sc⟩⟩
          · rintro Hc ⟨eD, sc⟩
            refine ⟨by show 0 ≤ sizeLine; decide, fun r nr => ne_same (ns := []) (SqL.of ((upd_ne (ne_of_none eD nr)).trans eD)) (SqL.of upd_same) ⟨_, rfl, iteF ⟨rfl, ?_, ?_, ?_⟩⟩⟩
            · exact (s4.trans sc).trans (same_new nr)
            · exact (sc.trans (same_new nr)) _ _ e4
            · exact sc.trans (same_new nr)
        rintro _ H5 ⟨rfl, s5, e5, s45⟩
        have tp5 := tp4.same s45
        have hpv : pv'[i]? = some (W - 1 - p.2.log2) := by
          show ((nums M).map _)[i]? = _
          unfold nums
          rw [List.map_map, List.getElem?_map, hp]
          rfl
        refine ⟨_, rfl, .inl ⟨rfl, _, SqL.of e5⟩, _, rfl, ⟨p.1, rowV W p.2, rfl, fz.same (s34.trans s45)⟩, p.1, (rowOf W p.2).map (fun n => ((n : Nat) : Int)), 1, W - 1 - p.2.log2, rfl, rfl, ?_, ?_, ?_, t, _, _, rfl, rfl, e5, ?_, ?_⟩
        · have : ((rowOf W p.2).map (fun n => ((n : Nat) : Int))).map V.int = rowV W p.2 := (natV_int _).symm
          rw [this]
          exact tp5.sq
        · rw [List.getElem?_map, f1]
          rfl
        · intro m hm z
          rw [List.getElem?_map] at z
          obtain ⟨b, hb, hz⟩ := Option.map_eq_some_iff.mp z
          have hz : ((b : Nat) : Int) = 1 := hz
          exact f2 m hm (by rw [hb]; congr 1; omega)
        · rw [natV_len, List.length_take]
          exact Nat.lt_of_le_of_lt (by omega : _ ≤ 60) (by decide)
        · refine ⟨_, rfl, same_put s5 nt, ?_⟩
          rw [upd_same, take_snoc hpv, natV_app]
          rfl
      · rintro σ H3 ⟨v3, rfl, s3, e3⟩
        rw [List.take_of_length_le (by rw [refs_len, lp]; exact Nat.le_refl _)] at e3
        exact ⟨v3, rfl, s3, e3⟩
    rintro _ H3 ⟨v3, rfl, s3, e3⟩
    have asc : pv'.Pairwise (· < ·) := tb.piv
    -- they ascend
    refine ⟨fun σ' H' => σ' = [some (.ref a), some (.int (W : Nat)), some (.ref t), v3, none, none] ∧ Same H3 H', ?_, ?_⟩
    · refine ⟨_, rfl, _, rfl, t, pv'.map (fun n => ((n : Nat) : Int)), rfl, by rw [← natV_int]; exact SqL.of e3, by rw [List.length_map, lp]; omega, fun u c nu hc => ⟨u, _, c, rfl, upd_same, ?_, fun ns l hn hm hl nl => ?_⟩⟩
      · rw [List.length_map, lp] at hc
        omega
      · have same : ns = pv'.map (fun n => ((n : Nat) : Int)) := by
          refine strict_eq hn (List.pairwise_map.mpr (asc.imp fun h => by omega)) fun k => ?_
          rw [hm k]
          exact decide_eq_true_iff
        rw [same]
        have st := (same_new (o := SetO w u (fun j => decide (j ∈ pv'.map (fun n => ((n : Nat) : Int)))) c) nu).trans (same_new (o := .lst ((pv'.map (fun n => ((n : Nat) : Int))).map V.int)) nl)
        refine ne_same (ns := pv'.map (fun n => ((n : Nat) : Int))) ?_ (SqL.of upd_same) ⟨_, rfl, iteF ⟨rfl, st⟩⟩
        have e3' : H3 t = some (.lst ((pv'.map (fun n => ((n : Nat) : Int))).map V.int)) := by
          rw [← natV_int]
          exact e3
        exact SqL.of (st _ _ e3')
    rintro _ H4 ⟨rfl, s4⟩
    have e4 := s4 _ _ e3
    have s14 := s3.trans s4
    refine ⟨_, rfl, t, rfl, ⟨_, SqL.of e4⟩, fun D nD => ?_⟩
    refine lc_list (K := K) (a := t) (xs := natV pv') (Pv := fun i Hc => Hc D = some (.lst (List.replicate i (V.bl true))) ∧ Same H4 Hc) ⟨upd_same, same_new nD⟩ (fun i Hc _ ⟨_, sc⟩ => SqL.of (sc _ _ e4)) ?_ ?_
    · rintro i v Hc hi ⟨eD, sc⟩
      obtain ⟨q0, hq, rfl⟩ := natV_at hi
      obtain ⟨m, hm, rfl⟩ : ∃ m, (nums M)[i]? = some m ∧ W - 1 - m.log2 = q0 := by
        have hq : ((nums M).map _)[i]? = some q0 := hq
        rw [List.getElem?_map] at hq
        exact Option.map_eq_some_iff.mp hq
      have mm := List.mem_of_getElem? hm
      have m0 := tb.red.nz m mm
      have ml := log_lt m0 (tb.lt m mm)
      have il : i < 60 := by
        have := (List.getElem?_eq_some_iff.mp hm).1
        rw [nums_len] at this
        omega
      let cl := (nums M).map fun r => (r.testBit m.log2).toNat
      have lc : cl.length = M.length := by
        show ((nums M).map _).length = _
        rw [List.length_map, nums_len]
      have s1c := s14.trans sc
      refine ⟨rfl, _, rfl, a, rfl, ⟨_, SqT.of (s1c _ _ hS)⟩, fun D2 nD2 => ?_⟩
      refine lc_tup (K := K) (a := a) (xs := refs M) (Pv := fun j Hd => Hd D2 = some (.lst (natV (cl.take j))) ∧ Same Hc Hd) ⟨upd_same, same_new nD2⟩ (fun j Hd _ ⟨_, sd⟩ => SqT.of (sd _ _ (s1c _ _ hS))) ?_ ?_
      · rintro j y Hd hj ⟨eD2, sd⟩
        obtain ⟨p, hp, rfl⟩ := refs_at hj
        obtain ⟨fz0, lt⟩ := hR p (List.mem_of_getElem? hp)
        have tp : TupIs Hd p.1 (rowV W p.2) := .inr (fz0.same (s1c.trans sd))
        have hcl : cl[j]? = some (p.2.testBit m.log2).toNat := by
          show ((nums M).map _)[j]? = _
          unfold nums
          rw [List.map_map, List.getElem?_map, hp]
          rfl
        have ea : atI (rowV W p.2) ((W - 1 - m.log2 : Nat) : Int) = some (V.int ((p.2.testBit m.log2).toNat : Nat)) := by
          refine at_of (j := W - 1 - m.log2) rfl ?_
          unfold rowV
          rw [List.getElem?_map, rowOf_at (by omega), show W - 1 - (W - 1 - m.log2) = m.log2 by omega]
          rfl
        refine ⟨rfl, _, rfl, _, rfl, p.1, rowV W p.2, _, _, rfl, rfl, tp.sq, ea, _, eD2, ?_, ?_, same_put sd nD2⟩
        · rw [natV_len, List.length_take]
          exact Nat.lt_of_le_of_lt (by omega : _ ≤ 60) (by decide)
        · rw [upd_same, take_snoc hcl, natV_app]
          rfl
      · rintro Hd ⟨eD2, sd⟩
        rw [List.take_of_length_le (by rw [refs_len, lc]; exact Nat.le_refl _)] at eD2
        have sm : (cl.map fun n => ((n : Nat) : Int)).sum = 1 := by
          have h1 : ∀ l : List Nat, (l.map fun n => ((n : Nat) : Int)).sum = ((l.sum : Nat) : Int) := fun l => by
            induction l with
            | nil => rfl
            | cons x l ih =>
              rw [List.map_cons, List.sum_cons, List.sum_cons, ih]
              push_cast
              rfl
          rw [h1, show cl.sum = 1 from tb.col mm]
          rfl
        refine ⟨D2, cl.map (fun n => ((n : Nat) : Int)), rfl, by rw [← natV_int]; exact SqL.of eD2, rfl, ?_⟩
        have eDd := sd _ _ eD
        refine ⟨_, eDd, ?_, ?_, same_put (sc.trans sd) nD⟩
        · rw [List.length_replicate]
          exact Nat.lt_trans il (by decide)
        · rw [upd_same, sm, List.replicate_succ']
          rfl
    · rintro Hc ⟨eD, sc⟩
      refine ⟨D, List.replicate (natV pv').length true, rfl, SqL.of (by rw [List.map_replicate]; exact eD), ?_⟩
      have e1 : (List.replicate (natV pv').length true).all id = true := by simp
      rw [e1]
      exact q _ (s14.trans sc)
end
end KQ

namespace KQ
open PySem PySem.Spec PyProof.Rows L2
/-! ### tables that make the same -/
abbrev sLSame : Stmt := topS 22
theorem scLSame : FnScope ["_law_told", "_law_rows", "_law_one", "_law_two", "_law_row", "_law_number_here"] ["_law_told", "_law_rows"] (defScope sLSame) := ⟨rfl, rfl, rfl, by decide +kernel, rfl, by decide +kernel, by decide +kernel⟩
def spLSame (K : PySem.W.Frag) : Sp := fun vs H Q _ => ∃ (a b : Addr) (M L : Rws) (W : Nat), vs = [.ref a, .ref b] ∧ H a = some (.tup (refs M)) ∧ RowsAt H W M ∧ M.length ≤ 100 ∧ SqLT K H b (refs L) ∧ RowsAt H W L ∧ L.length ≤ 100 ∧ Ec (nums M) ∧ (∀ x, Spn (nums M) x ↔ Spn (nums L) x) ∧ ∀ H', Same H H' → Q (.bl true) H'
section
variable {P : Program} {w : World} {K : PySem.W.Frag} {mg : Str → Option Value} {base : Heap}
theorem ok_lsame {f fN fT fL : Addr} {fd dN dT dL : FuncData} {k : Nat} (F : Fun K "_law_same_made" "_law_same_made" sLSame f fd) (FN : Fun K "_law_number" "_law_number" sLNum fN dN) (bN : Binds K dN ["_law_row"] []) (gN : mg "_law_number" = some (.ref fN))
    (FT : Fun K "_law_table" "_law_table" sLTab fT dT) (bT : Binds K dT ["_law_numbers"] []) (gT : mg "_law_table" = some (.ref fT)) (FL : Fun K "_law_left" "_law_left" sLLeft fL dL) (bL : Binds K dL ["_law_table_here", "_law_number_here"] []) (gL : mg "_law_left" = some (.ref fL)) (B : Bl mg) :
    FnOk P w K mg base CX0 (k + 3) f fd ["_law_told", "_law_rows"] (spLSame K) := by
  have GN : FnOk P w K mg base CX0 (k + 2) fN dN ["_law_row"] spNum := ok_lnum FN
  have GT : FnOk P w K mg base CX0 (k + 2) fT dT ["_law_numbers"] (spLTab K) := ok_ltab FT FL bL gL B
  have GL : FnOk P w K mg base CX0 (k + 2) fL dL ["_law_table_here", "_law_number_here"] spLLeft := ok_lleft FL B
  refine F.ok scLSame (fun vs H Q E h => ?_) (fun cdv A outer s H vs Q E hr h => ?_)
  · obtain ⟨a, b, M, L, W, rfl, _⟩ := h
    rfl
  · obtain ⟨a, b, M, L, W, rfl, hS, hM, lM, hT, hL, lL, hE, sp, q⟩ := h
    refine ⟨_, C8.pss_cut (ps_asg (pe_tup
        (pa_cons (pe_call GT hr (by rfl) gT FT.kp bT .nil pass0 (pa_cons (pe_nums (j := 4) (pe_lc (own := [("_law_row", 4)]) (g := gName 4) (by rfl) scLSame.nd (pi_seq (pv 0)) (blkOk_by (own := [("_law_row", 4)]) (N := ["_law_told", "_law_rows", "_law_one", "_law_two", "_law_row", "_law_number_here"]) (sc := defScope sLSame) (by decide +kernel))
          (fun _ _ _ _ _ => pg_name (i := 4) scLSame.nd rfl (Or.inl rfl)) (fun _ _ _ _ _ => pts_nil) (fun _ _ _ _ _ => pe_call GN hr (by rfl) gN FN.kp bN .nil pass0 (pa_cons (pv 4) pa_nil)))) pa_nil))
        (pa_cons (pe_call GT hr (by rfl) gT FT.kp bT .nil pass0 (pa_cons (pe_nums (j := 4) (pe_lc (own := [("_law_row", 4)]) (g := gName 4) (by rfl) scLSame.nd (pi_seq (pv 1)) (blkOk_by (own := [("_law_row", 4)]) (N := ["_law_told", "_law_rows", "_law_one", "_law_two", "_law_row", "_law_number_here"]) (sc := defScope sLSame) (by decide +kernel))
          (fun _ _ _ _ _ => pg_name (i := 4) scLSame.nd rfl (Or.inl rfl)) (fun _ _ _ _ _ => pts_nil) (fun _ _ _ _ _ => pe_call GN hr (by rfl) gN FN.kp bN .nil pass0 (pa_cons (pv 4) pa_nil)))) pa_nil)) pa_nil)))
        (pg_tup rfl (pgs_cons (pg_name (i := 2) scLSame.nd rfl (.inl rfl)) (pgs_cons (pg_name (i := 3) scLSame.nd rfl (.inr rfl)) pgs_nil))))
      (C8.pss_cut (ps_if (pw_or (pt_cmpR op_ne (pe_callB call_len_seq (by rfl) B.len PySem.boot_len (pa_cons (pv 2) pa_nil)) (pe_callB call_len_seq (by rfl) B.len PySem.boot_len (pa_cons (pv 3) pa_nil)) (nomark _))
          (pw_or1 (pt_cmpR op_ne (pe_callB call_len_seq (by rfl) B.len PySem.boot_len (pa_cons (pv 2) pa_nil)) (pe_callB call_len_seq (by rfl) B.len PySem.boot_len (pa_cons (pv 0) pa_nil)) (nomark _)))).pt (pss_one (ps_ret pe_bl)) pss_nil)
      (pss_one (ps_ret (pe_callB (cr_all rfl) (by rfl) B.all bootAll (pa_cons (pe_lc (own := [("_law_number_here", 5)]) (g := gName 5) (by rfl) scLSame.nd (pi_list (pv 2)) (blkOk_by (own := [("_law_number_here", 5)]) (N := ["_law_told", "_law_rows", "_law_one", "_law_two", "_law_row", "_law_number_here"]) (sc := defScope sLSame) (by decide +kernel))
          (fun _ _ _ _ _ => pg_name (i := 5) scLSame.nd rfl (Or.inl rfl)) (fun _ _ _ _ _ => pts_nil) (fun _ _ _ _ _ => pe_cmpR op_eq (pe_call GL hr (by rfl) gL FL.kp bL .nil pass0 (pa_cons (pv 3) (pa_cons (pv 5) pa_nil))) pe_int (nomark _))) pa_nil))))), ?_⟩
    refine ⟨fun σ' H' => ∃ c d T U, σ' = [some (.ref a), some (.ref b), some (.ref c), some (.ref d), none, none] ∧ Same H H' ∧ H' c = some (.lst (natV T)) ∧ H' d = some (.lst (natV U)) ∧ Ec T ∧ Ec U ∧ (∀ x, Spn T x ↔ Spn (nums M) x) ∧ (∀ x, Spn U x ↔ Spn (nums L) x), ?_, ?_⟩
    · refine ⟨a, M, W, rfl, show 4 < 6 by decide, .inr (SqT.of hS), hM, lM, fun D H1 s1 nD eD => ⟨D, nums M, rfl, SqL.of eD, by rw [nums_len]; exact lM, fun c T H2 s2 nc ec ET spT => ?_⟩⟩
      have s12 := s1.trans s2
      refine ⟨b, L, W, rfl, show 4 < 6 by decide, hT.same s12, hL.same s12, lL, fun D2 H3 s3 nD2 eD2 => ⟨D2, nums L, rfl, SqL.of eD2, by rw [nums_len]; exact lL, fun d U H4 s4 nd ed EU spU => ⟨by show 2 ≤ sizeLine; decide, fun r nr => ?_⟩⟩⟩
      refine ⟨r, _, rfl, .inl (.inl upd_same), rfl, _, _, rfl, _, _, rfl, rfl, c, d, T, U, rfl, ((s12.trans s3).trans s4).trans (same_new nr), ?_, ?_, ET, EU, spT, spU⟩
      · exact (same_new nr) _ _ (s4 _ _ (s3 _ _ ec))
      · exact (same_new nr) _ _ ed
    rintro _ H1 ⟨c, d, T, U, rfl, s1, ec, ed, ET, EU, spT, spU⟩
    have l1 : T.length = U.length := len_eq ET EU fun x => (spT x).trans ((sp x).trans (spU x).symm)
    have l2 : T.length = M.length := by rw [← nums_len]; exact len_eq ET hE spT
    refine ⟨fun σ' H' => σ' = [some (.ref a), some (.ref b), some (.ref c), some (.ref d), none, none] ∧ H' = H1, ?_, ?_⟩
    · refine ⟨_, rfl, c, _, rfl, .inl (SqL.of ec), _, rfl, d, _, rfl, .inl (SqL.of ed), rfl, _, rfl, ?_⟩
      rw [natV_len, natV_len, l1]
      refine iteNe ⟨_, rfl, c, _, rfl, .inl (SqL.of ec), _, rfl, a, _, rfl, .inr (SqT.of (s1 _ _ hS)), rfl, _, rfl, ?_⟩
      rw [natV_len, refs_len, l2]
      exact iteNe ⟨rfl, rfl⟩
    rintro _ H2 ⟨rfl, rfl⟩
    refine ⟨_, rfl, c, rfl, ⟨_, SqL.of ec⟩, fun D nD => ?_⟩
    refine lc_list (K := K) (a := c) (xs := natV T) (Pv := fun i Hc => Hc D = some (.lst (List.replicate i (V.bl true))) ∧ Same H2 Hc) ⟨upd_same, same_new nD⟩ (fun i Hc _ ⟨_, sc⟩ => SqL.of (sc _ _ ec)) ?_ ?_
    · rintro i v Hc hi ⟨eD, sc⟩
      obtain ⟨n, hn, rfl⟩ := natV_at hi
      have il := (List.getElem?_eq_some_iff.mp hn).1
      have z : rst U n = 0 := (spn_rst EU n).mp ((spU n).mpr ((sp n).mp ((spT n).mp (spn_mem (List.mem_of_getElem? hn)))))
      refine ⟨rfl, _, rfl, _, rfl, n, d, U, rfl, sc _ _ ed, EU.nz, ?_⟩
      rw [z]
      refine ⟨rfl, _, eD, ?_, ?_, same_put sc nD⟩
      · rw [List.length_replicate]
        exact Nat.lt_of_le_of_lt (by omega : _ ≤ 100) (by decide)
      · rw [upd_same, List.replicate_succ']
        rfl
    · rintro Hc ⟨eD, sc⟩
      refine ⟨D, List.replicate (natV T).length true, rfl, SqL.of (by rw [List.map_replicate]; exact eD), ?_⟩
      have e1 : (List.replicate (natV T).length true).all id = true := by simp
      rw [e1]
      exact q _ (s1.trans sc)
end
end KQ

namespace KQ
open PySem PySem.Spec PyProof.Rows L2
/-! ### what combined tells -/
abbrev sLCR : Stmt := topS 23
theorem scLCR : FnScope ["_law_rows", "_law_row", "_law_told", "_law_is_made", "_law_total", "_law_k", "_law_one"] ["_law_rows", "_law_row"] (defScope sLCR) := ⟨rfl, rfl, rfl, by decide +kernel, rfl, by decide +kernel, by decide +kernel⟩
def spLCR (K : PySem.W.Frag) : Sp := fun vs H Q _ => ∃ (a b : Addr) (L : Rws) (W n : Nat), vs = [.ref a, .ref b] ∧ SqLT K H a (refs L) ∧ RowsAt H W L ∧ L.length ≤ 60 ∧ TupIs H b (rowV W n) ∧ n < 2 ^ W ∧ ∀ H', Same H H' → Q (.bl true) H'
section
variable {X : Cx}
theorem op_notin_rng : OpR X (compareOp .NotIn) (fun x y H Q => ∃ i a lo hi, x = V.int i ∧ y = V.ref a ∧ H a = some (.rng lo hi) ∧ Q (.bl (!decide (lo ≤ i ∧ i < hi))) H) := by
  intro pins s σ H x y v u Q I rx ry h
  obtain ⟨i, a, lo, hi, rfl, rfl, ha, q⟩ := h
  obtain ⟨k, rfl⟩ := rx
  obtain rfl : u = Value.ref a := ry
  obtain ⟨t1, t2, t3, ho⟩ := I.hok a _ ha
  show wpAny _ _ (do return Value.bool (!(← contains (Value.ref a) (Value.int i k)))) _ _ s
  refine wpAny_bind (wpAny_contains_slot (T := "range") ⟨_, ho, rfl⟩ F.slot_range_contains (call_meets F.slot_range_contains ⟨_, ho, rfl⟩ F.entry_range_contains (F.args_range_contains_2 _ _) (q_contains a lo hi i t1 t2 t3 k)
    ⟨ho, wpAny_truthy_bool (wpAny_pure ⟨.bl _, H, I, rfl, ?_⟩)⟩))
  rw [place1]
  exact q
theorem cr_range1 : CallR X (.type "range") (fun vs H Q => ∃ j, vs = [V.int j] ∧ ∀ p, H p = none → Q (.ref p) (upd H p (.rng 0 j))) := by
  intro pins s σ H vs us Q I r h
  obtain ⟨j, rfl, q⟩ := h
  obtain ⟨u1, rfl, rj⟩ := vals1 r
  obtain ⟨t, rfl⟩ := rj
  refine call_range_1 ⟨.ref s.heap.objs.size, upd H s.heap.objs.size (.rng 0 j), I.laid (t' := s.toks + 1 + 1) (fun b o e => Heap.get?_push_of_some _ e) (Nat.le_refl _) ?_, rfl, q _ (I.hok.fresh (Nat.le_refl _))⟩
  exact ⟨s.toks, t, s.toks + 1, Heap.get?_push_size _ rfl⟩
end
section
variable {P : Program} {w : World} {K : PySem.W.Frag} {mg : Str → Option Value} {base : Heap}
theorem ok_lcr {f fN fT fL fC fCo fLw fPN : Addr} {fd dN dT dL dC dCo dLw dPN : FuncData} {k : Nat} (F : Fun K "_law_combined_right" "_law_combined_right" sLCR f fd) (FN : Fun K "_law_number" "_law_number" sLNum fN dN) (bN : Binds K dN ["_law_row"] []) (gN : mg "_law_number" = some (.ref fN))
    (FT : Fun K "_law_table" "_law_table" sLTab fT dT) (bT : Binds K dT ["_law_numbers"] []) (gT : mg "_law_table" = some (.ref fT)) (FL : Fun K "_law_left" "_law_left" sLLeft fL dL) (bL : Binds K dL ["_law_table_here", "_law_number_here"] []) (gL : mg "_law_left" = some (.ref fL))
    (FC : Fun K "combined" "combined" sCombd fC dC) (bC : Binds K dC ["rows", "row"] []) (gC : mg "combined" = some (.ref fC)) (FCo : Fun K "combination" "combination" sComb fCo dCo) (bCo : Binds K dCo ["numbers", "number"] []) (gCo : mg "combination" = some (.ref fCo))
    (FLw : Fun K "_lowered" "_lowered" sLow fLw dLw) (bLw : Binds K dLw ["number", "marks", "table"] []) (gLw : mg "_lowered" = some (.ref fLw)) (FPN : Fun K "_number_of" "_number_of" sNum fPN dPN) (bPN : Binds K dPN ["row"] []) (gPN : mg "_number_of" = some (.ref fPN)) (B : Bl mg) :
    FnOk P w K mg base CX0 (k + 4) f fd ["_law_rows", "_law_row"] (spLCR K) := by
  have GN : FnOk P w K mg base CX0 (k + 3) fN dN ["_law_row"] spNum := ok_lnum FN
  have GT : FnOk P w K mg base CX0 (k + 3) fT dT ["_law_numbers"] (spLTab K) := ok_ltab FT FL bL gL B
  have GL : FnOk P w K mg base CX0 (k + 3) fL dL ["_law_table_here", "_law_number_here"] spLLeft := ok_lleft FL B
  have GC : FnOk P w K mg base CX0 (k + 3) fC dC ["rows", "row"] (spCombd K) := ok_combd FC FPN bPN gPN FCo bCo gCo FLw bLw gLw B
  refine F.ok scLCR (fun vs H Q E h => ?_) (fun cdv A outer s H vs Q E hr h => ?_)
  · obtain ⟨a, b, L, W, n, rfl, _⟩ := h
    rfl
  · obtain ⟨a, b, L, W, n, rfl, hS, hR, hl, hb, hn, q⟩ := h
    have hu : (A.deeper (envOfC "_law_combined_right" (defScope sLCR) s.heap.objs.size f cdv)).units + 64 < cLine := hr.units
    refine ⟨_, C8.pss_cut (ps_set (i := 2) scLCR.nd rfl (.inl rfl) (pe_call GC hr (by rfl) gC FC.kp bC .nil pass0 (pa_cons (pv 0) (pa_cons (pv 1) pa_nil))))
      (C8.pss_cut (ps_set (i := 3) scLCR.nd rfl (.inl rfl) (pe_cmpR op_eq (pe_call GL hr (by rfl) gL FL.kp bL .nil pass0 (pa_cons (pe_call GT hr (by rfl) gT FT.kp bT .nil pass0 (pa_cons
          (pe_nums (j := 6) (pe_lc (own := [("_law_one", 6)]) (g := gName 6) (by rfl) scLCR.nd (pi_seq (pv 0)) (blkOk_by (own := [("_law_one", 6)]) (N := ["_law_rows", "_law_row", "_law_told", "_law_is_made", "_law_total", "_law_k", "_law_one"]) (sc := defScope sLCR) (by decide +kernel))
          (fun _ _ _ _ _ => pg_name (i := 6) scLCR.nd rfl (Or.inl rfl)) (fun _ _ _ _ _ => pts_nil) (fun _ _ _ _ _ => pe_call GN hr (by rfl) gN FN.kp bN .nil pass0 (pa_cons (pv 6) pa_nil)))) pa_nil)) (pa_cons (pe_call GN hr (by rfl) gN FN.kp bN .nil pass0 (pa_cons (pv 1) pa_nil)) pa_nil))) pe_int (nomark _)))
      (C8.pss_cut (ps_if (pw_or (pt_cmpR op_isN (pv 2) pe_non (nomark _)) (pw_or1 (pt_not (pt_val (pv 3))))).pt (pss_one (ps_ret (pe_and (pe_cmpR op_isN (pv 2) pe_non (nomark _)) (pe_one (pe_not (pv 3)))))) pss_nil)
      (C8.pss_cut (ps_if (pw_or (pt_not (pt_val (pe_callB call_isi (by rfl) B.isi PyProof.Rows.boot_isinstance (pa_cons (pv 2) (pa_cons (pe_bltn (v := .ty "tuple") (by rfl) B.tuple bootT rfl) pa_nil)))))
          (pw_or1 (pt_cmpR (op_neD hu) (pe_callTy call_list_of (by rfl) B.list (by decide +kernel) (pa_cons (pv 2) pa_nil)) (pe_callB (cr_sortedSet rfl) (by rfl) B.sorted PyProof.Rows.boot_sorted (pa_cons (pe_callTy (cr_setIT rfl) (by rfl) B.set bootS (pa_cons (pv 2) pa_nil)) pa_nil)) (nomark _)))).pt (pss_one (ps_ret pe_bl)) pss_nil)
      (C8.pss_cut (ps_if (pt_cmpR (op_neD hu) (pe_lc (own := [("_law_k", 5)]) (g := gName 5) (by rfl) scLCR.nd (pi_tup (pv 2)) (blkOk_by (own := [("_law_k", 5)]) (N := ["_law_rows", "_law_row", "_law_told", "_law_is_made", "_law_total", "_law_k", "_law_one"]) (sc := defScope sLCR) (by decide +kernel))
          (fun _ _ _ _ _ => pg_name (i := 5) scLCR.nd rfl (Or.inl rfl)) (fun _ _ _ _ _ => pts_one (pt_cmpR op_notin_rng (pv 5) (pe_callTy cr_range1 (by rfl) B.range (by decide +kernel) (pa_cons (pe_callB (r := fun xs H Q => ∃ p ys, xs = [.ref p] ∧ (SqL K H p ys ∨ SqT K H p ys) ∧ Q (.int ys.length) H) call_len_seq (by rfl) B.len PySem.boot_len (pa_cons (pv 0) pa_nil)) pa_nil)) (by with_unfolding_all rfl))) (fun _ _ _ _ _ => pv 5)) (pe_lst pa_nil) (nomark _)) (pss_one (ps_ret pe_bl)) pss_nil)
      (C8.pss_cut (ps_set (i := 4) scLCR.nd rfl (.inl rfl) pe_int)
      (C8.pss_cut (ps_for PassesOwn.never rfl (pi_tup (pv 2)) (pg_name (i := 5) scLCR.nd rfl (.inl rfl))
        (pss_one (ps_set (i := 4) scLCR.nd rfl (.inl rfl) (pe_op op_xor (pv 4) (pe_call GN hr (by rfl) gN FN.kp bN .nil pass0 (pa_cons (pe_ix ix_seq (pv 0) (pv 5) (fun _ _ => rfl)) pa_nil))))))
      (pss_one (ps_ret (pe_cmpR op_eq (pv 4) (pe_call GN hr (by rfl) gN FN.kp bN .nil pass0 (pa_cons (pv 1) pa_nil)) (nomark _)))))))))), ?_⟩
    refine ⟨fun σ' H' => ∃ v, σ' = [some (.ref a), some (.ref b), some v, none, none, none, none] ∧ Same H H' ∧ ((v = .non ∧ ¬ Spn (nums L) n) ∨ ∃ p mk, v = .ref p ∧ sx (nums L) mk = n ∧ H' p = some (.tup (natV ((List.range L.length).filter (mk.testBit ·))))), ?_, ?_⟩
    · refine ⟨_, rfl, _, rfl, a, b, L, W, n, rfl, hS, hR, by omega, hb, hn, fun no H' s' => ⟨_, rfl, s', .inl ⟨rfl, no⟩⟩, fun mk H' p lt e s' np ep => ⟨_, rfl, s', .inr ⟨p, mk, rfl, e, ep⟩⟩⟩
    rintro _ H1 ⟨v, rfl, s1, hv⟩
    refine ⟨fun σ' H' => ∃ bb, σ' = [some (.ref a), some (.ref b), some v, some (.bl bb), none, none, none] ∧ Same H1 H' ∧ (bb = true ↔ Spn (nums L) n), ?_, ?_⟩
    · refine ⟨a, L, W, rfl, show 6 < 7 by decide, hS.same s1, hR.same s1, by omega, fun D H2 s2 nD eD => ⟨D, nums L, rfl, SqL.of eD, by rw [nums_len]; omega, fun c T H3 s3 nc ec ET spT => ?_⟩⟩
      refine ⟨_, rfl, b, W, n, rfl, hb.same ((s1.trans s2).trans s3), hn, n, c, T, rfl, ec, ET.nz, rfl, _, rfl, s2.trans s3, ?_⟩
      rw [decide_eq_true_iff, ← spT n, spn_rst ET n]
      constructor
      · intro y
        have := V.int.inj y
        omega
      · intro y
        rw [y]
        rfl
    rintro _ H2 ⟨bb, rfl, s2, hbb⟩
    rcases hv with ⟨rfl, no⟩ | ⟨p, mk, rfl, em, ep⟩
    · have : bb = false := by
        rcases Bool.eq_false_or_eq_true bb with z | z
        · exact absurd (hbb.mp z) no
        · exact z
      subst this
      refine ⟨fun _ _ => False, ?_, fun _ _ z => z.elim⟩
      refine ⟨_, rfl, rfl, _, rfl, ?_⟩
      refine iteT ?_
      refine iteT ?_
      exact ⟨_, rfl, rfl, _, rfl, iteT ⟨_, rfl, _, rfl, q _ (s1.trans s2)⟩⟩
    have yes : Spn (nums L) n := by
      rw [← em]
      exact sx_spn _ _
    obtain rfl : bb = true := hbb.mpr yes
    let J := (List.range L.length).filter (mk.testBit ·)
    have lJ : J.length ≤ 60 := by
      have := List.length_filter_le (mk.testBit ·) (List.range L.length)
      rw [List.length_range] at this
      exact Nat.le_trans this hl
    have asc : J.Pairwise (· < ·) := List.Pairwise.filter _ List.pairwise_lt_range
    have ep2 := s2 _ _ ep
    have K1 : PySem.W.kitOne K (.type "tuple") (.type "tuple") = some true := kit_ty (by decide +kernel)
    refine ⟨fun σ' H' => σ' = [some (.ref a), some (.ref b), some (.ref p), some (.bl true), none, none, none] ∧ H' = H2, ?_, ?_⟩
    · refine ⟨_, rfl, rfl, _, rfl, ?_⟩
      refine iteF ⟨_, rfl, _, rfl, iteF ⟨rfl, rfl⟩⟩
    rintro _ H3 ⟨rfl, rfl⟩
    refine ⟨fun σ' H' => σ' = [some (.ref a), some (.ref b), some (.ref p), some (.bl true), none, none, none] ∧ Same H3 H', ?_, ?_⟩
    · refine ⟨_, rfl, .ref p, _, _, _, true, rfl, .ty "tuple", .base (.tup ep2), K1, _, rfl, iteF ⟨_, rfl, p, _, rfl, .inr (SqT.of ep2), fun l nl => ?_⟩⟩
      have sl := same_new (o := .lst (natV J)) nl
      refine ⟨_, rfl, p, J.map (fun n => ((n : Nat) : Int)), rfl, by rw [← natV_int]; exact SqT.of (sl _ _ ep2), by rw [List.length_map]; omega, fun u c nu hc => ⟨u, _, c, rfl, upd_same, by rw [List.length_map] at hc; omega, fun ns l2 hn' hm' hl' nl2 => ?_⟩⟩
      have same : ns = J.map (fun n => ((n : Nat) : Int)) := by
        refine strict_eq hn' (List.pairwise_map.mpr (asc.imp fun h => by omega)) fun k => ?_
        rw [hm' k]
        exact decide_eq_true_iff
      rw [same]
      have st := (same_new (o := SetO w u (fun j => decide (j ∈ J.map (fun n => ((n : Nat) : Int)))) c) nu).trans (same_new (o := .lst ((J.map (fun n => ((n : Nat) : Int))).map V.int)) nl2)
      have el : (upd H3 l (.lst (natV J))) l = some (.lst ((J.map (fun n => ((n : Nat) : Int))).map V.int)) := by
        rw [upd_same, natV_int]
      refine ne_same (ns := J.map (fun n => ((n : Nat) : Int))) (SqL.of (st _ _ el)) (SqL.of upd_same) ⟨_, rfl, iteF ⟨rfl, sl.trans st⟩⟩
    rintro _ H4 ⟨rfl, s4⟩
    have s14 := (s1.trans s2).trans s4
    have ep4 := s4 _ _ ep2
    refine ⟨fun σ' H' => σ' = [some (.ref a), some (.ref b), some (.ref p), some (.bl true), none, none, none] ∧ Same H4 H', ?_, ?_⟩
    · refine ⟨_, rfl, p, rfl, ⟨_, SqT.of ep4⟩, fun D nD => ?_⟩
      refine lc_tup (K := K) (a := p) (xs := natV J) (Pv := fun _ Hc => Hc D = some (.lst []) ∧ Same H4 Hc) ⟨upd_same, same_new nD⟩ (fun j Hc _ ⟨_, sc⟩ => SqT.of (sc _ _ ep4)) ?_ ?_
      · rintro j v Hc hj ⟨eD, sc⟩
        obtain ⟨i, hi, rfl⟩ := natV_at hj
        have il := List.mem_range.mp (List.mem_filter.mp (List.mem_of_getElem? hi)).1
        refine ⟨rfl, _, rfl, _, rfl, a, refs L, rfl, SqLT.same (s14.trans sc) hS, _, rfl, fun r nr => ⟨_, r, _, _, rfl, rfl, upd_same, _, rfl, ?_⟩⟩
        rw [refs_len, decide_eq_true (by omega : (0 : Int) ≤ ((i : Nat) : Int) ∧ ((i : Nat) : Int) < ((L.length : Nat) : Int))]
        exact iteF ⟨(upd_ne (ne_of_none eD nr)).trans eD, sc.trans (same_new nr)⟩
      · rintro Hc ⟨eD, sc⟩
        refine ⟨by show 0 ≤ sizeLine; decide, fun r nr => ne_same (ns := []) (SqL.of ((upd_ne (ne_of_none eD nr)).trans eD)) (SqL.of upd_same) ⟨_, rfl, iteF ⟨rfl, sc.trans (same_new nr)⟩⟩⟩
    rintro _ H5 ⟨rfl, s5⟩
    have s15 := s14.trans s5
    have ep5 := s5 _ _ ep4
    refine ⟨fun σ' H' => σ' = [some (.ref a), some (.ref b), some (.ref p), some (.bl true), some (.int 0), none, none] ∧ H' = H5, ⟨rfl, rfl⟩, ?_⟩
    rintro _ H6 ⟨rfl, rfl⟩
    refine ⟨fun σ' H' => ∃ v5, σ' = [some (.ref a), some (.ref b), some (.ref p), some (.bl true), some (.int (n : Nat)), v5, none] ∧ H' = H6, ?_, ?_⟩
    · refine ⟨_, rfl, p, rfl, ⟨_, SqT.of ep5⟩, for_tup (K := K) (a := p) (xs := natV J) (fun i σ H' => ∃ v5, σ = [some (.ref a), some (.ref b), some (.ref p), some (.bl true), some (.int ((J.take i).foldl (fun t k => t ^^^ (nums L).getD k 0) 0 : Nat)), v5, none] ∧ H' = H6) ⟨none, rfl, rfl⟩ (fun i σ H' _ ⟨_, _, e⟩ => by rw [e]; exact SqT.of ep5) ?_ ?_⟩
      · rintro i y σ H7 hi ⟨v5, rfl, rfl⟩
        obtain ⟨j, hj, rfl⟩ := natV_at hi
        have jl := List.mem_range.mp (List.mem_filter.mp (List.mem_of_getElem? hj)).1
        have hp : L[j]? = some L[j] := List.getElem?_eq_getElem jl
        obtain ⟨h1, h2⟩ := hR L[j] (List.getElem_mem _)
        have ea : atI (refs L) ((j : Nat) : Int) = some (V.ref L[j].1) := by
          refine at_of (j := j) rfl ?_
          unfold refs
          rw [List.getElem?_map, hp]
          rfl
        have gd : (nums L).getD j 0 = L[j].2 := by
          unfold nums
          rw [List.getD_eq_getElem?_getD, List.getElem?_map, hp]
          rfl
        refine ⟨_, rfl, _, rfl, _, rfl, rIx_of (SqLT.same s15 hS) ea ⟨L[j].1, W, L[j].2, rfl, h1.same s15, h2, _, _, rfl, rfl, some (.int (j : Nat)), ?_, rfl⟩⟩
        rw [take_snoc hj, List.foldl_append]
        show [_, _, _, _, some (V.int (Builtin.bitXor _ _)), _, _] = _
        rw [bxor, ← gd]
        rfl
      · rintro σ H7 ⟨v5, rfl, rfl⟩
        refine ⟨v5, ?_, rfl⟩
        rw [List.take_of_length_le (Nat.le_of_eq (natV_len J).symm)]
        have := sx_told (nums L) mk
        rw [nums_len] at this
        rw [show J.foldl (fun t k => t ^^^ (nums L).getD k 0) 0 = sx (nums L) mk from this, em]
    rintro _ H7 ⟨v5, rfl, rfl⟩
    refine ⟨_, rfl, _, rfl, b, W, n, rfl, hb.same s15, hn, rfl, ?_⟩
    rw [decide_eq_true rfl]
    exact q _ s15
end
end KQ

namespace KQ
open PySem PySem.Spec PyProof.Rows L2
/-! ### drawn rows -/
def KeepP (p : Addr) (H H' : Hp) : Prop := ∀ q o, q ≠ p → H q = some o → H' q = some o
theorem KeepP.refl (p : Addr) (H : Hp) : KeepP p H H := fun _ _ _ e => e
theorem KeepP.trans {p : Addr} {H H1 H2 : Hp} (a : KeepP p H H1) (b : KeepP p H1 H2) : KeepP p H H2 := fun q o n e => b q o n (a q o n e)
theorem KeepP.of_same {p : Addr} {H H' : Hp} (s : Same H H') : KeepP p H H' := fun q o _ e => s q o e
theorem KeepP.of_eq {p : Addr} {H H' : Hp} (s : ∀ b, b ≠ p → H' b = H b) : KeepP p H H' := fun q o n e => (s q n).trans e
theorem pen_upd {H : Hp} {p c y : Addr} {n : Nat} {o : HO} (h : PenAt H p c n) (hp : y ≠ p) (hc : y ≠ c) : PenAt (upd H y o) p c n := h.same (upd_ne (Ne.symm hp)) (upd_ne (Ne.symm hc))
theorem pen_sm {H H' : Hp} {p c : Addr} {n : Nat} (h : PenAt H p c n) (s : Same H H') : PenAt H' p c n := by
  obtain ⟨ns, a, d, f, e1, e2, r⟩ := h
  exact ⟨ns, a, d, f, s _ _ e1, s _ _ e2, r⟩
theorem pen_get {H : Hp} {p c : Addr} {n : Nat} (h : PenAt H p c n) : (∃ o, H p = some o) ∧ ∃ o, H c = some o := by
  obtain ⟨ns, a, d, f, e1, e2, r⟩ := h
  exact ⟨⟨_, e1⟩, ⟨_, e2⟩⟩
theorem pen_off {H : Hp} {p c y : Addr} {n : Nat} {o : HO} (h : PenAt H p c n) (hy : H y = some o) (d : ∀ kv, o ≠ .dK kv) : y ≠ p := by
  obtain ⟨ns, a, d', f, hp, _⟩ := h
  exact ne_of hy hp (d _)
abbrev scFew : Scope := { kind := .function, names := [(".0", .local), ("_law_row", .local), ("range", .globalImplicit), ("_law_pen_here", .cell), ("_law_width", .cell)], isGenerator := false, isCoroutine := false }
abbrev scFew2 : Scope := { kind := .function, names := [(".0", .local), ("_law_row", .local), ("tuple", .globalImplicit), ("range", .globalImplicit), ("_law_pen_here", .cell), ("_law_width", .cell)], isGenerator := false, isCoroutine := false }
abbrev sLDr : Stmt := topS 24
theorem scLDr : FnScope ["_law_pen_here", "_law_width", "_law_few", "_law_rows", "_law_lap", "_law_one", "_law_two", "_law_three", "_law_k", "_law_row"] ["_law_pen_here"] (defScope sLDr) := ⟨rfl, rfl, rfl, by decide +kernel, rfl, by decide +kernel, by decide +kernel⟩
def tDraws (i j l : Nat) : TE := fun σ H Q => ∃ (p c : Addr) (n W : Nat), σ[i]? = some (some (.ref p)) ∧ σ[j]? = some (some (.int (W : Nat))) ∧ l < σ.length ∧ i ≠ l ∧ PenAt H p c n ∧ n + W < 1000000 ∧ W ≤ 60 ∧
  ∀ D H' bs, bs.length = W → (∀ b ∈ bs, b < 2) → H D = none → PenAt H' p c (n + W) → KeepP p H H' → H' D = some (.lst (natV bs)) → Q (.ref D) H'
theorem draws_lc {i j l : Nat} {E : XK} {σ : L2.St} {H : Hp} {Q : VK} (h : tDraws i j l σ H Q) : tLc (iRng1 (tCons (tVar j) tNil)) (gName l) tYes (tCall spDraw [] E (tCons (tVar i) (tCons (tC (.int 2)) tNil))) [l] σ H Q := by
  obtain ⟨p, c, n, W, hi, hj, hl, il, hP, hn, hW, q⟩ := h
  obtain ⟨⟨op, ep⟩, ⟨oc, ec⟩⟩ := pen_get hP
  refine ⟨_, hj, _, rfl, by omega, by omega, fun D nD => ?_⟩
  have hDp : D ≠ p := Ne.symm (ne_of_none ep nD)
  have hDc : D ≠ c := Ne.symm (ne_of_none ec nD)
  refine lc_range (lo := 0) (n := W) (Pv := fun k Hc => ∃ bs : List Nat, bs.length = k ∧ (∀ b ∈ bs, b < 2) ∧ Hc D = some (.lst (natV bs)) ∧ PenAt Hc p c (n + k) ∧ KeepP p H Hc) ⟨[], rfl, (fun b hb => by cases hb), upd_same, pen_upd hP hDp hDc, fun y o hy e => by rw [upd_ne (ne_of_none e nD)]; exact e⟩ ?_ ?_
  · rintro k Hc hk ⟨bs, lb, b2, eD, hP', kp⟩
    refine ⟨by show ((List.set (List.set σ l none) l _).set l none) = List.set σ l none; rw [List.set_set, List.set_set], ?_⟩
    refine ⟨.ref p, ?_, p, c, n + k, 2, rfl, hP', by omega, by decide, by decide, fun y H2 y0 y1 hP2 hk2 => ?_⟩
    · show ((List.set (List.set σ l none) l _))[i]? = _
      rw [List.set_set, List.getElem?_set_ne (Ne.symm il)]
      exact hi
    · refine ⟨_, (hk2 D hDp).trans eD, ?_, bs ++ [y.toNat], by rw [List.length_append, lb]; rfl, ?_, ?_, ?_, ?_⟩
      · rw [natV_len, lb]
        exact Nat.lt_of_lt_of_le (by omega : k < 60) (by decide)
      · intro x hx
        rcases List.mem_append.mp hx with h' | h'
        · exact b2 x h'
        · rw [List.mem_singleton.mp h']
          omega
      · rw [upd_same, natV_app]
        show some (HO.lst (_ ++ [V.int y])) = some (HO.lst (_ ++ [V.int ((y.toNat : Nat) : Int)]))
        rw [show ((y.toNat : Nat) : Int) = y by omega]
      · exact pen_upd hP2 hDp hDc
      · intro x o hx e
        rw [upd_ne (ne_of_none e nD), hk2 x hx]
        exact kp x o hx e
  · rintro Hc ⟨bs, lb, b2, eD, hP', kp⟩
    exact q D Hc bs lb b2 nD hP' kp eD
theorem pe_draws {X : Cx} {e : Expr} {i j l : Nat} {E : XK} (h : PE X e (tLc (iRng1 (tCons (tVar j) tNil)) (gName l) tYes (tCall spDraw [] E (tCons (tVar i) (tCons (tC (.int 2)) tNil))) [l])) : PE X e (tDraws i j l) :=
  pe_weak h fun _ _ _ q => draws_lc q
theorem call_tupL {X : Cx} (K : PySem.W.Frag) (hK : X.K = K) : CallR X (.type "tuple") (fun xs H Q => ∃ p ys, xs = [.ref p] ∧ ((SqL K H p ys ∧ ∀ l, H l = none → Q (.ref l) (upd H l (.tup ys))) ∨ (SqT K H p ys ∧ Q (.ref p) H))) := by
  subst hK
  exact call_tuple_of
def spLDr : Sp := fun vs H Q _ => ∃ (p c : Addr) (n : Nat), vs = [.ref p] ∧ PenAt H p c n ∧ n ≤ 100 ∧
  ∀ (r R : Addr) (L : Rws) (W n' : Nat) H', W ≤ 60 → L.length ≤ 40 → n' ≤ 2000 → PenAt H' p c n' → H' r = some (.tup [.int (W : Nat), .ref R]) → H' R = some (.lst (refs L)) → RowsAt H' W L → KeepP p H H' → Q (.ref r) H'
theorem row_of {bs : List Nat} {W : Nat} (hl : bs.length = W) (h : ∀ b ∈ bs, b < 2) : natV bs = rowV W (nb 0 bs) ∧ nb 0 bs < 2 ^ W := by
  subst hl
  refine ⟨?_, nb_lt bs h⟩
  unfold rowV
  rw [row_nb bs h]
  rfl
theorem RowsAt.keepP {H H' : Hp} {W : Nat} {L : Rws} {p c : Addr} {n : Nat} (hP : PenAt H p c n) (k : KeepP p H H') (h : RowsAt H W L) : RowsAt H' W L := fun q hq => by
  obtain ⟨h1, h2⟩ := h q hq
  refine ⟨h1.keep fun o e => k _ _ ?_ e, h2⟩
  rcases h1 with z | ⟨ob, _, _, z⟩
  · exact pen_off hP z (by intro kv y; cases y)
  · exact pen_off hP z (by intro kv y; cases y)
section
variable {P : Program} {w : World} {K : PySem.W.Frag} {mg : Str → Option Value} {base : Heap}
theorem ok_ldr {f fD fP : Addr} {fd dD dP : FuncData} {k : Nat} (F : Fun K "_law_drawn_rows" "_law_drawn_rows" sLDr f fd) (FD : Fun K "_law_draw" "_law_draw" sDraw fD dD) (bD : Binds K dD ["_law_pen_here", "_law_many"] []) (gD : mg "_law_draw" = some (.ref fD))
    (FP : Fun K "_law_pick" "_law_pick" sPick fP dP) (bP : Binds K dP ["_law_pen_here", "_law_some"] []) (gP : mg "_law_pick" = some (.ref fP)) (B : Bl mg) : FnOk P w K mg base CX0 (k + 3) f fd ["_law_pen_here"] spLDr := by
  have GD : FnOk P w K mg base CX0 (k + 2) fD dD ["_law_pen_here", "_law_many"] spDraw := ok_draw FD B.int B.len
  have GP : FnOk P w K mg base CX0 (k + 2) fP dP ["_law_pen_here", "_law_some"] (spPick K) := ok_pick FP FD bD gD B.int B.len
  refine F.ok scLDr (fun vs H Q E h => ?_) (fun cdv A outer s H vs Q E hr h => ?_)
  · obtain ⟨p, c, n, rfl, _⟩ := h
    rfl
  · obtain ⟨p, c, n, rfl, hP, hn, q⟩ := h
    refine ⟨_, C8.pss_cut (ps_if (pt_cmpR op_eq (pe_call GD hr (by rfl) gD FD.kp bD .nil pass0 (pa_cons (pv 0) (pa_cons pe_int pa_nil))) pe_int (nomark _))
        (C8.pss_cut (ps_set (i := 1) scLDr.nd rfl (.inr rfl) pe_int)
        (C8.pss_cut (ps_setLc (i := 2) (own := [("_law_row", 9)]) (g := gName 9) (by rfl) scLDr.nd rfl rfl (sw_true rfl rfl rfl (by decide +kernel)) (pi_range1 (by rfl) B.range (pa_cons (pe_op op_add pe_int (pe_call GD hr (by rfl) gD FD.kp bD .nil pass0 (pa_cons (pv 0) (pa_cons pe_int pa_nil)))) pa_nil)) (blkOk_by (own := [("_law_row", 9)]) (N := ["_law_pen_here", "_law_width", "_law_few", "_law_rows", "_law_lap", "_law_one", "_law_two", "_law_three", "_law_k", "_law_row"]) (sc := defScope sLDr) (by decide +kernel))
            (fun _ _ _ _ _ => pg_name (i := 9) scLDr.nd rfl (Or.inl rfl)) (fun _ _ _ _ _ => pts_nil) (fun _ _ _ _ _ => pe_draws (j := 1) (l := 8) (pe_lc (own := [("_law_k", 8)]) (g := gName 8) (by rfl) scLDr.nd (pi_range1 (by rfl) B.range (pa_cons (pv 1) pa_nil)) (blkOk_by (own := [("_law_k", 8)]) (N := ["_law_pen_here", "_law_width", "_law_few", "_law_rows", "_law_lap", "_law_one", "_law_two", "_law_three", "_law_k", "_law_row"]) (sc := scFew) (by decide +kernel))
              (fun _ _ _ _ _ => pg_name (i := 8) scLDr.nd rfl (Or.inl rfl)) (fun _ _ _ _ _ => pts_nil) (fun _ _ _ _ _ => pe_call GD hr (by rfl) gD FD.kp bD .nil pass0 (pa_cons (pv 0) (pa_cons pe_int pa_nil))))))
        (C8.pss_cut (ps_set (i := 3) scLDr.nd rfl (.inl rfl) (pe_lst pa_nil))
        (C8.pss_cut (ps_for PassesOwn.never rfl (pi_range1 (by rfl) B.range (pa_cons (pe_call GD hr (by rfl) gD FD.kp bD .nil pass0 (pa_cons (pv 0) (pa_cons pe_int pa_nil))) pa_nil)) (pg_name (i := 4) scLDr.nd rfl (.inl rfl))
          (C8.pss_cut (ps_asg (pe_tup (pa_cons (pe_call GP hr (by rfl) gP FP.kp bP .nil pass0 (pa_cons (pv 0) (pa_cons (pv 2) pa_nil))) (pa_cons (pe_call GP hr (by rfl) gP FP.kp bP .nil pass0 (pa_cons (pv 0) (pa_cons (pv 2) pa_nil))) (pa_cons (pe_call GP hr (by rfl) gP FP.kp bP .nil pass0 (pa_cons (pv 0) (pa_cons (pv 2) pa_nil))) pa_nil))))
              (pg_tup rfl (pgs_cons (pg_name (i := 5) scLDr.nd rfl (.inr rfl)) (pgs_cons (pg_name (i := 6) scLDr.nd rfl (.inr rfl)) (pgs_cons (pg_name (i := 7) scLDr.nd rfl (.inr rfl)) pgs_nil)))))
          (pss_one (ps_expr (pe_bm PySem.F.plainAttrs_list PySem.F.slot_list_append PySem.F.type_list_append mt_append (pv 3) (pa_cons (pe_callTy call_tuple_of (by rfl) B.tuple bootT (pa_cons (pe_lc (own := [("_law_k", 8)]) (g := gName 8) (by rfl) scLDr.nd (pi_range1 (by rfl) B.range (pa_cons (pv 1) pa_nil)) (blkOk_by (own := [("_law_k", 8)]) (N := ["_law_pen_here", "_law_width", "_law_few", "_law_rows", "_law_lap", "_law_one", "_law_two", "_law_three", "_law_k", "_law_row"]) (sc := defScope sLDr) (by decide +kernel))
              (fun _ _ _ _ _ => pg_name (i := 8) scLDr.nd rfl (Or.inl rfl)) (fun _ _ _ _ _ => pts_nil) (fun _ _ _ _ _ => pe_op op_xor (pe_op op_xor (pe_ix (r := rIxL K) ix_list (pv 5) (pv 8) (fun _ _ => rfl)) (pe_ix (r := rIxL K) ix_list (pv 6) (pv 8) (fun _ _ => rfl))) (pe_ix (r := rIxL K) ix_list (pv 7) (pv 8) (fun _ _ => rfl)))) pa_nil)) pa_nil))))))
        (pss_one (ps_ret (pe_tup (pa_cons (pv 1) (pa_cons (pv 3) pa_nil))))))))) pss_nil)
      (C8.pss_cut (ps_set (i := 1) scLDr.nd rfl (.inr rfl) (pe_call GD hr (by rfl) gD FD.kp bD .nil pass0 (pa_cons (pv 0) (pa_cons pe_int pa_nil))))
      (pss_one (ps_ret (pe_tup (pa_cons (pv 1) (pa_cons (pe_lc (own := [("_law_row", 9)]) (g := gName 9) (by rfl) scLDr.nd (pi_range1 (by rfl) B.range (pa_cons (pe_call GD hr (by rfl) gD FD.kp bD .nil pass0 (pa_cons (pv 0) (pa_cons pe_int pa_nil))) pa_nil)) (blkOk_by (own := [("_law_row", 9)]) (N := ["_law_pen_here", "_law_width", "_law_few", "_law_rows", "_law_lap", "_law_one", "_law_two", "_law_three", "_law_k", "_law_row"]) (sc := defScope sLDr) (by decide +kernel))
            (fun _ _ _ _ _ => pg_name (i := 9) scLDr.nd rfl (Or.inl rfl)) (fun _ _ _ _ _ => pts_nil) (fun _ _ _ _ _ => pe_callTy (call_tupL K rfl) (by rfl) B.tuple bootT (pa_cons (pe_draws (j := 1) (l := 8) (pe_lc (own := [("_law_k", 8)]) (g := gName 8) (by rfl) scLDr.nd (pi_range1 (by rfl) B.range (pa_cons (pv 1) pa_nil)) (blkOk_by (own := [("_law_k", 8)]) (N := ["_law_pen_here", "_law_width", "_law_few", "_law_rows", "_law_lap", "_law_one", "_law_two", "_law_three", "_law_k", "_law_row"]) (sc := scFew2) (by decide +kernel))
              (fun _ _ _ _ _ => pg_name (i := 8) scLDr.nd rfl (Or.inl rfl)) (fun _ _ _ _ _ => pts_nil) (fun _ _ _ _ _ => pe_call GD hr (by rfl) gD FD.kp bD .nil pass0 (pa_cons (pv 0) (pa_cons pe_int pa_nil)))) ) pa_nil))) pa_nil)))))), ?_⟩
    have hd : ∀ {G : Hp} {n' : Nat}, PenAt G p c n' → ∀ {D : Addr}, G D = none → D ≠ p ∧ D ≠ c := fun {G n'} h {D} nD => by
      obtain ⟨⟨op, ep⟩, ⟨oc, ec⟩⟩ := pen_get h
      exact ⟨Ne.symm (ne_of_none ep nD), Ne.symm (ne_of_none ec nD)⟩
    have offK : ∀ {G : Hp} {n' : Nat}, PenAt G p c n' → KeepP p H G → ∀ {D : Addr}, G D = none → H D = none := fun {G n'} h k {D} nD => by
      cases e : H D with
      | none => rfl
      | some o => rw [k _ _ (hd h nD).1 e] at nD; cases nD
    refine ⟨fun σ' H' => σ' = [some (.ref p), none, none, none, none, none, none, none, none, none] ∧ PenAt H' p c (n + 1) ∧ KeepP p H H', ?_, ?_⟩
    · refine ⟨_, rfl, p, c, n, 4, rfl, hP, by omega, by decide, by decide, fun y H1 y0 y1 hP1 hk1 => ⟨rfl, _, rfl, ?_⟩⟩
      by_cases y00 : y = 0
      · subst y00
        refine iteEt ?_
        refine ⟨fun σ' H' => σ' = [some (.ref p), some (.int (60 : Nat)), none, none, none, none, none, none, none, none] ∧ H' = H1, ⟨rfl, rfl⟩, ?_⟩
        rintro _ H2 ⟨rfl, rfl⟩
        have kp1 := KeepP.of_eq hk1
        refine ⟨fun σ' H' => ∃ (F : Addr) (fs : List (Addr × List Nat)) (n2 : Nat), σ' = [some (.ref p), some (.int (60 : Nat)), some (.ref F), none, none, none, none, none, none, none] ∧ PenAt H' p c n2 ∧ n2 ≤ 1000 ∧ KeepP p H H' ∧ H' F = some (.lst (fs.map fun q => V.ref q.1)) ∧ fs ≠ [] ∧ fs.length ≤ 12 ∧ ∀ q ∈ fs, H' q.1 = some (.lst (natV q.2)) ∧ q.2.length = 60 ∧ ∀ b ∈ q.2, b < 2, ?_, ?_⟩
        · refine ⟨_, rfl, p, c, n + 1, 12, rfl, hP1, by omega, by decide, by decide, fun y H3 y0 y1 hP3 hk3 => ⟨_, _, rfl, rfl, _, rfl, by omega, by omega, fun D nD => ?_⟩⟩
          have kp3 := kp1.trans (KeepP.of_eq hk3)
          obtain ⟨hDp, hDc⟩ := hd hP3 nD
          refine lc_range (lo := 0) (n := (1 + y).toNat) (Pv := fun k Hc => ∃ fs : List (Addr × List Nat), fs.length = k ∧ Hc D = some (.lst (fs.map fun q => V.ref q.1)) ∧ PenAt Hc p c (n + 2 + 60 * k) ∧ KeepP p H Hc ∧ ∀ q ∈ fs, q.1 ≠ D ∧ Hc q.1 = some (.lst (natV q.2)) ∧ q.2.length = 60 ∧ ∀ b ∈ q.2, b < 2)
            ⟨[], rfl, upd_same, pen_upd hP3 hDp hDc, fun y o hy e => by rw [upd_ne (ne_of_none (kp3 _ _ hy e) nD)]; exact kp3 _ _ hy e, fun q hq => by cases hq⟩ ?_ ?_
          · rintro k Hc hk ⟨fs, lf, eD, hPc, kpc, hfs⟩
            refine ⟨rfl, p, c, n + 2 + 60 * k, 60, rfl, rfl, show 8 < 10 by decide, by decide, hPc, by omega, by decide, fun D2 H4 bs lb b2 nD2 hP4 kp4 e4 => ?_⟩
            have eD4 := kp4 _ _ hDp eD
            have hD2 : D2 ≠ D := fun z => by rw [z, eD] at nD2; cases nD2
            refine ⟨_, eD4, ?_, fs ++ [(D2, bs)], by rw [List.length_append, lf]; rfl, ?_, ?_, ?_, ?_⟩
            · rw [List.length_map, lf]
              exact Nat.lt_of_lt_of_le (by omega : k < 13) (by decide)
            · rw [upd_same, List.map_append]
              rfl
            · rw [show n + 2 + 60 * (k + 1) = n + 2 + 60 * k + 60 by omega]
              exact pen_upd hP4 hDp hDc
            · intro z o hz e
              have e5 := kp4 _ _ hz (kpc _ _ hz e)
              have hzD : z ≠ D := fun w => by
                have e6 := kp3 _ _ hz e
                rw [w, nD] at e6
                cases e6
              rw [upd_ne hzD]
              exact e5
            · intro q hq
              rcases List.mem_append.mp hq with h' | h'
              · obtain ⟨z0, z1, z2, z3⟩ := hfs q h'
                exact ⟨z0, (upd_ne z0).trans (kp4 _ _ (pen_off hPc z1 (by intro kv w; cases w)) z1), z2, z3⟩
              · rw [List.mem_singleton.mp h']
                exact ⟨hD2, (upd_ne hD2).trans e4, lb, b2⟩
          · rintro Hc ⟨fs, lf, eD, hPc, kpc, hfs⟩
            refine ⟨D, fs, _, rfl, hPc, by omega, kpc, eD, fun z => by rw [z] at lf; have : 0 = (1 + y).toNat := lf; omega, by omega, fun q hq => (hfs q hq).2⟩
        rintro _ H3 ⟨F, fs, n2, rfl, hP3, hn2, kp3, eF, fne, fl, hfs⟩
        refine ⟨fun σ' H' => ∃ R, σ' = [some (.ref p), some (.int (60 : Nat)), some (.ref F), some (.ref R), none, none, none, none, none, none] ∧ Same H3 H' ∧ H3 R = none ∧ H' R = some (.lst []), ?_, ?_⟩
        · exact ⟨by show 0 ≤ sizeLine; decide, fun R nR => ⟨R, rfl, same_new nR, nR, upd_same⟩⟩
        rintro _ H4 ⟨R, rfl, s4, nR, eR⟩
        have hRp := (hd hP3 nR).1
        have hRc := (hd hP3 nR).2
        have hRF : R ≠ F := fun z => by rw [z, eF] at nR; cases nR
        have hRq : ∀ q ∈ fs, R ≠ q.1 := fun q hq z => by rw [z, (hfs q hq).1] at nR; cases nR
        have nRH := offK hP3 kp3 nR
        refine ⟨fun σ' H' => ∃ (L : Rws) (n3 : Nat) (s4 s5 s6 s7 : Option V), σ' = [some (.ref p), some (.int (60 : Nat)), some (.ref F), some (.ref R), s4, s5, s6, s7, none, none] ∧ PenAt H' p c n3 ∧ n3 ≤ 1500 ∧ KeepP p H H' ∧ H' R = some (.lst (refs L)) ∧ RowsAt H' 60 L ∧ L.length ≤ 40, ?_, ?_⟩
        · refine ⟨_, rfl, p, c, n2, 40, rfl, pen_sm hP3 s4, by omega, by decide, by decide, fun y H5 y0 y1 hP5 hk5 => ⟨_, rfl, by omega, by omega, for_range (lo := 0) (n := y.toNat) (fun i σ H' => ∃ (L : Rws) (s4 s5 s6 s7 : Option V), σ = [some (.ref p), some (.int (60 : Nat)), some (.ref F), some (.ref R), s4, s5, s6, s7, none, none] ∧ PenAt H' p c (n2 + 1 + 3 * i) ∧ (∀ z o, z ≠ p → z ≠ R → H3 z = some o → H' z = some o) ∧ H' R = some (.lst (refs L)) ∧ RowsAt H' 60 L ∧ L.length = i)
            ⟨[], none, none, none, none, rfl, hP5, fun z o z1 z2 e => (hk5 z z1).trans (s4 _ _ e), (hk5 R hRp).trans eR, (fun q hq => by cases hq), rfl⟩ ?_ ?_⟩⟩
          · rintro i _ H6 hi ⟨L, s4', s5, s6, s7, rfl, hP6, kp6, eR6, hL, lL⟩
            have eF6 := kp6 _ _ (pen_off hP3 eF (by intro kv w; cases w)) hRF.symm eF
            have fl2 : (fs.map fun q => V.ref q.1).length ≤ 1000 := by rw [List.length_map]; omega
            have fne2 : (fs.map fun q => V.ref q.1) ≠ [] := fun z => fne (List.map_eq_nil_iff.mp z)
            have pick : ∀ {j : Nat} {v : V}, (fs.map fun q => V.ref q.1)[j]? = some v → ∃ q ∈ fs, v = .ref q.1 := fun {j v} e => by
              rw [List.getElem?_map] at e
              obtain ⟨q, hq, rfl⟩ := Option.map_eq_some_iff.mp e
              exact ⟨q, List.mem_of_getElem? hq, rfl⟩
            refine ⟨fun σ' H' => ∃ q1 q2 q3, q1 ∈ fs ∧ q2 ∈ fs ∧ q3 ∈ fs ∧ σ' = [some (.ref p), some (.int (60 : Nat)), some (.ref F), some (.ref R), some (.int (0 + (i : Nat))), some (.ref q1.1), some (.ref q2.1), some (.ref q3.1), none, none] ∧ PenAt H' p c (n2 + 1 + 3 * (i + 1)) ∧ KeepP p H6 H', ?_, ?_⟩
            · refine ⟨_, rfl, _, rfl, p, c, F, _, _, rfl, hP6, by omega, .inl (SqL.of eF6), fne2, fl2, fun j1 v1 G1 g1 hG1 k1 => ?_⟩
              have eF7 := (k1 F (pen_off hP6 eF6 (by intro kv w; cases w))).trans eF6
              refine ⟨_, rfl, _, rfl, p, c, F, _, _, rfl, hG1, by omega, .inl (SqL.of eF7), fne2, fl2, fun j2 v2 G2 g2 hG2 k2 => ?_⟩
              have eF8 := (k2 F (pen_off hG1 eF7 (by intro kv w; cases w))).trans eF7
              refine ⟨_, rfl, _, rfl, p, c, F, _, _, rfl, hG2, by omega, .inl (SqL.of eF8), fne2, fl2, fun j3 v3 G3 g3 hG3 k3 => ⟨by show 3 ≤ sizeLine; decide, fun r nr => ?_⟩⟩
              obtain ⟨q1, m1, rfl⟩ := pick g1
              obtain ⟨q2, m2, rfl⟩ := pick g2
              obtain ⟨q3, m3, rfl⟩ := pick g3
              refine ⟨r, _, rfl, .inl (.inl upd_same), rfl, _, _, rfl, _, _, rfl, _, _, rfl, rfl, q1, q2, q3, m1, m2, m3, rfl, ?_, ?_⟩
              · rw [show n2 + 1 + 3 * (i + 1) = n2 + 1 + 3 * i + 1 + 1 + 1 by omega]
                exact pen_sm hG3 (same_new nr)
              · exact ((KeepP.of_eq k1).trans ((KeepP.of_eq k2).trans (KeepP.of_eq k3))).trans (KeepP.of_same (same_new nr))
            rintro _ H7 ⟨q1, q2, q3, m1, m2, m3, rfl, hP7, kp7⟩
            have eR7 := kp7 _ _ hRp eR6
            have at7 : ∀ q ∈ fs, H7 q.1 = some (.lst (natV q.2)) := fun q hq => by
              have e3 := (hfs q hq).1
              have e6 := kp6 _ _ (pen_off hP3 e3 (by intro kv w; cases w)) (hRq q hq).symm e3
              exact kp7 _ _ (pen_off hP6 e6 (by intro kv w; cases w)) e6
            have hL7 := hL.keepP hP6 kp7
            refine ⟨_, rfl, .inl ⟨rfl, _, SqL.of eR7⟩, _, rfl, _, rfl, by decide, by decide, fun D nD => ?_⟩
            refine lc_range (lo := 0) (n := 60) (Pv := fun k Hc => ∃ bs : List Nat, bs.length = k ∧ (∀ b ∈ bs, b < 2) ∧ Hc D = some (.lst (natV bs)) ∧ Same H7 Hc) ⟨[], rfl, (fun b hb => by cases hb), upd_same, same_new nD⟩ ?_ ?_
            · rintro k Hc hk ⟨bs, lb, b2, eD, sc⟩
              have bit : ∀ q ∈ fs, ∃ x, x < 2 ∧ atI (natV q.2) (0 + (k : Nat)) = some (.int (x : Nat)) := fun q hq => by
                obtain ⟨_, z2, z3⟩ := hfs q hq
                have hx : q.2[k]? = some (q.2[k]'(by omega)) := List.getElem?_eq_getElem (by omega)
                refine ⟨q.2[k]'(by omega), z3 _ (List.getElem_mem _), at_of (j := k) (by omega) ?_⟩
                unfold natV
                rw [List.getElem?_map, hx]
                rfl
              obtain ⟨x1, l1, a1⟩ := bit q1 m1
              obtain ⟨x2, l2, a2⟩ := bit q2 m2
              obtain ⟨x3, l3, a3⟩ := bit q3 m3
              refine ⟨rfl, _, rfl, _, rfl, q1.1, _, _, _, rfl, rfl, SqL.of (sc _ _ (at7 q1 m1)), a1, _, rfl, _, rfl, q2.1, _, _, _, rfl, rfl, SqL.of (sc _ _ (at7 q2 m2)), a2, _, _, rfl, rfl, _, rfl, _, rfl, q3.1, _, _, _, rfl, rfl, SqL.of (sc _ _ (at7 q3 m3)), a3, _, _, rfl, rfl, _, eD, ?_, bs ++ [x1 ^^^ x2 ^^^ x3], by rw [List.length_append, lb]; rfl, ?_, ?_, same_put sc nD⟩
              · rw [natV_len, lb]
                exact Nat.lt_trans hk (by decide)
              · intro b hb
                rcases List.mem_append.mp hb with h' | h'
                · exact b2 b h'
                · rw [List.mem_singleton.mp h']
                  exact Nat.xor_lt_two_pow (n := 1) (Nat.xor_lt_two_pow (n := 1) l1 l2) l3
              · rw [upd_same, natV_app]
                show some (HO.lst (_ ++ [V.int (Builtin.bitXor (Builtin.bitXor (x1 : Int) (x2 : Int)) (x3 : Int))])) = _
                rw [bxor, bxor]
                rfl
            · rintro Hc ⟨bs, lb, b2, eD, sc⟩
              obtain ⟨rv, rlt⟩ := row_of lb b2
              refine ⟨D, natV bs, rfl, .inl ⟨SqL.of eD, fun l nl => ?_⟩⟩
              have eRl : (upd Hc l (.tup (natV bs))) R = some (.lst (refs L)) := (same_new nl) _ _ (sc _ _ eR7)
              have hlR : l ≠ R := fun z => by rw [z, sc _ _ eR7] at nl; cases nl
              refine ⟨R, _, _, rfl, rfl, eRl, ?_, L ++ [(l, nb 0 bs)], _, _, _, _, rfl, ?_, ?_, ?_, ?_, by rw [List.length_append, lL]; rfl⟩
              · rw [refs_len, lL]
                exact Nat.lt_of_lt_of_le (by omega : i < 40) (by decide)
              · exact pen_upd ((pen_sm hP7 sc).same ((upd_ne (Ne.symm (hd (pen_sm hP7 sc) nl).1))) ((upd_ne (Ne.symm (hd (pen_sm hP7 sc) nl).2)))) hRp hRc
              · intro z o z1 z2 e
                rw [upd_ne z2]
                exact (same_new nl) _ _ (sc _ _ (kp7 _ _ z1 (kp6 _ _ z1 z2 e)))
              · rw [upd_same]
                unfold refs
                rw [List.map_append]
                rfl
              · intro q hq
                rcases List.mem_append.mp hq with h' | h'
                · obtain ⟨z1, z2⟩ := hL7 q h'
                  have z3 : TupIs (upd Hc l (.tup (natV bs))) q.1 (rowV 60 q.2) := (z1.same sc).same (same_new nl)
                  refine ⟨z3.keep fun o e => ?_, z2⟩
                  rw [upd_ne]
                  · exact e
                  · intro z
                    rcases z1 with w | ⟨ob, _, _, w⟩
                    · rw [z, eR7] at w; cases w
                    · rw [z, eR7] at w; cases w
                · rw [List.mem_singleton.mp h']
                  refine ⟨.inl ?_, rlt⟩
                  rw [upd_ne hlR, upd_same, rv]
          · rintro σ H6 ⟨L, s4', s5, s6, s7, rfl, hP6, kp6, eR6, hL, lL⟩
            refine ⟨L, _, s4', s5, s6, s7, rfl, hP6, by omega, fun z o hz e => ?_, eR6, hL, by omega⟩
            exact kp6 _ _ hz (fun w => by rw [w, nRH] at e; cases e) (kp3 _ _ hz e)
        rintro _ H5 ⟨L, n3, s4', s5, s6, s7, rfl, hP5, hn3, kp5, eR5, hL, lL⟩
        refine ⟨_, rfl, _, rfl, by show 2 ≤ sizeLine; decide, fun r nr => ?_⟩
        have sr := same_new (o := .tup [.int (60 : Nat), .ref R]) nr
        exact q r R L 60 n3 _ (by decide) lL (by omega) (pen_sm hP5 sr) upd_same (sr _ _ eR5) (hL.same sr) (kp5.trans (KeepP.of_same sr))
      · exact iteEf (fun z => y00 (V.int.inj z)) ⟨rfl, hP1, KeepP.of_eq hk1⟩
    rintro _ H1 ⟨rfl, hP1, kp1⟩
    refine ⟨fun σ' H' => ∃ W : Nat, σ' = [some (.ref p), some (.int (W : Nat)), none, none, none, none, none, none, none, none] ∧ W ≤ 8 ∧ PenAt H' p c (n + 2) ∧ KeepP p H H', ?_, ?_⟩
    · refine ⟨_, rfl, p, c, n + 1, 9, rfl, hP1, by omega, by decide, by decide, fun y H2 y0 y1 hP2 hk2 => ⟨y.toNat, ?_, by omega, hP2, kp1.trans (KeepP.of_eq hk2)⟩⟩
      rw [show ((y.toNat : Nat) : Int) = y by omega]
      rfl
    rintro _ H2 ⟨W, rfl, hW, hP2, kp2⟩
    refine ⟨_, rfl, _, rfl, p, c, n + 2, 8, rfl, hP2, by omega, by decide, by decide, fun y H3 y0 y1 hP3 hk3 => ⟨_, rfl, by omega, by omega, fun D nD => ?_⟩⟩
    have kp3 := kp2.trans (KeepP.of_eq hk3)
    obtain ⟨hDp, hDc⟩ := hd hP3 nD
    have nDH := offK hP3 kp3 nD
    refine lc_range (lo := 0) (n := y.toNat) (Pv := fun k Hc => ∃ L : Rws, L.length = k ∧ Hc D = some (.lst (refs L)) ∧ PenAt Hc p c (n + 3 + W * k) ∧ KeepP p H Hc ∧ RowsAt Hc W L)
      ⟨[], rfl, upd_same, pen_upd hP3 hDp hDc, fun z o hz e => by rw [upd_ne (ne_of_none e nDH)]; exact kp3 _ _ hz e, fun q hq => by cases hq⟩ ?_ ?_
    · rintro k Hc hk ⟨L, lL, eD, hPc, kpc, hL⟩
      have wk : W * k ≤ 8 * 8 := Nat.mul_le_mul hW (by omega)
      refine ⟨rfl, p, c, n + 3 + W * k, W, rfl, rfl, show 8 < 10 by decide, by decide, hPc, by omega, by omega, fun D2 H4 bs lb b2 nD2 hP4 kp4 e4 => ?_⟩
      obtain ⟨rv, rlt⟩ := row_of lb b2
      refine ⟨D2, natV bs, rfl, .inl ⟨SqL.of e4, fun l nl => ?_⟩⟩
      have eD4 := kp4 _ _ hDp eD
      have hlD : l ≠ D := fun z => by rw [z, eD4] at nl; cases nl
      refine ⟨_, (same_new nl) _ _ eD4, ?_, L ++ [(l, nb 0 bs)], by rw [List.length_append, lL]; rfl, ?_, ?_, ?_, ?_⟩
      · rw [refs_len, lL]
        exact Nat.lt_of_lt_of_le (by omega : k < 8) (by decide)
      · rw [upd_same]
        unfold refs
        rw [List.map_append]
        rfl
      · rw [show n + 3 + W * (k + 1) = n + 3 + W * k + W by rw [Nat.mul_succ]; omega]
        exact pen_upd (pen_upd hP4 (hd hP4 nl).1 (hd hP4 nl).2) hDp hDc
      · intro z o hz e
        rw [upd_ne (ne_of_none e nDH)]
        exact (same_new nl) _ _ (kp4 _ _ hz (kpc _ _ hz e))
      · intro q hq
        rcases List.mem_append.mp hq with h' | h'
        · obtain ⟨z1, z2⟩ := (hL.keepP hPc kp4) q h'
          have z3 : TupIs (upd H4 l (.tup (natV bs))) q.1 (rowV W q.2) := z1.same (same_new nl)
          refine ⟨z3.keep fun o e => ?_, z2⟩
          rw [upd_ne]
          · exact e
          · intro z
            rcases z1 with w | ⟨ob, _, _, w⟩
            · rw [z, eD4] at w; cases w
            · rw [z, eD4] at w; cases w
        · rw [List.mem_singleton.mp h']
          refine ⟨.inl ?_, rlt⟩
          rw [upd_ne hlD, upd_same, rv]
    · rintro Hc ⟨L, lL, eD, hPc, kpc, hL⟩
      have wk : W * y.toNat ≤ 8 * 8 := Nat.mul_le_mul hW (by omega)
      refine ⟨by show 2 ≤ sizeLine; decide, fun r nr => ?_⟩
      have sr := same_new (o := .tup [.int (W : Nat), .ref D]) nr
      exact q r D L W _ _ (by omega) (by omega) (by omega) (pen_sm hPc sr) upd_same (sr _ _ eD) (hL.same sr) (kpc.trans (KeepP.of_same sr))
end
end KQ

namespace KQ
open PySem PySem.Spec PyProof.Rows L2
/-! ### (x,) * k, k = 0 and k = 1 too -/
theorem tuple_mul_one (l : Addr) (items : Array Value) (n : Nat) (dd : Option Addr) (sl : Array (Option Value)) (u : Tok) :
    Meets (Builtin.«tuple.__mul__» ⟨[.ref l, .int 1 u], []⟩) (fun _ R s => s.heap.get? l = some { cls := .type "tuple", dict := dd, data := .seq items n, slots := sl } ∧ R (.ok (.ret (Value.ref l))) s) :=
  .of_wp fun prog w A R s h => by
    obtain ⟨hp, g, d, tk, os⟩ := s
    obtain ⟨hl, h⟩ := h
    have f1 := AutoSeq1.idx_int
    have c1 : (items.isEmpty || (1 : Int) == 1) = true := by simp
    wp_walk using wpAny_loadPart' hl
    exact ⟨_, rfl, h⟩
theorem tuple_mul_none (l : Addr) (items : Array Value) (n : Nat) (dd : Option Addr) (sl : Array (Option Value)) (u : Tok) (hi : items.isEmpty = false) :
    Meets (Builtin.«tuple.__mul__» ⟨[.ref l, .int 0 u], []⟩) (fun _ R s => s.heap.get? l = some { cls := .type "tuple", dict := dd, data := .seq items n, slots := sl } ∧
      R (.ok (.ret (Value.ref s.heap.objs.size))) { s with heap := s.heap.push { cls := Value.type "tuple", data := Data.seq #[] } }) :=
  .of_wp fun prog w A R s h => by
    obtain ⟨hp, g, d, tk, os⟩ := s
    obtain ⟨hl, h⟩ := h
    have f1 := AutoSeq1.idx_int
    have c1 : (items.isEmpty || (0 : Int) == 1) = false := by rw [hi]; rfl
    wp_walk using wpAny_loadPart' hl
    repeat (first
      | (refine wpAny_ite_false (decide_eq_false (by rw [c1]; exact Bool.false_ne_true)) ?_; wp_walk using wpAny_loadPart' hl)
      | (refine wpAny_ite_true (decide_eq_true (by simp)) ?_; wp_walk using wpAny_loadPart' hl))
    exact ⟨_, rfl, h⟩
def rRepZ : R2 := fun x y H Q => ∃ (l : Addr) (k : Nat) (v : V), x = .ref l ∧ y = .int (k : Nat) ∧ H l = some (.tup [v]) ∧ k ≤ 1000 ∧ ∀ p H', Same H H' → H' p = some (.tup (List.replicate k v)) → Q (.ref p) H'
theorem op_repZ {X : Cx} : OpR X (binaryOp .Mult) rRepZ := by
  intro pins s σ H x y v u Q I rx ry h
  obtain ⟨l, k, z, rfl, rfl, hT, hk, q⟩ := h
  have rx0 : RelV (.ref l) v := rx
  have ry0 : RelV (.int (k : Nat)) u := ry
  by_cases big : 2 ≤ k
  · refine op_repT pins s σ H _ _ v u Q I rx0 ry0 ⟨l, k, [z], rfl, rfl, SqT.of hT, by simp, by omega, by omega, by show 1 ≤ 1000; decide, fun p np => ?_⟩
    refine q p _ (fun b o e => ?_) ?_
    · rw [upd_ne (ne_of_none e np)]
      exact e
    · rw [upd_same, Int.toNat_natCast]
      congr 2
      have : ∀ m : Nat, (List.replicate m [z]).flatten = List.replicate m z := fun m => by
        induction m with
        | zero => rfl
        | succ m ih => rw [List.replicate_succ, List.flatten_cons, ih, List.replicate_succ]; rfl
      exact this k
  · cases rx
    obtain ⟨t, rfl⟩ := ry
    obtain ⟨its, r, ⟨⟨cls, dd, data, sl⟩, ho, hc, n, hd⟩, hs⟩ := I.tuple (SqT.of hT)
    simp only at hc hd
    subst hc hd
    obtain ⟨it0, rfl, _⟩ := vals1 r
    have k01 : k = 0 ∨ k = 1 := by omega
    rcases k01 with rfl | rfl
    · refine wpAny_binaryOp_repeat_ref (T := "tuple") (U := "int") (by decide) ⟨_, ho, rfl⟩ (fun s' => typeIs_int s' _ t) noFill_tuple_mul F.fills_int_mul F.slot_int_rmul repeat_tuple F.slot_int_index.lookup
        (call_meets F.slot_int_rmul (typeIs_int s _ t) F.entry_int_rmul (F.args_int_rmul_2 _ _) (int_rmul_tuple _ t l _ n dd sl)
          ⟨ho, rfl, ⟨_, ho, rfl⟩, call_meets F.slot_tuple_mul ⟨_, ho, rfl⟩ F.entry_tuple_mul (F.args_tuple_mul_2 _ _) (tuple_mul_none l _ n dd sl t rfl) ⟨ho, ?_⟩⟩)
      have nf := I.hok.fresh (Nat.le_refl s.heap.objs.size)
      refine ⟨.ref s.heap.objs.size, _, I.laid (t' := s.toks) (o := .tup []) (fun b ob q => Heap.get?_push_of_some _ q) (Nat.le_refl _) ⟨Nat.zero_le _, [], .nil, IsTup.new _ _⟩, rfl, q _ _ (fun b o e => ?_) upd_same⟩
      rw [upd_ne (ne_of_none e nf)]
      exact e
    · refine wpAny_binaryOp_repeat_ref (T := "tuple") (U := "int") (by decide) ⟨_, ho, rfl⟩ (fun s' => typeIs_int s' _ t) noFill_tuple_mul F.fills_int_mul F.slot_int_rmul repeat_tuple F.slot_int_index.lookup
        (call_meets F.slot_int_rmul (typeIs_int s _ t) F.entry_int_rmul (F.args_int_rmul_2 _ _) (int_rmul_tuple _ t l _ n dd sl)
          ⟨ho, rfl, ⟨_, ho, rfl⟩, call_meets F.slot_tuple_mul ⟨_, ho, rfl⟩ F.entry_tuple_mul (F.args_tuple_mul_2 _ _) (tuple_mul_one l _ n dd sl t) ⟨ho, ?_⟩⟩)
      exact ⟨.ref l, H, I, rfl, q l H (fun _ _ e => e) hT⟩
end KQ

namespace KQ
open PySem PySem.Spec PyProof.Rows L2
/-! ### the law -/
abbrev sLaw : Stmt := topS 25
theorem scLaw : FnScope ["_law_script", "_law_pen_here", "_law_width", "_law_rows", "_law_told", "_law_kept", "_law_asked", "_law_one", "_law_two", "_law_inner", "_law_k", "_law_row"] ["_law_script"] (defScope sLaw) := ⟨rfl, rfl, rfl, by decide +kernel, rfl, by decide +kernel, by decide +kernel⟩
/-- all that the program's top has left -/
structure Top (K : PySem.W.Frag) (mg : Str → Option Value) (fRn fRt fCo fLw fRb fRk fCd fKe fNu fBi fKn fPn fDr fPk fWh fLn fLl fLt fLr fLs fLc fLd : Addr) (dRn dRt dCo dLw dRb dRk dCd dKe dNu dBi dKn dPn dDr dPk dWh dLn dLl dLt dLr dLs dLc dLd : FuncData) : Prop where
  B : Bl mg
  FRn : Fun K "reduced_numbers" "reduced_numbers" sRedN fRn dRn
  bRn : Binds K dRn ["numbers"] []
  gRn : mg "reduced_numbers" = some (.ref fRn)
  FRt : Fun K "rest_by" "rest_by" sRestBy fRt dRt
  bRt : Binds K dRt ["number", "table"] []
  gRt : mg "rest_by" = some (.ref fRt)
  FCo : Fun K "combination" "combination" sComb fCo dCo
  bCo : Binds K dCo ["numbers", "number"] []
  gCo : mg "combination" = some (.ref fCo)
  FLw : Fun K "_lowered" "_lowered" sLow fLw dLw
  bLw : Binds K dLw ["number", "marks", "table"] []
  gLw : mg "_lowered" = some (.ref fLw)
  FRb : Fun K "reduced_bits" "reduced_bits" sRedB fRb dRb
  bRb : Binds K dRb ["rows"] []
  gRb : mg "reduced_bits" = some (.ref fRb)
  FRk : Fun K "bit_rank" "bit_rank" sRank fRk dRk
  bRk : Binds K dRk ["rows"] []
  gRk : mg "bit_rank" = some (.ref fRk)
  FCd : Fun K "combined" "combined" sCombd fCd dCd
  bCd : Binds K dCd ["rows", "row"] []
  gCd : mg "combined" = some (.ref fCd)
  FKe : Fun K "kernel_bits" "kernel_bits" sKern fKe dKe
  bKe : Binds K dKe ["rows", "width"] []
  gKe : mg "kernel_bits" = some (.ref fKe)
  FNu : Fun K "_number_of" "_number_of" sNum fNu dNu
  bNu : Binds K dNu ["row"] []
  gNu : mg "_number_of" = some (.ref fNu)
  FBi : Fun K "_bits_of" "_bits_of" sBits fBi dBi
  bBi : Binds K dBi ["number", "width"] []
  gBi : mg "_bits_of" = some (.ref fBi)
  FKn : Fun K "_kernel_number" "_kernel_number" sKnum fKn dKn
  bKn : Binds K dKn ["table", "place"] []
  gKn : mg "_kernel_number" = some (.ref fKn)
  FPn : Fun K "_law_pen" "_law_pen" sPen fPn dPn
  bPn : Binds K dPn ["_law_script"] []
  gPn : mg "_law_pen" = some (.ref fPn)
  FDr : Fun K "_law_draw" "_law_draw" sDraw fDr dDr
  bDr : Binds K dDr ["_law_pen_here", "_law_many"] []
  gDr : mg "_law_draw" = some (.ref fDr)
  FPk : Fun K "_law_pick" "_law_pick" sPick fPk dPk
  bPk : Binds K dPk ["_law_pen_here", "_law_some"] []
  gPk : mg "_law_pick" = some (.ref fPk)
  FWh : Fun K "_law_is_whole" "_law_is_whole" sLWh fWh dWh
  bWh : Binds K dWh ["_law_value"] []
  gWh : mg "_law_is_whole" = some (.ref fWh)
  FLn : Fun K "_law_number" "_law_number" sLNum fLn dLn
  bLn : Binds K dLn ["_law_row"] []
  gLn : mg "_law_number" = some (.ref fLn)
  FLl : Fun K "_law_left" "_law_left" sLLeft fLl dLl
  bLl : Binds K dLl ["_law_table_here", "_law_number_here"] []
  gLl : mg "_law_left" = some (.ref fLl)
  FLt : Fun K "_law_table" "_law_table" sLTab fLt dLt
  bLt : Binds K dLt ["_law_numbers"] []
  gLt : mg "_law_table" = some (.ref fLt)
  FLr : Fun K "_law_is_reduced" "_law_is_reduced" sLRed fLr dLr
  bLr : Binds K dLr ["_law_rows", "_law_width"] []
  gLr : mg "_law_is_reduced" = some (.ref fLr)
  FLs : Fun K "_law_same_made" "_law_same_made" sLSame fLs dLs
  bLs : Binds K dLs ["_law_told", "_law_rows"] []
  gLs : mg "_law_same_made" = some (.ref fLs)
  FLc : Fun K "_law_combined_right" "_law_combined_right" sLCR fLc dLc
  bLc : Binds K dLc ["_law_rows", "_law_row"] []
  gLc : mg "_law_combined_right" = some (.ref fLc)
  FLd : Fun K "_law_drawn_rows" "_law_drawn_rows" sLDr fLd dLd
  bLd : Binds K dLd ["_law_pen_here"] []
  gLd : mg "_law_drawn_rows" = some (.ref fLd)
def spLaw (K : PySem.W.Frag) : Sp := fun vs H Q _ => ∃ (a : Addr) (ns : List Int), vs = [.ref a] ∧ SqL K H a (ns.map V.int) ∧ ns.length ≤ 63 ∧ ∀ H', Q (.bl true) H'
/-- the rows as the law holds them -/
def LT (H : Hp) (a : Addr) (L : Rws) : Prop := H a = some (.lst (refs L)) ∨ H a = some (.tup (refs L))
theorem LT.sq {K : PySem.W.Frag} {H : Hp} {a : Addr} {L : Rws} (h : LT H a L) : SqLT K H a (refs L) := h.elim (fun z => .inl (SqL.of z)) fun z => .inr (SqT.of z)
theorem LT.same {H H' : Hp} {a : Addr} {L : Rws} (s : Same H H') (h : LT H a L) : LT H' a L := h.elim (fun z => .inl (s _ _ z)) fun z => .inr (s _ _ z)
theorem LT.keepP {H H' : Hp} {p c : Addr} {n : Nat} {a : Addr} {L : Rws} (hP : PenAt H p c n) (k : KeepP p H H') (h : LT H a L) : LT H' a L := by
  rcases h with z | z
  · exact .inl (k _ _ (pen_off hP z (by intro kv y; cases y)) z)
  · exact .inr (k _ _ (pen_off hP z (by intro kv y; cases y)) z)
theorem RowsFz.keepP {H H' : Hp} {W : Nat} {L : Rws} {p c : Addr} {n : Nat} (hP : PenAt H p c n) (k : KeepP p H H') (h : RowsFz H W L) : RowsFz H' W L := fun q hq => by
  obtain ⟨⟨ob, h1, h2, h3⟩, h4⟩ := h q hq
  exact ⟨⟨ob, h1, h2, k _ _ (pen_off hP h3 (by intro kv y; cases y)) h3⟩, h4⟩
theorem tup_keepP {H H' : Hp} {p c : Addr} {n : Nat} {a : Addr} {xs : List V} (hP : PenAt H p c n) (k : KeepP p H H') (z : H a = some (.tup xs)) : H' a = some (.tup xs) := k _ _ (pen_off hP z (by intro kv y; cases y)) z
theorem lst_keepP {H H' : Hp} {p c : Addr} {n : Nat} {a : Addr} {xs : List V} (hP : PenAt H p c n) (k : KeepP p H H') (z : H a = some (.lst xs)) : H' a = some (.lst xs) := k _ _ (pen_off hP z (by intro kv y; cases y)) z
abbrev scLast : Scope := { kind := .function, names := [(".0", .local), ("_law_row", .cell), ("int", .globalImplicit), ("sum", .globalImplicit), ("range", .globalImplicit), ("_law_one", .cell), ("_law_width", .cell)], isGenerator := false, isCoroutine := false }
section
variable {P : Program} {w : World} {K : PySem.W.Frag} {mg : Str → Option Value} {base : Heap}
theorem ok_law {f fRn fRt fCo fLw fRb fRk fCd fKe fNu fBi fKn fPn fDr fPk fWh fLn fLl fLt fLr fLs fLc fLd : Addr} {fd dRn dRt dCo dLw dRb dRk dCd dKe dNu dBi dKn dPn dDr dPk dWh dLn dLl dLt dLr dLs dLc dLd : FuncData} (F : Fun K "law" "law" sLaw f fd) (T : Top K mg fRn fRt fCo fLw fRb fRk fCd fKe fNu fBi fKn fPn fDr fPk fWh fLn fLl fLt fLr fLs fLc fLd dRn dRt dCo dLw dRb dRk dCd dKe dNu dBi dKn dPn dDr dPk dWh dLn dLl dLt dLr dLs dLc dLd) : FnOk P w K mg base CX0 5 f fd ["_law_script"] (spLaw K) := by
  have GPn : FnOk P w K mg base CX0 4 fPn dPn ["_law_script"] (spPen K) := ok_pen T.FPn T.B.int T.B.list
  have GDr : FnOk P w K mg base CX0 4 fDr dDr ["_law_pen_here", "_law_many"] spDraw := ok_draw T.FDr T.B.int T.B.len
  have GPk : FnOk P w K mg base CX0 4 fPk dPk ["_law_pen_here", "_law_some"] (spPick K) := ok_pick T.FPk T.FDr T.bDr T.gDr T.B.int T.B.len
  have GLd : FnOk P w K mg base CX0 4 fLd dLd ["_law_pen_here"] spLDr := ok_ldr T.FLd T.FDr T.bDr T.gDr T.FPk T.bPk T.gPk T.B
  have GLr : FnOk P w K mg base CX0 4 fLr dLr ["_law_rows", "_law_width"] spLRed := ok_lred T.FLr T.FWh T.bWh T.gWh T.B
  have GLs : FnOk P w K mg base CX0 4 fLs dLs ["_law_told", "_law_rows"] (spLSame K) := ok_lsame T.FLs T.FLn T.bLn T.gLn T.FLt T.bLt T.gLt T.FLl T.bLl T.gLl T.B
  have GLc : FnOk P w K mg base CX0 4 fLc dLc ["_law_rows", "_law_row"] (spLCR K) := ok_lcr T.FLc T.FLn T.bLn T.gLn T.FLt T.bLt T.gLt T.FLl T.bLl T.gLl T.FCd T.bCd T.gCd T.FCo T.bCo T.gCo T.FLw T.bLw T.gLw T.FNu T.bNu T.gNu T.B
  have GRb : FnOk P w K mg base CX0 4 fRb dRb ["rows"] (spRedB K) := ok_redb T.FRb T.FNu T.bNu T.gNu T.FRn T.bRn T.gRn T.FRt T.bRt T.gRt T.FBi T.bBi T.gBi T.B
  have GRk : FnOk P w K mg base CX0 4 fRk dRk ["rows"] (spRank K) := ok_rank T.FRk T.FNu T.bNu T.gNu T.FRn T.bRn T.gRn T.FRt T.bRt T.gRt T.B
  have GKe : FnOk P w K mg base CX0 4 fKe dKe ["rows", "width"] (spKern K) := ok_kern T.FKe T.FNu T.bNu T.gNu T.FRn T.bRn T.gRn T.FRt T.bRt T.gRt T.FBi T.bBi T.gBi T.FKn T.bKn T.gKn T.B
  refine F.ok scLaw (fun vs H Q E h => ?_) (fun cdv A outer s H vs Q E hr h => ?_)
  · obtain ⟨a, ns, rfl, _⟩ := h
    rfl
  · obtain ⟨a, ns, rfl, hS, hlen, q⟩ := h
    have hu : (A.deeper (envOfC "law" (defScope sLaw) s.heap.objs.size f cdv)).units + 64 < cLine := hr.units
    refine ⟨_, C8.pss_cut (ps_set (i := 1) scLaw.nd rfl (.inr rfl) (pe_call GPn hr (by rfl) T.gPn T.FPn.kp T.bPn .nil pass0 (pa_cons (pv 0) pa_nil)))
      (C8.pss_cut (ps_asg (pe_call GLd hr (by rfl) T.gLd T.FLd.kp T.bLd .nil pass0 (pa_cons (pv 1) pa_nil)) (pg_tup rfl (pgs_cons (pg_name (i := 2) scLaw.nd rfl (.inr rfl)) (pgs_cons (pg_name (i := 3) scLaw.nd rfl (.inr rfl)) pgs_nil))))
      (C8.pss_cut (ps_set (i := 3) scLaw.nd rfl (.inr rfl) (pe_ifExp (pt_cmpR op_eq (pe_call GDr hr (by rfl) T.gDr T.FDr.kp T.bDr .nil pass0 (pa_cons (pv 1) (pa_cons pe_int pa_nil))) pe_int (nomark _)) (pv 3) (pe_callTy call_tuple_of (by rfl) T.B.tuple bootT (pa_cons (pv 3) pa_nil))))
      (C8.pss_cut (ps_par (i := 4) (j := 5) rfl scLaw.nd rfl rfl (by decide) rfl rfl (pa_cons (pe_call GRb hr (by rfl) T.gRb T.FRb.kp T.bRb .nil pass0 (pa_cons (pv 3) pa_nil)) (pa_cons (pe_callTy call_list_of (by rfl) T.B.list (by decide +kernel) (pa_cons (pv 3) pa_nil)) pa_nil)) rfl)
      (C8.pss_cut (ps_if (pw_or (pt_not (pt_val (pe_call GLr hr (by rfl) T.gLr T.FLr.kp T.bLr .nil pass0 (pa_cons (pv 4) (pa_cons (pv 2) pa_nil))))) (pw_or (pt_not (pt_val (pe_call GLs hr (by rfl) T.gLs T.FLs.kp T.bLs .nil pass0 (pa_cons (pv 4) (pa_cons (pv 3) pa_nil))))) (pw_or1 (pt_cmpR op_ne (pe_call GRk hr (by rfl) T.gRk T.FRk.kp T.bRk .nil pass0 (pa_cons (pv 3) pa_nil)) (pe_callB call_len_seq (by rfl) T.B.len PySem.boot_len (pa_cons (pv 4) pa_nil)) (nomark _))))).pt (pss_one (ps_ret pe_bl)) pss_nil)
      (C8.pss_cut (ps_set (i := 6) scLaw.nd rfl (.inl rfl) (pe_lst (pa_cons (pe_callTy call_tuple_of (by rfl) T.B.tuple bootT (pa_cons (pe_draws (j := 2) (l := 10) (pe_lc (own := [("_law_k", 10)]) (g := gName 10) (by rfl) scLaw.nd (pi_range1 (by rfl) T.B.range (pa_cons (pv 2) pa_nil)) (blkOk_by (own := [("_law_k", 10)]) (N := ["_law_script", "_law_pen_here", "_law_width", "_law_rows", "_law_told", "_law_kept", "_law_asked", "_law_one", "_law_two", "_law_inner", "_law_k", "_law_row"]) (sc := defScope sLaw) (by decide +kernel))
            (fun _ _ _ _ _ => pg_name (i := 10) scLaw.nd rfl (Or.inl rfl)) (fun _ _ _ _ _ => pts_nil) (fun _ _ _ _ _ => (pe_call GDr hr (by rfl) T.gDr T.FDr.kp T.bDr .nil pass0 (pa_cons (pv 1) (pa_cons pe_int pa_nil)))))) pa_nil)) (pa_cons (pe_op op_repZ (pe_tup (pa_cons pe_int pa_nil)) (pv 2)) pa_nil))))
      (C8.pss_cut (ps_if (pt_cmpR op_gt (pe_callB call_len_seq (by rfl) T.B.len PySem.boot_len (pa_cons (pv 3) pa_nil)) pe_int (nomark _))
          (C8.pss_cut (ps_asg (pe_tup (pa_cons (pe_call GPk hr (by rfl) T.gPk T.FPk.kp T.bPk .nil pass0 (pa_cons (pv 1) (pa_cons (pv 3) pa_nil))) (pa_cons (pe_call GPk hr (by rfl) T.gPk T.FPk.kp T.bPk .nil pass0 (pa_cons (pv 1) (pa_cons (pv 3) pa_nil))) pa_nil))) (pg_tup rfl (pgs_cons (pg_name (i := 7) scLaw.nd rfl (.inr rfl)) (pgs_cons (pg_name (i := 8) scLaw.nd rfl (.inr rfl)) pgs_nil))))
          (pss_one (ps_expr (pe_bm PySem.F.plainAttrs_list PySem.F.slot_list_append PySem.F.type_list_append mt_append (pv 6) (pa_cons (pe_callTy call_tuple_of (by rfl) T.B.tuple bootT (pa_cons (pe_lc (own := [("_law_k", 10)]) (g := gName 10) (by rfl) scLaw.nd (pi_range1 (by rfl) T.B.range (pa_cons (pv 2) pa_nil)) (blkOk_by (own := [("_law_k", 10)]) (N := ["_law_script", "_law_pen_here", "_law_width", "_law_rows", "_law_told", "_law_kept", "_law_asked", "_law_one", "_law_two", "_law_inner", "_law_k", "_law_row"]) (sc := defScope sLaw) (by decide +kernel))
            (fun _ _ _ _ _ => pg_name (i := 10) scLaw.nd rfl (Or.inl rfl)) (fun _ _ _ _ _ => pts_nil) (fun _ _ _ _ _ => pe_op op_xor (pe_ix (r := rIxT K) ix_tup (pv 7) (pv 10) (fun _ _ => rfl)) (pe_ix (r := rIxT K) ix_tup (pv 8) (pv 10) (fun _ _ => rfl)))) pa_nil)) pa_nil))))) pss_nil)
      (C8.pss_cut (ps_if (pt_not (pt_val (pe_callB (cr_all rfl) (by rfl) T.B.all bootAll (pa_cons (pe_lc (own := [("_law_row", 11)]) (g := gName 11) (by rfl) scLaw.nd (pi_list (pv 6)) (blkOk_by (own := [("_law_row", 11)]) (N := ["_law_script", "_law_pen_here", "_law_width", "_law_rows", "_law_told", "_law_kept", "_law_asked", "_law_one", "_law_two", "_law_inner", "_law_k", "_law_row"]) (sc := defScope sLaw) (by decide +kernel))
            (fun _ _ _ _ _ => pg_name (i := 11) scLaw.nd rfl (Or.inl rfl)) (fun _ _ _ _ _ => pts_nil) (fun _ _ _ _ _ => (pe_call GLc hr (by rfl) T.gLc T.FLc.kp T.bLc .nil pass0 (pa_cons (pv 3) (pa_cons (pv 11) pa_nil))))) pa_nil)))) (pss_one (ps_ret pe_bl)) pss_nil)
      (C8.pss_cut (ps_set (i := 9) scLaw.nd rfl (.inl rfl) (pe_call GKe hr (by rfl) T.gKe T.FKe.kp T.bKe .nil pass0 (pa_cons (pv 3) (pa_cons (pv 2) pa_nil))))
      (C8.pss_cut (ps_if (pw_or (pt_not (pt_val (pe_call GLr hr (by rfl) T.gLr T.FLr.kp T.bLr .nil pass0 (pa_cons (pv 9) (pa_cons (pv 2) pa_nil))))) (pw_or1 (pt_cmpR op_ne (pe_callB call_len_seq (by rfl) T.B.len PySem.boot_len (pa_cons (pv 9) pa_nil)) (pe_op op_sub (pv 2) (pe_callB call_len_seq (by rfl) T.B.len PySem.boot_len (pa_cons (pv 4) pa_nil))) (nomark _)))).pt (pss_one (ps_ret pe_bl)) pss_nil)
      (C8.pss_cut (ps_for PassesOwn.never rfl (pi_tup (pv 9)) (pg_name (i := 7) scLaw.nd rfl (.inr rfl))
        (pss_one (ps_if (pt_cmpR (op_neD hu) (pe_lc (own := [("_law_row", 11)]) (g := gName 11) (by rfl) scLaw.nd (pi_seq (pv 3)) (blkOk_by (own := [("_law_row", 11)]) (N := ["_law_script", "_law_pen_here", "_law_width", "_law_rows", "_law_told", "_law_kept", "_law_asked", "_law_one", "_law_two", "_law_inner", "_law_k", "_law_row"]) (sc := defScope sLaw) (by decide +kernel))
            (fun _ _ _ _ _ => pg_name (i := 11) scLaw.nd rfl (Or.inr rfl)) (fun _ _ _ _ _ => pts_one (pt_cmpR op_eq (pe_op op_mod (pe_callTy call_int1 (by rfl) T.B.int bootI (pa_cons (pe_callB (r := rSum K) (cr_sum rfl) (by rfl) T.B.sum PyProof.Rows.boot_sum (pa_cons (pe_lc (own := [("_law_k", 10)]) (g := gName 10) (by rfl) scLaw.nd (pi_range1 (by rfl) T.B.range (pa_cons (pv 2) pa_nil)) (blkOk_by (own := [("_law_k", 10)]) (N := ["_law_script", "_law_pen_here", "_law_width", "_law_rows", "_law_told", "_law_kept", "_law_asked", "_law_one", "_law_two", "_law_inner", "_law_k", "_law_row"]) (sc := scLast) (by decide +kernel))
              (fun _ _ _ _ _ => pg_name (i := 10) scLaw.nd rfl (Or.inl rfl)) (fun _ _ _ _ _ => pts_nil) (fun _ _ _ _ _ => pe_op op_mul (pe_ix (r := rIxT K) ix_tup (pv 7) (pv 10) (fun _ _ => rfl)) (pe_ix (r := rIxT K) ix_tup (pv 11) (pv 10) (fun _ _ => rfl)))) pa_nil)) pa_nil)) pe_int) pe_int (nomark _))) (fun _ _ _ _ _ => pv 11)) (pe_lst pa_nil) (nomark _)) (pss_one (ps_ret pe_bl)) pss_nil)))
      (pss_one (ps_ret (pe_cmpR (op_eqV hu) (pe_callTy call_list_of (by rfl) T.B.list (by decide +kernel) (pa_cons (pv 3) pa_nil)) (pv 5) (nomark _)))))))))))))), ?_⟩
    refine ⟨fun σ' H' => ∃ p c, σ' = [some (.ref a), some (.ref p), none, none, none, none, none, none, none, none, none, none] ∧ PenAt H' p c 0, ?_, ?_⟩
    · exact ⟨_, rfl, a, ns, rfl, hS, hlen, fun H1 p c _ _ _ hP => ⟨p, c, rfl, hP⟩⟩
    rintro _ H1 ⟨p, c, rfl, hP1⟩
    refine ⟨fun σ' H' => ∃ (R : Addr) (L : Rws) (W n1 : Nat), σ' = [some (.ref a), some (.ref p), some (.int (W : Nat)), some (.ref R), none, none, none, none, none, none, none, none] ∧ PenAt H' p c n1 ∧ n1 ≤ 2000 ∧ LT H' R L ∧ RowsAt H' W L ∧ W ≤ 60 ∧ L.length ≤ 40, ?_, ?_⟩
    · exact ⟨_, rfl, p, c, 0, rfl, hP1, by decide, fun r R L W n' H2 hW hL hn hP2 er eR rows _ => ⟨r, _, rfl, .inl (.inl er), rfl, _, _, rfl, _, _, rfl, rfl, R, L, W, n', rfl, hP2, hn, .inl eR, rows, hW, hL⟩⟩
    rintro _ H2 ⟨R0, L, W, n1, rfl, hP2, hn1, lt0, rows2, hW, hL⟩
    refine ⟨fun σ' H' => ∃ R : Addr, σ' = [some (.ref a), some (.ref p), some (.int (W : Nat)), some (.ref R), none, none, none, none, none, none, none, none] ∧ PenAt H' p c (n1 + 1) ∧ LT H' R L ∧ RowsAt H' W L, ?_, ?_⟩
    · refine ⟨_, rfl, p, c, n1, 2, rfl, hP2, by omega, by decide, by decide, fun y H3 y0 y1 hP3 hk3 => ⟨rfl, _, rfl, ?_⟩⟩
      have lt3 := lt0.keepP hP2 (KeepP.of_eq hk3)
      have rows3 := rows2.keepP hP2 (KeepP.of_eq hk3)
      by_cases y00 : y = 0
      · subst y00
        exact iteEt ⟨_, rfl, R0, rfl, hP3, lt3, rows3⟩
      · refine iteEf (fun z => y00 (V.int.inj z)) ⟨_, rfl, R0, refs L, rfl, ?_⟩
        rcases lt3 with z | z
        · refine .inl ⟨SqL.of z, fun l nl => ⟨l, rfl, pen_sm hP3 (same_new nl), .inr upd_same, rows3.same (same_new nl)⟩⟩
        · exact .inr ⟨SqT.of z, R0, rfl, hP3, .inr z, rows3⟩
    clear lt0 rows2 hP1
    rintro _ H3 ⟨R, rfl, hP3, lt3, rows3⟩
    refine ⟨fun σ' H' => ∃ (Tl Kp : Addr) (M : Rws), σ' = [some (.ref a), some (.ref p), some (.int (W : Nat)), some (.ref R), some (.ref Tl), some (.ref Kp), none, none, none, none, none, none] ∧ Same H3 H' ∧ H' Tl = some (.tup (refs M)) ∧ RowsFz H' W M ∧ Tab W (nums M) ∧ (∀ x, Spn (nums M) x ↔ Spn (nums L) x) ∧ H' Kp = some (.lst (refs L)), ?_, ?_⟩
    · refine ⟨_, rfl, R, L, W, rfl, lt3.sq, rows3, by omega, by omega, fun Tl H4 M s4 nT eT fz tab sp lm => ⟨_, rfl, R, refs L, rfl, (lt3.same s4).sq, fun l nl => ?_⟩⟩
      have sl := same_new (o := .lst (refs L)) nl
      exact ⟨_, _, rfl, Tl, l, M, rfl, s4.trans sl, sl _ _ eT, fz.same sl, tab, sp, upd_same⟩
    rintro _ H4 ⟨Tl, Kp, M, rfl, s4, eT, fz, tab, sp, eK⟩
    have hP4 := pen_sm hP3 s4
    have lt4 := lt3.same s4
    have rows4 := rows3.same s4
    have lM : M.length ≤ 60 := by
      rw [← nums_len]
      exact Nat.le_trans tab.len hW
    clear hP3 lt3 rows3 s4
    refine ⟨fun σ' H' => σ' = [some (.ref a), some (.ref p), some (.int (W : Nat)), some (.ref R), some (.ref Tl), some (.ref Kp), none, none, none, none, none, none] ∧ Same H4 H', ?_, ?_⟩
    · refine ⟨_, rfl, _, rfl, Tl, M, W, rfl, eT, fz, tab, hW, fun H5 s5 => ⟨_, rfl, iteF ?_⟩⟩
      refine ⟨_, rfl, _, rfl, Tl, R, M, L, W, rfl, s5 _ _ eT, (fz.same s5).rows, by omega, (lt4.same s5).sq, rows4.same s5, by omega, tab.red.ec, sp, fun H6 s6 => ⟨_, rfl, iteF ?_⟩⟩
      have s56 := s5.trans s6
      refine ⟨_, rfl, R, L, W, rfl, (lt4.same s56).sq, rows4.same s56, by omega, fun H7 ms s7 E7 sp7 => ?_⟩
      have s57 := s56.trans s7
      refine ⟨_, rfl, Tl, _, rfl, .inr (SqT.of (s57 _ _ eT)), rfl, _, rfl, ?_⟩
      rw [refs_len, ← nums_len M, len_eq E7 tab.red.ec fun x => (sp7 x).trans (sp x).symm]
      exact iteNe ⟨rfl, s57⟩
    rintro _ H5 ⟨rfl, s5⟩
    have hP5 := pen_sm hP4 s5
    have lt5 := lt4.same s5
    have rows5 := rows4.same s5
    have eT5 := s5 _ _ eT
    have fz5 := fz.same s5
    have eK5 := s5 _ _ eK
    clear hP4 lt4 rows4 eT fz eK s5
    -- the asked rows
    refine ⟨fun σ' H' => ∃ (Ak : Addr) (As : Rws), σ' = [some (.ref a), some (.ref p), some (.int (W : Nat)), some (.ref R), some (.ref Tl), some (.ref Kp), some (.ref Ak), none, none, none, none, none] ∧ PenAt H' p c (n1 + 1 + W) ∧ KeepP p H5 H' ∧ H' Ak = some (.lst (refs As)) ∧ RowsAt H' W As ∧ As.length = 2 ∧ H5 Ak = none, ?_, ?_⟩
    · refine ⟨p, c, n1 + 1, W, rfl, rfl, show 10 < 12 by decide, by decide, hP5, by omega, hW, fun D H6 bs lb b2 nD hP6 kp6 eD => ⟨D, natV bs, rfl, .inl ⟨SqL.of eD, fun l nl => ?_⟩⟩⟩
      obtain ⟨rv, rlt⟩ := row_of lb b2
      have sl := same_new (o := .tup (natV bs)) nl
      have el : (upd H6 l (.tup (natV bs))) l = some (.tup (natV bs)) := upd_same
      generalize upd H6 l (.tup (natV bs)) = H7 at sl el ⊢
      refine ⟨by show 1 ≤ sizeLine; decide, fun t nt => ⟨_, rfl, t, W, .int 0, rfl, rfl, upd_same, by omega, fun z H8 s8 ez => ⟨by show 2 ≤ sizeLine; decide, fun Ak nA => ?_⟩⟩⟩
      have s78 := (same_new (o := .tup [.int 0]) nt).trans s8
      have sA := same_new (o := .lst [.ref l, .ref z]) nA
      have s69 := (sl.trans s78).trans sA
      refine ⟨Ak, [(l, nb 0 bs), (z, 0)], rfl, pen_sm hP6 s69, kp6.trans (KeepP.of_same s69), upd_same, ?_, rfl, ?_⟩
      · intro q hq
        rcases List.mem_cons.mp hq with rfl | hq
        · refine ⟨.inl ?_, rlt⟩
          rw [← rv]
          exact sA _ _ (s78 _ _ el)
        · rw [List.mem_singleton.mp hq]
          refine ⟨.inl ?_, Nat.two_pow_pos W⟩
          have : rowV W 0 = List.replicate W (V.int 0) := by
            unfold rowV
            rw [row_zero, List.map_replicate]
            rfl
          rw [this]
          exact sA _ _ ez
      · cases e : H5 Ak with
        | none => rfl
        | some o =>
          have hAp : Ak ≠ p := fun y => by
            obtain ⟨⟨op, ep⟩, _⟩ := pen_get hP6
            rw [y] at nA
            have := (sl.trans s78) _ _ ep
            rw [this] at nA
            cases nA
          have := (sl.trans s78) _ _ (kp6 _ _ hAp e)
          rw [this] at nA
          cases nA
    rintro _ H6 ⟨Ak, As, rfl, hP6, kp6, eA, rowsA, lA, nA5⟩
    have lt6 := lt5.keepP hP5 kp6
    have rows6 := rows5.keepP hP5 kp6
    have eT6 := tup_keepP hP5 kp6 eT5
    have fz6 := fz5.keepP hP5 kp6
    have eK6 := lst_keepP hP5 kp6 eK5
    have neT : Tl ≠ Ak := fun y => by rw [y, nA5] at eT5; cases eT5
    have neK : Kp ≠ Ak := fun y => by rw [y, nA5] at eK5; cases eK5
    have neR : R ≠ Ak := fun y => by
      rcases lt5 with z | z
      · rw [y, nA5] at z; cases z
      · rw [y, nA5] at z; cases z
    clear kp6
    -- one more
    refine ⟨fun σ' H' => ∃ (As : Rws) (n2 : Nat) (s7 s8 : Option V), σ' = [some (.ref a), some (.ref p), some (.int (W : Nat)), some (.ref R), some (.ref Tl), some (.ref Kp), some (.ref Ak), s7, s8, none, none, none] ∧ PenAt H' p c n2 ∧ LT H' R L ∧ RowsAt H' W L ∧ H' Tl = some (.tup (refs M)) ∧ RowsFz H' W M ∧ H' Kp = some (.lst (refs L)) ∧ H' Ak = some (.lst (refs As)) ∧ RowsAt H' W As ∧ As.length ≤ 3, ?_, ?_⟩
    · refine ⟨_, rfl, R, refs L, rfl, lt6.sq, _, _, rfl, rfl, _, rfl, ?_⟩
      by_cases l0 : L.length = 0
      · rw [refs_len, l0, decide_eq_false (by decide)]
        exact iteF ⟨As, _, none, none, rfl, hP6, lt6, rows6, eT6, fz6, eK6, eA, rowsA, by omega⟩
      · rw [refs_len, decide_eq_true (by omega)]
        have ne : refs L ≠ [] := fun z => l0 (by rw [← refs_len, z]; rfl)
        have le : (refs L).length ≤ 1000 := by rw [refs_len]; omega
        refine iteT ⟨fun σ' H' => ∃ (q1 q2 : Addr × Nat) (n2 : Nat), q1 ∈ L ∧ q2 ∈ L ∧ σ' = [some (.ref a), some (.ref p), some (.int (W : Nat)), some (.ref R), some (.ref Tl), some (.ref Kp), some (.ref Ak), some (.ref q1.1), some (.ref q2.1), none, none, none] ∧ PenAt H' p c n2 ∧ KeepP p H6 H', ?_, ?_⟩
        · refine ⟨_, rfl, _, rfl, p, c, R, _, _, rfl, hP6, by omega, lt6.sq, ne, le, fun i1 v1 G1 g1 hG1 k1 => ?_⟩
          have ltG := lt6.keepP hP6 (KeepP.of_eq k1)
          refine ⟨_, rfl, _, rfl, p, c, R, _, _, rfl, hG1, by omega, ltG.sq, ne, le, fun i2 v2 G2 g2 hG2 k2 => ⟨by show 2 ≤ sizeLine; decide, fun r nr => ?_⟩⟩
          obtain ⟨q1, h1, rfl⟩ := refs_at g1
          obtain ⟨q2, h2, rfl⟩ := refs_at g2
          exact ⟨r, _, rfl, .inl (.inl upd_same), rfl, _, _, rfl, _, _, rfl, rfl, q1, q2, _, List.mem_of_getElem? h1, List.mem_of_getElem? h2, rfl, pen_sm hG2 (same_new nr), ((KeepP.of_eq k1).trans (KeepP.of_eq k2)).trans (KeepP.of_same (same_new nr))⟩
        rintro _ H7 ⟨q1, q2, n2, m1, m2, rfl, hP7, kp7⟩
        have lt7 := lt6.keepP hP6 kp7
        have rows7 := rows6.keepP hP6 kp7
        have eT7 := tup_keepP hP6 kp7 eT6
        have fz7 := fz6.keepP hP6 kp7
        have eK7 := lst_keepP hP6 kp7 eK6
        have eA7 := lst_keepP hP6 kp7 eA
        have rowsA7 := rowsA.keepP hP6 kp7
        obtain ⟨⟨op, eP⟩, ⟨oc, eC⟩⟩ := pen_get hP7
        refine ⟨_, rfl, .inl ⟨rfl, _, SqL.of eA7⟩, _, rfl, _, rfl, by omega, by omega, fun D nD => ?_⟩
        refine lc_range (lo := 0) (n := W) (Pv := fun k Hc => ∃ bs : List Nat, bs.length = k ∧ (∀ b ∈ bs, b < 2) ∧ Hc D = some (.lst (natV bs)) ∧ Same H7 Hc) ⟨[], rfl, (fun b hb => by cases hb), upd_same, same_new nD⟩ ?_ ?_
        · rintro k Hc hk ⟨bs, lb, b2, eD, sc⟩
          have bit : ∀ q ∈ L, atI (rowV W q.2) (0 + (k : Nat)) = some (.int ((q.2.testBit (W - 1 - k)).toNat : Nat)) := fun q hq => by
            refine at_of (j := k) (by omega) ?_
            unfold rowV
            rw [List.getElem?_map, rowOf_at hk]
            rfl
          refine ⟨rfl, _, rfl, _, rfl, q1.1, _, _, _, rfl, rfl, ((rows7 q1 m1).1.same sc).sq, bit q1 m1, _, rfl, _, rfl, q2.1, _, _, _, rfl, rfl, ((rows7 q2 m2).1.same sc).sq, bit q2 m2, _, _, rfl, rfl, _, eD, ?_, bs ++ [(q1.2.testBit (W - 1 - k)).toNat ^^^ (q2.2.testBit (W - 1 - k)).toNat], by rw [List.length_append, lb]; rfl, ?_, ?_, same_put sc nD⟩
          · rw [natV_len, lb]
            exact Nat.lt_of_lt_of_le (by omega : k < 60) (by decide)
          · intro b hb
            rcases List.mem_append.mp hb with h' | h'
            · exact b2 b h'
            · rw [List.mem_singleton.mp h', bit_xor]
              exact Bool.toNat_lt _
          · rw [upd_same, natV_app]
            show some (HO.lst (_ ++ [V.int (Builtin.bitXor _ _)])) = _
            rw [bxor]
            rfl
        · rintro Hc ⟨bs, lb, b2, eD, sc⟩
          obtain ⟨rv, rlt⟩ := row_of lb b2
          refine ⟨D, natV bs, rfl, .inl ⟨SqL.of eD, fun l nl => ?_⟩⟩
          have sn := sc.trans (same_new (o := .tup (natV bs)) nl)
          have el : (upd Hc l (.tup (natV bs))) l = some (.tup (natV bs)) := upd_same
          have nlA : l ≠ Ak := fun z => by rw [z, sc _ _ eA7] at nl; cases nl
          generalize upd Hc l (.tup (natV bs)) = G at sn el ⊢
          have hAp : Ak ≠ p := pen_off hP7 eA7 (by intro kv y; cases y)
          have hAc : Ak ≠ c := fun y => by
            obtain ⟨ns', a', d', f', _, e2, _⟩ := hP7
            rw [y, e2] at eA7
            have := HO.lst.inj (Option.some.inj eA7)
            have l1 := congrArg List.length this
            have h0 : (refs As)[0]? = (ns'.map V.int)[0]? := by rw [← this]
            have : As ≠ [] := fun z => by rw [z] at lA; cases lA
            cases As with
            | nil => exact this rfl
            | cons q As =>
              cases ns' with
              | nil => cases l1
              | cons n' ns' => cases h0
          have keep : ∀ {b : Addr} {o o2 : HO}, b ≠ Ak → H7 b = some o → (upd G Ak o2) b = some o := fun hb e => (upd_ne hb).trans (sn _ _ e)
          have keepT : ∀ {b : Addr} {xs : List V} {o2 : HO}, TupIs H7 b xs → TupIs (upd G Ak o2) b xs := fun {b xs o2} h => h.keep fun o e => keep (fun y => by
            rw [y] at h
            rcases h with w | ⟨ob, _, _, w⟩
            · rw [eA7] at w; cases w
            · rw [eA7] at w; cases w) e
          refine ⟨Ak, _, _, rfl, rfl, sn _ _ eA7, ?_, As ++ [(l, nb 0 bs)], n2, _, _, rfl, ?_, ?_, ?_, ?_, ?_, ?_, ?_, ?_, by rw [List.length_append, lA]; show 2 + 1 ≤ 3; decide⟩
          · rw [refs_len, lA]
            decide
          · exact pen_upd (pen_sm hP7 sn) hAp hAc
          · exact lt7.elim (fun z => .inl (keep neR z)) fun z => .inr (keep neR z)
          · exact fun q hq => ⟨keepT (rows7 q hq).1, (rows7 q hq).2⟩
          · exact keep neT eT7
          · intro q hq
            obtain ⟨⟨ob, h1, h2, h3⟩, h4⟩ := fz7 q hq
            exact ⟨⟨ob, h1, h2, keep (fun y => by rw [y, eA7] at h3; cases h3) h3⟩, h4⟩
          · exact keep neK eK7
          · rw [upd_same]
            unfold refs
            rw [List.map_append]
            rfl
          · intro q hq
            rcases List.mem_append.mp hq with h' | h'
            · exact ⟨keepT (rowsA7 q h').1, (rowsA7 q h').2⟩
            · rw [List.mem_singleton.mp h']
              refine ⟨.inl ?_, rlt⟩
              rw [upd_ne nlA, ← rv]
              exact el
    clear hP5 lt5 rows5 eT5 fz5 eK5 hP6 lt6 rows6 eT6 fz6 eK6 eA rowsA
    rintro _ H7 ⟨As, n2, s7, s8, rfl, hP7, lt7, rows7, eT7, fz7, eK7, eA7, rowsA7, lA⟩
    -- all that is asked
    refine ⟨fun σ' H' => σ' = [some (.ref a), some (.ref p), some (.int (W : Nat)), some (.ref R), some (.ref Tl), some (.ref Kp), some (.ref Ak), s7, s8, none, none, none] ∧ Same H7 H', ?_, ?_⟩
    · refine ⟨_, rfl, Ak, rfl, ⟨_, SqL.of eA7⟩, fun D nD => ?_⟩
      refine lc_list (K := K) (a := Ak) (xs := refs As) (Pv := fun i Hc => Hc D = some (.lst (List.replicate i (V.bl true))) ∧ Same H7 Hc) ⟨upd_same, same_new nD⟩ (fun i Hc _ ⟨_, sc⟩ => SqL.of (sc _ _ eA7)) ?_ ?_
      · rintro i v Hc hi ⟨eD, sc⟩
        obtain ⟨q0, hq, rfl⟩ := refs_at hi
        have il := (List.getElem?_eq_some_iff.mp hq).1
        obtain ⟨h1, h2⟩ := rowsA7 q0 (List.mem_of_getElem? hq)
        refine ⟨rfl, _, rfl, _, rfl, R, q0.1, L, W, q0.2, rfl, (lt7.same sc).sq, rows7.same sc, by omega, h1.same sc, h2, fun H8 s8' => ?_⟩
        refine ⟨_, s8' _ _ eD, ?_, ?_, same_put (sc.trans s8') nD⟩
        · rw [List.length_replicate]
          exact Nat.lt_of_lt_of_le (by omega : i < 3) (by decide)
        · rw [upd_same, List.replicate_succ']
      · rintro Hc ⟨eD, sc⟩
        refine ⟨D, List.replicate (refs As).length true, rfl, SqL.of (by rw [List.map_replicate]; exact eD), ?_⟩
        have e1 : (List.replicate (refs As).length true).all id = true := by simp
        rw [e1]
        exact ⟨_, rfl, iteF ⟨rfl, sc⟩⟩
    rintro _ H8 ⟨rfl, s78⟩
    have lt8 := lt7.same s78
    have rows8 := rows7.same s78
    have eT8 := s78 _ _ eT7
    have eK8 := s78 _ _ eK7
    clear lt7 rows7 eT7 fz7 eK7 eA7 rowsA7 hP7 s78
    -- the inner rows
    refine ⟨fun σ' H' => ∃ (I : Addr) (M2 : Rws), σ' = [some (.ref a), some (.ref p), some (.int (W : Nat)), some (.ref R), some (.ref Tl), some (.ref Kp), some (.ref Ak), s7, s8, some (.ref I), none, none] ∧ Same H8 H' ∧ H' I = some (.tup (refs M2)) ∧ RowsFz H' W M2 ∧ Tab W (nums M2) ∧ (∀ x ∈ nums M2, ∀ y ∈ nums L, par W x y = 0) ∧ M2.length + M.length = W, ?_, ?_⟩
    · refine ⟨_, rfl, _, rfl, R, L, W, rfl, lt8.sq, rows8, by omega, by omega, fun I H9 M2 s9 nI eI fz2 tab2 pr ln => ⟨I, M2, rfl, s9, eI, fz2, tab2, pr, ?_⟩⟩
      have := ln (nums M) tab.red.ec sp
      rw [nums_len] at this
      exact this
    rintro _ H9 ⟨I, M2, rfl, s89, eI, fz2, tab2, pr, ln⟩
    have lt9 := lt8.same s89
    have rows9 := rows8.same s89
    have eT9 := s89 _ _ eT8
    have eK9 := s89 _ _ eK8
    clear lt8 rows8 eT8 eK8 s89
    refine ⟨fun σ' H' => σ' = [some (.ref a), some (.ref p), some (.int (W : Nat)), some (.ref R), some (.ref Tl), some (.ref Kp), some (.ref Ak), s7, s8, some (.ref I), none, none] ∧ Same H9 H', ?_, ?_⟩
    · refine ⟨_, rfl, _, rfl, I, M2, W, rfl, eI, fz2, tab2, hW, fun H10 s10 => ⟨_, rfl, iteF ?_⟩⟩
      refine ⟨_, rfl, I, _, rfl, .inr (SqT.of (s10 _ _ eI)), _, rfl, _, rfl, Tl, _, rfl, .inr (SqT.of (s10 _ _ eT9)), _, _, rfl, rfl, rfl, _, rfl, ?_⟩
      rw [refs_len, refs_len]
      have e : (W : Int) - (M.length : Int) = (M2.length : Int) := by omega
      show if (!decide (V.int ((M2.length : Nat) : Int) = V.int ((W : Int) - (M.length : Int)))) = true then _ else _
      rw [e]
      exact iteNe ⟨rfl, s10⟩
    rintro _ H10 ⟨rfl, s90⟩
    have lt10 := lt9.same s90
    have rows10 := rows9.same s90
    have eK10 := s90 _ _ eK9
    have eI10 := s90 _ _ eI
    have fz10 := fz2.same s90
    clear lt9 rows9 eT9 eK9 eI fz2 s90
    refine ⟨fun σ' H' => ∃ s7, σ' = [some (.ref a), some (.ref p), some (.int (W : Nat)), some (.ref R), some (.ref Tl), some (.ref Kp), some (.ref Ak), s7, s8, some (.ref I), none, none] ∧ Same H10 H', ?_, ?_⟩
    · refine ⟨_, rfl, I, rfl, ⟨_, SqT.of eI10⟩, for_tup (K := K) (a := I) (xs := refs M2) (fun i σ H' => ∃ s7, σ = [some (.ref a), some (.ref p), some (.int (W : Nat)), some (.ref R), some (.ref Tl), some (.ref Kp), some (.ref Ak), s7, s8, some (.ref I), none, none] ∧ Same H10 H') ⟨s7, rfl, fun _ _ e => e⟩ (fun i σ H' _ ⟨_, _, s⟩ => SqT.of (s _ _ eI10)) ?_ ?_⟩
      · rintro i v _ H11 hi ⟨s7', rfl, s11⟩
        obtain ⟨x, hx, rfl⟩ := refs_at hi
        have xm := List.mem_of_getElem? hx
        have xn : x.2 ∈ nums M2 := List.mem_map.mpr ⟨x, xm, rfl⟩
        have tx : TupIs H11 x.1 (rowV W x.2) := .inr ((fz10 x xm).1.same s11)
        refine ⟨_, rfl, R, refs L, rfl, (lt10.same s11).sq, fun J S hJ s0 sk D nD => ?_⟩
        refine lc_sq hJ (Pv := fun _ Hc => Hc D = some (.lst []) ∧ Same H11 Hc) ⟨upd_same, same_new nD⟩ (fun k Hc ⟨_, sc⟩ => sk _ _ sc s0) ?_ ?_
        · rintro k v Hc hk ⟨eD, sc⟩
          obtain ⟨y, hy, rfl⟩ := refs_at hk
          have ym := List.mem_of_getElem? hy
          have yn : y.2 ∈ nums L := List.mem_map.mpr ⟨y, ym, rfl⟩
          have ty : TupIs Hc y.1 (rowV W y.2) := (rows10 y ym).1.same (s11.trans sc)
          let cl := (List.range W).map fun k => (x.2.testBit (W - 1 - k)).toNat * (y.2.testBit (W - 1 - k)).toNat
          have lc : cl.length = W := by
            show ((List.range W).map _).length = W
            rw [List.length_map, List.length_range]
          refine ⟨rfl, _, rfl, _, rfl, by omega, by omega, fun D2 nD2 => ?_⟩
          refine lc_range (lo := 0) (n := W) (Pv := fun j Hd => Hd D2 = some (.lst (natV (cl.take j))) ∧ Same Hc Hd) ⟨upd_same, same_new nD2⟩ ?_ ?_
          · rintro j Hd hj ⟨eD2, sd⟩
            have bit : ∀ m : Nat, atI (rowV W m) (0 + (j : Nat)) = some (.int ((m.testBit (W - 1 - j)).toNat : Nat)) := fun m => by
              refine at_of (j := j) (by omega) ?_
              unfold rowV
              rw [List.getElem?_map, rowOf_at hj]
              rfl
            have hcl : cl[j]? = some ((x.2.testBit (W - 1 - j)).toNat * (y.2.testBit (W - 1 - j)).toNat) := by
              show ((List.range W).map _)[j]? = _
              rw [List.getElem?_map, List.getElem?_range hj]
              rfl
            have b2 : (x.2.testBit (W - 1 - j)).toNat < 2 := Bool.toNat_lt _
            refine ⟨rfl, _, rfl, _, rfl, x.1, _, _, _, rfl, rfl, ((tx.same sc).same sd).sq, bit x.2, _, rfl, _, rfl, y.1, _, _, _, rfl, rfl, (ty.same sd).sq, bit y.2, _, _, rfl, rfl, .inl ⟨by omega, by omega⟩, _, eD2, ?_, ?_, same_put sd nD2⟩
            · rw [natV_len, List.length_take]
              exact Nat.lt_of_le_of_lt (by omega : _ ≤ 60) (by decide)
            · rw [upd_same, take_snoc hcl, natV_app]
              show some (HO.lst (_ ++ [V.int (((x.2.testBit (W - 1 - j)).toNat : Int) * ((y.2.testBit (W - 1 - j)).toNat : Int))])) = some (HO.lst (_ ++ [V.int (((x.2.testBit (W - 1 - j)).toNat * (y.2.testBit (W - 1 - j)).toNat : Nat) : Int)]))
              rw [Int.natCast_mul]
          · rintro Hd ⟨eD2, sd⟩
            rw [List.take_of_length_le (Nat.le_of_eq lc)] at eD2
            have h1 : ∀ l : List Nat, (l.map fun n => ((n : Nat) : Int)).sum = ((l.sum : Nat) : Int) := fun l => by
              induction l with
              | nil => rfl
              | cons x l ih =>
                rw [List.map_cons, List.sum_cons, List.sum_cons, ih]
                push_cast
                rfl
            have ev : cl.sum % 2 = 0 := pr _ xn _ yn
            refine ⟨D2, cl.map (fun n => ((n : Nat) : Int)), rfl, by rw [← natV_int]; exact SqL.of eD2, .inl ⟨_, rfl, _, _, rfl, rfl, (by show (0 : Int) < 2; decide), rfl, _, rfl, ?_⟩⟩
            rw [h1]
            refine iteEf (fun z => ?_) ⟨sd _ _ eD, sc.trans sd⟩
            have := V.int.inj z
            omega
        · rintro Hc ⟨eD, sc⟩
          refine ⟨by show 0 ≤ sizeLine; decide, fun r nr => ne_same (ns := []) (SqL.of ((upd_ne (ne_of_none eD nr)).trans eD)) (SqL.of upd_same) ⟨_, rfl, iteF ⟨_, rfl, ?_⟩⟩⟩
          exact (s11.trans sc).trans (same_new nr)
      · rintro σ H11 ⟨s7', rfl, s11⟩
        exact ⟨s7', rfl, s11⟩
    rintro _ H11 ⟨s7', rfl, s11⟩
    refine ⟨_, rfl, R, refs L, rfl, (lt10.same s11).sq, fun l nl => ⟨_, rfl, 1, by decide, .inl ⟨l, Kp, refs L, refs L, rfl, rfl, SqL.of upd_same, SqL.of ((same_new nl) _ _ (s11 _ _ eK10)), ?_⟩, q _⟩⟩
    have : ∀ L : Rws, Paired (EqV K (upd H11 l (.lst (refs L))) 1) (refs L) (refs L) := fun L => by
      generalize upd H11 l (.lst (refs L)) = G
      induction L with
      | nil => exact .nil
      | cons q L ih => exact .cons (.inr (.inl ⟨q.1, rfl, rfl⟩)) ih
    exact this L
end
end KQ

namespace KQ
open PySem PySem.Spec PyProof.Rows L2
/-! ### what the top has written -/
theorem fun_ex {K : PySem.W.Frag} {x qual : Str} {st : Stmt} {f : Addr} {oc : Value} {od an : Option Addr} {osl : Array (Option Value)} {kV doc pm cdv ct : Value} (l : K.lookup f = some ⟨oc, od, .func (PySem.W.fnOf x qual (defArgs st) (defBody st) (defScope st) .none kV doc pm an cdv ct), osl⟩)
    (c : PySem.W.codeIn K cdv qual = true) (k : PySem.W.keepIn K (.ref f) = true) : ∃ d, Fun K x qual st f d := ⟨_, L2.fun_mk l c k⟩

theorem all_mk {l : PySem.W.OpenLaw} {w : World} {K : PySem.W.Frag} {h : Heap} {mg : Str → Option Value} {fa : Addr} (X : K.In h) (G : h.Ns mainGlobals mg) (hfa : mg "law" = some (.ref fa))
    {fRn fRt fCo fLw fRb fRk fCd fKe fNu fBi fKn fPn fDr fPk fWh fLn fLl fLt fLr fLs fLc fLd fLa : Addr}
    (gRn : PySem.W.nsIn K mainGlobals "reduced_numbers" = some (some (.ref fRn)))
    (FRn : ∃ d, Fun K "reduced_numbers" "reduced_numbers" sRedN fRn d)
    (gRt : PySem.W.nsIn K mainGlobals "rest_by" = some (some (.ref fRt)))
    (FRt : ∃ d, Fun K "rest_by" "rest_by" sRestBy fRt d)
    (gCo : PySem.W.nsIn K mainGlobals "combination" = some (some (.ref fCo)))
    (FCo : ∃ d, Fun K "combination" "combination" sComb fCo d)
    (gLw : PySem.W.nsIn K mainGlobals "_lowered" = some (some (.ref fLw)))
    (FLw : ∃ d, Fun K "_lowered" "_lowered" sLow fLw d)
    (gRb : PySem.W.nsIn K mainGlobals "reduced_bits" = some (some (.ref fRb)))
    (FRb : ∃ d, Fun K "reduced_bits" "reduced_bits" sRedB fRb d)
    (gRk : PySem.W.nsIn K mainGlobals "bit_rank" = some (some (.ref fRk)))
    (FRk : ∃ d, Fun K "bit_rank" "bit_rank" sRank fRk d)
    (gCd : PySem.W.nsIn K mainGlobals "combined" = some (some (.ref fCd)))
    (FCd : ∃ d, Fun K "combined" "combined" sCombd fCd d)
    (gKe : PySem.W.nsIn K mainGlobals "kernel_bits" = some (some (.ref fKe)))
    (FKe : ∃ d, Fun K "kernel_bits" "kernel_bits" sKern fKe d)
    (gNu : PySem.W.nsIn K mainGlobals "_number_of" = some (some (.ref fNu)))
    (FNu : ∃ d, Fun K "_number_of" "_number_of" sNum fNu d)
    (gBi : PySem.W.nsIn K mainGlobals "_bits_of" = some (some (.ref fBi)))
    (FBi : ∃ d, Fun K "_bits_of" "_bits_of" sBits fBi d)
    (gKn : PySem.W.nsIn K mainGlobals "_kernel_number" = some (some (.ref fKn)))
    (FKn : ∃ d, Fun K "_kernel_number" "_kernel_number" sKnum fKn d)
    (gPn : PySem.W.nsIn K mainGlobals "_law_pen" = some (some (.ref fPn)))
    (FPn : ∃ d, Fun K "_law_pen" "_law_pen" sPen fPn d)
    (gDr : PySem.W.nsIn K mainGlobals "_law_draw" = some (some (.ref fDr)))
    (FDr : ∃ d, Fun K "_law_draw" "_law_draw" sDraw fDr d)
    (gPk : PySem.W.nsIn K mainGlobals "_law_pick" = some (some (.ref fPk)))
    (FPk : ∃ d, Fun K "_law_pick" "_law_pick" sPick fPk d)
    (gWh : PySem.W.nsIn K mainGlobals "_law_is_whole" = some (some (.ref fWh)))
    (FWh : ∃ d, Fun K "_law_is_whole" "_law_is_whole" sLWh fWh d)
    (gLn : PySem.W.nsIn K mainGlobals "_law_number" = some (some (.ref fLn)))
    (FLn : ∃ d, Fun K "_law_number" "_law_number" sLNum fLn d)
    (gLl : PySem.W.nsIn K mainGlobals "_law_left" = some (some (.ref fLl)))
    (FLl : ∃ d, Fun K "_law_left" "_law_left" sLLeft fLl d)
    (gLt : PySem.W.nsIn K mainGlobals "_law_table" = some (some (.ref fLt)))
    (FLt : ∃ d, Fun K "_law_table" "_law_table" sLTab fLt d)
    (gLr : PySem.W.nsIn K mainGlobals "_law_is_reduced" = some (some (.ref fLr)))
    (FLr : ∃ d, Fun K "_law_is_reduced" "_law_is_reduced" sLRed fLr d)
    (gLs : PySem.W.nsIn K mainGlobals "_law_same_made" = some (some (.ref fLs)))
    (FLs : ∃ d, Fun K "_law_same_made" "_law_same_made" sLSame fLs d)
    (gLc : PySem.W.nsIn K mainGlobals "_law_combined_right" = some (some (.ref fLc)))
    (FLc : ∃ d, Fun K "_law_combined_right" "_law_combined_right" sLCR fLc d)
    (gLd : PySem.W.nsIn K mainGlobals "_law_drawn_rows" = some (some (.ref fLd)))
    (FLd : ∃ d, Fun K "_law_drawn_rows" "_law_drawn_rows" sLDr fLd d)
    (gLa : PySem.W.nsIn K mainGlobals "law" = some (some (.ref fLa)))
    (FLa : ∃ d, Fun K "law" "law" sLaw fLa d)
    (z_isinstance : PySem.W.nsIn K mainGlobals "isinstance" = some none)
    (z_int : PySem.W.nsIn K mainGlobals "int" = some none)
    (z_len : PySem.W.nsIn K mainGlobals "len" = some none)
    (z_range : PySem.W.nsIn K mainGlobals "range" = some none)
    (z_list : PySem.W.nsIn K mainGlobals "list" = some none)
    (z_tuple : PySem.W.nsIn K mainGlobals "tuple" = some none)
    (z_min : PySem.W.nsIn K mainGlobals "min" = some none)
    (z_sorted : PySem.W.nsIn K mainGlobals "sorted" = some none)
    (z_reversed : PySem.W.nsIn K mainGlobals "reversed" = some none)
    (z_set : PySem.W.nsIn K mainGlobals "set" = some none)
    (z_sum : PySem.W.nsIn K mainGlobals "sum" = some none)
    (z_enumerate : PySem.W.nsIn K mainGlobals "enumerate" = some none)
    (z_all : PySem.W.nsIn K mainGlobals "all" = some none)
    (z_bool : PySem.W.nsIn K mainGlobals "bool" = some none) :
    ∃ fd : FuncData, (∀ (s : Shared) (v : Value), BindsTo s fd ⟨[v], []⟩ [("_law_script", v)]) ∧ ∀ base : Heap, K.In base → base.Ns mainGlobals mg → FnOk l.prog w K mg base CX0 5 fa fd ["_law_script"] (spLaw K) := by
  have e := hfa.symm.trans (PySem.W.mg_of X G gLa)
  cases e
  obtain ⟨dRn, FRn⟩ := FRn
  have bRn := FRn.binds (ps := ["numbers"]) fun _ _ _ _ _ _ us hl => match us, hl with | [_], _ => rfl
  obtain ⟨dRt, FRt⟩ := FRt
  have bRt := FRt.binds (ps := ["number", "table"]) fun _ _ _ _ _ _ us hl => match us, hl with | [_, _], _ => rfl
  obtain ⟨dCo, FCo⟩ := FCo
  have bCo := FCo.binds (ps := ["numbers", "number"]) fun _ _ _ _ _ _ us hl => match us, hl with | [_, _], _ => rfl
  obtain ⟨dLw, FLw⟩ := FLw
  have bLw := FLw.binds (ps := ["number", "marks", "table"]) fun _ _ _ _ _ _ us hl => match us, hl with | [_, _, _], _ => rfl
  obtain ⟨dRb, FRb⟩ := FRb
  have bRb := FRb.binds (ps := ["rows"]) fun _ _ _ _ _ _ us hl => match us, hl with | [_], _ => rfl
  obtain ⟨dRk, FRk⟩ := FRk
  have bRk := FRk.binds (ps := ["rows"]) fun _ _ _ _ _ _ us hl => match us, hl with | [_], _ => rfl
  obtain ⟨dCd, FCd⟩ := FCd
  have bCd := FCd.binds (ps := ["rows", "row"]) fun _ _ _ _ _ _ us hl => match us, hl with | [_, _], _ => rfl
  obtain ⟨dKe, FKe⟩ := FKe
  have bKe := FKe.binds (ps := ["rows", "width"]) fun _ _ _ _ _ _ us hl => match us, hl with | [_, _], _ => rfl
  obtain ⟨dNu, FNu⟩ := FNu
  have bNu := FNu.binds (ps := ["row"]) fun _ _ _ _ _ _ us hl => match us, hl with | [_], _ => rfl
  obtain ⟨dBi, FBi⟩ := FBi
  have bBi := FBi.binds (ps := ["number", "width"]) fun _ _ _ _ _ _ us hl => match us, hl with | [_, _], _ => rfl
  obtain ⟨dKn, FKn⟩ := FKn
  have bKn := FKn.binds (ps := ["table", "place"]) fun _ _ _ _ _ _ us hl => match us, hl with | [_, _], _ => rfl
  obtain ⟨dPn, FPn⟩ := FPn
  have bPn := FPn.binds (ps := ["_law_script"]) fun _ _ _ _ _ _ us hl => match us, hl with | [_], _ => rfl
  obtain ⟨dDr, FDr⟩ := FDr
  have bDr := FDr.binds (ps := ["_law_pen_here", "_law_many"]) fun _ _ _ _ _ _ us hl => match us, hl with | [_, _], _ => rfl
  obtain ⟨dPk, FPk⟩ := FPk
  have bPk := FPk.binds (ps := ["_law_pen_here", "_law_some"]) fun _ _ _ _ _ _ us hl => match us, hl with | [_, _], _ => rfl
  obtain ⟨dWh, FWh⟩ := FWh
  have bWh := FWh.binds (ps := ["_law_value"]) fun _ _ _ _ _ _ us hl => match us, hl with | [_], _ => rfl
  obtain ⟨dLn, FLn⟩ := FLn
  have bLn := FLn.binds (ps := ["_law_row"]) fun _ _ _ _ _ _ us hl => match us, hl with | [_], _ => rfl
  obtain ⟨dLl, FLl⟩ := FLl
  have bLl := FLl.binds (ps := ["_law_table_here", "_law_number_here"]) fun _ _ _ _ _ _ us hl => match us, hl with | [_, _], _ => rfl
  obtain ⟨dLt, FLt⟩ := FLt
  have bLt := FLt.binds (ps := ["_law_numbers"]) fun _ _ _ _ _ _ us hl => match us, hl with | [_], _ => rfl
  obtain ⟨dLr, FLr⟩ := FLr
  have bLr := FLr.binds (ps := ["_law_rows", "_law_width"]) fun _ _ _ _ _ _ us hl => match us, hl with | [_, _], _ => rfl
  obtain ⟨dLs, FLs⟩ := FLs
  have bLs := FLs.binds (ps := ["_law_told", "_law_rows"]) fun _ _ _ _ _ _ us hl => match us, hl with | [_, _], _ => rfl
  obtain ⟨dLc, FLc⟩ := FLc
  have bLc := FLc.binds (ps := ["_law_rows", "_law_row"]) fun _ _ _ _ _ _ us hl => match us, hl with | [_, _], _ => rfl
  obtain ⟨dLd, FLd⟩ := FLd
  have bLd := FLd.binds (ps := ["_law_pen_here"]) fun _ _ _ _ _ _ us hl => match us, hl with | [_], _ => rfl
  obtain ⟨dLa, FLa⟩ := FLa
  have B : Bl mg := ⟨PySem.W.mg_none_of X G z_isinstance, PySem.W.mg_none_of X G z_int, PySem.W.mg_none_of X G z_len, PySem.W.mg_none_of X G z_range, PySem.W.mg_none_of X G z_list, PySem.W.mg_none_of X G z_tuple, PySem.W.mg_none_of X G z_min, PySem.W.mg_none_of X G z_sorted, PySem.W.mg_none_of X G z_reversed, PySem.W.mg_none_of X G z_set, PySem.W.mg_none_of X G z_sum, PySem.W.mg_none_of X G z_enumerate, PySem.W.mg_none_of X G z_all, PySem.W.mg_none_of X G z_bool⟩
  have T : Top K mg fRn fRt fCo fLw fRb fRk fCd fKe fNu fBi fKn fPn fDr fPk fWh fLn fLl fLt fLr fLs fLc fLd dRn dRt dCo dLw dRb dRk dCd dKe dNu dBi dKn dPn dDr dPk dWh dLn dLl dLt dLr dLs dLc dLd := ⟨B, FRn, bRn, PySem.W.mg_of X G gRn, FRt, bRt, PySem.W.mg_of X G gRt, FCo, bCo, PySem.W.mg_of X G gCo, FLw, bLw, PySem.W.mg_of X G gLw, FRb, bRb, PySem.W.mg_of X G gRb, FRk, bRk, PySem.W.mg_of X G gRk, FCd, bCd, PySem.W.mg_of X G gCd, FKe, bKe, PySem.W.mg_of X G gKe, FNu, bNu, PySem.W.mg_of X G gNu, FBi, bBi, PySem.W.mg_of X G gBi, FKn, bKn, PySem.W.mg_of X G gKn, FPn, bPn, PySem.W.mg_of X G gPn, FDr, bDr, PySem.W.mg_of X G gDr, FPk, bPk, PySem.W.mg_of X G gPk, FWh, bWh, PySem.W.mg_of X G gWh, FLn, bLn, PySem.W.mg_of X G gLn, FLl, bLl, PySem.W.mg_of X G gLl, FLt, bLt, PySem.W.mg_of X G gLt, FLr, bLr, PySem.W.mg_of X G gLr, FLs, bLs, PySem.W.mg_of X G gLs, FLc, bLc, PySem.W.mg_of X G gLc, FLd, bLd, PySem.W.mg_of X G gLd⟩
  obtain ⟨oc, od, kV, dc, pm, an, cdv, ct, osl, rfl, lk, hcd⟩ := id FLa.ex
  exact ⟨_, fun s v => .of_eq rfl, fun base _ _ => ok_law FLa T⟩
theorem walk {l : PySem.W.OpenLaw} {q : Program} {loose : List Str} {XP : (Str → Option Value) → Heap → Prop} {YP : World → Heap → Prop} {d : DefRec} {K : Params → PySem.W.Frag} (hn : l.most = some 63) (hdf : d.params.defaults = [])
    (hY : ∀ (w : World) (h : Heap), YP w h → (K w.params).In h)
    (F : ∀ (w : World) (mg : Str → Option Value) (fa : Addr) (h : Heap), (K w.params).In h → h.Ns mainGlobals mg → mg d.name = some (.ref fa) →
      ∃ fd : FuncData, (∀ (s : Shared) (u : Value), BindsTo s fd ⟨[u], []⟩ [("_law_script", u)]) ∧ ∀ base : Heap, (K w.params).In base → base.Ns mainGlobals mg → FnOk l.prog w (K w.params) mg base CX0 5 fa fd ["_law_script"] (spLaw (K w.params))) :
    PySem.W.WalkO q loose XP YP l.row.toRowW d [] (fun f vs => PySem.call f vs) :=
  L2.walk_of (n := 63) (k := 5) (x := "_law_script") (CX := fun _ => CX0) (sp := fun w => spLaw (K w.params)) hn (by decide) hdf ⟨rfl, by decide, by decide⟩ hY F (fun _ _ a ns hl _ hS => ⟨a, ns, rfl, hS, hl, fun _ => rfl⟩) fun _ _ _ _ _ z => z
end KQ
open PySem PySem.W PyProof.Rows
set_option maxRecDepth 100000 in
set_option maxHeartbeats 0 in
theorem PySem.Challenge.cw_keptqubits_k01_whole_rows_of_bits_holds : PySem.Challenge.rw_keptqubits_k01_whole_rows_of_bits.Holds := by
  w_on; o_law; k_head; (case hw => w_witness2)
  k_fill
  refine KQ.walk (l := PySem.Challenge.rw_keptqubits_k01_whole_rows_of_bits) rfl rfl (fun w h Y => PySem.W.kIn_of Y) ?F
  case F =>
    intro w mg fa h KX G hmg
    refine' KQ.all_mk KX G hmg ?zq_gRn ?zq_FRn ?zq_gRt ?zq_FRt ?zq_gCo ?zq_FCo ?zq_gLw ?zq_FLw ?zq_gRb ?zq_FRb ?zq_gRk ?zq_FRk ?zq_gCd ?zq_FCd ?zq_gKe ?zq_FKe ?zq_gNu ?zq_FNu ?zq_gBi ?zq_FBi ?zq_gKn ?zq_FKn ?zq_gPn ?zq_FPn ?zq_gDr ?zq_FDr ?zq_gPk ?zq_FPk ?zq_gWh ?zq_FWh ?zq_gLn ?zq_FLn ?zq_gLl ?zq_FLl ?zq_gLt ?zq_FLt ?zq_gLr ?zq_FLr ?zq_gLs ?zq_FLs ?zq_gLc ?zq_FLc ?zq_gLd ?zq_FLd ?zq_gLa ?zq_FLa ?zq_z_isinstance ?zq_z_int ?zq_z_len ?zq_z_range ?zq_z_list ?zq_z_tuple ?zq_z_min ?zq_z_sorted ?zq_z_reversed ?zq_z_set ?zq_z_sum ?zq_z_enumerate ?zq_z_all ?zq_z_bool
    (case zq_gRn => k_is)
    (case zq_FRn => refine' KQ.fun_ex ?l ?c ?k; (case l => k_is); (case c => k_is); (case k => k_is))
    (case zq_gRt => k_is)
    (case zq_FRt => refine' KQ.fun_ex ?l ?c ?k; (case l => k_is); (case c => k_is); (case k => k_is))
    (case zq_gCo => k_is)
    (case zq_FCo => refine' KQ.fun_ex ?l ?c ?k; (case l => k_is); (case c => k_is); (case k => k_is))
    (case zq_gLw => k_is)
    (case zq_FLw => refine' KQ.fun_ex ?l ?c ?k; (case l => k_is); (case c => k_is); (case k => k_is))
    (case zq_gRb => k_is)
    (case zq_FRb => refine' KQ.fun_ex ?l ?c ?k; (case l => k_is); (case c => k_is); (case k => k_is))
    (case zq_gRk => k_is)
    (case zq_FRk => refine' KQ.fun_ex ?l ?c ?k; (case l => k_is); (case c => k_is); (case k => k_is))
    (case zq_gCd => k_is)
    (case zq_FCd => refine' KQ.fun_ex ?l ?c ?k; (case l => k_is); (case c => k_is); (case k => k_is))
    (case zq_gKe => k_is)
    (case zq_FKe => refine' KQ.fun_ex ?l ?c ?k; (case l => k_is); (case c => k_is); (case k => k_is))
    (case zq_gNu => k_is)
    (case zq_FNu => refine' KQ.fun_ex ?l ?c ?k; (case l => k_is); (case c => k_is); (case k => k_is))
    (case zq_gBi => k_is)
    (case zq_FBi => refine' KQ.fun_ex ?l ?c ?k; (case l => k_is); (case c => k_is); (case k => k_is))
    (case zq_gKn => k_is)
    (case zq_FKn => refine' KQ.fun_ex ?l ?c ?k; (case l => k_is); (case c => k_is); (case k => k_is))
    (case zq_gPn => k_is)
    (case zq_FPn => refine' KQ.fun_ex ?l ?c ?k; (case l => k_is); (case c => k_is); (case k => k_is))
    (case zq_gDr => k_is)
    (case zq_FDr => refine' KQ.fun_ex ?l ?c ?k; (case l => k_is); (case c => k_is); (case k => k_is))
    (case zq_gPk => k_is)
    (case zq_FPk => refine' KQ.fun_ex ?l ?c ?k; (case l => k_is); (case c => k_is); (case k => k_is))
    (case zq_gWh => k_is)
    (case zq_FWh => refine' KQ.fun_ex ?l ?c ?k; (case l => k_is); (case c => k_is); (case k => k_is))
    (case zq_gLn => k_is)
    (case zq_FLn => refine' KQ.fun_ex ?l ?c ?k; (case l => k_is); (case c => k_is); (case k => k_is))
    (case zq_gLl => k_is)
    (case zq_FLl => refine' KQ.fun_ex ?l ?c ?k; (case l => k_is); (case c => k_is); (case k => k_is))
    (case zq_gLt => k_is)
    (case zq_FLt => refine' KQ.fun_ex ?l ?c ?k; (case l => k_is); (case c => k_is); (case k => k_is))
    (case zq_gLr => k_is)
    (case zq_FLr => refine' KQ.fun_ex ?l ?c ?k; (case l => k_is); (case c => k_is); (case k => k_is))
    (case zq_gLs => k_is)
    (case zq_FLs => refine' KQ.fun_ex ?l ?c ?k; (case l => k_is); (case c => k_is); (case k => k_is))
    (case zq_gLc => k_is)
    (case zq_FLc => refine' KQ.fun_ex ?l ?c ?k; (case l => k_is); (case c => k_is); (case k => k_is))
    (case zq_gLd => k_is)
    (case zq_FLd => refine' KQ.fun_ex ?l ?c ?k; (case l => k_is); (case c => k_is); (case k => k_is))
    (case zq_gLa => k_is)
    (case zq_FLa => refine' KQ.fun_ex ?l ?c ?k; (case l => k_is); (case c => k_is); (case k => k_is))
    (case zq_z_isinstance => k_is)
    (case zq_z_int => k_is)
    (case zq_z_len => k_is)
    (case zq_z_range => k_is)
    (case zq_z_list => k_is)
    (case zq_z_tuple => k_is)
    (case zq_z_min => k_is)
    (case zq_z_sorted => k_is)
    (case zq_z_reversed => k_is)
    (case zq_z_set => k_is)
    (case zq_z_sum => k_is)
    (case zq_z_enumerate => k_is)
    (case zq_z_all => k_is)
    (case zq_z_bool => k_is)
