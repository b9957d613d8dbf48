import PyProof.Rows.All
import Wide.All
import OpenK.AllK
import Wide.FinOn
import HandS.ForMost
import HandS.Wide
import HandS.Codes
import HandS.Base
import HandS.Call
import HandS.List
import HandS.Text
import HandS.StrMore
import PyProof.Rows.StrStrike
import PyProof.Rows.StrCountLaw
import PyProof.Rows.StrIntSpec
import HandS.FStr
import PyProof.FString3
import PyProof.Rows.StrRev
import PyProof.StrBlock2
import HandS.Style
import HandS.Strs
import HandS.Replace
import HandS.ReplaceLit
import HandS.Comp
import HandS.IsInst
import HandS.ExcInit
import HandS.ExcField
import HandS.WordsExc
import HandS.DeepEq
import HandS.CallLocal
import HandS.Lambda
import HandS.EndOwn
import HandS.Walk
import HandS.TryMany
import HandS.Iter
import HandS.WideBits
import HandS.Dict
import HandS.AnyAll
import PyProof.ListStr
import PyProof.Draws
import PyProof.EnumMake
import PyProof.EnumFor
import HandS.Exc
import HandS.ExcIs
import PySem.Challenge.RW_keptqubits_k02_polynomials_of_bits
set_option Elab.async false
set_option linter.all false
set_option maxRecDepth 100000
set_option maxHeartbeats 4000000
namespace KQ
open PySem PySem.Spec PyProof.Rows L2
/-! ### the text -/
def topS (i : Nat) : Stmt := PySem.Challenge.pw_keptqubits_k02_polynomials_of_bits.main.body.getD i (.Pass ⟨0, 0, 0, 0⟩)
abbrev sPen : Stmt := topS 19
abbrev sDraw : Stmt := topS 20
abbrev sPick : Stmt := topS 21
theorem scPen : FnScope ["_law_script", "_law_fold", "_law_cell"] ["_law_script"] (defScope sPen) := ⟨rfl, rfl, rfl, by decide +kernel, rfl, by decide +kernel, by decide +kernel⟩
theorem scDraw : FnScope ["_law_pen_here", "_law_many", "_law_cell", "_law_digit", "_law_mixed"] ["_law_pen_here", "_law_many"] (defScope sDraw) := ⟨rfl, rfl, rfl, by decide +kernel, rfl, by decide +kernel, by decide +kernel⟩
theorem scPick : FnScope ["_law_pen_here", "_law_some"] ["_law_pen_here", "_law_some"] (defScope sPick) := ⟨rfl, rfl, rfl, by decide +kernel, rfl, by decide +kernel, by decide +kernel⟩
/-! ### the pen -/
theorem k12 : ¬ ("cells" : Str) = "at" := by decide +kernel
theorem k13 : ¬ ("cells" : Str) = "digits" := by decide +kernel
theorem k14 : ¬ ("cells" : Str) = "count" := by decide +kernel
theorem k15 : ¬ ("cells" : Str) = "fold" := by decide +kernel
theorem k21 : ¬ ("at" : Str) = "cells" := by decide +kernel
theorem k23 : ¬ ("at" : Str) = "digits" := by decide +kernel
theorem k24 : ¬ ("at" : Str) = "count" := by decide +kernel
theorem k25 : ¬ ("at" : Str) = "fold" := by decide +kernel
theorem k31 : ¬ ("digits" : Str) = "cells" := by decide +kernel
theorem k32 : ¬ ("digits" : Str) = "at" := by decide +kernel
theorem k34 : ¬ ("digits" : Str) = "count" := by decide +kernel
theorem k35 : ¬ ("digits" : Str) = "fold" := by decide +kernel
theorem k41 : ¬ ("count" : Str) = "cells" := by decide +kernel
theorem k42 : ¬ ("count" : Str) = "at" := by decide +kernel
theorem k43 : ¬ ("count" : Str) = "digits" := by decide +kernel
theorem k45 : ¬ ("count" : Str) = "fold" := by decide +kernel
theorem k51 : ¬ ("fold" : Str) = "cells" := by decide +kernel
theorem k52 : ¬ ("fold" : Str) = "at" := by decide +kernel
theorem k53 : ¬ ("fold" : Str) = "digits" := by decide +kernel
theorem k54 : ¬ ("fold" : Str) = "count" := by decide +kernel
def kvsP (c : Addr) (a d n f : Int) : List (Key × V) := [(.inr "cells", .ref c), (.inr "at", .int a), (.inr "digits", .int d), (.inr "count", .int n), (.inr "fold", .int f)]
section
variable (c : Addr) (a d n f z : Int)
theorem vCells : valV (kvsP c a d n f) (.inr "cells" : Key) = some (.ref c) := by simp [kvsP, valV, List.find?]
theorem vAt : valV (kvsP c a d n f) (.inr "at" : Key) = some (.int a) := by simp [kvsP, valV, List.find?, k12]
theorem vDigits : valV (kvsP c a d n f) (.inr "digits" : Key) = some (.int d) := by simp [kvsP, valV, List.find?, k13, k23]
theorem vCount : valV (kvsP c a d n f) (.inr "count" : Key) = some (.int n) := by simp [kvsP, valV, List.find?, k14, k24, k34]
theorem vFold : valV (kvsP c a d n f) (.inr "fold" : Key) = some (.int f) := by simp [kvsP, valV, List.find?, k15, k25, k35, k45]
theorem pAt : putK (kvsP c a d n f) (.inr "at" : Key) (.int z) = kvsP c z d n f := by simp [kvsP, putK, k12, k32, k42, k52]
theorem pDigits : putK (kvsP c a d n f) (.inr "digits" : Key) (.int z) = kvsP c a z n f := by simp [kvsP, putK, k13, k23, k43, k53]
theorem pCount : putK (kvsP c a d n f) (.inr "count" : Key) (.int z) = kvsP c a d z f := by simp [kvsP, putK, k14, k24, k34, k54]
theorem pFold : putK (kvsP c a d n f) (.inr "fold" : Key) (.int z) = kvsP c a d n z := by simp [kvsP, putK, k15, k25, k35, k45]
theorem mPen : mergeK [] [((.inr "cells" : Key), V.ref c), (.inr "at", .int a), (.inr "digits", .int d), (.inr "count", .int n), (.inr "fold", .int f)] = kvsP c a d n f := by
  simp [mergeK, kvsP, putK, k12, k13, k14, k15, k23, k24, k25, k34, k35, k45]
end
theorem getS {H : Hp} {a : Addr} {kvs : List (Key × V)} {x : Str} {v : V} (e : H a = some (.dK kvs)) (h : valV kvs (.inr x : Key) = some v) : DGet H a (.str x) (some v) := .inl ⟨kvs, .inr x, .inl e, rfl, h.symm⟩
theorem putS {H : Hp} {a : Addr} {kvs kvs' : List (Key × V)} {x : Str} {v : V} (e : H a = some (.dK kvs)) (hl : kvs.length < sizeLine) (h : putK kvs (.inr x : Key) v = kvs') : DPut H a (.str x) v (upd H a (.dK kvs')) := .inl ⟨kvs, .inr x, e, rfl, hl, by rw [h]⟩
theorem lenP {c : Addr} {a d n f : Int} : (kvsP c a d n f).length < sizeLine := small1000 (by show 5 ≤ 1000; decide)
/-- a pen stands at p, its cells at c, n draws so far -/
def PenAt (H : Hp) (p c : Addr) (n : Nat) : Prop := ∃ (ns : List Int) (a d f : Int), H p = some (.dK (kvsP c a d n f)) ∧ H c = some (.lst (ns.map V.int)) ∧ ns.length ≤ 63 ∧ 0 ≤ a ∧ 0 ≤ d ∧ 0 ≤ f ∧ f < 2147483587
theorem PenAt.ne {H : Hp} {p c : Addr} {n : Nat} (h : PenAt H p c n) : p ≠ c := by
  obtain ⟨ns, a, d, f, hp, hc, _⟩ := h
  exact ne_of hp hc (by intro z; cases z)
theorem PenAt.same {H H' : Hp} {p c : Addr} {n : Nat} (h : PenAt H p c n) (hp : H' p = H p) (hc : H' c = H c) : PenAt H' p c n := by
  obtain ⟨ns, a, d, f, e1, e2, r⟩ := h
  exact ⟨ns, a, d, f, hp.trans e1, hc.trans e2, r⟩
theorem PenAt.some {H : Hp} {p c : Addr} {n : Nat} (h : PenAt H p c n) : (∃ o, H p = some o) ∧ ∃ o, H c = some o := by
  obtain ⟨ns, a, d, f, e1, e2, r⟩ := h
  exact ⟨⟨_, e1⟩, ⟨_, e2⟩⟩
theorem PenAt.ext {H H' : Hp} {p c : Addr} {n : Nat} (h : PenAt H p c n) (s : Same H H') : PenAt H' p c n := by
  obtain ⟨⟨o, e1⟩, o', e2⟩ := h.some
  exact h.same ((s _ _ e1).trans e1.symm) ((s _ _ e2).trans e2.symm)
theorem sqL_pen {K : PySem.W.Frag} {H H' : Hp} {p y : Addr} {xs : List V} {kv : List (Key × V)} (hk : ∀ b, b ≠ p → H' b = H b) (hp : H p = some (.dK kv)) (h : SqL K H y xs) : SqL K H' y xs := by
  rcases h with (h | ⟨ob, h⟩) | h
  · exact .inl (.inl ((hk y (ne_of h hp (by intro z; cases z))).trans h))
  · exact .inl (.inr ⟨ob, (hk y (ne_of h hp (by intro z; cases z))).trans h⟩)
  · exact .inr h
theorem sqT_pen {K : PySem.W.Frag} {H H' : Hp} {p y : Addr} {xs : List V} {kv : List (Key × V)} (hk : ∀ b, b ≠ p → H' b = H b) (hp : H p = some (.dK kv)) (h : SqT K H y xs) : SqT K H' y xs := by
  rcases h with (h | ⟨ob, h⟩) | h
  · exact .inl (.inl ((hk y (ne_of h hp (by intro z; cases z))).trans h))
  · exact .inl (.inr ⟨ob, (hk y (ne_of h hp (by intro z; cases z))).trans h⟩)
  · exact .inr h
theorem ix_or {X : Cx} {r1 r2 : R2} (h1 : IxR X r1) (h2 : IxR X r2) : IxR X (fun x y H Q => r1 x y H Q ∨ r2 x y H Q) := by
  intro val sl pins st σ G x y v u Q J rx ry h hs
  rcases h with h | h
  · exact h1 val sl pins st σ G x y v u Q J rx ry h hs
  · exact h2 val sl pins st σ G x y v u Q J rx ry h hs
def spPen (K : PySem.W.Frag) : Sp := fun vs H Q _ => ∃ (a : Addr) (ns : List Int), vs = [.ref a] ∧ SqL K H a (ns.map V.int) ∧ ns.length ≤ 63 ∧
  ∀ H' p c, Same H H' → H p = none → H c = none → PenAt H' p c 0 → Q (.ref p) H'
def spDraw : Sp := fun vs H Q _ => ∃ (p c : Addr) (n : Nat) (m : Int), vs = [.ref p, .int m] ∧ PenAt H p c n ∧ n < 1000000 ∧ 0 < m ∧ m.natAbs < 2 ^ 200 ∧
  ∀ (r : Int) H', 0 ≤ r → r < m → PenAt H' p c (n + 1) → (∀ b, b ≠ p → H' b = H b) → Q (.int r) H'
def spPick (K : PySem.W.Frag) : Sp := fun vs H Q _ => ∃ (p c q : Addr) (n : Nat) (xs : List V), vs = [.ref p, .ref q] ∧ PenAt H p c n ∧ n < 1000000 ∧ (SqL K H q xs ∨ SqT K H q xs) ∧ xs ≠ [] ∧ xs.length ≤ 1000 ∧
  ∀ (i : Nat) (v : V) H', xs[i]? = some v → PenAt H' p c (n + 1) → (∀ b, b ≠ p → H' b = H b) → Q v H'
section
variable {P : Program} {w : World} {K : PySem.W.Frag} {mg : Str → Option Value} {base : Heap}
theorem ok_pen {f : Addr} {fd : FuncData} {k : Nat} (F : Fun K "_law_pen" "_law_pen" sPen f fd) (mi : mg "int" = none) (ml : mg "list" = none) : FnOk P w K mg base CX0 (k + 1) f fd ["_law_script"] (spPen K) := by
  refine F.ok scPen (fun vs H Q E h => ?_) (fun cdv A outer s H vs Q E hr h => ?_)
  · obtain ⟨a, ns, rfl, _⟩ := h
    rfl
  · obtain ⟨a, ns, rfl, hS, hlen, q⟩ := h
    refine ⟨_, pss_cons (ps_set (i := 1) scPen.nd rfl (.inl rfl) pe_int)
      (pss_cons (ps_for PassesOwn.never rfl (pi_list (pv 0)) (pg_name (i := 2) scPen.nd rfl (.inl rfl))
        (pss_one (ps_set (i := 1) scPen.nd rfl (.inl rfl) (pe_op op_mod (pe_callTy call_int1 (by rfl) mi (by decide +kernel) (pa_cons (pe_op op_add (pe_op op_mul (pv 1) pe_int) (pv 2)) pa_nil)) pe_int))))
      (pss_one (ps_ret (pe_disp (pps_cons pe_str (pe_callTy call_list_of (by rfl) ml (by decide +kernel) (pa_cons (pv 0) pa_nil)) (pps_cons pe_str pe_int (pps_cons pe_str pe_int (pps_cons pe_str pe_int (pps_cons pe_str (pv 1) pps_nil))))) (by rfl) (by rfl) (fun z => by cases z) (by decide))))), ?_⟩
    refine ⟨_, rfl, a, rfl, ⟨_, hS⟩, for_list (K := K) (a := a) (xs := ns.map V.int) (fun i σ H2 => ∃ (g : Int) (v : Option V), σ = [some (.ref a), some (.int g), v] ∧ H2 = H ∧ 0 ≤ g ∧ g < 1000000007)
      ⟨0, none, rfl, rfl, by decide, by decide⟩ (fun i σ H2 _ ⟨_, _, _, e, _⟩ => by rw [e]; exact hS) ?_ ?_⟩
    · rintro i y σ H2 hi ⟨g, v, rfl, rfl, h0, h1⟩
      obtain ⟨z, rfl⟩ : ∃ z, y = V.int z := by
        rw [List.getElem?_map] at hi
        cases e : ns[i]? with
        | none => rw [e] at hi; cases hi
        | some z => rw [e] at hi; exact ⟨z, (Option.some.inj hi).symm⟩
      refine ⟨_, rfl, _, _, rfl, rfl, .inr ⟨by decide, by decide⟩, _, rfl, _, _, rfl, rfl, .inl ⟨_, rfl, _, _, rfl, rfl, (by show (0 : Int) < 1000000007; decide), ?_⟩⟩
      exact ⟨_, _, rfl, rfl, Int.emod_nonneg _ (by decide), Int.emod_lt_of_pos _ (by decide)⟩
    · rintro σ H2 ⟨g, v, rfl, rfl, h0, h1⟩
      intro p np
      refine ⟨.ref a, rfl, a, ns.map V.int, rfl, .inl ?_, fun c nc => ?_⟩
      · exact Same.seq (H := H2) (fun b o e => by rw [upd_ne (ne_of_none e np)]; exact e) hS
      have ncp : c ≠ p := fun e => by rw [e, upd_same] at nc; cases nc
      have nc2 : H2 c = none := by rw [upd_ne ncp] at nc; exact nc
      refine ⟨_, rfl, ?_⟩
      refine ⟨by rw [upd_ne ncp.symm, upd_same], [((.inr "cells" : Key), V.ref c), (.inr "at", .int 0), (.inr "digits", .int 0), (.inr "count", .int 0), (.inr "fold", .int g)], rfl, (by show 5 ≤ 15; decide), ?_⟩
      rw [mPen]
      refine q _ p c (fun b o e => ?_) np nc2 ⟨ns, 0, 0, g, upd_same, ?_, hlen, by decide, by decide, h0, by omega⟩
      · rw [upd_ne (ne_of_none e np), upd_ne (ne_of_none e nc2), upd_ne (ne_of_none e np)]
        exact e
      · rw [upd_ne ncp, upd_same]
theorem ok_draw {f : Addr} {fd : FuncData} {k : Nat} (F : Fun K "_law_draw" "_law_draw" sDraw f fd) (mi : mg "int" = none) (ml : mg "len" = none) : FnOk P w K mg base CX0 (k + 1) f fd ["_law_pen_here", "_law_many"] spDraw := by
  refine F.ok scDraw (fun vs H Q E h => ?_) (fun cdv A outer s H vs Q E hr h => ?_)
  · obtain ⟨p, c, n, m, rfl, _⟩ := h
    rfl
  · obtain ⟨p, c, n, m, rfl, hP, hn, hm, hm9, q⟩ := h
    have hu := hu_of hr
    have hpc := hP.ne
    obtain ⟨ns, a0, d0, f0, hp, hc, hlen, ha, hd, hf0, hf1⟩ := hP
    refine ⟨_, pss_cons (ps_dput hu (pv 0) pe_str (pe_op op_add (pe_dget hu (pv 0) pe_str (fun _ _ => rfl)) pe_int) rfl)
      (C8.pss_cut (ps_if (pw_and (pt_cmpR op_eq (pe_dget hu (pv 0) pe_str (fun _ _ => rfl)) pe_int (nomark _))
            (pw_and1 (pt_cmpR op_lt (pe_dget hu (pv 0) pe_str (fun _ _ => rfl)) (pe_callB call_len_seq (by rfl) ml PySem.boot_len (pa_cons (pe_dget hu (pv 0) pe_str (fun _ _ => rfl)) pa_nil)) (nomark _)))).pt
          (pss_cons (ps_set (i := 2) scDraw.nd rfl (.inl rfl) (pe_ix ix_list (pe_dget hu (pv 0) pe_str (fun _ _ => rfl)) (pe_dget hu (pv 0) pe_str (fun _ _ => rfl)) (fun _ _ => rfl)))
          (pss_cons (ps_dput hu (pv 0) pe_str (pe_op op_add (pe_dget hu (pv 0) pe_str (fun _ _ => rfl)) pe_int) rfl)
          (pss_one (ps_if (pt_cmpR op_ge (pv 2) (pe_op op_pow pe_int pe_int) (nomark _))
            (pss_one (ps_dput hu (pv 0) pe_str (pe_op op_sub (pv 2) (pe_op op_pow pe_int pe_int)) rfl))
            (pss_one (ps_dput hu (pv 0) pe_str (pe_op op_mod (pe_callTy call_int1 (by rfl) mi (by decide +kernel) (pa_cons (pe_op op_add (pe_op op_mul (pe_dget hu (pv 0) pe_str (fun _ _ => rfl)) pe_int) (pv 2)) pa_nil)) pe_int) rfl))))))
          pss_nil)
      (pss_cons (ps_if (pt_cmpR op_gt (pe_dget hu (pv 0) pe_str (fun _ _ => rfl)) pe_int (nomark _))
          (pss_cons (ps_set (i := 3) scDraw.nd rfl (.inl rfl) (pe_op op_mod (pe_callTy call_int1 (by rfl) mi (by decide +kernel) (pa_cons (pe_dget hu (pv 0) pe_str (fun _ _ => rfl)) pa_nil)) (pv 1)))
          (pss_cons (ps_dput hu (pv 0) pe_str (pe_op op_fdivW (pe_dget hu (pv 0) pe_str (fun _ _ => rfl)) (pv 1)) rfl)
          (pss_one (ps_ret (pv 3)))))
          pss_nil)
      (pss_cons (ps_set (i := 4) scDraw.nd rfl (.inl rfl) (pe_op op_add (pe_op op_add (pe_dget hu (pv 0) pe_str (fun _ _ => rfl)) (pe_op op_mul (pe_dget hu (pv 0) pe_str (fun _ _ => rfl)) pe_int)) pe_int))
      (pss_one (ps_ret (pe_op op_mod (pe_op op_fdivW (pe_callTy call_int1 (by rfl) mi (by decide +kernel) (pa_cons (pe_op op_mod (pe_op op_pow (pv 4) pe_int) pe_int) pa_nil)) pe_int) (pv 1))))))), ?_⟩
    -- count
    refine ⟨_, rfl, p, _, rfl, getS hp (vCount ..), _, _, rfl, rfl, _, rfl, p, _, rfl, putS hp lenP (pCount ..), ?_⟩
    have up : ∀ {o : HO}, (upd H p o) p = some o := fun {o} => upd_same
    have uc : ∀ {o : HO}, (upd H p o) c = some (.lst (ns.map V.int)) := fun {o} => by rw [upd_ne hpc.symm]; exact hc
    -- the cell
    refine ⟨fun σ' H' => ∃ (a d g : Int) (v2 : Option V), σ' = [some (.ref p), some (.int m), v2, none, none] ∧ H' = upd H p (.dK (kvsP c a d ((n : Int) + 1) g)) ∧ 0 ≤ a ∧ 0 ≤ d ∧ 0 ≤ g ∧ g < 2147483587, ?_, ?_⟩
    · refine ⟨_, rfl, p, _, rfl, getS up (vDigits ..), rfl, _, rfl, ite2 (fun e1 => ?_) (fun e1 => ?_)⟩
      · refine ⟨_, rfl, p, _, rfl, getS up (vAt ..), _, rfl, p, _, rfl, getS up (vCells ..), c, _, rfl, .inl (SqL.of uc), _, _, rfl, rfl, _, rfl, ite2 (fun e2 => ?_) (fun e2 => ?_)⟩
        · have e2' : a0 < (ns.length : Int) := by
            have z := of_decide_eq_true e2
            rw [List.length_map] at z
            exact z
          have hat : (ns.map V.int)[a0.toNat]? = some (V.int (ns[a0.toNat]'(by omega))) := by
            rw [List.getElem?_map, List.getElem?_eq_getElem (by omega)]
            rfl
          refine ⟨_, rfl, p, _, rfl, getS up (vCells ..), _, rfl, p, _, rfl, getS up (vAt ..), c, _, _, _, rfl, rfl, SqL.of uc, at_of (by omega) hat, ?_⟩
          refine ⟨_, rfl, p, _, rfl, getS up (vAt ..), _, _, rfl, rfl, _, rfl, p, _, rfl, putS up lenP (pAt ..), ?_⟩
          rw [upd_upd]
          refine ⟨_, rfl, _, _, rfl, rfl, ⟨by decide, by decide, by decide⟩, _, _, rfl, rfl, _, rfl, ite2 (fun e3 => ?_) (fun e3 => ?_)⟩
          · refine ⟨_, rfl, _, _, rfl, rfl, ⟨by decide, by decide, by decide⟩, _, _, rfl, rfl, _, rfl, p, _, rfl, putS up lenP (pDigits ..), ?_⟩
            rw [upd_upd]
            have e3' := of_decide_eq_true e3
            exact ⟨_, _, _, _, rfl, rfl, by omega, by omega, hf0, hf1⟩
          · refine ⟨_, rfl, p, _, rfl, getS up (vFold ..), _, _, rfl, rfl, .inr ⟨by decide, by decide⟩, _, rfl, _, _, rfl, rfl, .inl ⟨_, rfl, _, _, rfl, rfl, (by show (0 : Int) < 2147483587; decide), _, rfl, p, _, rfl, putS up lenP (pFold ..), ?_⟩⟩
            rw [upd_upd]
            exact ⟨_, _, _, _, rfl, rfl, by omega, hd, Int.emod_nonneg _ (by decide), Int.emod_lt_of_pos _ (by decide)⟩
        · exact ⟨_, _, _, _, rfl, rfl, ha, hd, hf0, hf1⟩
      · refine iteF ?_
        exact ⟨_, _, _, _, rfl, rfl, ha, hd, hf0, hf1⟩
    · rintro σ' H' ⟨a, d, g, v2, rfl, rfl, ha', hd', hg0, hg1⟩
      have fin : ∀ (r a d g : Int), 0 ≤ r → r < m → 0 ≤ a → 0 ≤ d → 0 ≤ g → g < 2147483587 → Q (.int r) (upd H p (.dK (kvsP c a d ((n : Int) + 1) g))) := fun r a d g r0 r1 a0 d0 g0 g1 =>
        q r _ r0 r1 ⟨ns, a, d, g, up, uc, hlen, a0, d0, g0, g1⟩ fun b hb => upd_ne hb
      refine ⟨_, rfl, p, _, rfl, getS up (vDigits ..), _, _, rfl, rfl, _, rfl, ite2 (fun e1 => ?_) (fun e1 => ?_)⟩
      · refine ⟨_, rfl, p, _, rfl, getS up (vDigits ..), .inl ⟨_, rfl, _, rfl, _, _, rfl, rfl, hm, ?_⟩⟩
        refine ⟨_, rfl, p, _, rfl, getS up (vDigits ..), _, rfl, _, _, rfl, rfl, wide_div hm hm9 (by decide) (by decide), _, rfl, p, _, rfl, putS up lenP (pDigits ..), ?_⟩
        rw [upd_upd]
        refine ⟨_, rfl, ?_⟩
        exact fin _ _ _ _ (Int.emod_nonneg _ (by omega)) (Int.emod_lt_of_pos _ hm) ha' (Int.ediv_nonneg hd' (by omega)) hg0 hg1
      · refine ⟨_, rfl, p, _, rfl, getS up (vFold ..), _, rfl, p, _, rfl, getS up (vCount ..), _, _, rfl, rfl, .inr ⟨by decide, by decide⟩, _, _, rfl, rfl, _, _, rfl, rfl, ?_⟩
        refine ⟨_, rfl, _, _, rfl, rfl, ⟨by decide, by decide, ?_⟩, _, _, rfl, rfl, (by show (0 : Int) < 2305843009213693951; decide), .inl ⟨_, rfl, _, _, rfl, rfl, wide_div (b := 200) (by decide) (by decide) (by decide) (by decide), _, rfl, _, _, rfl, rfl, hm, ?_⟩⟩
        · omega
        · exact fin _ _ _ _ (Int.emod_nonneg _ (by omega)) (Int.emod_lt_of_pos _ hm) ha' hd' hg0 hg1
theorem ok_pick {f fD : Addr} {fd fdD : FuncData} {k : Nat} (F : Fun K "_law_pick" "_law_pick" sPick f fd) (FD : Fun K "_law_draw" "_law_draw" sDraw fD fdD) (bD : Binds K fdD ["_law_pen_here", "_law_many"] []) (gD : mg "_law_draw" = some (.ref fD)) (mi : mg "int" = none) (ml : mg "len" = none) :
    FnOk P w K mg base CX0 (k + 2) f fd ["_law_pen_here", "_law_some"] (spPick K) := by
  have GD : FnOk P w K mg base CX0 (k + 1) fD fdD ["_law_pen_here", "_law_many"] spDraw := ok_draw FD mi ml
  refine F.ok scPick (fun vs H Q E h => ?_) (fun cdv A outer s H vs Q E hr h => ?_)
  · obtain ⟨p, c, y, n, xs, rfl, _⟩ := h
    rfl
  · obtain ⟨p, c, y, n, xs, rfl, hP, hn, hS, h0, hl, q⟩ := h
    refine ⟨_, pss_one (ps_ret (pe_ix (ix_or ix_list ix_tup) (pv 1) (pe_call GD hr (by rfl) gD FD.kp bD .nil pass0 (pa_cons (pv 0) (pa_cons (pe_callB call_len_seq (by rfl) ml PySem.boot_len (pa_cons (pv 1) pa_nil)) pa_nil))) (fun _ _ => rfl))), ?_⟩
    have hpos : 0 < xs.length := List.length_pos_iff.mpr h0
    refine ⟨_, rfl, _, rfl, _, rfl, y, xs, rfl, hS, p, c, n, _, rfl, hP, hn, by omega, ?_, fun r H' r0 r1 hP' hk => ?_⟩
    · have e : (xs.length : Int).natAbs = xs.length := by omega
      rw [e]
      exact Nat.lt_of_le_of_lt hl (by decide)
    · obtain ⟨j, rfl⟩ : ∃ j : Nat, r = (j : Int) := ⟨r.toNat, by omega⟩
      have hj : j < xs.length := by omega
      have hx : xs[j]? = some xs[j] := List.getElem?_eq_getElem hj
      obtain ⟨ns, a0, d0, f0, ep, _⟩ := hP
      rcases hS with hS | hS
      · exact .inl ⟨y, xs, _, _, rfl, rfl, sqL_pen hk ep hS, atI_nat hx, q j _ H' hx hP' hk⟩
      · exact .inr ⟨y, xs, _, _, rfl, rfl, sqT_pen hk ep hS, atI_nat hx, q j _ H' hx hP' hk⟩
end
end KQ

namespace KQ
open PySem PySem.Spec PyProof.Rows L2
/-! ### texts as lists of signs -/
abbrev mS (L : List Nat) : Str := ⟨L.toArray⟩
theorem mS_len (L : List Nat) : (mS L).length = L.length := by simp [Str.length]
theorem mS_inj {L M : List Nat} (h : mS L = mS M) : L = M := by
  have := congrArg (fun x : Str => x.cps.toList) h
  simpa using this
theorem mS_app (L M : List Nat) : mS L ++ mS M = mS (L ++ M) := by
  show Str.mk (L.toArray ++ M.toArray) = _
  simp
theorem mS_eta (x : Str) : x = mS x.cps.toList := by
  show x = Str.mk x.cps.toList.toArray
  simp
theorem mS_of {x : Str} {L : List Nat} (h : x.cps.toList = L) : x = mS L := by rw [mS_eta x, h]
theorem mS_cut (L : List Nat) (lo hi : Option Int) : cutS (mS L) lo hi = mS ((L.drop (HT.sIx L.length 0 lo)).take (HT.sIx L.length L.length hi - HT.sIx L.length 0 lo)) := by
  unfold cutS
  rw [mS_len]
theorem cut_from (L : List Nat) (k : Nat) : cutS (mS L) (some (k : Int)) none = mS (L.drop k) := by
  rw [mS_cut, HT.sIx_nat, HT.sIx_none]
  by_cases h : k ≤ L.length
  · rw [Nat.min_eq_left h, List.take_of_length_le (by simp)]
  · rw [Nat.min_eq_right (by omega), List.drop_of_length_le (Nat.le_refl _), List.drop_of_length_le (by omega)]
    simp
theorem cut_to (L : List Nat) (k : Nat) : cutS (mS L) none (some (k : Int)) = mS (L.take k) := by
  rw [mS_cut, HT.sIx_nat, HT.sIx_none, List.drop_zero, Nat.sub_zero]
  by_cases h : k ≤ L.length
  · rw [Nat.min_eq_left h]
  · rw [Nat.min_eq_right (by omega), List.take_of_length_le (Nat.le_refl _), List.take_of_length_le (by omega)]
theorem cut_mid (L : List Nat) (k : Nat) : cutS (mS L) (some (k : Int)) (some ((k : Int) + 1)) = mS (L.drop k |>.take 1) := by
  have e : ((k : Int) + 1) = ((k + 1 : Nat) : Int) := by omega
  rw [e, mS_cut, HT.sIx_nat, HT.sIx_nat]
  by_cases h : k + 1 ≤ L.length
  · rw [Nat.min_eq_left h, Nat.min_eq_left (by omega)]
    congr 2
    omega
  · rw [Nat.min_eq_right (by omega), Nat.min_eq_right (by omega), List.drop_of_length_le (Nat.le_refl _), List.drop_of_length_le (by omega)]
    simp
theorem sw_one (L : List Nat) (c : Nat) : Txt.startswith (mS L) ⟨#[c]⟩ = decide (L.head? = some c) := by
  cases L with
  | nil => rfl
  | cons a L =>
    unfold Txt.startswith Builtin.Str.subAt
    show (decide (0 + 1 ≤ (mS (a :: L)).length) && ((a :: L).toArray.extract 0 (0 + 1) == #[c])) = _
    rw [mS_len]
    by_cases h : a = c
    · subst h
      simp
    · have : ¬ (some a = some c) := fun e => h (Option.some.inj e)
      simp [h]
theorem drop_take {p : Nat → Bool} (L : List Nat) : L.drop (L.takeWhile p).length = L.dropWhile p := by
  have h := List.takeWhile_append_dropWhile (p := p) (l := L)
  have h2 : (L.takeWhile p ++ L.dropWhile p).drop (L.takeWhile p).length = L.dropWhile p := List.drop_left
  rw [h] at h2
  exact h2
theorem lstrip_eq (L S : List Nat) : Txt.lstripChars (mS L) (mS S) = mS (L.dropWhile S.toArray.contains) := by
  have key : Builtin.Str.strSub (mS L) (L.takeWhile S.toArray.contains).length L.length = mS (L.dropWhile S.toArray.contains) := by
    refine mS_of ?_
    rw [PySem.StrLaws.strSub_toList]
    show ((L.drop _).take _) = _
    rw [drop_take, List.take_of_length_le]
    have h := congrArg List.length (List.takeWhile_append_dropWhile (p := S.toArray.contains) (l := L))
    rw [List.length_append] at h
    omega
  unfold Txt.lstripChars Txt.stripBy
  split
  · rename_i h
    have h0 : (L.takeWhile S.toArray.contains).length = 0 := by
      exact eq_of_beq ((Bool.and_eq_true _ _).mp h).1
    rw [← drop_take, h0, List.drop_zero]
  · show Builtin.Str.strSub (mS L) _ (mS L).length = _
    rw [mS_len]
    exact key
theorem strike (L : List Nat) (c : Nat) : Txt.replace (mS L) ⟨#[c]⟩ ⟨#[]⟩ = mS (L.filter (· != c)) := mS_of (by rw [replace_strikes])
/-! ### the letters and their bits -/
def isL (c : Nat) : Bool := (#[73, 88, 89, 90] : Array Nat).contains c
theorem isL_iff {c : Nat} : isL c = true ↔ c = 73 ∨ c = 88 ∨ c = 89 ∨ c = 90 := by
  unfold isL
  simp
def lx (c : Nat) : Nat := if c = 88 ∨ c = 89 then 1 else 0
def lz (c : Nat) : Nat := if c = 90 ∨ c = 89 then 1 else 0
def bv (f : Nat → Nat) : List Nat → Nat
  | [] => 0
  | c :: L => f c + 2 * bv f L
theorem bv_app (f : Nat → Nat) : ∀ (L : List Nat) (c : Nat), bv f (L ++ [c]) = bv f L + 2 ^ L.length * f c
  | [], c => by simp [bv]
  | a :: L, c => by
    show f a + 2 * bv f (L ++ [c]) = f a + 2 * bv f L + 2 ^ (L.length + 1) * f c
    rw [bv_app f L c, Nat.pow_succ, Nat.mul_add, Nat.add_assoc, Nat.mul_comm (2 ^ L.length) 2, Nat.mul_assoc]
theorem bv_take (f : Nat → Nat) {L : List Nat} {k c : Nat} (h : L[k]? = some c) : bv f (L.take (k + 1)) = bv f (L.take k) + 2 ^ k * f c := by
  have hk : k < L.length := by
    rcases Nat.lt_or_ge k L.length with h' | h'
    · exact h'
    · rw [List.getElem?_eq_none h'] at h; cases h
  have e : L.take (k + 1) = L.take k ++ [c] := by
    rw [List.take_succ, h]
    rfl
  rw [e, bv_app, List.length_take, Nat.min_eq_left (by omega)]
theorem bv_bit {f : Nat → Nat} (hf : ∀ c, f c < 2) : ∀ {L : List Nat} {k c : Nat}, L[k]? = some c → bv f L / 2 ^ k % 2 = f c
  | [], k, c, h => by simp at h
  | a :: L, 0, c, h => by
    have e : a = c := by simpa using h
    subst e
    have := hf a
    show (f a + 2 * bv f L) / 2 ^ 0 % 2 = f a
    rw [Nat.pow_zero, Nat.div_one]
    omega
  | a :: L, k + 1, c, h => by
    have h' : L[k]? = some c := by simpa using h
    have := hf a
    show (f a + 2 * bv f L) / 2 ^ (k + 1) % 2 = f c
    rw [Nat.pow_succ, Nat.mul_comm (2 ^ k) 2, ← Nat.div_div_eq_div_mul, show (f a + 2 * bv f L) / 2 = bv f L from by omega]
    exact bv_bit hf h'
theorem bv_lt {f : Nat → Nat} (hf : ∀ c, f c < 2) : ∀ L : List Nat, bv f L < 2 ^ L.length
  | [] => Nat.one_pos
  | a :: L => by
    have := bv_lt hf L
    have := hf a
    show f a + 2 * bv f L < 2 ^ (L.length + 1)
    rw [Nat.pow_succ]
    omega
theorem lx_lt (c : Nat) : lx c < 2 := by unfold lx; split <;> omega
theorem lz_lt (c : Nat) : lz c < 2 := by unfold lz; split <;> omega
theorem letter_back {c : Nat} (h : isL c = true) : ([73, 88, 90, 89] : List Nat)[lx c + 2 * lz c]? = some c := by
  rcases isL_iff.mp h with rfl | rfl | rfl | rfl <;> decide
/-! ### counting ones -/
def pc (n : Nat) : Nat := if h : n = 0 then 0 else n % 2 + pc (n / 2)
termination_by n
decreasing_by omega
theorem pc_zero : pc 0 = 0 := by unfold pc; rfl
theorem pc_two (m b : Nat) (hb : b < 2) : pc (2 * m + b) = b + pc m := by
  by_cases h : 2 * m + b = 0
  · have h1 : m = 0 := by omega
    have h2 : b = 0 := by omega
    subst h1 h2
    rw [pc_zero]
  · rw [pc, dif_neg h, show (2 * m + b) % 2 = b from by omega, show (2 * m + b) / 2 = m from by omega]
theorem and_two (a b i j : Nat) (hi : i < 2) (hj : j < 2) : (2 * a + i) &&& (2 * b + j) = 2 * (a &&& b) + (i &&& j) := by
  have h1 : ((2 * a + i) &&& (2 * b + j)) / 2 = a &&& b := by
    rw [Nat.and_div_two, show (2 * a + i) / 2 = a from by omega, show (2 * b + j) / 2 = b from by omega]
  have h2 : ((2 * a + i) &&& (2 * b + j)) % 2 = i &&& j := by
    have := Nat.and_mod_two_pow (a := 2 * a + i) (b := 2 * b + j) (n := 1)
    rw [Nat.pow_one] at this
    rw [this, show (2 * a + i) % 2 = i from by omega, show (2 * b + j) % 2 = j from by omega]
  omega
theorem or_two (a b i j : Nat) (hi : i < 2) (hj : j < 2) : (2 * a + i) ||| (2 * b + j) = 2 * (a ||| b) + (i ||| j) := by
  have h1 : ((2 * a + i) ||| (2 * b + j)) / 2 = a ||| b := by
    rw [Nat.or_div_two, show (2 * a + i) / 2 = a from by omega, show (2 * b + j) / 2 = b from by omega]
  have h2 : ((2 * a + i) ||| (2 * b + j)) % 2 = i ||| j := by
    have := Nat.or_mod_two_pow (a := 2 * a + i) (b := 2 * b + j) (n := 1)
    rw [Nat.pow_one] at this
    rw [this, show (2 * a + i) % 2 = i from by omega, show (2 * b + j) % 2 = j from by omega]
  omega
theorem pc_step : ∀ (n : Nat), 0 < n → pc (n &&& (n - 1)) + 1 = pc n := by
  intro n
  induction n using Nat.strongRecOn with
  | ind n ih =>
    intro hn
    by_cases h : n % 2 = 1
    · have e : n = 2 * (n / 2) + 1 := by omega
      have e2 : n - 1 = 2 * (n / 2) + 0 := by omega
      have e3 : n &&& (n - 1) = 2 * (n / 2) + 0 := by
        rw [e2]
        conv => lhs; lhs; rw [e]
        rw [and_two _ _ _ _ (by decide) (by decide), Nat.and_self]
        rfl
      rw [e3, pc_two _ _ (by decide)]
      conv => rhs; rw [e]
      rw [pc_two _ _ (by decide)]
      omega
    · have e : n = 2 * (n / 2) + 0 := by omega
      have e2 : n - 1 = 2 * (n / 2 - 1) + 1 := by omega
      have e3 : n &&& (n - 1) = 2 * (n / 2 &&& (n / 2 - 1)) + 0 := by
        rw [e2]
        conv => lhs; lhs; rw [e]
        rw [and_two _ _ _ _ (by decide) (by decide)]
        rfl
      have := ih (n / 2) (by omega) (by omega)
      rw [e3, pc_two _ _ (by decide)]
      conv => rhs; rw [e]
      rw [pc_two _ _ (by decide)]
      omega
def wt (L : List Nat) : Nat := L.length - L.count 73
theorem pc_or : ∀ {L : List Nat}, (∀ c ∈ L, isL c = true) → pc (bv lx L ||| bv lz L) + L.count 73 = L.length
  | [], _ => by
    show pc (0 ||| 0) + 0 = 0
    rw [show (0 ||| 0 : Nat) = 0 from rfl, pc_zero]
  | c :: L, h => by
    have ih := pc_or fun d hd => h d (List.mem_cons_of_mem _ hd)
    show pc ((lx c + 2 * bv lx L) ||| (lz c + 2 * bv lz L)) + (c :: L).count 73 = L.length + 1
    rw [Nat.add_comm (lx c), Nat.add_comm (lz c), or_two _ _ _ _ (lx_lt c) (lz_lt c), List.count_cons]
    have hc := isL_iff.mp (h c List.mem_cons_self)
    have two : (lx c ||| lz c) < 2 ∧ (lx c ||| lz c) + (if c == 73 then 1 else 0) = 1 := by
      rcases hc with rfl | rfl | rfl | rfl <;> decide
    rw [pc_two _ _ two.1]
    omega
theorem pc_wt {L : List Nat} (h : ∀ c ∈ L, isL c = true) : pc (bv lx L ||| bv lz L) = wt L := by
  have := pc_or h
  unfold wt
  omega
/-! ### a text's parts -/
def st1 (B : List Nat) : Nat := if B.head? = some 43 ∨ B.head? = some 45 then 1 else 0
def start (B : List Nat) : Nat := st1 B + (if (B.drop (st1 B)).head? = some 105 then 1 else 0)
def rest (B : List Nat) : List Nat := B.drop (start B)
def fine (B : List Nat) : Prop := (rest B).dropWhile isL = [] ∧ rest B ≠ []
instance (B : List Nat) : Decidable (fine B) := inferInstanceAs (Decidable (_ ∧ _))
def col (B : List Nat) : Nat := if fine B then 0 else B.length - ((rest B).dropWhile isL).length + 1
def ph (B : List Nat) : Nat := (if B.head? = some 45 then 2 else 0) + (if (B.drop (st1 B)).head? = some 105 then 1 else 0)
def headL : Nat → List Nat
  | 0 => []
  | 1 => [105]
  | 2 => [45]
  | _ => [45, 105]
theorem ph_lt (B : List Nat) : ph B < 4 := by
  unfold ph
  split <;> split <;> omega
theorem head_of (B : List Nat) : (B.take (start B)).filter (· != 43) = headL (ph B) := by
  cases B with
  | nil => rfl
  | cons a B =>
    unfold start ph
    by_cases h1 : a = 43
    · subst h1
      have e : st1 (43 :: B) = 1 := rfl
      rw [e]
      cases B with
      | nil => rfl
      | cons b B =>
        by_cases h2 : b = 105
        · subst h2
          rfl
        · have e2 : ((43 :: b :: B).drop 1).head? ≠ some 105 := fun z => h2 (Option.some.inj z)
          rw [if_neg e2, if_neg (by simp : ¬ ((43 :: b :: B).head? = some 45))]
          rfl
    · by_cases h3 : a = 45
      · subst h3
        have e : st1 (45 :: B) = 1 := rfl
        rw [e]
        cases B with
        | nil => rfl
        | cons b B =>
          by_cases h2 : b = 105
          · subst h2
            rfl
          · have e2 : ((45 :: b :: B).drop 1).head? ≠ some 105 := fun z => h2 (Option.some.inj z)
            rw [if_neg e2]
            rfl
      · have e : st1 (a :: B) = 0 := by
          unfold st1
          rw [if_neg]
          rintro (z | z)
          · exact h1 (Option.some.inj z)
          · exact h3 (Option.some.inj z)
        have e3 : ¬ ((a :: B).head? = some 45) := fun z => h3 (Option.some.inj z)
        rw [e, if_neg e3]
        by_cases h2 : a = 105
        · subst h2
          rfl
        · have e2 : ¬ (((a :: B).drop 0).head? = some 105) := fun z => h2 (Option.some.inj z)
          rw [if_neg e2]
          rfl
theorem start_le (B : List Nat) : start B ≤ B.length := by
  unfold start
  cases B with
  | nil => decide
  | cons a B =>
    have h1 : st1 (a :: B) ≤ 1 := by unfold st1; split <;> omega
    split
    · rename_i h
      have : st1 (a :: B) < (a :: B).length := by
        rcases Nat.lt_or_ge (st1 (a :: B)) (a :: B).length with z | z
        · exact z
        · rw [List.drop_of_length_le z] at h
          cases h
      omega
    · show _ ≤ B.length + 1
      omega
theorem dw_all : ∀ {L : List Nat}, (∀ c ∈ L, isL c = true) → L.dropWhile isL = []
  | [], _ => rfl
  | c :: L, h => by
    rw [List.dropWhile_cons_of_pos (h c List.mem_cons_self)]
    exact dw_all fun d hd => h d (List.mem_cons_of_mem _ hd)
/-- a head before letters -/
theorem read_head {L : List Nat} (hL : ∀ c ∈ L, isL c = true) (h0 : L ≠ []) (i : Nat) (T : List Nat) (p : Nat) (hT : ([([], 0), ([43], 0), ([45], 2), ([105], 1), ([43, 105], 1), ([45, 105], 3)] : List (List Nat × Nat))[i]? = some (T, p)) :
    rest (T ++ L) = L ∧ ph (T ++ L) = p ∧ fine (T ++ L) := by
  have hd : ∃ a M, L = a :: M ∧ a ≠ 43 ∧ a ≠ 45 ∧ a ≠ 105 := by
    cases L with
    | nil => exact absurd rfl h0
    | cons a M =>
      refine ⟨a, M, rfl, ?_, ?_, ?_⟩ <;> rintro rfl <;> have := isL_iff.mp (hL _ List.mem_cons_self) <;> omega
  obtain ⟨a, M, rfl, n1, n2, n3⟩ := hd
  have dw : (a :: M).dropWhile isL = [] := by
    exact dw_all hL
  have go : ∀ T p, start (T ++ (a :: M)) = T.length → ph (T ++ (a :: M)) = p → rest (T ++ (a :: M)) = a :: M ∧ ph (T ++ (a :: M)) = p ∧ fine (T ++ (a :: M)) := by
    intro T p hs hp
    have hr : rest (T ++ (a :: M)) = a :: M := by
      unfold rest
      rw [hs]
      exact List.drop_left
    refine ⟨hr, hp, ?_⟩
    unfold fine
    rw [hr]
    exact ⟨dw, by simp⟩
  have s1 : ∀ x : Nat, x ≠ 43 → x ≠ 45 → ∀ M, st1 (x :: M) = 0 := by
    intro x h1 h2 M
    unfold st1
    rw [if_neg]
    rintro (z | z)
    · exact h1 (Option.some.inj z)
    · exact h2 (Option.some.inj z)
  have no : ∀ M : List Nat, ¬ ((a :: M).head? = some 105) := fun M z => n3 (Option.some.inj z)
  match i, hT with
  | 0, e =>
    cases e
    refine go [] 0 ?_ ?_
    · show st1 (a :: M) + (if ((a :: M).drop (st1 (a :: M))).head? = some 105 then 1 else 0) = 0
      rw [s1 a n1 n2, List.drop_zero, if_neg (no M)]
    · have n4 : ¬ ((a :: M).head? = some 45) := fun z => n2 (Option.some.inj z)
      show (if (a :: M).head? = some 45 then 2 else 0) + (if ((a :: M).drop (st1 (a :: M))).head? = some 105 then 1 else 0) = 0
      rw [s1 a n1 n2, if_neg n4, List.drop_zero, if_neg (no M)]
  | 1, e =>
    cases e
    refine go [43] 0 ?_ ?_
    · show 1 + (if (a :: M).head? = some 105 then 1 else 0) = 1
      rw [if_neg (no M)]
    · show 0 + (if (a :: M).head? = some 105 then 1 else 0) = 0
      rw [if_neg (no M)]
  | 2, e =>
    cases e
    refine go [45] 2 ?_ ?_
    · show 1 + (if (a :: M).head? = some 105 then 1 else 0) = 1
      rw [if_neg (no M)]
    · show 2 + (if (a :: M).head? = some 105 then 1 else 0) = 2
      rw [if_neg (no M)]
  | 3, e =>
    cases e
    exact go [105] 1 rfl rfl
  | 4, e =>
    cases e
    exact go [43, 105] 1 rfl rfl
  | 5, e =>
    cases e
    exact go [45, 105] 3 rfl rfl
theorem col_zero {B : List Nat} : col B = 0 ↔ fine B := by
  unfold col
  split
  · exact ⟨fun _ => by assumption, fun _ => rfl⟩
  · exact ⟨fun z => by omega, fun z => absurd z (by assumption)⟩
theorem len_split (B : List Nat) : B.length = start B + ((rest B).takeWhile isL).length + ((rest B).dropWhile isL).length := by
  have h := congrArg List.length (List.takeWhile_append_dropWhile (p := isL) (l := rest B))
  rw [List.length_append] at h
  have h2 : (rest B).length = B.length - start B := List.length_drop
  have := start_le B
  omega
end KQ

namespace KQ
open PySem PySem.Spec PyProof.Rows L2
/-! ### polynomials with bits, as whole numbers -/
theorem xor_two (a b i j : Nat) (hi : i < 2) (hj : j < 2) : (2 * a + i) ^^^ (2 * b + j) = 2 * (a ^^^ b) + (i ^^^ j) := by
  have h1 : ((2 * a + i) ^^^ (2 * b + j)) / 2 = a ^^^ b := by
    rw [Nat.xor_div_two, show (2 * a + i) / 2 = a from by omega, show (2 * b + j) / 2 = b from by omega]
  have h2 : ((2 * a + i) ^^^ (2 * b + j)) % 2 = i ^^^ j := by
    have := Nat.xor_mod_two_pow (a := 2 * a + i) (b := 2 * b + j) (n := 1)
    rw [Nat.pow_one] at this
    rw [this, show (2 * a + i) % 2 = i from by omega, show (2 * b + j) % 2 = j from by omega]
  omega
def md (a b : Nat) : Nat := if h : b = 0 then 0 else (if b % 2 = 1 then a else 0) ^^^ md (2 * a) (b / 2)
termination_by b
decreasing_by omega
theorem md_zero (a : Nat) : md a 0 = 0 := by rw [md, dif_pos rfl]
theorem md_step (a b : Nat) : md a b = (if b % 2 = 1 then a else 0) ^^^ md (2 * a) (b / 2) := by
  by_cases h : b = 0
  · subst h
    rw [md_zero, md_zero, if_neg (by decide)]
    rfl
  · rw [md, dif_neg h]
theorem two_xor (x y : Nat) : 2 * x ^^^ 2 * y = 2 * (x ^^^ y) := by
  have := xor_two x y 0 0 (by decide) (by decide)
  simpa using this
theorem xor_sw (a b c d : Nat) : (a ^^^ b) ^^^ (c ^^^ d) = (a ^^^ c) ^^^ (b ^^^ d) := by
  rw [Nat.xor_assoc, ← Nat.xor_assoc b, Nat.xor_comm b c, Nat.xor_assoc c, ← Nat.xor_assoc]
theorem md_addl (b : Nat) : ∀ a a' : Nat, md (a ^^^ a') b = md a b ^^^ md a' b := by
  induction b using Nat.strongRecOn with
  | _ b ih =>
    intro a a'
    by_cases h : b = 0
    · subst h
      rw [md_zero, md_zero, md_zero]
      rfl
    · rw [md_step (a ^^^ a') b, md_step a b, md_step a' b, ← two_xor, ih (b / 2) (by omega), xor_sw]
      congr 1
      split <;> simp
theorem md_two (b : Nat) : ∀ a : Nat, md (2 * a) b = 2 * md a b := by
  induction b using Nat.strongRecOn with
  | _ b ih =>
    intro a
    by_cases h : b = 0
    · subst h
      rw [md_zero, md_zero]
    · rw [md_step (2 * a) b, md_step a b, ih (b / 2) (by omega), ← two_xor]
      congr 1
      split <;> rfl
theorem md_nice (a b : Nat) : md a b = (if b % 2 = 1 then a else 0) ^^^ 2 * md a (b / 2) := by
  rw [md_step a b, md_two]
theorem md_zl (b : Nat) : md 0 b = 0 := by
  have := md_addl b 0 0
  simpa using this
theorem xor_half (x y : Nat) : (x ^^^ y) / 2 = x / 2 ^^^ y / 2 := by
  have e1 : x = 2 * (x / 2) + x % 2 := by omega
  have e2 : y = 2 * (y / 2) + y % 2 := by omega
  have := xor_two (x / 2) (y / 2) (x % 2) (y % 2) (by omega) (by omega)
  rw [← e1, ← e2] at this
  have lt : x % 2 ^^^ y % 2 < 2 := by
    have h1 : x % 2 = 0 ∨ x % 2 = 1 := by omega
    have h2 : y % 2 = 0 ∨ y % 2 = 1 := by omega
    rcases h1 with h1 | h1 <;> rcases h2 with h2 | h2 <;> rw [h1, h2] <;> decide
  omega
theorem xor_bit (x y : Nat) : (x ^^^ y) % 2 = (x % 2 + y % 2) % 2 := by
  have e1 : x = 2 * (x / 2) + x % 2 := by omega
  have e2 : y = 2 * (y / 2) + y % 2 := by omega
  have := xor_two (x / 2) (y / 2) (x % 2) (y % 2) (by omega) (by omega)
  rw [← e1, ← e2] at this
  have h1 : x % 2 = 0 ∨ x % 2 = 1 := by omega
  have h2 : y % 2 = 0 ∨ y % 2 = 1 := by omega
  have h3 : x % 2 ^^^ y % 2 = (x % 2 + y % 2) % 2 := by
    rcases h1 with h1 | h1 <;> rcases h2 with h2 | h2 <;> rw [h1, h2] <;> decide
  omega
theorem md_addr (a : Nat) : ∀ n b b' : Nat, b + b' ≤ n → md a (b ^^^ b') = md a b ^^^ md a b'
  | 0, b, b', h => by
    have h1 : b = 0 := by omega
    have h2 : b' = 0 := by omega
    subst h1 h2
    rw [show (0 : Nat) ^^^ 0 = 0 from rfl, md_zero]
    rfl
  | n + 1, b, b', h => by
    by_cases h0 : b + b' = 0
    · have h1 : b = 0 := by omega
      have h2 : b' = 0 := by omega
      subst h1 h2
      rw [show (0 : Nat) ^^^ 0 = 0 from rfl, md_zero]
      rfl
    · rw [md_nice a (b ^^^ b'), md_nice a b, md_nice a b', xor_half, md_addr a n (b / 2) (b' / 2) (by omega), ← two_xor, xor_sw]
      congr 1
      rw [xor_bit]
      have h1 : b % 2 = 0 ∨ b % 2 = 1 := by omega
      have h2 : b' % 2 = 0 ∨ b' % 2 = 1 := by omega
      rcases h1 with h1 | h1 <;> rcases h2 with h2 | h2 <;> rw [h1, h2] <;> simp
theorem md_add (a b b' : Nat) : md a (b ^^^ b') = md a b ^^^ md a b' := md_addr a _ b b' (Nat.le_refl _)
theorem md_twor (a b : Nat) : md a (2 * b) = 2 * md a b := by
  rw [md_nice a (2 * b), if_neg (by omega), show 2 * b / 2 = b by omega, Nat.zero_xor]
theorem md_one (a : Nat) : md a 1 = a := by
  rw [md_nice, if_pos rfl, show 1 / 2 = 0 from rfl, md_zero]
  simp
theorem md_pow (a : Nat) : ∀ k : Nat, md a (2 ^ k) = a * 2 ^ k
  | 0 => by rw [Nat.pow_zero, md_one, Nat.mul_one]
  | k + 1 => by rw [Nat.pow_succ, Nat.mul_comm (2 ^ k) 2, md_twor, md_pow a k, Nat.mul_left_comm]
theorem md_assoc (a b : Nat) : ∀ c : Nat, md (md a b) c = md a (md b c) := by
  intro c
  induction c using Nat.strongRecOn with
  | _ c ih =>
    by_cases h : c = 0
    · subst h
      rw [md_zero, md_zero, md_zero]
    · rw [md_nice (md a b) c, md_nice b c, md_add, md_twor, ih (c / 2) (by omega)]
      congr 1
      split
      · rfl
      · rw [md_zero]
theorem md_onel : ∀ b : Nat, md 1 b = b := by
  intro b
  induction b using Nat.strongRecOn with
  | _ b ih =>
    by_cases h : b = 0
    · subst h
      rw [md_zero]
    · rw [md_nice, ih (b / 2) (by omega)]
      have := xor_two (b / 2) 0 0 (b % 2) (by decide) (by omega)
      rw [Nat.xor_zero, Nat.zero_xor, Nat.mul_zero, Nat.zero_add, Nat.add_zero] at this
      have h2 : b % 2 = 0 ∨ b % 2 = 1 := by omega
      rcases h2 with h2 | h2
      · rw [if_neg (by omega), Nat.zero_xor]
        omega
      · rw [if_pos h2, Nat.xor_comm]
        rw [h2] at this
        omega
theorem md_comm (a b : Nat) : md a b = md b a := by
  revert a
  induction b using Nat.strongRecOn with
  | _ b ih =>
    intro a
    by_cases h : b = 0
    · subst h
      rw [md_zero, md_zl]
    · have e : b = (b % 2) ^^^ 2 * (b / 2) := by
        have := xor_two (b / 2) 0 0 (b % 2) (by decide) (by omega)
        rw [Nat.xor_zero, Nat.zero_xor, Nat.mul_zero, Nat.zero_add, Nat.add_zero] at this
        rw [Nat.xor_comm]
        omega
      rw [md_nice a b, ih (b / 2) (by omega)]
      conv => rhs; rw [e, md_addl, md_two]
      congr 1
      have h2 : b % 2 = 0 ∨ b % 2 = 1 := by omega
      rcases h2 with h2 | h2
      · rw [h2, if_neg (by decide), md_zl]
      · rw [h2, if_pos rfl, md_onel]
theorem top_bit {m y : Nat} (h1 : 2 ^ m ≤ y) (h2 : y < 2 ^ (m + 1)) : Nat.testBit y m = true := by
  rw [Nat.testBit_eq_decide_div_mod_eq]
  have : y / 2 ^ m = 1 := by
    rw [Nat.pow_succ] at h2
    have a1 : y / 2 ^ m < 2 := Nat.div_lt_of_lt_mul h2
    have a2 : 1 ≤ y / 2 ^ m := (Nat.le_div_iff_mul_le (Nat.two_pow_pos m)).mpr (by omega)
    omega
  rw [this]
  rfl
theorem xor_top {m x y : Nat} (h0 : x < 2 ^ m) (h1 : 2 ^ m ≤ y) (h2 : y < 2 ^ (m + 1)) : 2 ^ m ≤ x ^^^ y ∧ x ^^^ y < 2 ^ (m + 1) := by
  refine ⟨?_, Nat.xor_lt_two_pow (Nat.lt_of_lt_of_le h0 (Nat.pow_le_pow_right (by decide) (by omega))) h2⟩
  refine Nat.ge_two_pow_of_testBit ?_
  rw [Nat.testBit_xor, top_bit h1 h2, Nat.testBit_lt_two_pow h0]
  rfl
theorem xor_same {m x y : Nat} (a1 : 2 ^ m ≤ x) (a2 : x < 2 ^ (m + 1)) (h1 : 2 ^ m ≤ y) (h2 : y < 2 ^ (m + 1)) : x ^^^ y < 2 ^ m := by
  refine Nat.lt_pow_two_of_testBit _ fun i hi => ?_
  by_cases e : i = m
  · subst e
    rw [Nat.testBit_xor, top_bit h1 h2, top_bit a1 a2]
    rfl
  · have up : ∀ {z : Nat}, z < 2 ^ (m + 1) → Nat.testBit z i = false := fun hz => Nat.testBit_lt_two_pow (Nat.lt_of_lt_of_le hz (Nat.pow_le_pow_right (by decide) (by omega)))
    rw [Nat.testBit_xor, up a2, up h2]
    rfl
theorem md_deg {i : Nat} {a : Nat} (a1 : 2 ^ i ≤ a) (a2 : a < 2 ^ (i + 1)) : ∀ (j b : Nat), 2 ^ j ≤ b → b < 2 ^ (j + 1) → 2 ^ (i + j) ≤ md a b ∧ md a b < 2 ^ (i + j + 1)
  | 0, b, h1, h2 => by
    have : b = 1 := by
      rw [Nat.pow_zero] at h1
      rw [show 2 ^ (0 + 1) = 2 from rfl] at h2
      omega
    subst this
    rw [md_one]
    exact ⟨a1, a2⟩
  | j + 1, b, h1, h2 => by
    have p1 : 2 ^ (j + 1) = 2 ^ j * 2 := Nat.pow_succ ..
    have p2 : 2 ^ (j + 1 + 1) = 2 ^ (j + 1) * 2 := Nat.pow_succ ..
    obtain ⟨b1, b2⟩ := md_deg a1 a2 j (b / 2) (by omega) (by omega)
    rw [md_nice]
    have q1 : 2 ^ (i + (j + 1)) = 2 ^ (i + j) * 2 := Nat.pow_succ ..
    have q2 : 2 ^ (i + (j + 1) + 1) = 2 ^ (i + j + 1) * 2 := Nat.pow_succ ..
    refine xor_top (m := i + (j + 1)) ?_ (by omega) (by omega)
    have le : 2 ^ (i + 1) ≤ 2 ^ (i + (j + 1)) := Nat.pow_le_pow_right (by decide) (by omega)
    split
    · omega
    · exact Nat.two_pow_pos _
theorem log_of {n : Nat} (h : n ≠ 0) : 2 ^ n.log2 ≤ n ∧ n < 2 ^ (n.log2 + 1) := ⟨Nat.log2_self_le h, Nat.lt_log2_self⟩
theorem log_uniq {n k : Nat} (h1 : 2 ^ k ≤ n) (h2 : n < 2 ^ (k + 1)) : n.log2 = k := by
  have h : n ≠ 0 := by
    have := Nat.two_pow_pos k
    omega
  obtain ⟨a1, a2⟩ := log_of h
  have l1 : n.log2 < k + 1 := (Nat.pow_lt_pow_iff_right (by decide : 1 < 2)).mp (Nat.lt_of_le_of_lt a1 h2)
  have l2 : k < n.log2 + 1 := (Nat.pow_lt_pow_iff_right (by decide : 1 < 2)).mp (Nat.lt_of_le_of_lt h1 a2)
  omega
theorem md_log {a b : Nat} (ha : a ≠ 0) (hb : b ≠ 0) : md a b ≠ 0 ∧ (md a b).log2 = a.log2 + b.log2 := by
  obtain ⟨a1, a2⟩ := log_of ha
  obtain ⟨b1, b2⟩ := log_of hb
  obtain ⟨m1, m2⟩ := md_deg a1 a2 _ _ b1 b2
  refine ⟨?_, log_uniq m1 m2⟩
  have := Nat.two_pow_pos (a.log2 + b.log2)
  omega
theorem xor_eq {a b : Nat} (h : a ^^^ b = 0) : a = b := by
  have := congrArg (· ^^^ b) h
  simpa [Nat.xor_assoc] using this
theorem md_cancel {a b g : Nat} (hg : g ≠ 0) (h : md a g = md b g) : a = b := by
  by_cases e : a ^^^ b = 0
  · exact xor_eq e
  · exfalso
    have := (md_log e hg).1
    rw [md_addl, h, Nat.xor_self] at this
    exact this rfl
theorem md_is_one {l g : Nat} (h : md l g = 1) : g = 1 := by
  have hl : l ≠ 0 := fun z => by rw [z, md_zl] at h; omega
  have hg : g ≠ 0 := fun z => by rw [z, md_zero] at h; omega
  have := (md_log hl hg).2
  rw [h] at this
  have e : (1 : Nat).log2 = 0 := by decide
  have g0 : g.log2 = 0 := by omega
  obtain ⟨b1, b2⟩ := log_of hg
  rw [g0] at b1 b2
  rw [show 2 ^ (0 + 1) = 2 from rfl] at b2
  omega
/-- a division: N is q times D plus r -/
def DivR (N D q r : Nat) : Prop := N = md q D ^^^ r ∧ r < 2 ^ D.log2
theorem DivR.uniq {N D q r q' r' : Nat} (hD : D ≠ 0) (h : DivR N D q r) (h' : DivR N D q' r') : q = q' ∧ r = r' := by
  have e : md (q ^^^ q') D = r ^^^ r' := by
    have := h.1.symm.trans h'.1
    rw [md_addl]
    have z : (md q D ^^^ r) ^^^ (md q' D ^^^ r) = (md q' D ^^^ r') ^^^ (md q' D ^^^ r) := by rw [this]
    have lhs : (md q D ^^^ r) ^^^ (md q' D ^^^ r) = md q D ^^^ md q' D := by
      rw [xor_sw, Nat.xor_self, Nat.xor_zero]
    have rhs : (md q' D ^^^ r') ^^^ (md q' D ^^^ r) = r ^^^ r' := by
      rw [xor_sw, Nat.xor_self, Nat.zero_xor, Nat.xor_comm]
    rw [lhs, rhs] at z
    exact z
  by_cases z : q ^^^ q' = 0
  · refine ⟨xor_eq z, ?_⟩
    rw [z, md_zl] at e
    exact xor_eq e.symm
  · exfalso
    obtain ⟨n0, lg⟩ := md_log z hD
    have lt : md (q ^^^ q') D < 2 ^ D.log2 := by
      rw [e]
      exact Nat.xor_lt_two_pow h.2 h'.2
    have ge := (log_of n0).1
    rw [lg] at ge
    have : 2 ^ D.log2 ≤ 2 ^ ((q ^^^ q').log2 + D.log2) := Nat.pow_le_pow_right (by decide) (by omega)
    omega
/-- d divides x -/
def Dv (d x : Nat) : Prop := ∃ k, x = md k d
theorem Dv.zero (d : Nat) : Dv d 0 := ⟨0, (md_zl d).symm⟩
theorem Dv.refl (d : Nat) : Dv d d := ⟨1, (md_onel d).symm⟩
theorem Dv.add {d x y : Nat} (h : Dv d x) (h' : Dv d y) : Dv d (x ^^^ y) := by
  obtain ⟨k, rfl⟩ := h
  obtain ⟨l, rfl⟩ := h'
  exact ⟨k ^^^ l, (md_addl ..).symm⟩
theorem Dv.mul {d x : Nat} (h : Dv d x) (k : Nat) : Dv d (md k x) := by
  obtain ⟨l, rfl⟩ := h
  exact ⟨md k l, (md_assoc ..).symm⟩
theorem Dv.trans {d x y : Nat} (h : Dv d x) (h' : Dv x y) : Dv d y := by
  obtain ⟨k, rfl⟩ := h'
  exact h.mul k
theorem Dv.right {d x : Nat} : Dv d (md x d) := ⟨x, rfl⟩
def Gc (x y g : Nat) : Prop := ∀ d, (Dv d x ∧ Dv d y) ↔ Dv d g
theorem gc_step {x y q r g : Nat} (h : x = md q y ^^^ r) : Gc y r g ↔ Gc x y g := by
  have key : ∀ d, (Dv d y ∧ Dv d r) ↔ (Dv d x ∧ Dv d y) := by
    intro d
    constructor
    · rintro ⟨a, b⟩
      refine ⟨?_, a⟩
      rw [h]
      exact (a.mul q).add b
    · rintro ⟨a, b⟩
      refine ⟨b, ?_⟩
      have e : r = md q y ^^^ x := by rw [h, ← Nat.xor_assoc, Nat.xor_self, Nat.zero_xor]
      rw [e]
      exact (b.mul q).add a
  unfold Gc
  constructor
  · intro z d
    rw [← key]
    exact z d
  · intro z d
    rw [key]
    exact z d
theorem gc_end (x : Nat) : Gc x 0 x := fun d => ⟨fun h => h.1, fun h => ⟨h, Dv.zero d⟩⟩
theorem gc_swap {x y g : Nat} (h : Gc x y g) : Gc y x g := fun d => by rw [← h d, And.comm]
theorem dv_both {a b : Nat} (h : Dv a b) (h' : Dv b a) : a = b := by
  obtain ⟨k, e⟩ := h
  obtain ⟨l, e'⟩ := h'
  by_cases hb : b = 0
  · subst hb
    rw [e', md_zero]
  · have : md (md k l) b = md 1 b := by rw [md_assoc, ← e', ← e, md_onel]
    have z := md_is_one (md_cancel hb this)
    rw [z, md_onel] at e'
    exact e'
theorem Gc.uniq {x y g g' : Nat} (h : Gc x y g) (h' : Gc x y g') : g = g' :=
  dv_both ((h' g).mp ((h g).mpr (Dv.refl g))) ((h g').mp ((h' g').mpr (Dv.refl g')))
theorem Gc.left {x y g : Nat} (h : Gc x y g) : Dv g x := ((h g).mpr (Dv.refl g)).1
theorem Gc.rightd {x y g : Nat} (h : Gc x y g) : Dv g y := ((h g).mpr (Dv.refl g)).2
/-- what is left of both, divided by their divisor, has none but 1 -/
theorem gc_rest {x y g k l g' : Nat} (h : Gc x y g) (hg : g ≠ 0) (hx : x = md k g) (hy : y = md l g) (h' : Gc k l g') : g' = 1 := by
  obtain ⟨a, ea⟩ := h'.left
  obtain ⟨b, eb⟩ := h'.rightd
  have dx : Dv (md g' g) x := ⟨a, by rw [hx, ea, md_assoc]⟩
  have dy : Dv (md g' g) y := ⟨b, by rw [hy, eb, md_assoc]⟩
  obtain ⟨c, ec⟩ := (h _).mp ⟨dx, dy⟩
  have : md (md c g') g = md 1 g := by rw [md_assoc, ← ec, md_onel]
  exact md_is_one (md_cancel hg this)
end KQ

namespace KQ
open PySem PySem.Spec PyProof.Rows
open PySem.Builtin PySem.Builtin.Str PySem.Builtin.Int PySem.Builtin.Float
/-- the digits of n to the base 2, as a text -/
def binT (n : Nat) : Str := ⟨((Nat.toDigits 2 n).map Char.toNat).toArray⟩
theorem spec_b (name : String) : parseFormatSpec ("b" : Str).cps.toList name 62 = .ok { align := 62, type := some 98 } := by
  rw [show ("b" : Str).cps.toList = [98] from by decide +kernel]
  rfl
theorem gives_bin (n : Nat) (t u : Tok) : Gives («int.__format__» ⟨[.int (n : Int) t, .str "b" u], []⟩) (.str (binT n)) := by
  intro prog w A R s hq
  unfold Builtin.«int.__format__»
  have h1 : (("b" : Str).length == 0) = false := by decide +kernel
  have h2 : ((("b" : Str).cps.toList.drop 1).any (· ≥ 128) || (("b" : Str).cps.getD 0 0 ≥ 128 && !([60, 62, 61, 94] : List Nat).contains (("b" : Str).cps.getD 1 0))) = false := by decide +kernel
  simp only [selfAndOne, noKeywords, Int.intOfSelf, asInt?, asStr?, List.isEmpty_nil, if_true, pure_bind, bind_pure, bind_assoc, h1, h2, Bool.false_eq_true, if_false,
    show (Value.str ("b" : Str) u == Value.none) = false from rfl]
  refine wpAny_bind (wpAny_typeNameOf (T := "str") (typeIs_str _ _ _) (by decide) fun _ => ?_)
  refine wpAny_bind (PyProof.Rows.wpAny_typeNameOfCut_int ?_)
  simp only [spec_b]
  simp only [Option.getD_some]
  rw [if_pos]
  case hc => decide +kernel
  show wpAny _ _ (retStr _) _ _ _
  have made : ∀ X : Str, X = binT n → wpAny (model prog w) A.in1 (retStr X) (fun fin s' => match fin with
      | Fin.done f => R (Except.ok f) s'
      | Fin.again c' => c'.quiet = true ∧ codeAny (model prog w) A c' R s') (fun e s' => R (Except.error e) s') s := by
    rintro _ rfl
    unfold retStr
    refine wpAny_bind (wpAny_mkStr (wpAny_pure ?_) ?_)
    · exact hq.2
    · exact hq.1
  refine made _ ?_
  rw [show decide ((n : Int) < 0) = false from decide_eq_false (by omega)]
  generalize hd : List.map (fun c => (if (98 == 88) = true then Char.toUpper c else c).toNat) (Nat.toDigits 2 (n : Int).natAbs) = ds
  conv => lhs; whnf
  have h0 : ds.isEmpty = false := by
    have := tDigits_len_ge 2 n
    rw [← hd, Int.natAbs_natCast]
    cases h : Nat.toDigits 2 n with
    | nil => rw [h] at this; simp at this
    | cons _ _ => rfl
  have hp : ((-1 : Int) - ds.length).toNat = 0 := by omega
  have hb : binT n = ⟨ds.toArray⟩ := by
    unfold binT
    rw [← hd]
    rfl
  rw [hb]
  simp [h0, hp]
/-- the bits of a whole number as a text, the highest one first -/
def tFmtB (te : L2.TE) : L2.TE := fun σ H Q => te σ H fun x H1 => ∃ n : Nat, x = .int (n : Int) ∧ (binT n).length ≤ sizeLine ∧ Q (.str (binT n)) H1
theorem pe_fmtB {X : L2.Cx} {e : Expr} {te : L2.TE} {j : Nat} {p1 p2 pos : Pos} (he : L2.PE X e te) : L2.PE X (.FormattedValue e (-1) (some (.JoinedStr [.Constant (.str "b") j p1] p2)) pos) (tFmtB te) := by
  refine ⟨fun pins s σ H Q I h => ?_⟩
  refine wpAny_FormattedValue_spec (L2.thn (he.run pins s σ H _ I h) fun v s1 hv => ?_)
  obtain ⟨x, H1, I1, r1, n, rfl, hz, q⟩ := hv
  obtain ⟨t, rfl⟩ := r1
  have hs := (L2.pe_joined1 (X := X) (pos := p2) (L2.pe_str (X := X) (x := "b") (j := j) (pos := p1))).run pins s1 σ H1 (fun y H2 => y = .str "b" ∧ H2 = H1) I1 ⟨rfl, rfl⟩
  refine L2.thn hs fun r s2 hr => ?_
  obtain ⟨y, H2, I2, r2, rfl, rfl⟩ := hr
  obtain ⟨u, rfl⟩ := r2
  refine ⟨_, _, rfl, wpAny_formatField_spec (by decide +kernel) (fun s' => typeIs_int s' _ t) slot_int_format entry_int_format args_int_format (fun u => gives_bin n t u) ?_ (by decide +kernel) hz⟩
  exact ⟨.str _, H2, I2.tok _, ⟨_, rfl⟩, q⟩
/-- text[::-1] -/
def tRevT (te : L2.TE) : L2.TE := fun σ H Q => te σ H fun x H1 => ∃ L : List Nat, x = .str ⟨L.toArray⟩ ∧ L.length ≤ sizeLine ∧ Q (.str ⟨L.reverse.toArray⟩) H1
theorem rev_cps (L : List Nat) (u : Tok) : Txt.sliceBy ⟨L.toArray⟩ none none (-1, u) = ⟨L.reverse.toArray⟩ := by
  have h := step_rev_list ⟨L.toArray⟩ u
  generalize Txt.sliceBy ⟨L.toArray⟩ none none (-1, u) = z at h
  obtain ⟨⟨l⟩⟩ := z
  have h' : l = (List.range L.length).map fun k => L.toArray.getD (L.length - 1 - k) 0 := h
  subst h'
  congr 2
  apply List.ext_getElem
  · simp
  · intro i h1 h2
    simp at h1 h2
    have h3 : L.length - 1 - i < L.length := by omega
    simp [Array.getD, List.getElem_reverse, h3]
theorem pe_revT {X : L2.Cx} {e : Expr} {te : L2.TE} {k : Nat} {p1 p2 p3 pos : Pos} (he : L2.PE X e te) (ht : ∀ (x : Str) (t : Tok) r, letTemporaryGo e (.str x t) r = pure () := by intro _ _ _; with_unfolding_all rfl) :
    L2.PE X (.Subscript e (.Slice none none (some (.UnaryOp .USub (.Constant (.int 1) k p1) p2)) p3) pos) (tRevT te) := by
  refine ⟨fun pins s σ H Q I h => ?_⟩
  refine Subscript_ (L2.thn (he.run pins s σ H _ I h) fun v s1 ⟨x, H1, I1, r1, q1⟩ => ?_)
  obtain ⟨L, rfl, hz, q⟩ := q1
  obtain ⟨t, rfl⟩ := r1
  have back : L2.PO X (some (.UnaryOp .USub (.Constant (.int 1) k p1) p2)) _ := L2.po_some (L2.pe_un L2.un_neg L2.pe_int)
  refine wpAny_Slice (L2.thn (L2.po_none.run pins s1 σ H1 (fun o K => o = none ∧ K = H1) I1 ⟨rfl, rfl⟩) fun vl s2 ⟨l, H2, I2, pl, el, e2⟩ => ?_)
  subst el e2
  refine L2.thn (L2.po_none.run pins s2 σ H2 (fun o K => o = none ∧ K = H2) I2 ⟨rfl, rfl⟩) fun vu s3 ⟨u, H3, I3, pu, eu, e3⟩ => ?_
  subst eu e3
  refine L2.thn (back.run pins s3 σ H3 (fun o K => o = some (-1) ∧ K = H3) I3 ⟨1, rfl, -1, rfl, rfl, rfl⟩) fun vs s4 ⟨o, H4, I4, ps, eo, e4⟩ => ?_
  subst eo e4
  cases pl
  cases pu
  cases ps with
  | int _ tk =>
  have I5 : L2.Inv X pins σ H4 { s4 with heap := s4.heap.push { cls := .type "slice", data := .fields #[.none, .none, .int (-1) tk] } } := I4.kept (t' := s4.toks) fun b ob q => Heap.get?_push_of_some _ q
  show wpAny (model X.prog X.w) X.A (subscriptTail e (.Slice none none (some (.UnaryOp .USub (.Constant (.int 1) k p1) p2)) p3) (.str ⟨L.toArray⟩ t) (.ref s4.heap.objs.size)) _ _ _
  refine tail_of_ItemOn ⟨"str", _, F.slot_str_getitem.lookup, typeIs_str _ _ _, wpAny_getItem_str_slice (l := none) (u := none) (st := some (-1, tk)) ⟨_, Heap.get?_push_size _ rfl, rfl, rfl⟩ rfl ?_⟩ (by with_unfolding_all rfl) (ht _ _)
  rw [← rev_cps L tk] at q
  refine post_val_or_str ⟨?_, fun t' c => ⟨.str _, H4, I5.tok c, ⟨t', rfl⟩, q⟩⟩
  show (Txt.sliceBy ⟨L.toArray⟩ none none (-1, tk)).length ≤ sizeLine
  rw [rev_cps]
  show (L.reverse.toArray).size ≤ sizeLine
  rw [List.size_toArray, List.length_reverse]
  exact hz
/-- text * n -/
theorem op_mul_txt {X : L2.Cx} : L2.OpR X (binaryOp .Mult) (fun x y H Q => ∃ c n : Nat, x = .str ⟨#[c]⟩ ∧ y = .int (n : Int) ∧ n ≤ 10000 ∧ Q (.str ⟨(List.replicate n c).toArray⟩) H) := by
  intro pins s σ H x y v u Q I rx ry want
  obtain ⟨c, n, rfl, rfl, hn, q⟩ := want
  obtain ⟨t, rfl⟩ := rx
  obtain ⟨t', rfl⟩ := ry
  have key : Txt.mul (⟨#[c]⟩ : Str) (n : Int) = ⟨(List.replicate n c).toArray⟩ := by
    unfold Txt.mul
    by_cases h0 : (n : Int) < 1
    · rw [if_pos h0, show n = 0 by omega]
      rfl
    · rw [if_neg h0]
      by_cases h1 : n = 1
      · subst h1
        rfl
      · rw [if_neg (by
          rw [show (⟨#[c]⟩ : Str).length = 1 from rfl]
          simp
          omega), Int.toNat_natCast]
        have fold : ∀ (k : Nat) (a : Array Nat), (List.replicate k (#[c] : Array Nat)).foldl (· ++ ·) a = a ++ (List.replicate k c).toArray := by
          intro k
          induction k with
          | zero => intro a; simp
          | succ k ih =>
            intro a
            rw [List.replicate_succ, List.foldl_cons, ih, List.replicate_succ]
            apply Array.ext'
            simp
        show (⟨(List.replicate n (#[c] : Array Nat)).foldl (· ++ ·) #[]⟩ : Str) = _
        rw [fold]
        simp
  refine SB.mul ⟨?_, fun h1 _ => ?_, fun h1 _ => ?_⟩ fun t'' k => ?_
  · rw [decide_eq_false (by omega : ¬ (n : Int) < -(2 ^ 63)), decide_eq_false (by omega : ¬ (n : Int) ≥ 2 ^ 63)]
    rfl
  · rw [show (⟨#[c]⟩ : Str).length = 1 from rfl]
    intro z
    have h2 : (1 : Int) ≤ (2 ^ 63 - 1) / (n : Int) := (Int.le_ediv_iff_mul_le (by omega)).mpr (by omega)
    have z' : (2 ^ 63 - 1) / (n : Int) < 1 := z
    omega
  · rw [show (⟨#[c]⟩ : Str).length = 1 from rfl, Nat.one_mul, Int.toNat_natCast]
    show decide (n > 2 ^ 24) = false
    exact decide_eq_false (by omega)
  · rw [key]
    exact ⟨.str _, H, I.tok _, ⟨_, rfl⟩, q⟩
end KQ

namespace KQ
open PySem PySem.Spec PyProof.Rows L2
/-! ### their texts -/
def lsb (n : Nat) : List Nat := if h : n < 2 then [48 + n] else (48 + n % 2) :: lsb (n / 2)
termination_by n
decreasing_by omega
def d1 (c : Nat) : Nat := if c = 49 then 1 else 0
theorem d1_lt (c : Nat) : d1 c < 2 := by unfold d1; split <;> omega
def Dig (L : List Nat) : Prop := ∀ c ∈ L, c = 48 ∨ c = 49
theorem Dig.at {L : List Nat} (h : Dig L) {k c : Nat} (e : L[k]? = some c) : c = 48 ∨ c = 49 := h c (List.mem_of_getElem? e)
theorem Dig.tail {c : Nat} {L : List Nat} (h : Dig (c :: L)) : Dig L := fun x hx => h x (List.mem_cons_of_mem _ hx)
theorem lsb_small {n : Nat} (h : n < 2) : lsb n = [48 + n] := by rw [lsb, dif_pos h]
theorem lsb_big {n : Nat} (h : ¬ n < 2) : lsb n = (48 + n % 2) :: lsb (n / 2) := by rw [lsb, dif_neg h]
theorem lsb_dig (n : Nat) : Dig (lsb n) := by
  induction n using Nat.strongRecOn with
  | _ n ih =>
    intro c hc
    by_cases h : n < 2
    · rw [lsb_small h, List.mem_singleton] at hc
      omega
    · rw [lsb_big h] at hc
      rcases List.mem_cons.mp hc with rfl | hc
      · omega
      · exact ih (n / 2) (by omega) c hc
theorem lsb_val (n : Nat) : bv d1 (lsb n) = n := by
  induction n using Nat.strongRecOn with
  | _ n ih =>
    by_cases h : n < 2
    · rw [lsb_small h]
      show d1 (48 + n) + 2 * 0 = n
      unfold d1
      split <;> omega
    · rw [lsb_big h]
      show d1 (48 + n % 2) + 2 * bv d1 (lsb (n / 2)) = n
      rw [ih (n / 2) (by omega)]
      unfold d1
      split <;> omega
theorem lsb_ne (n : Nat) : lsb n ≠ [] := by
  by_cases h : n < 2
  · rw [lsb_small h]
    simp
  · rw [lsb_big h]
    simp
theorem log_half {n : Nat} (h : ¬ n < 2) : n.log2 = (n / 2).log2 + 1 := by
  obtain ⟨a1, a2⟩ := log_of (n := n / 2) (by omega)
  have p1 : 2 ^ ((n / 2).log2 + 1) = 2 ^ (n / 2).log2 * 2 := Nat.pow_succ ..
  have p2 : 2 ^ ((n / 2).log2 + 1 + 1) = 2 ^ ((n / 2).log2 + 1) * 2 := Nat.pow_succ ..
  exact log_uniq (by omega) (by omega)
theorem lsb_len (n : Nat) : (lsb n).length = n.log2 + 1 := by
  induction n using Nat.strongRecOn with
  | _ n ih =>
    by_cases h : n < 2
    · rw [lsb_small h]
      have : n = 0 ∨ n = 1 := by omega
      rcases this with rfl | rfl <;> decide
    · rw [lsb_big h, List.length_cons, ih (n / 2) (by omega), log_half h]
theorem lsb_last {n : Nat} (h0 : n ≠ 0) : (lsb n).getLast? = some 49 := by
  induction n using Nat.strongRecOn with
  | _ n ih =>
    by_cases h : n < 2
    · rw [lsb_small h]
      have : n = 1 := by omega
      subst this
      rfl
    · have e := ih (n / 2) (by omega) (by omega)
      rw [lsb_big h, List.getLast?_cons, e]
      rfl
theorem lsb_zero : lsb 0 = [48] := by rw [lsb_small (by decide)]
theorem lsb_of : ∀ {L : List Nat}, Dig L → L.getLast? = some 49 → L = lsb (bv d1 L)
  | [], _, h => by cases h
  | [c], _, h => by
    have : c = 49 := by simpa using h
    subst this
    show [49] = lsb (d1 49 + 2 * 0)
    rw [show d1 49 + 2 * 0 = 1 from rfl, lsb_small (by decide)]
  | c :: d :: L, hd, h => by
    have ih := lsb_of (L := d :: L) hd.tail (by rw [List.getLast?_cons] at h; rw [← h]; cases e : (d :: L).getLast? with | none => simp at e | some x => rfl)
    have nz : bv d1 (d :: L) ≠ 0 := fun z => by
      rw [z, lsb_zero] at ih
      rw [ih] at h
      simp at h
    have hc := hd c List.mem_cons_self
    have big : ¬ bv d1 (c :: d :: L) < 2 := by
      show ¬ d1 c + 2 * bv d1 (d :: L) < 2
      omega
    rw [lsb_big big]
    have e1 : bv d1 (c :: d :: L) = d1 c + 2 * bv d1 (d :: L) := rfl
    have lt := d1_lt c
    rw [e1, show (d1 c + 2 * bv d1 (d :: L)) % 2 = d1 c by omega, show (d1 c + 2 * bv d1 (d :: L)) / 2 = bv d1 (d :: L) by omega, ← ih]
    congr 1
    rcases hc with rfl | rfl <;> rfl
theorem dig_char {b : Nat} (h : b < 2) : (Nat.digitChar b).toNat = 48 + b := by
  have : b = 0 ∨ b = 1 := by omega
  rcases this with rfl | rfl <;> decide
theorem core_two : ∀ (fuel n : Nat) (ds : List Char), n < fuel → (Nat.toDigitsCore 2 fuel n ds).map Char.toNat = (lsb n).reverse ++ ds.map Char.toNat
  | 0, n, ds, h => by omega
  | fuel + 1, n, ds, h => by
    unfold Nat.toDigitsCore
    by_cases h2 : n / 2 = 0
    · simp only [h2, if_true]
      rw [lsb_small (by omega), List.map_cons, dig_char (by omega), show n % 2 = n by omega]
      rfl
    · simp only [h2, if_false]
      have e : lsb n = (48 + n % 2) :: lsb (n / 2) := lsb_big (by omega)
      rw [core_two fuel (n / 2) _ (by omega), e, List.map_cons, dig_char (by omega)]
      simp
theorem bin_eq (n : Nat) : binT n = mS (lsb n).reverse := by
  unfold binT Nat.toDigits
  rw [core_two (n + 1) n [] (by omega)]
  simp
/-! ### texts cut at their end -/
/-- what is left when the end is cut -/
def cutEnd (c : Nat) (L : List Nat) : List Nat := (L.reverse.dropWhile (· == c)).reverse
theorem cutEnd_take (c : Nat) (L : List Nat) : cutEnd c L = L.take (L.length - (L.reverse.takeWhile (· == c)).length) := by
  unfold cutEnd
  rw [← drop_take, List.drop_reverse, List.reverse_reverse]
theorem one_contains (c : Nat) : (#[c] : Array Nat).contains = fun x => x == c := by
  funext x
  simp
  constructor <;> exact fun h => h.symm
theorem rstrip_eq (L : List Nat) (c : Nat) : Txt.rstripChars (mS L) ⟨#[c]⟩ = mS (cutEnd c L) := by
  have e1 : (⟨#[c]⟩ : Str).cps.contains = fun x => x == c := one_contains c
  unfold Txt.rstripChars Txt.stripBy stripSame stripped stripLo stripHi
  rw [e1]
  simp only [Bool.false_eq_true, if_false, if_true, List.drop_zero, beq_self_eq_true, Bool.true_and]
  rw [mS_len, cutEnd_take]
  split
  · rename_i h
    rw [eq_of_beq h, List.take_of_length_le (Nat.le_refl _)]
  · refine mS_of ?_
    rw [PySem.StrLaws.strSub_toList]
    simp
/-- the last letters 48 of bits mean nothing -/
theorem bv_cut : ∀ (n : Nat) (L : List Nat), L.length ≤ n → Dig L → bv d1 (cutEnd 48 L) = bv d1 L ∧ (cutEnd 48 L = [] ∨ (cutEnd 48 L).getLast? = some 49) ∧ Dig (cutEnd 48 L)
  | 0, L, h, hd => by
    have : L = [] := List.length_eq_zero_iff.mp (by omega)
    subst this
    exact ⟨rfl, .inl rfl, hd⟩
  | n + 1, L, h, hd => by
    rcases List.eq_nil_or_concat L with rfl | ⟨M, c, rfl⟩
    · exact ⟨rfl, .inl rfl, hd⟩
    · have hM : Dig M := fun x hx => hd x (by simp [hx])
      have hc := hd c (by simp)
      rcases hc with rfl | rfl
      · have e : cutEnd 48 (M ++ [48]) = cutEnd 48 M := by
          unfold cutEnd
          rw [List.reverse_append]
          rfl
        obtain ⟨a, b, d⟩ := bv_cut n M (by simp at h; omega) hM
        rw [List.concat_eq_append, e, bv_app, a]
        exact ⟨by show _ = _ + 2 ^ M.length * 0; omega, b, d⟩
      · have e : cutEnd 48 (M ++ [49]) = M ++ [49] := by
          unfold cutEnd
          rw [List.reverse_append]
          show (List.dropWhile _ (49 :: M.reverse)).reverse = _
          rw [List.dropWhile_cons_of_neg (by decide)]
          simp
        rw [List.concat_eq_append] at hd ⊢
        rw [e]
        exact ⟨rfl, .inr (by simp), hd⟩
/-- bits, cut, are the text of their sum -/
theorem trim_eq {L : List Nat} (hd : Dig L) : (if cutEnd 48 L = [] then [48] else cutEnd 48 L) = lsb (bv d1 L) := by
  obtain ⟨a, b, d⟩ := bv_cut _ L (Nat.le_refl _) hd
  split
  · rename_i h
    rw [h] at a
    rw [← a, show bv d1 [] = 0 from rfl, lsb_zero]
  · rename_i h
    rw [← a]
    exact lsb_of d (b.resolve_left h)
end KQ

namespace KQ
open PySem PySem.Spec PyProof.Rows L2
/-! ### for i, c in enumerate(text) -/
/-- each sign of x in a new pair with its place -/
def ItEx (x : Str) : It := ⟨fun i _ => i < x.cps.size, fun i H v H' => ∃ T c, v = .ref T ∧ H T = none ∧ x.cps[i]? = some c ∧ H' = upd H T (.tup [.int (i : Nat), .str ⟨#[c]⟩]), fun i _ => i = x.cps.size⟩
theorem draws_txt {prog : Program} {w : World} {A : Around} (calm : A.handled = none) (it : Addr) (x : Str) (t : Tok) :
    Draws prog w A.in1 it [it] x.cps.size (fun i v => ∃ c u, x.cps[i]? = some c ∧ v = .str ⟨#[c]⟩ u) (fun i h => h.IsStrIter it (strIterType x) x t i) := by
  unfold strIterType
  split
  · exact Draws.strAscii (A := A.in1) calm it x t
  · exact Draws.strWide (A := A.in1) calm it x t
theorem turn_enumTxt {P : Program} {w : World} {K : PySem.W.Frag} {elts : List Expr} {kk : Nat} {tpos : Pos} (e it : Addr) (x : Str) (t : Tok) :
    Turn P w K (.Tuple elts kk tpos) (ItEx x) [e, it] e (fun i h => (∃ old, IsEnum h e it ((i : Nat) : Int) old) ∧ h.IsStrIter it (strIterType x) x t i ∧ e ≠ it) where
  mem := List.mem_cons_self
  obj := fun i h st b hb => by
    obtain ⟨⟨old, he⟩, ⟨o, ho, _, hd⟩, _⟩ := st
    rcases List.mem_cons.mp hb with rfl | hb
    · exact ⟨_, he, fun v q => nomatch q⟩
    · rw [List.mem_singleton.mp hb]
      exact ⟨o, ho, fun v q => by rw [hd] at q; cases q⟩
  keep := fun i h h' st k => by
    obtain ⟨⟨old, he⟩, ⟨o, ho, r⟩, hne⟩ := st
    exact ⟨⟨old, k e List.mem_cons_self _ he⟩, ⟨o, k it (by simp) o ho, r⟩, hne⟩
  item := by
    intro X hP hw hK calm i pins s σ H E I fp st hi
    subst hP hw hK
    obtain ⟨⟨old, he⟩, hit, hne⟩ := st
    have le : e < s.heap.objs.size := Heap.lt_size he
    have li : it < s.heap.objs.size := by
      obtain ⟨_, q, _⟩ := hit
      exact Heap.lt_size q
    refine wpAny_pyNext_enum_itemD (draws_txt (I.ok.hd calm) it x t) he hit hi hne (by simpa using hne) fun u h1 tk hu hout hit1 hT hsz hk => ?_
    obtain ⟨c, tc, hc, rfl⟩ := hu
    refine ⟨_, rfl, wpAny_letOwnedTupleGo_enum (s := { s with heap := h1, toks := tk + 1 }) hout fun h2 he2 sb => ?_⟩
    have hT2 := (sb.2 _ (Nat.ne_of_gt le)).trans hT
    have fresh : H s.heap.objs.size = none := I.hok.fresh (Nat.le_refl _)
    have I1 : Inv X pins σ (upd H s.heap.objs.size (.tup [.int (i : Nat), .str ⟨#[c]⟩])) { s with heap := h2, toks := tk + 1 } :=
      I.turnedNew (ch := [e, it]) (fun b ob hb q => by
        have b1 : b ≠ e := fun z => hb (by simp [z])
        have b2 : b ≠ it := fun z => hb (by simp [z])
        exact (sb.2 b b1).trans (hk b ob b1 b2 q)) fp (Nat.le_refl _) ⟨by show 2 ≤ sizeLine; decide, [.int i tk, .str ⟨#[c]⟩ tc], .cons ⟨_, rfl⟩ (.cons ⟨_, rfl⟩ .nil), ⟨_, hT2, rfl, _, rfl⟩⟩
    have ei : ((i + 1 : Nat) : Int) = (i : Int) + 1 := by omega
    refine ⟨.ref s.heap.objs.size, _, I1, rfl, ⟨_, c, rfl, fresh, hc, rfl⟩, ⟨⟨_, by rw [ei]; exact he2⟩, ?_, hne⟩, fun b hb => ?_⟩
    · obtain ⟨o, ho, r⟩ := hit1
      exact ⟨o, (sb.2 it (Ne.symm hne)).trans ho, r⟩
    · have lb : b < s.heap.objs.size := by
        rcases List.mem_cons.mp hb with rfl | hb
        · exact le
        · rw [List.mem_singleton.mp hb]
          exact li
      rw [upd_ne (Nat.ne_of_lt lb)]
      exact (fp b hb).1
  done := by
    intro X hP hw hK calm i pins s σ H E I fp st hi
    subst hP hw hK
    obtain ⟨⟨old, he⟩, hit, hne⟩ := st
    obtain ⟨f0, f1, f2, f3, f4, f5⟩ := fp it (by simp)
    have ei : i = x.cps.size := hi
    subst ei
    exact wpAny_pyNext_enum_endD (draws_txt (I.ok.hd calm) it x t) he hit fun h' eb => ⟨rfl, I.turned (t' := s.toks) (fun b o hb q => eb b o hb q) f0 f1 f3 f4 f5⟩
  self := fun A i s Q E st h => by
    obtain ⟨⟨_, he⟩, _⟩ := st
    exact wpAny_pyIter_enum he h
def iEnumX (ta : TA) : TI := fun σ H R => ta σ H fun vs H1 => ∃ x : Str, vs = [.str x] ∧ R (ItEx x) H1
theorem pi_enumTxt {X : Cx} {e : Expr} {ta : TA} {p pos tpos : Pos} {elts : List Expr} {kk : Nat} (hg : Gl X "enumerate") (hm : X.mg "enumerate" = none) (ha : PA X [e] ta) (hs : starEach [e] X.env = [(false, eval e X.env)] := by rfl) :
    PI X (.Tuple elts kk tpos) (.Call (.Name "enumerate" p) [e] [] pos) (iEnumX ta) := by
  refine ⟨fun pins s σ H R I want => ?_⟩
  refine Call_ (ld_blt I hg hm boot_enumerate (PyProof.Rows.callWith_type1 (thn (ha.run pos pins s σ H _ I want) fun us s1 ⟨vs, H1, I1, r1, q1⟩ => ?_) hs rfl))
  obtain ⟨x, rfl, q⟩ := q1
  obtain ⟨u, rfl, rx⟩ := vals1 r1
  obtain ⟨t, rfl⟩ := rx
  refine call_enumerate_str fun h1 he hit hsz hk => wpAny_pyIter_enum he ?_
  have I2 : Inv X pins σ H1 { s1 with heap := h1 } := I1.kept (t' := s1.toks) hk
  refine ⟨s1.heap.objs.size + 1, [s1.heap.objs.size + 1, s1.heap.objs.size], _, _, H1, rfl, I2, turn_enumTxt (s1.heap.objs.size + 1) s1.heap.objs.size x t, ⟨⟨_, he⟩, hit, Nat.succ_ne_self _⟩, fun b hb => ?_, q⟩
  have hle : s1.heap.objs.size ≤ b := by
    rcases List.mem_cons.mp hb with rfl | hb
    · exact Nat.le_add_right _ _
    · rw [List.mem_singleton.mp hb]
      exact Nat.le_refl _
  exact I1.fpOk hle (I1.hok.fresh hle)
end KQ

namespace KQ
open PySem PySem.Spec PyProof.Rows L2
/-! ### the program's defs -/
theorem band (a b : Nat) : Builtin.bitAnd (a : Int) (b : Int) = ((a &&& b : Nat) : Int) := by
  unfold Builtin.bitAnd
  rw [decide_eq_true (Int.natCast_nonneg a), decide_eq_true (Int.natCast_nonneg b)]
  rfl
theorem bor (a b : Nat) : Builtin.bitOr (a : Int) (b : Int) = ((a ||| b : Nat) : Int) := by
  have n1 : ∀ n : Nat, Builtin.bitNot (n : Int) = -(n : Int) - 1 := fun n => by
    unfold Builtin.bitNot
    omega
  have n2 : ∀ n : Nat, Builtin.bitNot (-(n : Int) - 1) = (n : Int) := fun n => by
    unfold Builtin.bitNot
    omega
  unfold Builtin.bitOr
  rw [n1, n1]
  unfold Builtin.bitAnd
  rw [decide_eq_false (by omega : ¬ (0 ≤ -(a : Int) - 1)), decide_eq_false (by omega : ¬ (0 ≤ -(b : Int) - 1))]
  show Builtin.bitNot (Builtin.bitNot (((Builtin.bitNot (-(a : Int) - 1)).toNat ||| (Builtin.bitNot (-(b : Int) - 1)).toNat : Nat) : Int)) = _
  rw [n2, n2, n1, n2]
  rfl
theorem or_sub_and : ∀ (n m : Nat), (n ||| m) = (n ^^^ m) + (n &&& m) := by
  intro n
  induction n using Nat.strongRecOn with
  | ind n ih =>
    intro m
    by_cases h : n = 0
    · subst h
      rw [Nat.zero_or, Nat.zero_xor, Nat.zero_and]
      rfl
    · have e : n = 2 * (n / 2) + n % 2 := by omega
      have e2 : m = 2 * (m / 2) + m % 2 := by omega
      have k := ih (n / 2) (by omega) (m / 2)
      have l1 : n % 2 < 2 := Nat.mod_lt _ (by decide)
      have l2 : m % 2 < 2 := Nat.mod_lt _ (by decide)
      rw [e, e2, or_two _ _ _ _ l1 l2, xor_two _ _ _ _ l1 l2, and_two _ _ _ _ l1 l2, k]
      have hb : ∀ i j : Nat, i < 2 → j < 2 → (i ||| j) = (i ^^^ j) + (i &&& j) := by
        intro i j hi hj
        match i, j, hi, hj with
        | 0, 0, _, _ => rfl
        | 0, 1, _, _ => rfl
        | 1, 0, _, _ => rfl
        | 1, 1, _, _ => rfl
      rw [hb _ _ l1 l2]
      omega
theorem bxor (a b : Nat) : Builtin.bitXor (a : Int) (b : Int) = ((a ^^^ b : Nat) : Int) := by
  unfold Builtin.bitXor
  rw [bor, band, or_sub_and]
  omega
abbrev sInitT : Stmt := inClass (topS 2) 0
abbrev sInitB : Stmt := inClass (topS 3) 0
abbrev sRead : Stmt := topS 5
abbrev sBoth : Stmt := topS 6
abbrev sPTx : Stmt := topS 7
abbrev sDeg : Stmt := topS 8
abbrev sPTi : Stmt := topS 9
abbrev sQR : Stmt := topS 10
abbrev sRest : Stmt := topS 11
abbrev sGcd : Stmt := topS 12
abbrev sSum : Stmt := topS 14
abbrev sProd : Stmt := topS 15
abbrev sDivd : Stmt := topS 16
abbrev sDvs : Stmt := topS 17
theorem scInitT : FnScope ["self", "line", "column"] ["self", "line", "column"] (defScope sInitT) := ⟨rfl, rfl, rfl, by decide +kernel, rfl, by decide +kernel, by decide +kernel⟩
theorem scInitB : FnScope ["self", "what", "number"] ["self", "what", "number"] (defScope sInitB) := ⟨rfl, rfl, rfl, by decide +kernel, rfl, by decide +kernel, by decide +kernel⟩
theorem scRead : FnScope ["text", "number", "power", "sign"] ["text"] (defScope sRead) := ⟨rfl, rfl, rfl, by decide +kernel, rfl, by decide +kernel, by decide +kernel⟩
theorem scBoth : FnScope ["a", "b", "one"] ["a", "b"] (defScope sBoth) := ⟨rfl, rfl, rfl, by decide +kernel, rfl, by decide +kernel, by decide +kernel⟩
theorem scPTx : FnScope ["number", "text"] ["number"] (defScope sPTx) := ⟨rfl, rfl, rfl, by decide +kernel, rfl, by decide +kernel, by decide +kernel⟩
theorem scDeg : FnScope ["number"] ["number"] (defScope sDeg) := ⟨rfl, rfl, rfl, by decide +kernel, rfl, by decide +kernel, by decide +kernel⟩
theorem scPTi : FnScope ["one", "other", "total"] ["one", "other"] (defScope sPTi) := ⟨rfl, rfl, rfl, by decide +kernel, rfl, by decide +kernel, by decide +kernel⟩
theorem scQR : FnScope ["number", "divisor", "quotient", "shift"] ["number", "divisor"] (defScope sQR) := ⟨rfl, rfl, rfl, by decide +kernel, rfl, by decide +kernel, by decide +kernel⟩
theorem scRest : FnScope ["number", "divisor", "_", "rest"] ["number", "divisor"] (defScope sRest) := ⟨rfl, rfl, rfl, by decide +kernel, rfl, by decide +kernel, by decide +kernel⟩
theorem scGcd : FnScope ["one", "other"] ["one", "other"] (defScope sGcd) := ⟨rfl, rfl, rfl, by decide +kernel, rfl, by decide +kernel, by decide +kernel⟩
theorem scSum : FnScope ["a", "b", "one", "other"] ["a", "b"] (defScope sSum) := ⟨rfl, rfl, rfl, by decide +kernel, rfl, by decide +kernel, by decide +kernel⟩
theorem scProd : FnScope ["a", "b", "one", "other"] ["a", "b"] (defScope sProd) := ⟨rfl, rfl, rfl, by decide +kernel, rfl, by decide +kernel, by decide +kernel⟩
theorem scDivd : FnScope ["a", "b", "one", "other", "quotient", "rest"] ["a", "b"] (defScope sDivd) := ⟨rfl, rfl, rfl, by decide +kernel, rfl, by decide +kernel, by decide +kernel⟩
theorem scDvs : FnScope ["a", "b", "one", "other"] ["a", "b"] (defScope sDvs) := ⟨rfl, rfl, rfl, by decide +kernel, rfl, by decide +kernel, by decide +kernel⟩
/-- built-in names -/
structure Bl (mg : Str → Option Value) : Prop where
  isi : mg "isinstance" = none
  int : mg "int" = none
  str : mg "str" = none
  len : mg "len" = none
  range : mg "range" = none
  list : mg "list" = none
  tuple : mg "tuple" = none
  max : mg "max" = none
  enum : mg "enumerate" = none
  all : mg "all" = none
theorem bootS : bootBuiltins "str" = some (.type "str") := by decide +kernel
theorem bootI : bootBuiltins "int" = some (.type "int") := by decide +kernel
theorem bootT : bootBuiltins "tuple" = some (.type "tuple") := by decide +kernel
theorem sizeBig {n : Nat} (h : n ≤ 1000) : n ≤ sizeLine := Nat.le_trans h (by decide)
theorem same_new {H : Hp} {r : Addr} {o : HO} (n : H r = none) : Same H (upd H r o) := fun b u e => by
  rw [upd_ne (ne_of_none e n)]
  exact e
/-- no text -/
def Odd (H : Hp) (v : V) : Prop := v = .non ∨ (∃ i, v = .int i) ∨ ∃ p xs, v = .ref p ∧ H p = some (.lst xs)
theorem Odd.ty {H : Hp} {v : V} (h : Odd H v) : ∃ n : String, (∀ K, TyX K H v (.type n)) ∧ kitB n "str" = some false := by
  rcases h with h | ⟨i, h⟩ | ⟨p, xs, h, e⟩ <;> subst h
  · exact ⟨_, fun K => .base .non, by decide +kernel⟩
  · exact ⟨_, fun K => .base (.int i), by decide +kernel⟩
  · exact ⟨_, fun K => .base (.lst e), by decide +kernel⟩
theorem Odd.same {H H' : Hp} {v : V} (s : Same H H') (h : Odd H v) : Odd H' v := by
  rcases h with h | h | ⟨p, xs, h, e⟩
  · exact .inl h
  · exact .inr (.inl h)
  · exact .inr (.inr ⟨p, xs, h, s _ _ e⟩)
def xdT (l c : V) : List (Str × V) := [("column", c), ("line", l)]
def xdB (w v : V) : List (Str × V) := [("number", v), ("what", w)]
/-- an error with these fields leaves the call -/
def Rz (C : Addr) (fs : List (Str × V)) (H : Hp) (E : XK) : Prop := ∀ d H', Same H H' → H' d = some (.xd fs) → E (.ref C) (some d) H'
theorem Rz.same {C : Addr} {fs : List (Str × V)} {H H1 : Hp} {E : XK} (s : Same H H1) (h : Rz C fs H E) : Rz C fs H1 E := fun d H' s' e => h d H' (s.trans s') e
def spInitX (C : Addr) (xd : V → V → List (Str × V)) : Sp := fun vs H Q _ => ∃ (a : Addr) (y0 y1 : V), vs = [.ref a, y0, y1] ∧ H a = some (exo a C none) ∧
  ∀ H' d, H d = none → d ≠ a → H' a = some (exo a C (some d)) → H' d = some (exd d (xd y0 y1)) → (∀ b o, H b = some o → b ≠ a → H' b = some o) → Q .non H'
/-- what the top has written of both errors -/
structure BT (K : PySem.W.Frag) (mg : Str → Option Value) (C fB : Addr) (dB : FuncData) : Prop where
  ox : OexC K C
  ic : PySem.W.findIn K (.ref C) "__init__" = some (some (.ref fB))
  ti : PySem.W.typeIn K (.ref fB) = some (.type "function")
  n0 : PySem.W.findIn K (.ref C) "line" = some none
  n1 : PySem.W.findIn K (.ref C) "column" = some none
  g : mg "BadText" = some (.ref C)
  F : Fun K "__init__" "BadText.__init__" sInitT fB dB
  b : Binds K dB ["self", "line", "column"] []
structure BN (K : PySem.W.Frag) (mg : Str → Option Value) (C fB : Addr) (dB : FuncData) : Prop where
  ox : OexC K C
  ic : PySem.W.findIn K (.ref C) "__init__" = some (some (.ref fB))
  ti : PySem.W.typeIn K (.ref fB) = some (.type "function")
  n0 : PySem.W.findIn K (.ref C) "what" = some none
  n1 : PySem.W.findIn K (.ref C) "number" = some none
  g : mg "BadNumber" = some (.ref C)
  F : Fun K "__init__" "BadNumber.__init__" sInitB fB dB
  b : Binds K dB ["self", "what", "number"] []
theorem raise_rd {C : Addr} {xd : V → V → List (Str × V)} {y0 y1 : V} {H : Hp} {W : XK} (h : Rz C (xd y0 y1) H W) : ∀ a, H a = none → spInitX C xd (.ref a :: ([y0, y1] ++ [])) (upd H a (exo a C none))
    (fun v H2 => v = .non ∧ ∃ (d : Addr) (fs : List (Str × V)), H2 a = some (exo a C (some d)) ∧ H2 d = some (exd d fs) ∧ H d = none ∧ W (.ref C) (some d) (upd (del H2 a) d (.xd fs))) (fun _ _ _ => False) := by
  intro a na
  refine ⟨a, y0, y1, rfl, upd_same, fun H' d nd dne e1 e2 kp => ⟨rfl, d, _, e1, e2, ?_, ?_⟩⟩
  · rw [upd_ne dne] at nd
    exact nd
  · have nd' : H d = none := by
      rw [upd_ne dne] at nd
      exact nd
    refine h d _ (fun b o e => ?_) upd_same
    have hba : b ≠ a := ne_of_none e na
    rw [upd_ne (ne_of_none e nd'), del_ne hba]
    exact kp b o (by rw [upd_ne hba]; exact e) hba
/-- a text that is none, refused at this column -/
def Good (L : List Nat) : Prop := L = [48] ∨ L.getLast? = some 49
def BadAt (L : List Nat) (col : Nat) : Prop := (∃ k c, Dig (L.take k) ∧ L[k]? = some c ∧ ¬ (c = 48 ∨ c = 49) ∧ col = k + 1) ∨ (Dig L ∧ ¬ Good L ∧ col = L.length + 1)
/-- what a text makes of the parameter v -/
def Reads (C : Addr) (v : V) (H : Hp) (E : XK) (ok : Nat → Prop) : Prop := (∃ n, v = .str (mS (lsb n)) ∧ n < 2 ^ 200 ∧ ok n) ∨
  (∃ L col, v = .str (mS L) ∧ L.length ≤ 1000 ∧ BadAt L col ∧ Rz C (xdT (.int 1) (.int (col : Nat))) H E) ∨ (Odd H v ∧ Rz C (xdT (.int 0) (.int 0)) H E)
theorem Reads.mono {C : Addr} {v : V} {H : Hp} {E : XK} {ok ok' : Nat → Prop} (h : Reads C v H E ok) (k : ∀ n, n < 2 ^ 200 → ok n → ok' n) : Reads C v H E ok' := by
  rcases h with ⟨n, e, hn, o⟩ | h | h
  · exact .inl ⟨n, e, hn, k n hn o⟩
  · exact .inr (.inl h)
  · exact .inr (.inr h)
theorem Reads.same {C : Addr} {v : V} {H H' : Hp} {E : XK} {ok : Nat → Prop} (s : Same H H') (h : Reads C v H E ok) : Reads C v H' E ok := by
  rcases h with ⟨n, e, hn, o⟩ | ⟨L, col, e, hl, hb, r⟩ | ⟨o, r⟩
  · exact .inl ⟨n, e, hn, o⟩
  · exact .inr (.inl ⟨L, col, e, hl, hb, r.same s⟩)
  · exact .inr (.inr ⟨o.same s, r.same s⟩)
def spRead (C : Addr) : Sp := fun vs H Q E => ∃ v, vs = [v] ∧ Reads C v H E fun n => ∀ H', Same H H' → Q (.int (n : Nat)) H'
theorem e_0 : ("0" : Str) = ⟨#[48]⟩ := by decide +kernel
theorem e_1 : ("1" : Str) = ⟨#[49]⟩ := by decide +kernel
theorem ends_one (L : List Nat) : Txt.endswith (mS L) ("1" : Str) = decide (L.getLast? = some 49) := by
  rw [e_1]
  unfold Txt.endswith Builtin.Str.subAt
  rcases List.eq_nil_or_concat L with rfl | ⟨M, c, rfl⟩
  · rfl
  · rw [List.concat_eq_append]
    have h1 : (mS (M ++ [c])).length = M.length + 1 := by rw [mS_len]; simp
    rw [h1, show (⟨#[49]⟩ : Str).length = 1 from rfl, Nat.add_sub_cancel]
    have h2 : (mS (M ++ [c])).cps.extract M.length (M.length + 1) = #[c] := by
      show ((M ++ [c]).toArray).extract M.length (M.length + 1) = #[c]
      simp
    rw [h2]
    by_cases h : c = 49
    · subst h
      simp
    · simp [h]
theorem in01 (c : Nat) : inV (.str ⟨#[c]⟩) [V.str "0", V.str "1"] = decide (c = 48 ∨ c = 49) := by
  rw [e_0, e_1]
  have one : ∀ d : Nat, ((⟨#[d]⟩ : Str) == ⟨#[c]⟩) = decide (c = d) := fun d => by
    by_cases h : c = d
    · subst h
      simp
    · have : (⟨#[d]⟩ : Str) ≠ ⟨#[c]⟩ := fun z => h (by injection z with z; have := congrArg (fun a : Array Nat => a.toList) z; simpa using this.symm)
      rw [beq_eq_false_iff_ne.mpr this, decide_eq_false h]
  show ((⟨#[48]⟩ : Str) == ⟨#[c]⟩ || ((⟨#[49]⟩ : Str) == ⟨#[c]⟩ || false)) = _
  rw [one, one, Bool.or_false, Bool.decide_or]
theorem walk_enumTxt (L : List Nat) : Walk (ItEx (mS L)) L.length (fun _ => True) (YPair (fun i => some (.int (i : Nat))) (fun i => (L[i]?).map fun c => .str ⟨#[c]⟩)) := by
  have z1 : (mS L).cps.size = L.length := by simp
  refine ⟨fun i _ hi _ => by show i < (mS L).cps.size; rw [z1]; exact hi, fun _ _ => z1.symm, fun i H v H' hi _ y => ?_⟩
  obtain ⟨T, c, h1, h2, h3, h4⟩ := y
  have h3' : L[i]? = some c := by simpa using h3
  exact ⟨T, _, _, h1, h2, h4, rfl, by show (L[i]?).map _ = _; rw [h3']; rfl⟩
theorem or_bit {x k : Nat} (h : x < 2 ^ k) : x ||| 2 ^ k = x + 2 ^ k := by
  have := Nat.two_pow_add_eq_or_of_lt h 1
  rw [Nat.mul_one] at this
  rw [Nat.or_comm, ← this, Nat.add_comm]
theorem take_snoc {β : Type} {xs : List β} {i : Nat} {x : β} (h : xs[i]? = some x) : xs.take (i + 1) = xs.take i ++ [x] := by
  rw [List.take_succ, h]
  rfl
theorem lsb_good (n : Nat) : Good (lsb n) := by
  by_cases h : n = 0
  · subst h
    exact .inl lsb_zero
  · exact .inr (lsb_last h)
theorem lsb_le {n k : Nat} (h : n < 2 ^ k) : (lsb n).length ≤ k + 1 := by
  rw [lsb_len]
  by_cases z : n = 0
  · subst z
    rw [show (0 : Nat).log2 = 0 by decide]
    omega
  · have := (Nat.log2_lt z).mpr h
    omega
theorem Dig.take {L : List Nat} (h : Dig L) (k : Nat) : Dig (L.take k) := fun c hc => h c (List.mem_of_mem_take hc)
section
variable {P : Program} {w : World} {K : PySem.W.Frag} {mg : Str → Option Value} {base : Heap}
theorem ok_initT {f C : Addr} {fd : FuncData} {k : Nat} (F : Fun K "__init__" "BadText.__init__" sInitT f fd) (T : OexC K C) (n0 : PySem.W.findIn K (.ref C) "line" = some none) (n1 : PySem.W.findIn K (.ref C) "column" = some none) :
    FnOk P w K mg base CX0 (k + 1) f fd ["self", "line", "column"] (spInitX C xdT) := by
  refine F.ok scInitT (fun vs H Q E h => ?_) (fun cdv A outer s H vs Q E hr h => ?_)
  · obtain ⟨a, y0, y1, rfl, _⟩ := h
    rfl
  · obtain ⟨a, y0, y1, rfl, ha, q⟩ := h
    refine ⟨_, pss_cons (ps_ost (pv 0) (pv 1) rfl) (pss_one (ps_ost (pv 0) (pv 2) rfl)), ?_⟩
    refine ⟨_, rfl, _, rfl, a, C, rfl, T, n0, .inl ⟨ha, fun dx nx dne => ?_⟩⟩
    refine ⟨_, rfl, _, rfl, a, C, rfl, T, n1, .inr ⟨dx, _, upd_same, by rw [upd_ne dne]; exact upd_same, by show _ ≤ 900; exact Nat.le_of_ble_eq_true rfl, ?_⟩⟩
    exact q _ dx nx dne (by rw [upd_ne dne.symm]; exact upd_same) upd_same (fun b o e hb => by rw [upd_ne (ne_of_none e nx), upd_ne hb, upd_ne (ne_of_none e nx)]; exact e)
theorem ok_initB {f C : Addr} {fd : FuncData} {k : Nat} (F : Fun K "__init__" "BadNumber.__init__" sInitB f fd) (T : OexC K C) (n0 : PySem.W.findIn K (.ref C) "what" = some none) (n1 : PySem.W.findIn K (.ref C) "number" = some none) :
    FnOk P w K mg base CX0 (k + 1) f fd ["self", "what", "number"] (spInitX C xdB) := by
  refine F.ok scInitB (fun vs H Q E h => ?_) (fun cdv A outer s H vs Q E hr h => ?_)
  · obtain ⟨a, y0, y1, rfl, _⟩ := h
    rfl
  · obtain ⟨a, y0, y1, rfl, ha, q⟩ := h
    refine ⟨_, pss_cons (ps_ost (pv 0) (pv 1) rfl) (pss_one (ps_ost (pv 0) (pv 2) rfl)), ?_⟩
    refine ⟨_, rfl, _, rfl, a, C, rfl, T, n0, .inl ⟨ha, fun dx nx dne => ?_⟩⟩
    refine ⟨_, rfl, _, rfl, a, C, rfl, T, n1, .inr ⟨dx, _, upd_same, by rw [upd_ne dne]; exact upd_same, by show _ ≤ 900; exact Nat.le_of_ble_eq_true rfl, ?_⟩⟩
    exact q _ dx nx dne (by rw [upd_ne dne.symm]; exact upd_same) upd_same (fun b o e hb => by rw [upd_ne (ne_of_none e nx), upd_ne hb, upd_ne (ne_of_none e nx)]; exact e)
theorem ok_read {f C fB : Addr} {fd dB : FuncData} (F : Fun K "read_polynomial" "read_polynomial" sRead f fd) (T : BT K mg C fB dB) (B : Bl mg) : FnOk P w K mg base (L2.CX P w) 3 f fd ["text"] (spRead C) := by
  have GB : FnOk P w K mg base CX0 1 fB dB ["self", "line", "column"] (spInitX C xdT) := ok_initT T.F T.ox T.n0 T.n1
  refine F.okX scRead (fun vs H Q E h => ?_) (fun cdv A outer s H vs Q E hr h => ?_)
  · obtain ⟨v, rfl, _⟩ := h
    rfl
  · obtain ⟨v, rfl, h⟩ := h
    refine ⟨_, C8.pss_cut (ps_if (pt_not (pt_val (pe_callB call_isi (by rfl) B.isi PyProof.Rows.boot_isinstance (pa_cons (pv 0) (pa_cons (pe_bltn (v := .ty "str") (by rfl) B.str bootS rfl) pa_nil)))))
        (pss_one (ps_raise rfl (takes_of rfl rfl rfl rfl) (pmk_oex T.ox T.ic T.ti GB hr T.b .nil pass0 (by rfl) T.g (pa_cons pe_int (pa_cons pe_int pa_nil))))) pss_nil)
      (C8.pss_cut (ps_set (i := 1) scRead.nd rfl (.inl rfl) pe_int)
      (C8.pss_cut (ps_for (passes_of rfl) rfl (pi_enumTxt (by rfl) B.enum (pa_cons (pv 0) pa_nil)) (pg_tup rfl (pgs_cons (pg_name (i := 2) scRead.nd rfl (.inl rfl)) (pgs_cons (pg_name (i := 3) scRead.nd rfl (.inl rfl)) pgs_nil)))
        (C8.pss_cut (ps_if (pt_cmpR op_notIn_seq (pv 3) (pe_tup (pa_cons pe_str (pa_cons pe_str pa_nil))) (by with_unfolding_all rfl))
          (pss_one (ps_raise rfl (takes_of rfl rfl rfl rfl) (pmk_oex T.ox T.ic T.ti GB hr T.b .nil pass0 (by rfl) T.g (pa_cons pe_int (pa_cons (pe_op op_add (pv 2) pe_int) pa_nil))))) pss_nil)
        (pss_one (ps_if (pt_cmpR op_eq (pv 3) pe_str (nomark _)) (pss_one (ps_set (i := 1) scRead.nd rfl (.inl rfl) (pe_op op_or (pv 1) (pe_op op_oneShl pe_int (pv 2))))) pss_nil))))
      (C8.pss_cut (ps_if (pw_and (pt_cmpR op_ne (pv 0) pe_str (nomark _)) (pw_and1 (pt_not (pt_val (pe_bm PySem.F.plainAttrs_str PySem.F.slot_str_endswith PySem.F.type_str_endswith mt_endswith (pv 0) (pa_cons pe_str pa_nil)))))).pt
        (pss_one (ps_raise rfl (takes_of rfl rfl rfl rfl) (pmk_oex T.ox T.ic T.ti GB hr T.b .nil pass0 (by rfl) T.g (pa_cons pe_int (pa_cons (pe_op op_add (pe_callB call_len_str (by rfl) B.len PySem.boot_len (pa_cons (pv 0) pa_nil)) pe_int) pa_nil))))) pss_nil)
      (pss_one (ps_ret (pv 1)))))), ?_⟩
    have txt : (∃ L, v = .str (mS L) ∧ L.length ≤ 1000 ∧ (∀ k c, Dig (L.take k) → L[k]? = some c → ¬ (c = 48 ∨ c = 49) → Rz C (xdT (.int 1) (.int ((k + 1 : Nat) : Int))) H E) ∧ (Dig L → ¬ Good L → Rz C (xdT (.int 1) (.int ((L.length + 1 : Nat) : Int))) H E) ∧
        (Dig L → Good L → ∀ H', Same H H' → Q (.int (bv d1 L : Nat)) H')) ∨ (Odd H v ∧ Rz C (xdT (.int 0) (.int 0)) H E) := by
      rcases h with ⟨n, rfl, hn, q⟩ | ⟨L, col, rfl, hl, hb, r⟩ | ⟨o, r⟩
      · refine .inl ⟨lsb n, rfl, ?_, fun k c _ e nc => absurd ((lsb_dig n).at e) nc, fun _ g => absurd (lsb_good n) g, fun _ _ => ?_⟩
        · have := lsb_le hn
          omega
        · rw [lsb_val]
          exact q
      · refine .inl ⟨L, rfl, hl, fun k c hd e nc => ?_, fun hd hg => ?_, fun hd hg => ?_⟩
        · rcases hb with ⟨k', c', hd', e', nc', rfl⟩ | ⟨hd', _⟩
          · have : k = k' := by
              rcases Nat.lt_trichotomy k k' with h | h | h
              · exact absurd (hd'.at (k := k) (by rw [List.getElem?_take, if_pos h]; exact e)) nc
              · exact h
              · exact absurd (hd.at (k := k') (by rw [List.getElem?_take, if_pos h]; exact e')) nc'
            subst this
            exact r
          · exact absurd (hd'.at e) nc
        · rcases hb with ⟨k', c', hd', e', nc', rfl⟩ | ⟨_, _, rfl⟩
          · exact absurd (hd.at e') nc'
          · exact r
        · rcases hb with ⟨k', c', hd', e', nc', rfl⟩ | ⟨_, hg', _⟩
          · exact absurd (hd.at e') nc'
          · exact absurd hg hg'
      · exact .inr ⟨o, r⟩
    clear h
    refine ⟨fun σ' H' => σ' = [some v, none, none, none] ∧ H' = H ∧ ∃ L, v = .str (mS L) ∧ L.length ≤ 1000 ∧ (∀ k c, Dig (L.take k) → L[k]? = some c → ¬ (c = 48 ∨ c = 49) → Rz C (xdT (.int 1) (.int ((k + 1 : Nat) : Int))) H E) ∧ (Dig L → ¬ Good L → Rz C (xdT (.int 1) (.int ((L.length + 1 : Nat) : Int))) H E) ∧
        (Dig L → Good L → ∀ H', Same H H' → Q (.int (bv d1 L : Nat)) H'), ?_, ?_⟩
    · rcases txt with ⟨L, rfl, hl, t⟩ | ⟨ho, q⟩
      · exact ⟨_, rfl, _, _, _, _, true, rfl, .ty "str", .base (.str _), kit_ty (by decide +kernel), _, rfl, iteF ⟨rfl, rfl, L, rfl, hl, t⟩⟩
      · obtain ⟨n, ty, kt⟩ := ho.ty
        refine ⟨_, rfl, v, _, _, _, false, rfl, .ty "str", ty K, kit_ty kt, _, rfl, iteT ⟨by show 2 ≤ 1000; decide, raise_rd q⟩⟩
    rintro _ H1 ⟨rfl, rfl, L, rfl, hl, t1, t2, t3⟩
    have hz : (mS L).length ≤ sizeLine := by rw [mS_len]; exact sizeBig hl
    refine ⟨fun σ' H' => σ' = [some (.str (mS L)), some (.int 0), none, none] ∧ H' = H1, ⟨rfl, rfl⟩, ?_⟩
    rintro _ H2 ⟨rfl, rfl⟩
    refine ⟨fun σ' H' => ∃ s2 s3 : Option V, σ' = [some (.str (mS L)), some (.int (bv d1 L : Nat)), s2, s3] ∧ Same H2 H' ∧ Dig L, ?_, ?_⟩
    · refine ⟨_, rfl, _, rfl, for_it (walk_enumTxt L) (fun i σ' H' => ∃ s2 s3 : Option V, σ' = [some (.str (mS L)), some (.int (bv d1 (L.take i) : Nat)), s2, s3] ∧ Same H2 H' ∧ Dig (L.take i)) ⟨none, none, by rw [List.take_zero]; rfl, fun _ _ e => e, fun c hc => by rw [List.take_zero] at hc; cases hc⟩ (fun _ _ _ _ _ => trivial) ?_ ?_⟩
      · rintro i x _ H3 H4 hi ⟨s2, s3, rfl, sm, hd⟩ ⟨T, y1, y2, rfl, nT, rfl, e1, e2⟩
        have hx : L[i]? = some L[i] := List.getElem?_eq_getElem hi
        cases e1
        have e2' : (L[i]?).map (fun c => V.str ⟨#[c]⟩) = some y2 := e2
        rw [hx] at e2'
        cases e2'
        have sT : Same H3 (upd H3 T (.tup [.int (i : Nat), .str ⟨#[L[i]]⟩])) := same_new nT
        refine ⟨T, _, rfl, .inl (.inl upd_same), rfl, _, _, rfl, _, _, rfl, rfl, ?_⟩
        refine ⟨fun σ' H' => σ' = [some (.str (mS L)), some (.int (bv d1 (L.take i) : Nat)), some (.int (i : Nat)), some (.str ⟨#[L[i]]⟩)] ∧ Same H2 H' ∧ (L[i] = 48 ∨ L[i] = 49), ?_, ?_⟩
        · refine ⟨_, rfl, by show 2 ≤ sizeLine; decide, fun r nr => ⟨r, _, rfl, .inr (.inl (.inl upd_same)), rfl, rfl, _, rfl, ?_⟩⟩
          have sA := (sm.trans sT).trans (same_new (o := .tup [.str "0", .str "1"]) nr)
          rw [if_pos rfl, in01]
          by_cases hc : L[i] = 48 ∨ L[i] = 49
          · rw [decide_eq_true hc]
            exact iteF ⟨rfl, sA, hc⟩
          · rw [decide_eq_false hc]
            refine iteT ⟨_, rfl, _, _, rfl, rfl, by show 2 ≤ 1000; decide, raise_rd ?_⟩
            have := (t1 i _ hd hx hc).same sA
            exact this
        rintro _ H5 ⟨rfl, sB, hc⟩
        have lt : bv d1 (L.take i) < 2 ^ i := by
          have := bv_lt d1_lt (L.take i)
          rw [List.length_take, Nat.min_eq_left (by omega)] at this
          exact this
        have hd' : Dig (L.take (i + 1)) := by
          rw [take_snoc hx]
          intro c hm
          rcases List.mem_append.mp hm with h | h
          · exact hd c h
          · rw [List.mem_singleton.mp h]
            exact hc
        have bt := bv_take d1 hx
        refine ⟨_, rfl, rfl, _, rfl, ite2 (fun z => ?_) (fun z => ?_)⟩
        · have e49 : L[i] = 49 := by
            rcases hc with h | h
            · rw [h, e_1] at z
              exact absurd z (by decide)
            · exact h
          refine ⟨_, rfl, _, rfl, i, rfl, rfl, by omega, _, _, rfl, rfl, some (.int (i : Nat)), some (.str ⟨#[L[i]]⟩), ?_, sB, hd'⟩
          rw [bt, e49]
          show [_, some (V.int (Builtin.bitOr ((bv d1 (L.take i) : Nat) : Int) ((2 : Int) ^ i))), _, _] = _
          have e2 : ((2 : Int) ^ i) = ((2 ^ i : Nat) : Int) := by push_cast; rfl
          rw [e2, bor, or_bit lt, show d1 49 = 1 from rfl, Nat.mul_one]
        · have e48 : L[i] = 48 := by
            rcases hc with h | h
            · exact h
            · exact absurd (by rw [h, e_1]; decide) z
          refine ⟨some (.int (i : Nat)), some (.str ⟨#[L[i]]⟩), ?_, sB, hd'⟩
          rw [bt, e48, show d1 48 = 0 from rfl, Nat.mul_zero, Nat.add_zero]
      · rintro _ H3 ⟨s2, s3, rfl, sm, hd⟩
        rw [List.take_of_length_le (Nat.le_refl _)] at hd ⊢
        exact ⟨s2, s3, rfl, sm, hd⟩
    rintro _ H3 ⟨s2, s3, rfl, sm, hd⟩
    refine ⟨fun σ' H' => σ' = [some (.str (mS L)), some (.int (bv d1 L : Nat)), s2, s3] ∧ Same H2 H' ∧ Good L, ?_, ?_⟩
    · refine ⟨_, rfl, rfl, _, rfl, ?_⟩
      by_cases h48 : L = [48]
      · subst h48
        rw [decide_eq_true (by rw [e_0] : V.str (mS [48]) = V.str "0")]
        exact ⟨rfl, sm, .inl rfl⟩
      · rw [decide_eq_false (fun z => h48 (by rw [e_0] at z; exact mS_inj (V.str.inj z)))]
        refine ⟨_, rfl, rfl, _, _, rfl, rfl, _, rfl, ?_⟩
        rw [ends_one]
        by_cases hg : L.getLast? = some 49
        · rw [decide_eq_true hg]
          exact ⟨rfl, sm, .inr hg⟩
        · rw [decide_eq_false hg]
          refine ⟨_, rfl, _, rfl, hz, _, _, rfl, rfl, by show 2 ≤ 1000; decide, raise_rd ?_⟩
          have := (t2 hd (by rintro (h | h); exact h48 h; exact hg h)).same sm
          rw [mS_len]
          exact this
    rintro _ H4 ⟨rfl, sm4, hg⟩
    exact ⟨_, rfl, t3 hd hg _ sm4⟩
end
end KQ

namespace KQ
open PySem PySem.Spec PyProof.Rows L2
/-! ### reckoning -/
def spBoth (C : Addr) : Sp := fun vs H Q E => ∃ v u, vs = [v, u] ∧ Reads C v H E fun n => Reads C u H E fun m => ∀ H' p, Same H H' → H' p = some (.tup [.int (n : Nat), .int (m : Nat)]) → Q (.ref p) H'
def spPTx : Sp := fun vs H Q _ => ∃ n : Nat, vs = [.int (n : Nat)] ∧ n < 2 ^ 500 ∧ Q (.str (mS (lsb n))) H
/-- the highest power and one more -/
def bl (n : Nat) : Nat := if n = 0 then 0 else n.log2 + 1
def spDeg : Sp := fun vs H Q _ => ∃ n : Nat, vs = [.int (n : Nat)] ∧ Q (.int ((bl n : Nat) - 1 : Int)) H
def spPTi : Sp := fun vs H Q _ => ∃ a b : Nat, vs = [.int (a : Nat), .int (b : Nat)] ∧ a < 2 ^ 200 ∧ b < 2 ^ 200 ∧ Q (.int (md a b : Nat)) H
def spQR : Sp := fun vs H Q _ => ∃ N D : Nat, vs = [.int (N : Nat), .int (D : Nat)] ∧ D ≠ 0 ∧ N < 2 ^ 200 ∧ D < 2 ^ 200 ∧ ∀ q r H' p, DivR N D q r → Same H H' → H' p = some (.tup [.int (q : Nat), .int (r : Nat)]) → Q (.ref p) H'
def spRest : Sp := fun vs H Q _ => ∃ N D : Nat, vs = [.int (N : Nat), .int (D : Nat)] ∧ D ≠ 0 ∧ N < 2 ^ 200 ∧ D < 2 ^ 200 ∧ ∀ q r H', DivR N D q r → Same H H' → Q (.int (r : Nat)) H'
def spGcd : Sp := fun vs H Q _ => ∃ x y : Nat, vs = [.int (x : Nat), .int (y : Nat)] ∧ x < 2 ^ 200 ∧ y < 2 ^ 200 ∧ ∀ g H', Gc x y g → g < 2 ^ 200 → Same H H' → Q (.int (g : Nat)) H'
theorem bits_bl (n : Nat) : Builtin.Int.intBits (n : Int) = bl n := by
  unfold Builtin.Int.intBits bl
  by_cases z : n = 0
  · subst z
    rfl
  · rw [if_neg (by simpa using z), if_neg z, Int.natAbs_natCast]
theorem bl_le {n k : Nat} (h : n < 2 ^ k) : bl n ≤ k := by
  unfold bl
  split
  · omega
  · rename_i z
    have := (Nat.log2_lt z).mpr h
    omega
theorem DivR.q_lt {N D q r k : Nat} (hD : D ≠ 0) (h : DivR N D q r) (hN : N < 2 ^ k) : q < 2 ^ k := by
  by_cases hq : q = 0
  · subst hq
    exact Nat.two_pow_pos k
  · obtain ⟨n0, lg⟩ := md_log hq hD
    obtain ⟨m1, m2⟩ := log_of n0
    rw [lg] at m1 m2
    have lt : r < 2 ^ (q.log2 + D.log2) := Nat.lt_of_lt_of_le h.2 (Nat.pow_le_pow_right (by decide) (by omega))
    have top := (xor_top lt m1 m2).1
    rw [Nat.xor_comm, ← h.1] at top
    have l1 : q.log2 + D.log2 < k := (Nat.pow_lt_pow_iff_right (by decide : 1 < 2)).mp (Nat.lt_of_le_of_lt top hN)
    have l2 : q < 2 ^ (q.log2 + 1) := (log_of hq).2
    exact Nat.lt_of_lt_of_le l2 (Nat.pow_le_pow_right (by decide) (by omega))
theorem DivR.r_lt {N D q r k : Nat} (hD : D ≠ 0) (h : DivR N D q r) (hd : D < 2 ^ k) : r < D ∧ r < 2 ^ k := by
  have := (log_of hD).1
  exact ⟨Nat.lt_of_lt_of_le h.2 this, by have := h.2; omega⟩
/-- the next step of a division -/
theorem or_pow {q m i : Nat} (h : 2 ^ m ∣ q) (hi : i < m) : q ||| 2 ^ i = q ^^^ 2 ^ i := by
  apply Nat.eq_of_testBit_eq
  intro j
  rw [Nat.testBit_or, Nat.testBit_xor, Nat.testBit_two_pow]
  by_cases e : i = j
  · subst e
    obtain ⟨k, rfl⟩ := h
    have : Nat.testBit (2 ^ m * k) i = false := by
      rw [Nat.testBit_two_pow_mul]
      simp
      omega
    rw [this]
    simp
  · rw [decide_eq_false e]
    simp
section
variable {P : Program} {w : World} {K : PySem.W.Frag} {mg : Str → Option Value} {base : Heap}
theorem ok_both {f C fB fR : Addr} {fd dB dR : FuncData} (F : Fun K "read_both" "read_both" sBoth f fd) (FR : Fun K "read_polynomial" "read_polynomial" sRead fR dR) (bR : Binds K dR ["text"] []) (gR : mg "read_polynomial" = some (.ref fR)) (T : BT K mg C fB dB) (B : Bl mg) :
    FnOk P w K mg base (L2.CX P w) 4 f fd ["a", "b"] (spBoth C) := by
  have GR : FnOk P w K mg base (L2.CX P w) 3 fR dR ["text"] (spRead C) := ok_read FR T B
  refine F.okX scBoth (fun vs H Q E h => ?_) (fun cdv A outer s H vs Q E hr h => ?_)
  · obtain ⟨v, u, rfl, _⟩ := h
    rfl
  · obtain ⟨v, u, rfl, h⟩ := h
    refine ⟨_, C8.pss_cut (ps_set (i := 2) scBoth.nd rfl (.inl rfl) (pe_call GR hr (by rfl) gR FR.kp bR .nil (passes_call (takes_of rfl rfl rfl rfl) (fun _ _ _ _ h => h)) (pa_cons (pv 0) pa_nil)))
      (pss_one (ps_ret (pe_tup (pa_cons (pv 2) (pa_cons (pe_call GR hr (by rfl) gR FR.kp bR .nil (passes_call (takes_of rfl rfl rfl rfl) (fun _ _ _ _ h => h)) (pa_cons (pv 1) pa_nil)) pa_nil))))), ?_⟩
    refine ⟨fun σ' H' => ∃ n : Nat, σ' = [some v, some u, some (.int (n : Nat))] ∧ Same H H' ∧ Reads C u H E fun m => ∀ H' p, Same H H' → H' p = some (.tup [.int (n : Nat), .int (m : Nat)]) → Q (.ref p) H', ?_, ?_⟩
    · exact ⟨_, rfl, v, rfl, h.mono fun n _ o H' s' => ⟨n, rfl, s', o⟩⟩
    rintro _ H1 ⟨n, rfl, s1, h1⟩
    refine ⟨_, rfl, _, rfl, u, rfl, (h1.same s1).mono fun m _ o H' s' => ⟨by show 2 ≤ sizeLine; decide, fun p np => ?_⟩⟩
    exact o _ p ((s1.trans s').trans (same_new np)) upd_same
theorem ok_ptx {f : Addr} {fd : FuncData} {k : Nat} (F : Fun K "polynomial_text" "polynomial_text" sPTx f fd) : FnOk P w K mg base CX0 (k + 1) f fd ["number"] spPTx := by
  refine F.ok scPTx (fun vs H Q E h => ?_) (fun cdv A outer s H vs Q E hr h => ?_)
  · obtain ⟨n, rfl, _⟩ := h
    rfl
  · obtain ⟨n, rfl, hn, q⟩ := h
    refine ⟨_, C8.pss_cut (ps_set (i := 1) scPTx.nd rfl (.inl rfl) (pe_joined1 (pe_fmtB (pv 0)))) (pss_one (ps_ret (pe_revT (pv 1)))), ?_⟩
    have hz : (lsb n).reverse.length ≤ 1000 := by
      rw [List.length_reverse]
      have := lsb_le hn
      omega
    refine ⟨fun σ' H' => σ' = [some (.int (n : Nat)), some (.str (mS (lsb n).reverse))] ∧ H' = H, ?_, ?_⟩
    · refine ⟨_, rfl, n, rfl, ?_, ?_⟩
      · rw [bin_eq, mS_len]
        exact sizeBig hz
      · rw [bin_eq]
        exact ⟨rfl, rfl⟩
    rintro _ H1 ⟨rfl, rfl⟩
    refine ⟨_, rfl, (lsb n).reverse, rfl, sizeBig hz, ?_⟩
    rw [List.reverse_reverse]
    exact q
theorem ok_deg {f : Addr} {fd : FuncData} {k : Nat} (F : Fun K "degree" "degree" sDeg f fd) : FnOk P w K mg base CX0 (k + 1) f fd ["number"] spDeg := by
  refine F.ok scDeg (fun vs H Q E h => ?_) (fun cdv A outer s H vs Q E hr h => ?_)
  · obtain ⟨n, rfl, _⟩ := h
    rfl
  · obtain ⟨n, rfl, q⟩ := h
    refine ⟨_, pss_one (ps_ret (pe_op op_sub (pe_bits (pv 0)) pe_int)), ?_⟩
    refine ⟨_, rfl, _, rfl, _, _, rfl, rfl, ?_⟩
    rw [bits_bl]
    exact q
theorem ok_pti {f : Addr} {fd : FuncData} {k : Nat} (F : Fun K "poly_times" "poly_times" sPTi f fd) : FnOk P w K mg base CX0 (k + 1) f fd ["one", "other"] spPTi := by
  refine F.ok scPTi (fun vs H Q E h => ?_) (fun cdv A outer s H vs Q E hr h => ?_)
  · obtain ⟨a, b, rfl, _⟩ := h
    rfl
  · obtain ⟨a, b, rfl, ha, hb, q⟩ := h
    refine ⟨_, C8.pss_cut (ps_set (i := 2) scPTi.nd rfl (.inl rfl) pe_int)
      (C8.pss_cut (ps_while PassesOwn.never (pt_truth (pv 1) (by intro _; rfl))
        (C8.pss_cut (ps_if (pt_truth (pe_op op_odd (pv 1) pe_int) (by intro _; rfl)) (pss_one (ps_set (i := 2) scPTi.nd rfl (.inl rfl) (pe_op op_xor (pv 2) (pv 0)))) pss_nil)
        (C8.pss_cut (ps_set (i := 0) scPTi.nd rfl (.inl rfl) (pe_op op_shlN (pv 0) pe_int))
        (pss_one (ps_set (i := 1) scPTi.nd rfl (.inl rfl) (pe_op op_halfN (pv 1) pe_int))))))
      (pss_one (ps_ret (pv 2)))), ?_⟩
    refine ⟨fun σ' H' => σ' = [some (.int (a : Nat)), some (.int (b : Nat)), some (.int 0)] ∧ H' = H, ⟨rfl, rfl⟩, ?_⟩
    rintro _ H1 ⟨rfl, rfl⟩
    refine ⟨fun σ' H' => ∃ a' b' : Nat, σ' = [some (.int (a' : Nat)), some (.int (b' : Nat)), some (.int (md a b : Nat))] ∧ H' = H1, ?_, ?_⟩
    · refine ⟨fun m σ' H' => ∃ (a' b' t j : Nat), σ' = [some (.int (a' : Nat)), some (.int (b' : Nat)), some (.int (t : Nat))] ∧ H' = H1 ∧ b' = m ∧ a' < 2 ^ (200 + j) ∧ b' < 2 ^ (200 - j) ∧ j ≤ 200 ∧ t ^^^ md a' b' = md a b, ⟨b, a, b, 0, 0, rfl, rfl, rfl, ha, hb, by decide, by rw [Nat.zero_xor]⟩, ?_⟩
      rintro m _ H2 ⟨a', b', t, j, rfl, rfl, rfl, ha', hb', hj, inv⟩
      refine ⟨_, rfl, _, rfl, ?_⟩
      by_cases z : b' = 0
      · subst z
        rw [md_zero, Nat.xor_zero] at inv
        exact iteF ⟨a', 0, by rw [inv], rfl⟩
      · have nz : (((b' : Nat) : Int) != 0) = true := bne_iff_ne.mpr (by omega)
        rw [nz]
        have j1 : j + 1 ≤ 200 := by
          rcases Nat.lt_or_ge j 200 with h | h
          · exact h
          · rw [show 200 - j = 0 by omega, Nat.pow_zero] at hb'
            omega
        refine iteT ⟨fun σ' H' => ∃ m', m' < b' ∧ ∃ (a' b' t j : Nat), σ' = [some (.int (a' : Nat)), some (.int (b' : Nat)), some (.int (t : Nat))] ∧ H' = H2 ∧ b' = m' ∧ a' < 2 ^ (200 + j) ∧ b' < 2 ^ (200 - j) ∧ j ≤ 200 ∧ t ^^^ md a' b' = md a b, fun _ _ z => z, ?_⟩
        refine ⟨fun σ' H' => σ' = [some (.int (a' : Nat)), some (.int (b' : Nat)), some (.int ((t ^^^ (if b' % 2 = 1 then a' else 0) : Nat) : Int))] ∧ H' = H2, ?_, ?_⟩
        · refine ⟨_, rfl, b', rfl, rfl, _, rfl, ?_⟩
          by_cases o : b' % 2 = 1
          · rw [o, if_pos rfl]
            refine iteT ⟨_, rfl, _, rfl, _, _, rfl, rfl, ?_, rfl⟩
            show [_, _, some (V.int (Builtin.bitXor ((t : Nat) : Int) ((a' : Nat) : Int)))] = _
            rw [bxor]
          · rw [show b' % 2 = 0 by omega, if_neg (by decide), Nat.xor_zero]
            exact iteF ⟨rfl, rfl⟩
        rintro _ H9 ⟨rfl, rfl⟩
        refine ⟨fun σ' H' => σ' = [some (.int ((2 * a' : Nat) : Int)), some (.int (b' : Nat)), some (.int ((t ^^^ (if b' % 2 = 1 then a' else 0) : Nat) : Int))] ∧ H' = H9, ?_, ?_⟩
        · refine ⟨_, rfl, (a' : Int), 1, rfl, rfl, ⟨by decide, ?_⟩, ?_, rfl⟩
          · rw [bits_bl]
            have := bl_le ha'
            have : (2 : Int) ^ 27 = 134217728 := by decide
            omega
          · show [some (V.int ((a' : Int) * 2 ^ 1)), _, _] = _
            rw [show (a' : Int) * 2 ^ 1 = ((2 * a' : Nat) : Int) by omega]
        rintro _ _ ⟨rfl, rfl⟩
        refine ⟨_, rfl, b', rfl, rfl, b' / 2, by omega, 2 * a', b' / 2, _, j + 1, rfl, rfl, rfl, ?_, ?_, j1, ?_⟩
        · rw [show 200 + (j + 1) = 200 + j + 1 from rfl, Nat.pow_succ]
          omega
        · have e : 2 ^ (200 - j) = 2 ^ (200 - (j + 1)) * 2 := by
            rw [← Nat.pow_succ]
            congr 1
            omega
          omega
        · rw [← inv, md_step a' b', Nat.xor_assoc]
    rintro _ H2 ⟨a', b', rfl, rfl⟩
    exact ⟨_, rfl, q⟩
theorem ok_qr {f fD : Addr} {fd dD : FuncData} {k : Nat} (F : Fun K "quotient_rest" "quotient_rest" sQR f fd) (FD : Fun K "degree" "degree" sDeg fD dD) (bD : Binds K dD ["number"] []) (gD : mg "degree" = some (.ref fD)) : FnOk P w K mg base CX0 (k + 2) f fd ["number", "divisor"] spQR := by
  have GD : FnOk P w K mg base CX0 (k + 1) fD dD ["number"] spDeg := ok_deg FD
  refine F.ok scQR (fun vs H Q E h => ?_) (fun cdv A outer s H vs Q E hr h => ?_)
  · obtain ⟨N, D, rfl, _⟩ := h
    rfl
  · obtain ⟨N, D, rfl, hD, hN, hDl, q⟩ := h
    refine ⟨_, C8.pss_cut (ps_set (i := 2) scQR.nd rfl (.inl rfl) pe_int)
      (C8.pss_cut (ps_while PassesOwn.never (pt_cmpR op_ge (pe_call GD hr (by rfl) gD FD.kp bD .nil pass0 (pa_cons (pv 0) pa_nil)) (pe_call GD hr (by rfl) gD FD.kp bD .nil pass0 (pa_cons (pv 1) pa_nil)) (nomark _))
        (C8.pss_cut (ps_set (i := 3) scQR.nd rfl (.inl rfl) (pe_op op_sub (pe_call GD hr (by rfl) gD FD.kp bD .nil pass0 (pa_cons (pv 0) pa_nil)) (pe_call GD hr (by rfl) gD FD.kp bD .nil pass0 (pa_cons (pv 1) pa_nil))))
        (C8.pss_cut (ps_set (i := 2) scQR.nd rfl (.inl rfl) (pe_op op_or (pv 2) (pe_op op_oneShl pe_int (pv 3))))
        (pss_one (ps_set (i := 0) scQR.nd rfl (.inl rfl) (pe_op op_xor (pv 0) (pe_op op_shlN (pv 1) (pv 3))))))))
      (pss_one (ps_ret (pe_tup (pa_cons (pv 2) (pa_cons (pv 0) pa_nil)))))), ?_⟩
    refine ⟨fun σ' H' => σ' = [some (.int (N : Nat)), some (.int (D : Nat)), some (.int 0), none] ∧ H' = H, ⟨rfl, rfl⟩, ?_⟩
    rintro _ H1 ⟨rfl, rfl⟩
    obtain ⟨D1, D2⟩ := log_of hD
    have bD1 : bl D = D.log2 + 1 := by unfold bl; rw [if_neg hD]
    refine ⟨fun σ' H' => ∃ (n qq : Nat) (s3 : Option V), σ' = [some (.int (n : Nat)), some (.int (D : Nat)), some (.int (qq : Nat)), s3] ∧ H' = H1 ∧ DivR N D qq n, ?_, ?_⟩
    · refine ⟨fun m σ' H' => ∃ (n qq k : Nat) (s3 : Option V), σ' = [some (.int (n : Nat)), some (.int (D : Nat)), some (.int (qq : Nat)), s3] ∧ H' = H1 ∧ n = m ∧ md qq D ^^^ n = N ∧ n < 2 ^ k ∧ 2 ^ (k - D.log2) ∣ qq ∧ k ≤ 200, ⟨N, N, 0, 200, none, rfl, rfl, rfl, by rw [md_zl, Nat.zero_xor], hN, Nat.dvd_zero _, by decide⟩, ?_⟩
      rintro m _ H2 ⟨n, qq, kk, s3, rfl, rfl, rfl, inv, hn, hq, hk⟩
      refine ⟨_, rfl, n, rfl, _, rfl, D, rfl, _, _, rfl, rfl, _, rfl, ?_⟩
      by_cases z : bl n < bl D
      · rw [decide_eq_false (by omega : ¬ ((bl D : Nat) : Int) - 1 ≤ ((bl n : Nat) : Int) - 1)]
        refine iteF ⟨n, qq, s3, rfl, rfl, inv.symm, ?_⟩
        by_cases n0 : n = 0
        · subst n0
          exact Nat.two_pow_pos _
        · have b1 : bl n = n.log2 + 1 := by unfold bl; rw [if_neg n0]
          exact Nat.lt_of_lt_of_le (log_of n0).2 (Nat.pow_le_pow_right (by decide) (by omega))
      · rw [decide_eq_true (by omega : ((bl D : Nat) : Int) - 1 ≤ ((bl n : Nat) : Int) - 1)]
        have n0 : n ≠ 0 := fun y => by
          subst y
          have : bl 0 = 0 := rfl
          omega
        have b1 : bl n = n.log2 + 1 := by unfold bl; rw [if_neg n0]
        obtain ⟨n1, n2⟩ := log_of n0
        obtain ⟨sh, hsh⟩ : ∃ sh : Nat, sh + D.log2 = n.log2 := ⟨n.log2 - D.log2, by omega⟩
        have lk : n.log2 < kk := (Nat.log2_lt n0).mpr hn
        refine iteT ⟨fun σ' H' => ∃ m', m' < n ∧ ∃ (n qq k : Nat) (s3 : Option V), σ' = [some (.int (n : Nat)), some (.int (D : Nat)), some (.int (qq : Nat)), s3] ∧ H' = H2 ∧ n = m' ∧ md qq D ^^^ n = N ∧ n < 2 ^ k ∧ 2 ^ (k - D.log2) ∣ qq ∧ k ≤ 200, fun _ _ z => z, ?_⟩
        refine ⟨fun σ' H' => σ' = [some (.int (n : Nat)), some (.int (D : Nat)), some (.int (qq : Nat)), some (.int (sh : Nat))] ∧ H' = H2, ?_, ?_⟩
        · refine ⟨_, rfl, n, rfl, _, rfl, D, rfl, _, _, rfl, rfl, ?_, rfl⟩
          show [_, _, _, some (V.int ((((bl n : Nat) : Int) - 1) - (((bl D : Nat) : Int) - 1)))] = _
          rw [show (((bl n : Nat) : Int) - 1) - (((bl D : Nat) : Int) - 1) = (sh : Int) by omega]
        rintro _ H9 ⟨rfl, rfl⟩
        refine ⟨fun σ' H' => σ' = [some (.int (n : Nat)), some (.int (D : Nat)), some (.int ((qq ^^^ 2 ^ sh : Nat) : Int)), some (.int (sh : Nat))] ∧ H' = H9, ?_, ?_⟩
        · refine ⟨_, rfl, _, rfl, sh, rfl, rfl, by omega, _, _, rfl, rfl, ?_, rfl⟩
          show [_, _, some (V.int (Builtin.bitOr ((qq : Nat) : Int) ((2 : Int) ^ sh))), _] = _
          have e2 : ((2 : Int) ^ sh) = ((2 ^ sh : Nat) : Int) := by push_cast; rfl
          rw [e2, bor, or_pow hq (by omega : sh < kk - D.log2)]
        rintro _ _ ⟨rfl, rfl⟩
        have dl : D * 2 ^ sh = md (2 ^ sh) D := by rw [md_comm, md_pow]
        have low : 2 ^ n.log2 ≤ D * 2 ^ sh := by
          rw [← hsh, Nat.add_comm, Nat.pow_add]
          exact Nat.mul_le_mul_right _ D1
        have high : D * 2 ^ sh < 2 ^ (n.log2 + 1) := by
          rw [← hsh, show sh + D.log2 + 1 = (D.log2 + 1) + sh by omega, Nat.pow_add]
          exact Nat.mul_lt_mul_of_pos_right D2 (Nat.two_pow_pos sh)
        have less := xor_same n1 n2 low high
        refine ⟨_, rfl, _, rfl, _, rfl, (D : Int), sh, rfl, rfl, ⟨by omega, ?_⟩, _, _, rfl, rfl, n ^^^ D * 2 ^ sh, by omega, n ^^^ D * 2 ^ sh, qq ^^^ 2 ^ sh, n.log2, some (.int (sh : Nat)), ?_, rfl, rfl, ?_, less, ?_, by omega⟩
        · rw [bits_bl]
          have := bl_le hDl
          have : (2 : Int) ^ 27 = 134217728 := by decide
          omega
        · show [some (V.int (Builtin.bitXor ((n : Nat) : Int) ((D : Int) * 2 ^ sh))), _, _, _] = _
          have e2 : (D : Int) * 2 ^ sh = ((D * 2 ^ sh : Nat) : Int) := by push_cast; rfl
          rw [e2, bxor]
        · rw [md_addl, dl, Nat.xor_comm n, ← Nat.xor_assoc, Nat.xor_assoc (md qq D), Nat.xor_self, Nat.xor_zero]
          exact inv
        · rw [show n.log2 - D.log2 = sh by omega]
          have hq' : 2 ^ sh ∣ qq := Nat.dvd_trans (Nat.pow_dvd_pow 2 (by omega)) hq
          obtain ⟨c, hc⟩ := hq'
          refine ⟨c ^^^ 1, ?_⟩
          have e := md_addl (2 ^ sh) c 1
          rw [md_pow, md_pow, md_pow, Nat.one_mul] at e
          rw [hc, Nat.mul_comm, Nat.mul_comm (2 ^ sh) (c ^^^ 1)]
          exact e.symm
    rintro _ H2 ⟨n, qq, s3, rfl, rfl, hd⟩
    refine ⟨_, rfl, _, rfl, by show 2 ≤ sizeLine; decide, fun p np => ?_⟩
    exact q qq n _ p hd (same_new np) upd_same
theorem ok_rest {f fQ fD : Addr} {fd dQ dD : FuncData} {k : Nat} (F : Fun K "rest_of" "rest_of" sRest f fd) (FQ : Fun K "quotient_rest" "quotient_rest" sQR fQ dQ) (bQ : Binds K dQ ["number", "divisor"] []) (gQ : mg "quotient_rest" = some (.ref fQ)) (FD : Fun K "degree" "degree" sDeg fD dD) (bD : Binds K dD ["number"] []) (gD : mg "degree" = some (.ref fD)) :
    FnOk P w K mg base CX0 (k + 3) f fd ["number", "divisor"] spRest := by
  have GQ : FnOk P w K mg base CX0 (k + 2) fQ dQ ["number", "divisor"] spQR := ok_qr FQ FD bD gD
  refine F.ok scRest (fun vs H Q E h => ?_) (fun cdv A outer s H vs Q E hr h => ?_)
  · obtain ⟨N, D, rfl, _⟩ := h
    rfl
  · obtain ⟨N, D, rfl, hD, hN, hDl, q⟩ := h
    refine ⟨_, C8.pss_cut (ps_asg (pe_call GQ hr (by rfl) gQ FQ.kp bQ .nil pass0 (pa_cons (pv 0) (pa_cons (pv 1) pa_nil))) (pg_tup rfl (pgs_cons (pg_name (i := 2) scRest.nd rfl (.inl rfl)) (pgs_cons (pg_name (i := 3) scRest.nd rfl (.inl rfl)) pgs_nil))))
      (pss_one (ps_ret (pv 3))), ?_⟩
    refine ⟨fun σ' H' => ∃ qq r : Nat, σ' = [some (.int (N : Nat)), some (.int (D : Nat)), some (.int (qq : Nat)), some (.int (r : Nat))] ∧ Same H H' ∧ DivR N D qq r, ?_, ?_⟩
    · exact ⟨_, rfl, _, rfl, N, D, rfl, hD, hN, hDl, fun qq r H' p hd s' e => ⟨p, _, rfl, .inl (.inl e), rfl, _, _, rfl, _, _, rfl, rfl, qq, r, rfl, s', hd⟩⟩
    rintro _ H1 ⟨qq, r, rfl, s1, hd⟩
    exact ⟨_, rfl, q qq r _ hd s1⟩
theorem ok_gcd {f fR fQ fD : Addr} {fd dR dQ dD : FuncData} {k : Nat} (F : Fun K "common_divisor" "common_divisor" sGcd f fd) (FR : Fun K "rest_of" "rest_of" sRest fR dR) (bR : Binds K dR ["number", "divisor"] []) (gR : mg "rest_of" = some (.ref fR))
    (FQ : Fun K "quotient_rest" "quotient_rest" sQR fQ dQ) (bQ : Binds K dQ ["number", "divisor"] []) (gQ : mg "quotient_rest" = some (.ref fQ)) (FD : Fun K "degree" "degree" sDeg fD dD) (bD : Binds K dD ["number"] []) (gD : mg "degree" = some (.ref fD)) :
    FnOk P w K mg base CX0 (k + 4) f fd ["one", "other"] spGcd := by
  have GR : FnOk P w K mg base CX0 (k + 3) fR dR ["number", "divisor"] spRest := ok_rest FR FQ bQ gQ FD bD gD
  refine F.ok scGcd (fun vs H Q E h => ?_) (fun cdv A outer s H vs Q E hr h => ?_)
  · obtain ⟨x, y, rfl, _⟩ := h
    rfl
  · obtain ⟨x, y, rfl, hx, hy, q⟩ := h
    refine ⟨_, C8.pss_cut (ps_while PassesOwn.never (pt_truth (pv 1) (by intro _; rfl))
        (pss_one (ps_par (i := 0) (j := 1) rfl scGcd.nd rfl rfl (by decide) rfl rfl (pa_cons (pv 1) (pa_cons (pe_call GR hr (by rfl) gR FR.kp bR .nil pass0 (pa_cons (pv 0) (pa_cons (pv 1) pa_nil))) pa_nil)) rfl)))
      (pss_one (ps_ret (pv 0))), ?_⟩
    refine ⟨fun σ' H' => ∃ g : Nat, σ' = [some (.int (g : Nat)), some (.int 0)] ∧ Same H H' ∧ g < 2 ^ 200 ∧ Gc x y g, ?_, ?_⟩
    · refine ⟨fun m σ' H' => ∃ x' y' : Nat, σ' = [some (.int (x' : Nat)), some (.int (y' : Nat))] ∧ Same H H' ∧ y' = m ∧ x' < 2 ^ 200 ∧ y' < 2 ^ 200 ∧ ∀ g, Gc x' y' g → Gc x y g, ⟨y, x, y, rfl, fun _ _ e => e, rfl, hx, hy, fun _ z => z⟩, ?_⟩
      rintro m _ H1 ⟨x', y', rfl, s1, rfl, hx', hy', inv⟩
      refine ⟨_, rfl, _, rfl, ?_⟩
      by_cases z : y' = 0
      · subst z
        exact iteF ⟨x', rfl, s1, hx', inv x' (gc_end x')⟩
      · have nz : (((y' : Nat) : Int) != 0) = true := bne_iff_ne.mpr (by omega)
        rw [nz]
        refine iteT ⟨fun σ' H' => ∃ m', m' < y' ∧ ∃ x' y' : Nat, σ' = [some (.int (x' : Nat)), some (.int (y' : Nat))] ∧ Same H H' ∧ y' = m' ∧ x' < 2 ^ 200 ∧ y' < 2 ^ 200 ∧ ∀ g, Gc x' y' g → Gc x y g, fun _ _ z => z, ?_⟩
        refine ⟨_, rfl, _, rfl, _, rfl, x', y', rfl, z, hx', hy', fun qq r H' hd s' => ⟨_, _, rfl, r, (hd.r_lt z hy').1, y', r, rfl, s1.trans s', rfl, hy', (hd.r_lt z hy').2, fun g hg => inv g ((gc_step hd.1).mp hg)⟩⟩
    rintro _ H1 ⟨g, rfl, s1, hg, hG⟩
    exact ⟨_, rfl, q g _ hG hg s1⟩
end
end KQ

namespace KQ
open PySem PySem.Spec PyProof.Rows L2
/-! ### what the program tells -/
theorem md_lt {n m i j : Nat} (hn : n < 2 ^ i) (hm : m < 2 ^ j) : md n m < 2 ^ (i + j) := by
  by_cases z : n = 0
  · subst z
    rw [md_zl]
    exact Nat.two_pow_pos _
  by_cases y : m = 0
  · subst y
    rw [md_zero]
    exact Nat.two_pow_pos _
  obtain ⟨n0, lg⟩ := md_log z y
  have h1 := (Nat.log2_lt z).mpr hn
  have h2 := (Nat.log2_lt y).mpr hm
  exact Nat.lt_of_lt_of_le (log_of n0).2 (Nat.pow_le_pow_right (by decide) (by omega))
def spSum (C : Addr) : Sp := fun vs H Q E => ∃ v u, vs = [v, u] ∧ Reads C v H E fun n => Reads C u H E fun m => ∀ H', Same H H' → Q (.str (mS (lsb (n ^^^ m)))) H'
def spProd (C : Addr) : Sp := fun vs H Q E => ∃ v u, vs = [v, u] ∧ Reads C v H E fun n => Reads C u H E fun m => ∀ H', Same H H' → Q (.str (mS (lsb (md n m)))) H'
def spDvs (C : Addr) : Sp := fun vs H Q E => ∃ v u, vs = [v, u] ∧ Reads C v H E fun n => Reads C u H E fun m => ∀ g H', Gc n m g → g < 2 ^ 200 → Same H H' → Q (.str (mS (lsb g))) H'
def spDivd (C CN : Addr) : Sp := fun vs H Q E => ∃ v u, vs = [v, u] ∧ Reads C v H E fun n => Reads C u H E fun m =>
  (m = 0 ∧ Rz CN (xdB (.str "divisor") (.str "0")) H E) ∨ (m ≠ 0 ∧ ∀ q r H' p, DivR n m q r → Same H H' → H' p = some (.tup [.str (mS (lsb q)), .str (mS (lsb r))]) → Q (.ref p) H')
theorem up_pow {n i j : Nat} (h : n < 2 ^ i) (le : i ≤ j) : n < 2 ^ j := Nat.lt_of_lt_of_le h (Nat.pow_le_pow_right (by decide) le)
section
variable {P : Program} {w : World} {K : PySem.W.Frag} {mg : Str → Option Value} {base : Heap}
theorem ok_sum {f C fB fR fO fX : Addr} {fd dB dR dO dX : FuncData} (F : Fun K "sum_of" "sum_of" sSum f fd) (FO : Fun K "read_both" "read_both" sBoth fO dO) (bO : Binds K dO ["a", "b"] []) (gO : mg "read_both" = some (.ref fO))
    (FR : Fun K "read_polynomial" "read_polynomial" sRead fR dR) (bR : Binds K dR ["text"] []) (gR : mg "read_polynomial" = some (.ref fR)) (FX : Fun K "polynomial_text" "polynomial_text" sPTx fX dX) (bX : Binds K dX ["number"] []) (gX : mg "polynomial_text" = some (.ref fX)) (T : BT K mg C fB dB) (B : Bl mg) :
    FnOk P w K mg base (L2.CX P w) 5 f fd ["a", "b"] (spSum C) := by
  have GO : FnOk P w K mg base (L2.CX P w) 4 fO dO ["a", "b"] (spBoth C) := ok_both FO FR bR gR T B
  have GX : FnOk P w K mg base CX0 1 fX dX ["number"] spPTx := ok_ptx FX
  refine F.okX scSum (fun vs H Q E h => ?_) (fun cdv A outer s H vs Q E hr h => ?_)
  · obtain ⟨v, u, rfl, _⟩ := h
    rfl
  · obtain ⟨v, u, rfl, h⟩ := h
    have r1 : Room 1 _ := hr.mono (by decide)
    refine ⟨_, C8.pss_cut (ps_asg (pe_call GO hr (by rfl) gO FO.kp bO .nil (passes_call (takes_of rfl rfl rfl rfl) (fun _ _ _ _ h => h)) (pa_cons (pv 0) (pa_cons (pv 1) pa_nil))) (pg_tup rfl (pgs_cons (pg_name (i := 2) scSum.nd rfl (.inl rfl)) (pgs_cons (pg_name (i := 3) scSum.nd rfl (.inl rfl)) pgs_nil))))
      (pss_one (ps_ret (pe_call GX r1 (by rfl) gX FX.kp bX .nil pass0 (pa_cons (pe_op op_xor (pv 2) (pv 3)) pa_nil)))), ?_⟩
    refine ⟨fun σ' H' => ∃ n m : Nat, n < 2 ^ 200 ∧ m < 2 ^ 200 ∧ σ' = [some v, some u, some (.int (n : Nat)), some (.int (m : Nat))] ∧ Same H H' ∧ ∀ H', Same H H' → Q (.str (mS (lsb (n ^^^ m)))) H', ?_, ?_⟩
    · exact ⟨_, rfl, _, rfl, v, u, rfl, h.mono fun n hn h' => h'.mono fun m hm o H' p s' e => ⟨p, _, rfl, .inl (.inl e), rfl, _, _, rfl, _, _, rfl, rfl, n, m, hn, hm, rfl, s', o⟩⟩
    rintro _ H1 ⟨n, m, hn, hm, rfl, s1, o⟩
    refine ⟨_, rfl, _, rfl, _, _, rfl, rfl, n ^^^ m, ?_, up_pow (Nat.xor_lt_two_pow hn hm) (by decide), o _ s1⟩
    show [V.int (Builtin.bitXor ((n : Nat) : Int) ((m : Nat) : Int))] ++ [] = _
    rw [bxor]
    rfl
theorem ok_prod {f C fB fR fO fX fP : Addr} {fd dB dR dO dX dP : FuncData} (F : Fun K "product_of" "product_of" sProd f fd) (FO : Fun K "read_both" "read_both" sBoth fO dO) (bO : Binds K dO ["a", "b"] []) (gO : mg "read_both" = some (.ref fO))
    (FR : Fun K "read_polynomial" "read_polynomial" sRead fR dR) (bR : Binds K dR ["text"] []) (gR : mg "read_polynomial" = some (.ref fR)) (FX : Fun K "polynomial_text" "polynomial_text" sPTx fX dX) (bX : Binds K dX ["number"] []) (gX : mg "polynomial_text" = some (.ref fX))
    (FP : Fun K "poly_times" "poly_times" sPTi fP dP) (bP : Binds K dP ["one", "other"] []) (gP : mg "poly_times" = some (.ref fP)) (T : BT K mg C fB dB) (B : Bl mg) :
    FnOk P w K mg base (L2.CX P w) 5 f fd ["a", "b"] (spProd C) := by
  have GO : FnOk P w K mg base (L2.CX P w) 4 fO dO ["a", "b"] (spBoth C) := ok_both FO FR bR gR T B
  have GX : FnOk P w K mg base CX0 1 fX dX ["number"] spPTx := ok_ptx FX
  have GP : FnOk P w K mg base CX0 1 fP dP ["one", "other"] spPTi := ok_pti FP
  refine F.okX scProd (fun vs H Q E h => ?_) (fun cdv A outer s H vs Q E hr h => ?_)
  · obtain ⟨v, u, rfl, _⟩ := h
    rfl
  · obtain ⟨v, u, rfl, h⟩ := h
    have r1 : Room 1 _ := hr.mono (by decide)
    refine ⟨_, C8.pss_cut (ps_asg (pe_call GO hr (by rfl) gO FO.kp bO .nil (passes_call (takes_of rfl rfl rfl rfl) (fun _ _ _ _ h => h)) (pa_cons (pv 0) (pa_cons (pv 1) pa_nil))) (pg_tup rfl (pgs_cons (pg_name (i := 2) scProd.nd rfl (.inl rfl)) (pgs_cons (pg_name (i := 3) scProd.nd rfl (.inl rfl)) pgs_nil))))
      (pss_one (ps_ret (pe_call GX r1 (by rfl) gX FX.kp bX .nil pass0 (pa_cons (pe_call GP r1 (by rfl) gP FP.kp bP .nil pass0 (pa_cons (pv 2) (pa_cons (pv 3) pa_nil))) pa_nil)))), ?_⟩
    refine ⟨fun σ' H' => ∃ n m : Nat, n < 2 ^ 200 ∧ m < 2 ^ 200 ∧ σ' = [some v, some u, some (.int (n : Nat)), some (.int (m : Nat))] ∧ Same H H' ∧ ∀ H', Same H H' → Q (.str (mS (lsb (md n m)))) H', ?_, ?_⟩
    · exact ⟨_, rfl, _, rfl, v, u, rfl, h.mono fun n hn h' => h'.mono fun m hm o H' p s' e => ⟨p, _, rfl, .inl (.inl e), rfl, _, _, rfl, _, _, rfl, rfl, n, m, hn, hm, rfl, s', o⟩⟩
    rintro _ H1 ⟨n, m, hn, hm, rfl, s1, o⟩
    exact ⟨_, rfl, _, rfl, n, m, rfl, hn, hm, md n m, rfl, up_pow (md_lt hn hm) (by decide), o _ s1⟩
theorem ok_dvs {f C fB fR fO fX fG fE fQ fD : Addr} {fd dB dR dO dX dG dE dQ dD : FuncData} (F : Fun K "divisor_of" "divisor_of" sDvs f fd) (FO : Fun K "read_both" "read_both" sBoth fO dO) (bO : Binds K dO ["a", "b"] []) (gO : mg "read_both" = some (.ref fO))
    (FR : Fun K "read_polynomial" "read_polynomial" sRead fR dR) (bR : Binds K dR ["text"] []) (gR : mg "read_polynomial" = some (.ref fR)) (FX : Fun K "polynomial_text" "polynomial_text" sPTx fX dX) (bX : Binds K dX ["number"] []) (gX : mg "polynomial_text" = some (.ref fX))
    (FG : Fun K "common_divisor" "common_divisor" sGcd fG dG) (bG : Binds K dG ["one", "other"] []) (gG : mg "common_divisor" = some (.ref fG)) (FE : Fun K "rest_of" "rest_of" sRest fE dE) (bE : Binds K dE ["number", "divisor"] []) (gE : mg "rest_of" = some (.ref fE))
    (FQ : Fun K "quotient_rest" "quotient_rest" sQR fQ dQ) (bQ : Binds K dQ ["number", "divisor"] []) (gQ : mg "quotient_rest" = some (.ref fQ)) (FD : Fun K "degree" "degree" sDeg fD dD) (bD : Binds K dD ["number"] []) (gD : mg "degree" = some (.ref fD)) (T : BT K mg C fB dB) (B : Bl mg) :
    FnOk P w K mg base (L2.CX P w) 5 f fd ["a", "b"] (spDvs C) := by
  have GO : FnOk P w K mg base (L2.CX P w) 4 fO dO ["a", "b"] (spBoth C) := ok_both FO FR bR gR T B
  have GX : FnOk P w K mg base CX0 1 fX dX ["number"] spPTx := ok_ptx FX
  have GG : FnOk P w K mg base CX0 4 fG dG ["one", "other"] spGcd := ok_gcd FG FE bE gE FQ bQ gQ FD bD gD
  refine F.okX scDvs (fun vs H Q E h => ?_) (fun cdv A outer s H vs Q E hr h => ?_)
  · obtain ⟨v, u, rfl, _⟩ := h
    rfl
  · obtain ⟨v, u, rfl, h⟩ := h
    have r1 : Room 1 _ := hr.mono (by decide)
    refine ⟨_, C8.pss_cut (ps_asg (pe_call GO hr (by rfl) gO FO.kp bO .nil (passes_call (takes_of rfl rfl rfl rfl) (fun _ _ _ _ h => h)) (pa_cons (pv 0) (pa_cons (pv 1) pa_nil))) (pg_tup rfl (pgs_cons (pg_name (i := 2) scDvs.nd rfl (.inl rfl)) (pgs_cons (pg_name (i := 3) scDvs.nd rfl (.inl rfl)) pgs_nil))))
      (pss_one (ps_ret (pe_call GX r1 (by rfl) gX FX.kp bX .nil pass0 (pa_cons (pe_call GG hr (by rfl) gG FG.kp bG .nil pass0 (pa_cons (pv 2) (pa_cons (pv 3) pa_nil))) pa_nil)))), ?_⟩
    refine ⟨fun σ' H' => ∃ n m : Nat, n < 2 ^ 200 ∧ m < 2 ^ 200 ∧ σ' = [some v, some u, some (.int (n : Nat)), some (.int (m : Nat))] ∧ Same H H' ∧ ∀ g H', Gc n m g → g < 2 ^ 200 → Same H H' → Q (.str (mS (lsb g))) H', ?_, ?_⟩
    · exact ⟨_, rfl, _, rfl, v, u, rfl, h.mono fun n hn h' => h'.mono fun m hm o H' p s' e => ⟨p, _, rfl, .inl (.inl e), rfl, _, _, rfl, _, _, rfl, rfl, n, m, hn, hm, rfl, s', o⟩⟩
    rintro _ H1 ⟨n, m, hn, hm, rfl, s1, o⟩
    exact ⟨_, rfl, _, rfl, n, m, rfl, hn, hm, fun g H' hg gl s' => ⟨g, rfl, up_pow gl (by decide), o g _ hg gl (s1.trans s')⟩⟩
theorem ok_divd {f C CN fB fN fR fO fX fQ fD : Addr} {fd dB dN dR dO dX dQ dD : FuncData} (F : Fun K "divided" "divided" sDivd f fd) (FO : Fun K "read_both" "read_both" sBoth fO dO) (bO : Binds K dO ["a", "b"] []) (gO : mg "read_both" = some (.ref fO))
    (FR : Fun K "read_polynomial" "read_polynomial" sRead fR dR) (bR : Binds K dR ["text"] []) (gR : mg "read_polynomial" = some (.ref fR)) (FX : Fun K "polynomial_text" "polynomial_text" sPTx fX dX) (bX : Binds K dX ["number"] []) (gX : mg "polynomial_text" = some (.ref fX))
    (FQ : Fun K "quotient_rest" "quotient_rest" sQR fQ dQ) (bQ : Binds K dQ ["number", "divisor"] []) (gQ : mg "quotient_rest" = some (.ref fQ)) (FD : Fun K "degree" "degree" sDeg fD dD) (bD : Binds K dD ["number"] []) (gD : mg "degree" = some (.ref fD)) (T : BT K mg C fB dB) (N : BN K mg CN fN dN) (B : Bl mg) :
    FnOk P w K mg base (L2.CX P w) 5 f fd ["a", "b"] (spDivd C CN) := by
  have GO : FnOk P w K mg base (L2.CX P w) 4 fO dO ["a", "b"] (spBoth C) := ok_both FO FR bR gR T B
  have GX : FnOk P w K mg base CX0 1 fX dX ["number"] spPTx := ok_ptx FX
  have GQ : FnOk P w K mg base CX0 2 fQ dQ ["number", "divisor"] spQR := ok_qr FQ FD bD gD
  have GN : FnOk P w K mg base CX0 1 fN dN ["self", "what", "number"] (spInitX CN xdB) := ok_initB N.F N.ox N.n0 N.n1
  refine F.okX scDivd (fun vs H Q E h => ?_) (fun cdv A outer s H vs Q E hr h => ?_)
  · obtain ⟨v, u, rfl, _⟩ := h
    rfl
  · obtain ⟨v, u, rfl, h⟩ := h
    have r1 : Room 1 _ := hr.mono (by decide)
    have r2 : Room 2 _ := hr.mono (by decide)
    refine ⟨_, C8.pss_cut (ps_asg (pe_call GO hr (by rfl) gO FO.kp bO .nil (passes_call (takes_of rfl rfl rfl rfl) (fun _ _ _ _ h => h)) (pa_cons (pv 0) (pa_cons (pv 1) pa_nil))) (pg_tup rfl (pgs_cons (pg_name (i := 2) scDivd.nd rfl (.inl rfl)) (pgs_cons (pg_name (i := 3) scDivd.nd rfl (.inl rfl)) pgs_nil))))
      (C8.pss_cut (ps_if (pt_cmpR op_eq (pv 3) pe_int (nomark _)) (pss_one (ps_raise rfl (takes_of rfl rfl rfl rfl) (pmk_oex N.ox N.ic N.ti GN r2 N.b .nil pass0 (by rfl) N.g (pa_cons pe_str (pa_cons pe_str pa_nil))))) pss_nil)
      (C8.pss_cut (ps_asg (pe_call GQ r2 (by rfl) gQ FQ.kp bQ .nil pass0 (pa_cons (pv 2) (pa_cons (pv 3) pa_nil))) (pg_tup rfl (pgs_cons (pg_name (i := 4) scDivd.nd rfl (.inl rfl)) (pgs_cons (pg_name (i := 5) scDivd.nd rfl (.inl rfl)) pgs_nil))))
      (pss_one (ps_ret (pe_tup (pa_cons (pe_call GX r1 (by rfl) gX FX.kp bX .nil pass0 (pa_cons (pv 4) pa_nil)) (pa_cons (pe_call GX r1 (by rfl) gX FX.kp bX .nil pass0 (pa_cons (pv 5) pa_nil)) pa_nil))))))), ?_⟩
    refine ⟨fun σ' H' => ∃ n m : Nat, n < 2 ^ 200 ∧ m < 2 ^ 200 ∧ σ' = [some v, some u, some (.int (n : Nat)), some (.int (m : Nat)), none, none] ∧ Same H H' ∧ ((m = 0 ∧ Rz CN (xdB (.str "divisor") (.str "0")) H E) ∨ (m ≠ 0 ∧ ∀ q r H' p, DivR n m q r → Same H H' → H' p = some (.tup [.str (mS (lsb q)), .str (mS (lsb r))]) → Q (.ref p) H')), ?_, ?_⟩
    · exact ⟨_, rfl, _, rfl, v, u, rfl, h.mono fun n hn h' => h'.mono fun m hm o H' p s' e => ⟨p, _, rfl, .inl (.inl e), rfl, _, _, rfl, _, _, rfl, rfl, n, m, hn, hm, rfl, s', o⟩⟩
    rintro _ H1 ⟨n, m, hn, hm, rfl, s1, o⟩
    refine ⟨fun σ' H' => σ' = [some v, some u, some (.int (n : Nat)), some (.int (m : Nat)), none, none] ∧ Same H H' ∧ m ≠ 0 ∧ ∀ q r H' p, DivR n m q r → Same H H' → H' p = some (.tup [.str (mS (lsb q)), .str (mS (lsb r))]) → Q (.ref p) H', ?_, ?_⟩
    · refine ⟨_, rfl, rfl, _, rfl, ?_⟩
      rcases o with ⟨rfl, o⟩ | ⟨m0, o⟩
      · exact ite2 (fun _ => ⟨by show 2 ≤ 1000; decide, raise_rd (o.same s1)⟩) (fun z => absurd (decide_eq_true rfl) z)
      · exact ite2 (fun z => absurd (of_decide_eq_true z) (fun y => m0 (by have := V.int.inj y; omega))) (fun _ => ⟨rfl, s1, m0, o⟩)
    rintro _ H2 ⟨rfl, s2, m0, o⟩
    refine ⟨fun σ' H' => ∃ q r : Nat, σ' = [some v, some u, some (.int (n : Nat)), some (.int (m : Nat)), some (.int (q : Nat)), some (.int (r : Nat))] ∧ Same H H' ∧ DivR n m q r, ?_, ?_⟩
    · exact ⟨_, rfl, _, rfl, n, m, rfl, m0, hn, hm, fun q r H' p hd s' e => ⟨p, _, rfl, .inl (.inl e), rfl, _, _, rfl, _, _, rfl, rfl, q, r, rfl, s2.trans s', hd⟩⟩
    rintro _ H3 ⟨q, r, rfl, s3, hd⟩
    refine ⟨_, rfl, q, rfl, up_pow (hd.q_lt m0 hn) (by decide), _, rfl, r, rfl, up_pow (hd.r_lt m0 hm).2 (by decide), by show 2 ≤ sizeLine; decide, fun p np => ?_⟩
    exact o q r _ p hd (s3.trans (same_new np)) upd_same
end
end KQ

namespace KQ
open PySem PySem.Spec PyProof.Rows L2
/-! ### the law's helpers -/
theorem e_no : ("" : Str) = ⟨#[]⟩ := by decide +kernel
abbrev sPoly : Stmt := topS 22
abbrev sTrim : Stmt := topS 23
abbrev sPlus : Stmt := topS 24
abbrev sBy : Stmt := topS 25
abbrev sRef : Stmt := topS 26
abbrev sWr : Stmt := topS 27
abbrev sLaw : Stmt := topS 28
/-- all but the pen is as it was -/
def KeepP (p : Addr) (H H' : Hp) : Prop := ∀ q o, q ≠ p → H q = some o → H' q = some o
theorem KeepP.refl (p : Addr) (H : Hp) : KeepP p H H := fun _ _ _ e => e
theorem KeepP.trans {p : Addr} {H H1 H2 : Hp} (a : KeepP p H H1) (b : KeepP p H1 H2) : KeepP p H H2 := fun q o n e => b q o n (a q o n e)
theorem KeepP.of_same {p : Addr} {H H' : Hp} (s : Same H H') : KeepP p H H' := fun q o _ e => s q o e
theorem KeepP.of_eq {p : Addr} {H H' : Hp} (s : ∀ b, b ≠ p → H' b = H b) : KeepP p H H' := fun q o n e => (s q n).trans e
theorem pen_upd {H : Hp} {p c y : Addr} {n : Nat} {o : HO} (h : PenAt H p c n) (hp : y ≠ p) (hc : y ≠ c) : PenAt (upd H y o) p c n := h.same (upd_ne (Ne.symm hp)) (upd_ne (Ne.symm hc))
theorem pen_sm {H H' : Hp} {p c : Addr} {n : Nat} (h : PenAt H p c n) (s : Same H H') : PenAt H' p c n := by
  obtain ⟨ns, a, d, f, e1, e2, r⟩ := h
  exact ⟨ns, a, d, f, s _ _ e1, s _ _ e2, r⟩
theorem pen_get {H : Hp} {p c : Addr} {n : Nat} (h : PenAt H p c n) : (∃ o, H p = some o) ∧ ∃ o, H c = some o := by
  obtain ⟨ns, a, d, f, e1, e2, r⟩ := h
  exact ⟨⟨_, e1⟩, ⟨_, e2⟩⟩
theorem pen_off {H : Hp} {p c y : Addr} {n : Nat} {o : HO} (h : PenAt H p c n) (hy : H y = some o) (d : ∀ kv, o ≠ .dK kv) : y ≠ p := by
  obtain ⟨ns, a, d', f, hp, _⟩ := h
  exact ne_of hy hp (d _)
def signs1 (L : List Nat) : List Str := L.map fun c => (⟨#[c]⟩ : Str)
theorem join_signs (L : List Nat) : Txt.join ("" : Str) (signs1 L) = mS L := by
  rw [TL.join_eq, e_no]
  exact PyProof.Rows.join_ones L
theorem signs_len : ∀ L : List Nat, ((signs1 L).map (·.length)).sum = L.length
  | [] => rfl
  | c :: L => by
    show 1 + ((signs1 L).map (·.length)).sum = L.length + 1
    rw [signs_len L]
    omega
theorem scPoly : FnScope ["_law_pen_here", "_law_most", "_law_many", "_law_k"] ["_law_pen_here", "_law_most"] (defScope sPoly) := ⟨rfl, rfl, rfl, by decide +kernel, rfl, by decide +kernel, by decide +kernel⟩
theorem scTrim : FnScope ["_law_bits", "_law_text", "_law_bit"] ["_law_bits"] (defScope sTrim) := ⟨rfl, rfl, rfl, by decide +kernel, rfl, by decide +kernel, by decide +kernel⟩
theorem scPlus : FnScope ["_law_a", "_law_b", "_law_wide", "_law_one", "_law_two", "_law_k"] ["_law_a", "_law_b"] (defScope sPlus) := ⟨rfl, rfl, rfl, by decide +kernel, rfl, by decide +kernel, by decide +kernel⟩
theorem scBy : FnScope ["_law_a", "_law_b", "_law_found", "_law_k", "_law_j"] ["_law_a", "_law_b"] (defScope sBy) := ⟨rfl, rfl, rfl, by decide +kernel, rfl, by decide +kernel, by decide +kernel⟩
def m2 (x : Nat) : Nat := x % 2
theorem m2_lt (x : Nat) : m2 x < 2 := Nat.mod_lt _ (by decide)
def spPoly : Sp := fun vs H Q _ => ∃ (p c : Addr) (n most : Nat), vs = [.ref p, .int (most : Nat)] ∧ PenAt H p c n ∧ n + most < 900000 ∧ most ≤ 60 ∧
  ∀ (N n' : Nat) (H' : Hp), N < 2 ^ (most + 1) → n' ≤ n + most + 2 → PenAt H' p c n' → KeepP p H H' → Q (.str (mS (lsb N))) H'
def spTrim (K : PySem.W.Frag) : Sp := fun vs H Q _ => ∃ (a : Addr) (F : List Nat), vs = [.ref a] ∧ SqL K H a (F.map fun x => V.int (x : Nat)) ∧ F.length ≤ 900 ∧ ∀ H', Same H H' → Q (.str (mS (lsb (bv m2 F)))) H'
def spPlus : Sp := fun vs H Q _ => ∃ n m : Nat, vs = [.str (mS (lsb n)), .str (mS (lsb m))] ∧ n < 2 ^ 400 ∧ m < 2 ^ 400 ∧ ∀ H', Same H H' → Q (.str (mS (lsb (n ^^^ m)))) H'
def spBy : Sp := fun vs H Q _ => ∃ n m : Nat, vs = [.str (mS (lsb n)), .str (mS (lsb m))] ∧ n < 2 ^ 200 ∧ m < 2 ^ 200 ∧ ∀ H', Same H H' → Q (.str (mS (lsb (md n m)))) H'
theorem str01 {y : Int} (h0 : 0 ≤ y) (h1 : y < 2) : (toString y : Str) = mS [48 + y.toNat] := by
  have : y = 0 ∨ y = 1 := by omega
  rcases this with rfl | rfl <;> decide +kernel
theorem bits_map : ∀ F : List Nat, bv d1 (F.map fun x => 48 + x % 2) = bv m2 F
  | [] => rfl
  | x :: F => by
    show d1 (48 + x % 2) + 2 * bv d1 (F.map fun x => 48 + x % 2) = m2 x + 2 * bv m2 F
    rw [bits_map F]
    congr 1
    unfold d1 m2
    split <;> omega
theorem dig_map (F : List Nat) : Dig (F.map fun x => 48 + x % 2) := by
  intro c hc
  obtain ⟨x, _, rfl⟩ := List.mem_map.mp hc
  omega
/-- the sign of a digit -/
theorem int_dig {c : Nat} (h : c = 48 ∨ c = 49) : PySem.intText? (⟨#[c]⟩ : Str) = some ((d1 c : Nat) : Int) := by
  rcases h with rfl | rfl <;> decide +kernel
section
variable {P : Program} {w : World} {K : PySem.W.Frag} {mg : Str → Option Value} {base : Heap}
theorem ok_poly {f fD : Addr} {fd dD : FuncData} (F : Fun K "_law_poly" "_law_poly" sPoly f fd) (FD : Fun K "_law_draw" "_law_draw" sDraw fD dD) (bD : Binds K dD ["_law_pen_here", "_law_many"] []) (gD : mg "_law_draw" = some (.ref fD)) (B : Bl mg) :
    FnOk P w K mg base CX0 2 f fd ["_law_pen_here", "_law_most"] spPoly := by
  have GD : FnOk P w K mg base CX0 1 fD dD ["_law_pen_here", "_law_many"] spDraw := ok_draw FD B.int B.len
  refine F.ok scPoly (fun vs H Q E h => ?_) (fun cdv A outer s H vs Q E hr h => ?_)
  · obtain ⟨p, c, n, m, rfl, _⟩ := h
    rfl
  · obtain ⟨p, c, n, most, rfl, hP, hn, hm, q⟩ := h
    refine ⟨_, C8.pss_cut (ps_set (i := 2) scPoly.nd rfl (.inl rfl) (pe_call GD hr (by rfl) gD FD.kp bD .nil pass0 (pa_cons (pv 0) (pa_cons (pe_op op_add (pv 1) pe_int) pa_nil))))
      (pss_one (ps_ret (pe_ifExp (pt_cmpR op_eq (pv 2) pe_int (nomark _)) pe_str (pe_op op_add_str (pe_bm PySem.F.plainAttrs_str PySem.F.slot_str_join PySem.F.type_str_join mt_join pe_str
        (pa_cons (pe_lc (own := [("_law_k", 3)]) (g := gName 3) (by rfl) scPoly.nd (pi_range1 (by rfl) B.range (pa_cons (pe_op op_sub (pv 2) pe_int) pa_nil)) (blkOk_by (own := [("_law_k", 3)]) (N := ["_law_pen_here", "_law_most", "_law_many", "_law_k"]) (sc := defScope sPoly) (by decide +kernel))
          (fun _ _ _ _ _ => pg_name (i := 3) scPoly.nd rfl (Or.inl rfl)) (fun _ _ _ _ _ => pts_nil) (fun _ _ _ _ _ => pe_callTy call_str_int (by rfl) B.str bootS (pa_cons (pe_call GD hr (by rfl) gD FD.kp bD .nil pass0 (pa_cons (pv 0) (pa_cons pe_int pa_nil))) pa_nil))) pa_nil)) pe_str)))), ?_⟩
    refine ⟨fun σ' H' => ∃ many : Nat, many ≤ most + 1 ∧ σ' = [some (.ref p), some (.int (most : Nat)), some (.int (many : Nat)), none] ∧ PenAt H' p c (n + 1) ∧ KeepP p H H', ?_, ?_⟩
    · refine ⟨_, rfl, _, rfl, _, _, rfl, rfl, p, c, n, _, rfl, hP, by omega, by omega, ?_, fun y H' y0 y1 hP1 hk => ⟨y.toNat, by omega, ?_, hP1, KeepP.of_eq hk⟩⟩
      · exact Nat.lt_of_le_of_lt (by omega : ((most : Int) + 2).natAbs ≤ 62) (by decide)
      · rw [show ((y.toNat : Nat) : Int) = y by omega]
        rfl
    rintro _ H1 ⟨many, hmany, rfl, hP1, kp1⟩
    refine ⟨_, rfl, rfl, _, rfl, ite2 (fun e => ?_) (fun e => ?_)⟩
    · rw [e_0, ← show mS (lsb 0) = (⟨#[48]⟩ : Str) by rw [lsb_zero]]
      exact q 0 (n + 1) _ (Nat.two_pow_pos _) (by omega) hP1 kp1
    · have m0 : many ≠ 0 := fun z => e (decide_eq_true (by rw [z]; rfl))
      obtain ⟨⟨op, ep⟩, ⟨oc, ec⟩⟩ := pen_get hP1
      refine ⟨rfl, _, rfl, _, _, rfl, rfl, ?_⟩
      have em : (many : Int) - 1 = ((many - 1 : Nat) : Int) := by omega
      refine ⟨((many - 1 : Nat) : Int), by show [V.int ((many : Int) - 1)] = _; rw [em], by omega, by omega, fun D nD => ?_⟩
      have hDp : D ≠ p := Ne.symm (ne_of_none ep nD)
      have hDc : D ≠ c := Ne.symm (ne_of_none ec nD)
      refine lc_range (lo := 0) (n := many - 1) (Pv := fun i Hc => ∃ L : List Nat, L.length = i ∧ Dig L ∧ Hc D = some (.lst ((signs1 L).map V.str)) ∧ PenAt Hc p c (n + 1 + i) ∧ KeepP p H Hc) ⟨[], rfl, (fun c hc => by cases hc), upd_same, pen_upd hP1 hDp hDc, fun y o hy e => by rw [upd_ne (ne_of_none (kp1 _ _ hy e) nD)]; exact kp1 _ _ hy e⟩ ?_ ?_
      · rintro i Hc hi ⟨L, hl, hL, eD, hP', kp⟩
        refine ⟨rfl, _, rfl, p, c, n + 1 + i, 2, rfl, hP', by omega, by decide, by decide, fun y H2 y0 y1 hP2 hk => ⟨y, rfl, ?_, ?_⟩⟩
        · have : y = 0 ∨ y = 1 := by omega
          rcases this with rfl | rfl <;> decide
        rw [str01 y0 y1]
        refine ⟨_, by rw [hk D hDp]; exact eD, ?_, L ++ [48 + y.toNat], by rw [List.length_append, hl]; rfl, ?_, ?_, ?_, ?_⟩
        · show (((signs1 L).map V.str).length) < sizeLine
          rw [List.length_map, signs1, List.length_map, hl]
          exact Nat.lt_of_lt_of_le (by omega : i < 62) (by decide)
        · intro x hx
          rcases List.mem_append.mp hx with hx | hx
          · exact hL x hx
          · rw [List.mem_singleton.mp hx]
            omega
        · rw [upd_same, signs1, signs1, List.map_append, List.map_append]
          rfl
        · exact pen_upd hP2 hDp hDc
        · intro y o hy e
          have hyD : y ≠ D := ne_of_none (kp1 y o hy e) nD
          rw [upd_ne hyD, hk y hy]
          exact kp y o hy e
      · rintro Hc ⟨L, hl, hL, eD, hP', kp⟩
        refine ⟨_, D, signs1 L, rfl, rfl, .inl (SqL.of eD), ?_, ?_⟩
        · rw [signs_len, show ("" : Str).length = 0 from by decide +kernel]
          omega
        · rw [join_signs]
          have hd : Dig (L ++ [49]) := by
            intro x hx
            rcases List.mem_append.mp hx with hx | hx
            · exact hL x hx
            · exact .inr (List.mem_singleton.mp hx)
          have e49 := lsb_of hd (by simp)
          have lt := bv_lt d1_lt (L ++ [49])
          rw [List.length_append, hl, show many - 1 + [49].length = many by simp; omega] at lt
          refine ⟨_, _, rfl, rfl, ?_, ?_⟩
          · rw [mS_len, e_1, show (⟨#[49]⟩ : Str).length = 1 from rfl]
            exact sizeBig (by omega)
          · rw [e_1, show (⟨#[49]⟩ : Str) = mS [49] from rfl, mS_app, e49]
            exact q _ _ Hc (up_pow lt hmany) (by omega) hP' kp
end
end KQ

namespace KQ
open PySem PySem.Spec PyProof.Rows L2
/-! ### sums and products by the law's own rows -/
theorem bv_rep0 {f : Nat → Nat} (h : f 48 = 0) : ∀ (L : List Nat) (k : Nat), bv f (L ++ List.replicate k 48) = bv f L
  | [], 0 => rfl
  | [], k + 1 => by
    show f 48 + 2 * bv f (List.replicate k 48) = 0
    have := bv_rep0 h [] k
    rw [List.nil_append] at this
    rw [this, h]
    rfl
  | c :: L, k => by
    show f c + 2 * bv f (L ++ List.replicate k 48) = f c + 2 * bv f L
    rw [bv_rep0 h L k]
theorem bv_zip : ∀ (X Y : List Nat), X.length = Y.length → bv m2 (List.zipWith (fun x y => d1 x + d1 y) X Y) = bv d1 X ^^^ bv d1 Y
  | [], [], _ => rfl
  | x :: X, y :: Y, h => by
    show m2 (d1 x + d1 y) + 2 * bv m2 (List.zipWith (fun x y => d1 x + d1 y) X Y) = (d1 x + 2 * bv d1 X) ^^^ (d1 y + 2 * bv d1 Y)
    rw [bv_zip X Y (by simpa using h), Nat.add_comm (d1 x) (2 * _), Nat.add_comm (d1 y) (2 * _), xor_two _ _ _ _ (d1_lt x) (d1_lt y), Nat.add_comm]
    congr 1
    have h1 := d1_lt x
    have h2 := d1_lt y
    generalize d1 x = a at *
    generalize d1 y = b at *
    unfold m2
    have ha : a = 0 ∨ a = 1 := by omega
    have hb : b = 0 ∨ b = 1 := by omega
    rcases ha with rfl | rfl <;> rcases hb with rfl | rfl <;> rfl
theorem bv_set {F : List Nat} : ∀ {i x : Nat} (y : Nat), F[i]? = some x → bv m2 (F.set i (x + y)) = bv m2 F ^^^ (m2 y * 2 ^ i) := by
  induction F with
  | nil => intro i x y e; cases e
  | cons a F ih =>
    intro i x y e
    cases i with
    | zero =>
      have e' : a = x := by simpa using e
      subst e'
      show m2 (a + y) + 2 * bv m2 F = (m2 a + 2 * bv m2 F) ^^^ (m2 y * 1)
      have := xor_two (bv m2 F) 0 (m2 a) (m2 y) (m2_lt a) (m2_lt y)
      rw [Nat.mul_one, Nat.add_comm (m2 a), show m2 y = 2 * 0 + m2 y by omega, this, Nat.xor_zero, Nat.add_comm]
      congr 1
      have h1 : a % 2 = 0 ∨ a % 2 = 1 := by omega
      have h2 : y % 2 = 0 ∨ y % 2 = 1 := by omega
      unfold m2
      rw [Nat.add_mod]
      rcases h1 with h1 | h1 <;> rcases h2 with h2 | h2 <;> rw [h1, h2] <;> rfl
    | succ i =>
      have e' : F[i]? = some x := by simpa using e
      show m2 a + 2 * bv m2 (F.set i (x + y)) = (m2 a + 2 * bv m2 F) ^^^ (m2 y * 2 ^ (i + 1))
      have := xor_two (bv m2 F) (m2 y * 2 ^ i) (m2 a) 0 (m2_lt a) (by decide)
      rw [ih y e', Nat.add_comm (m2 a) (2 * bv m2 F), show m2 y * 2 ^ (i + 1) = 2 * (m2 y * 2 ^ i) + 0 by rw [Nat.pow_succ]; rw [Nat.add_zero, ← Nat.mul_assoc, Nat.mul_comm], this, Nat.xor_zero, Nat.add_comm]
theorem xor_shift (x y k : Nat) : (x ^^^ y) * 2 ^ k = x * 2 ^ k ^^^ y * 2 ^ k := by
  rw [← md_pow, md_addl, md_pow, md_pow]
theorem add_xor {u j d : Nat} (hu : u < 2 ^ j) (hd : d < 2) : u + 2 ^ j * d = u ^^^ d * 2 ^ j := by
  have : d = 0 ∨ d = 1 := by omega
  rcases this with rfl | rfl
  · simp
  · have e := Nat.two_pow_add_eq_or_of_lt hu 1
    have o : u ||| 2 ^ j = u ^^^ 2 ^ j := by
      apply Nat.eq_of_testBit_eq
      intro i
      rw [Nat.testBit_or, Nat.testBit_xor, Nat.testBit_two_pow]
      by_cases z : j = i
      · subst z
        rw [Nat.testBit_lt_two_pow hu]
        simp
      · rw [decide_eq_false z]
        simp
    rw [Nat.mul_one] at e
    rw [Nat.mul_one, Nat.one_mul, ← o, Nat.or_comm, ← e, Nat.add_comm]
theorem md_mul {d m k : Nat} (hd : d < 2) : md (d * 2 ^ k) m = d * m * 2 ^ k := by
  have : d = 0 ∨ d = 1 := by omega
  rcases this with rfl | rfl
  · rw [Nat.zero_mul, md_zl, Nat.zero_mul, Nat.zero_mul]
  · rw [Nat.one_mul, md_comm, md_pow, Nat.one_mul]
section
variable {P : Program} {w : World} {K : PySem.W.Frag} {mg : Str → Option Value} {base : Heap}
theorem ok_trim {f : Addr} {fd : FuncData} {k : Nat} (F : Fun K "_law_trim" "_law_trim" sTrim f fd) (B : Bl mg) : FnOk P w K mg base CX0 (k + 1) f fd ["_law_bits"] (spTrim K) := by
  refine F.ok scTrim (fun vs H Q E h => ?_) (fun cdv A outer s H vs Q E hr h => ?_)
  · obtain ⟨a, F, rfl, _⟩ := h
    rfl
  · obtain ⟨a, Fs, rfl, hS, hl, q⟩ := h
    refine ⟨_, C8.pss_cut (ps_set (i := 1) scTrim.nd rfl (.inl rfl) (pe_bm PySem.F.plainAttrs_str PySem.F.slot_str_rstrip PySem.F.type_str_rstrip mt_rstripChars (pe_bm PySem.F.plainAttrs_str PySem.F.slot_str_join PySem.F.type_str_join mt_join pe_str
        (pa_cons (pe_lc (own := [("_law_bit", 2)]) (g := gName 2) (by rfl) scTrim.nd (pi_list (pv 0)) (blkOk_by (own := [("_law_bit", 2)]) (N := ["_law_bits", "_law_text", "_law_bit"]) (sc := defScope sTrim) (by decide +kernel))
          (fun _ _ _ _ _ => pg_name (i := 2) scTrim.nd rfl (Or.inl rfl)) (fun _ _ _ _ _ => pts_nil) (fun _ _ _ _ _ => pe_callTy call_str_int (by rfl) B.str bootS (pa_cons (pe_op op_mod (pe_callTy call_int1 (by rfl) B.int bootI (pa_cons (pv 2) pa_nil)) pe_int) pa_nil))) pa_nil)) (pa_cons pe_str pa_nil)))
      (pss_one (ps_ret (pe_ifExp (pt_cmpR op_ne (pv 1) pe_str (nomark _)) (pv 1) pe_str))), ?_⟩
    let dg := Fs.map fun x => 48 + x % 2
    have hdg : Dig dg := dig_map Fs
    have ldg : dg.length = Fs.length := List.length_map ..
    refine ⟨fun σ' H' => σ' = [some (.ref a), some (.str (mS (cutEnd 48 dg))), none] ∧ Same H H', ?_, ?_⟩
    · refine ⟨rfl, _, rfl, a, rfl, ⟨_, hS⟩, fun D nD => ?_⟩
      refine lc_list (K := K) (a := a) (xs := Fs.map fun x => V.int (x : Nat)) (Pv := fun i Hc => Hc D = some (.lst ((signs1 (dg.take i)).map V.str)) ∧ Same H Hc) ⟨upd_same, same_new nD⟩ (fun i Hc _ ⟨_, sc⟩ => Same.seq sc hS) ?_ ?_
      · rintro i v Hc hi ⟨eD, sc⟩
        rw [List.getElem?_map] at hi
        obtain ⟨x, hx, rfl⟩ := Option.map_eq_some_iff.mp hi
        have hx' : dg[i]? = some (48 + x % 2) := by
          show (Fs.map _)[i]? = _
          rw [List.getElem?_map, hx]
          rfl
        refine ⟨rfl, _, rfl, .inl ⟨_, rfl, _, _, rfl, rfl, by show (0 : Int) < 2; decide, (x : Int) % 2, rfl, ?_, ?_⟩⟩
        · have : (x : Int) % 2 = 0 ∨ (x : Int) % 2 = 1 := by omega
          rcases this with h | h <;> rw [h] <;> decide
        rw [str01 (by omega) (by omega), show ((x : Int) % 2).toNat = x % 2 by omega]
        refine ⟨_, eD, ?_, ?_, ?_⟩
        · rw [List.length_map, signs1, List.length_map, List.length_take]
          exact Nat.lt_of_le_of_lt (by omega : _ ≤ 900) (by decide)
        · rw [upd_same, take_snoc hx', signs1, signs1, List.map_append, List.map_append]
          rfl
        · intro b o e
          rw [upd_ne (ne_of_none e nD)]
          exact sc _ _ e
      · rintro Hc ⟨eD, sc⟩
        rw [List.take_of_length_le (Nat.le_of_eq (ldg.trans (List.length_map ..).symm))] at eD
        refine ⟨_, D, signs1 dg, rfl, rfl, .inl (SqL.of eD), ?_, ?_⟩
        · rw [signs_len, show ("" : Str).length = 0 from by decide +kernel, ldg]
          omega
        · rw [join_signs]
          refine ⟨rfl, _, _, rfl, rfl, ?_, ?_⟩
          · rw [mS_len, ldg]
            exact sizeBig (by omega)
          · rw [e_0, rstrip_eq]
            exact ⟨rfl, sc⟩
    rintro _ H1 ⟨rfl, s1⟩
    have fin := trim_eq hdg
    rw [bits_map] at fin
    refine ⟨_, rfl, rfl, _, rfl, ?_⟩
    by_cases z : cutEnd 48 dg = []
    · rw [if_pos z] at fin
      rw [z, show mS [] = ("" : Str) from e_no.symm, decide_eq_true (rfl : V.str ("" : Str) = V.str "")]
      rw [e_0]
      have := q _ s1
      rw [← fin] at this
      exact this
    · rw [if_neg z] at fin
      rw [decide_eq_false (fun y => z (by rw [e_no] at y; exact mS_inj (V.str.inj y)))]
      have := q _ s1
      rw [← fin] at this
      exact ⟨_, rfl, this⟩
theorem ok_plus {f fT : Addr} {fd dT : FuncData} {k : Nat} (F : Fun K "_law_plus" "_law_plus" sPlus f fd) (FT : Fun K "_law_trim" "_law_trim" sTrim fT dT) (bT : Binds K dT ["_law_bits"] []) (gT : mg "_law_trim" = some (.ref fT)) (B : Bl mg) :
    FnOk P w K mg base CX0 (k + 2) f fd ["_law_a", "_law_b"] spPlus := by
  have GT : FnOk P w K mg base CX0 (k + 1) fT dT ["_law_bits"] (spTrim K) := ok_trim FT B
  refine F.ok scPlus (fun vs H Q E h => ?_) (fun cdv A outer s H vs Q E hr h => ?_)
  · obtain ⟨n, m, rfl, _⟩ := h
    rfl
  · obtain ⟨n, m, rfl, hn, hm, q⟩ := h
    refine ⟨_, C8.pss_cut (ps_set (i := 2) scPlus.nd rfl (.inl rfl) (pe_callB (call_max2 rfl) (by rfl) B.max (by decide +kernel) (pa_cons (pe_callB call_len_str (by rfl) B.len PySem.boot_len (pa_cons (pv 0) pa_nil)) (pa_cons (pe_callB call_len_str (by rfl) B.len PySem.boot_len (pa_cons (pv 1) pa_nil)) pa_nil))))
      (C8.pss_cut (ps_asg (pe_tup
        (pa_cons (pe_op op_add_str (pv 0) (pe_op op_mul_txt pe_str (pe_op op_sub (pv 2) (pe_callB call_len_str (by rfl) B.len PySem.boot_len (pa_cons (pv 0) pa_nil)))))
        (pa_cons (pe_op op_add_str (pv 1) (pe_op op_mul_txt pe_str (pe_op op_sub (pv 2) (pe_callB call_len_str (by rfl) B.len PySem.boot_len (pa_cons (pv 1) pa_nil))))) pa_nil))) (pg_tup rfl (pgs_cons (pg_name (i := 3) scPlus.nd rfl (.inr rfl)) (pgs_cons (pg_name (i := 4) scPlus.nd rfl (.inr rfl)) pgs_nil))))
      (pss_one (ps_ret (pe_call GT hr (by rfl) gT FT.kp bT .nil pass0 (pa_cons (pe_lc (own := [("_law_k", 5)]) (g := gName 5) (by rfl) scPlus.nd (pi_range1 (by rfl) B.range (pa_cons (pv 2) pa_nil)) (blkOk_by (own := [("_law_k", 5)]) (N := ["_law_a", "_law_b", "_law_wide", "_law_one", "_law_two", "_law_k"]) (sc := defScope sPlus) (by decide +kernel))
          (fun _ _ _ _ _ => pg_name (i := 5) scPlus.nd rfl (Or.inl rfl)) (fun _ _ _ _ _ => pts_nil) (fun _ _ _ _ _ => pe_op op_add (pe_callTy call_int_str (by rfl) B.int bootI (pa_cons (pe_ix ix_str (pv 3) (pv 5) (fun _ _ => rfl)) pa_nil)) (pe_callTy call_int_str (by rfl) B.int bootI (pa_cons (pe_ix ix_str (pv 4) (pv 5) (fun _ _ => rfl)) pa_nil)))) pa_nil))))), ?_⟩
    have lA := lsb_le hn
    have lB := lsb_le hm
    have dA := lsb_dig n
    have dB := lsb_dig m
    have vA := lsb_val n
    have vB := lsb_val m
    generalize lsb n = LA at *
    generalize lsb m = LB at *
    obtain ⟨W, hW⟩ : ∃ W : Nat, W = max LA.length LB.length := ⟨_, rfl⟩
    have hz : ∀ {L : List Nat}, L.length ≤ 401 → (mS L).length ≤ sizeLine := fun h => by rw [mS_len]; exact sizeBig (by omega)
    refine ⟨fun σ' H' => σ' = [some (.str (mS LA)), some (.str (mS LB)), some (.int (W : Nat)), none, none, none] ∧ H' = H, ?_, ?_⟩
    · refine ⟨_, rfl, _, rfl, hz lA, _, rfl, _, rfl, hz lB, _, _, rfl, ?_, rfl⟩
      show [_, _, some (V.int (if ((mS LB).length : Int) > ((mS LA).length : Int) then ((mS LB).length : Int) else ((mS LA).length : Int))), _, _, _] = _
      rw [mS_len, mS_len, hW]
      by_cases h : (LB.length : Int) > (LA.length : Int)
      · rw [if_pos h, show max LA.length LB.length = LB.length by omega]
      · rw [if_neg h, show max LA.length LB.length = LA.length by omega]
    rintro _ H1 ⟨rfl, rfl⟩
    refine ⟨fun σ' H' => σ' = [some (.str (mS LA)), some (.str (mS LB)), some (.int (W : Nat)), some (.str (mS (LA ++ List.replicate (W - LA.length) 48))), some (.str (mS (LB ++ List.replicate (W - LB.length) 48))), none] ∧ Same H1 H', ?_, ?_⟩
    · refine ⟨_, rfl, _, rfl, _, rfl, _, rfl, hz lA, _, _, rfl, rfl, 48, W - LA.length, by rw [e_0], ?_, by omega, _, _, rfl, rfl, ?_, ?_⟩
      · show V.int ((W : Int) - ((mS LA).length : Int)) = _
        rw [mS_len, show (W : Int) - (LA.length : Int) = ((W - LA.length : Nat) : Int) by omega]
      · rw [mS_len, show (⟨(List.replicate (W - LA.length) 48).toArray⟩ : Str) = mS (List.replicate (W - LA.length) 48) from rfl, mS_len, List.length_replicate]
        exact sizeBig (by omega)
      refine ⟨_, rfl, _, rfl, _, rfl, _, rfl, hz lB, _, _, rfl, rfl, 48, W - LB.length, by rw [e_0], ?_, by omega, _, _, rfl, rfl, ?_, by show 2 ≤ sizeLine; decide, fun r nr => ⟨r, _, rfl, .inl (.inl upd_same), rfl, _, _, rfl, _, _, rfl, rfl, ?_⟩⟩
      · show V.int ((W : Int) - ((mS LB).length : Int)) = _
        rw [mS_len, show (W : Int) - (LB.length : Int) = ((W - LB.length : Nat) : Int) by omega]
      · rw [mS_len, show (⟨(List.replicate (W - LB.length) 48).toArray⟩ : Str) = mS (List.replicate (W - LB.length) 48) from rfl, mS_len, List.length_replicate]
        exact sizeBig (by omega)
      · rw [← mS_app, ← mS_app]
        exact ⟨rfl, same_new nr⟩
    rintro _ H2 ⟨rfl, s2⟩
    obtain ⟨X, eX⟩ : ∃ X, X = LA ++ List.replicate (W - LA.length) 48 := ⟨_, rfl⟩
    obtain ⟨Y, eY⟩ : ∃ Y, Y = LB ++ List.replicate (W - LB.length) 48 := ⟨_, rfl⟩
    have lX : X.length = W := by rw [eX, List.length_append, List.length_replicate]; omega
    have lY : Y.length = W := by rw [eY, List.length_append, List.length_replicate]; omega
    have app48 : ∀ {L : List Nat} (k : Nat), Dig L → Dig (L ++ List.replicate k 48) := fun k h c hc => by
      rcases List.mem_append.mp hc with h' | h'
      · exact h c h'
      · exact .inl (List.eq_of_mem_replicate h')
    have dX : Dig X := by rw [eX]; exact app48 _ dA
    have dY : Dig Y := by rw [eY]; exact app48 _ dB
    have vX : bv d1 X = n := by rw [eX, bv_rep0 rfl, vA]
    have vY : bv d1 Y = m := by rw [eY, bv_rep0 rfl, vB]
    rw [← eX, ← eY]
    have hW1 : W ≤ 401 := by omega
    refine ⟨_, rfl, _, rfl, by omega, by omega, fun D nD => ?_⟩
    let Z := List.zipWith (fun x y => d1 x + d1 y) X Y
    have lZ : Z.length = W := by
      show (List.zipWith _ X Y).length = W
      rw [List.length_zipWith]
      omega
    refine lc_range (lo := 0) (n := W) (Pv := fun i Hc => Hc D = some (.lst ((Z.take i).map fun x => V.int (x : Nat))) ∧ Same H2 Hc) ⟨upd_same, same_new nD⟩ ?_ ?_
    · rintro i Hc hi ⟨eD, sc⟩
      have hx : X[i]? = some (X[i]'(by omega)) := List.getElem?_eq_getElem (by omega)
      have hy : Y[i]? = some (Y[i]'(by omega)) := List.getElem?_eq_getElem (by omega)
      have hZ : Z[i]? = some (d1 (X[i]'(by omega)) + d1 (Y[i]'(by omega))) := by
        show (List.zipWith _ X Y)[i]? = _
        rw [List.getElem?_zipWith, hx, hy]
      refine ⟨rfl, _, rfl, _, rfl, _, _, X[i]'(by omega), rfl, rfl, ?_, ?_, ⟨#[X[i]'(by omega)]⟩, _, rfl, int_dig (dX.at hx), by show (1 : Nat) ≤ 640; decide, _, rfl, _, rfl, _, _, Y[i]'(by omega), rfl, rfl, ?_, ?_, ⟨#[Y[i]'(by omega)]⟩, _, rfl, int_dig (dY.at hy), by show (1 : Nat) ≤ 640; decide, _, _, rfl, rfl, _, eD, ?_, ?_, ?_⟩
      · rw [mS_len]; exact sizeBig (by omega)
      · rw [Int.zero_add]
        exact atI_nat hx
      · rw [mS_len]; exact sizeBig (by omega)
      · rw [Int.zero_add]
        exact atI_nat hy
      · rw [List.length_map, List.length_take]
        exact Nat.lt_of_le_of_lt (by omega : _ ≤ 401) (by decide)
      · rw [upd_same, take_snoc hZ, List.map_append]
        show _ = some (HO.lst (_ ++ [V.int ((d1 (X[i]'(by omega)) + d1 (Y[i]'(by omega)) : Nat) : Int)]))
        rw [show ((d1 (X[i]'(by omega)) + d1 (Y[i]'(by omega)) : Nat) : Int) = ((d1 (X[i]'(by omega)) : Nat) : Int) + ((d1 (Y[i]'(by omega)) : Nat) : Int) by omega]
      · intro b o e
        rw [upd_ne (ne_of_none e nD)]
        exact sc _ _ e
    · rintro Hc ⟨eD, sc⟩
      rw [List.take_of_length_le (by omega)] at eD
      refine ⟨D, Z, rfl, SqL.of eD, by omega, fun H' s' => ?_⟩
      have e : bv m2 Z = n ^^^ m := by rw [← vX, ← vY]; exact bv_zip X Y (by omega)
      rw [e]
      exact q _ ((s2.trans sc).trans s')
end
end KQ

namespace KQ
open PySem PySem.Spec PyProof.Rows L2
theorem bv_zero {f : Nat → Nat} (h : f 0 = 0) : ∀ n : Nat, bv f (List.replicate n 0) = 0
  | 0 => rfl
  | n + 1 => by
    show f 0 + 2 * bv f (List.replicate n 0) = 0
    rw [h, bv_zero h n]
theorem inner_step {da db u k j : Nat} (ha : da < 2) (hb : db < 2) (hu : u < 2 ^ j) : (da * u * 2 ^ k) ^^^ (m2 (da * db) * 2 ^ (k + j)) = da * (u + 2 ^ j * db) * 2 ^ k := by
  rw [add_xor hu hb]
  have h1 : da = 0 ∨ da = 1 := by omega
  have h2 : db = 0 ∨ db = 1 := by omega
  rcases h1 with rfl | rfl
  · have : m2 (0 * db) = 0 := by rw [Nat.zero_mul]; rfl
    rw [this]
    simp
  · rw [Nat.one_mul, Nat.one_mul, Nat.one_mul, xor_shift]
    congr 1
    rw [Nat.mul_assoc, ← Nat.pow_add, Nat.add_comm j k]
    congr 1
    rcases h2 with rfl | rfl <;> rfl
section
variable {P : Program} {w : World} {K : PySem.W.Frag} {mg : Str → Option Value} {base : Heap}
theorem ok_by {f fT : Addr} {fd dT : FuncData} {k : Nat} (F : Fun K "_law_by" "_law_by" sBy f fd) (FT : Fun K "_law_trim" "_law_trim" sTrim fT dT) (bT : Binds K dT ["_law_bits"] []) (gT : mg "_law_trim" = some (.ref fT)) (B : Bl mg) :
    FnOk P w K mg base CX0 (k + 2) f fd ["_law_a", "_law_b"] spBy := by
  have GT : FnOk P w K mg base CX0 (k + 1) fT dT ["_law_bits"] (spTrim K) := ok_trim FT B
  refine F.ok scBy (fun vs H Q E h => ?_) (fun cdv A outer s H vs Q E hr h => ?_)
  · obtain ⟨n, m, rfl, _⟩ := h
    rfl
  · obtain ⟨n, m, rfl, hn, hm, q⟩ := h
    refine ⟨_, C8.pss_cut (ps_set (i := 2) scBy.nd rfl (.inl rfl) (pe_op op_rep (pe_lst (pa_cons pe_int pa_nil)) (pe_op op_add (pe_callB call_len_str (by rfl) B.len PySem.boot_len (pa_cons (pv 0) pa_nil)) (pe_callB call_len_str (by rfl) B.len PySem.boot_len (pa_cons (pv 1) pa_nil)))))
      (C8.pss_cut (ps_for PassesOwn.never rfl (pi_range1 (by rfl) B.range (pa_cons (pe_callB call_len_str (by rfl) B.len PySem.boot_len (pa_cons (pv 0) pa_nil)) pa_nil)) (pg_name (i := 3) scBy.nd rfl (.inl rfl))
        (pss_one (ps_for PassesOwn.never rfl (pi_range1 (by rfl) B.range (pa_cons (pe_callB call_len_str (by rfl) B.len PySem.boot_len (pa_cons (pv 1) pa_nil)) pa_nil)) (pg_name (i := 4) scBy.nd rfl (.inl rfl))
          (pss_one (ps_asg (pe_op op_add (pe_ix ix_list (pv 2) (pe_op op_add (pv 3) (pv 4)) (fun _ _ => rfl))
              (pe_op op_mul (pe_callTy call_int_str (by rfl) B.int bootI (pa_cons (pe_ix ix_str (pv 0) (pv 3) (fun _ _ => rfl)) pa_nil)) (pe_callTy call_int_str (by rfl) B.int bootI (pa_cons (pe_ix ix_str (pv 1) (pv 4) (fun _ _ => rfl)) pa_nil))))
            (pg_sub (pv 2) (pe_op op_add (pv 3) (pv 4)) set_list))))))
      (pss_one (ps_ret (pe_call GT hr (by rfl) gT FT.kp bT .nil pass0 (pa_cons (pv 2) pa_nil))))), ?_⟩
    have lA := lsb_le hn
    have lB := lsb_le hm
    have dA := lsb_dig n
    have dB := lsb_dig m
    have vA := lsb_val n
    have vB := lsb_val m
    generalize lsb n = LA at *
    generalize lsb m = LB at *
    have hz : ∀ {L : List Nat}, L.length ≤ 201 → (mS L).length ≤ sizeLine := fun h => by rw [mS_len]; exact sizeBig (by omega)
    obtain ⟨T, hT⟩ : ∃ T : Nat, T = LA.length + LB.length := ⟨_, rfl⟩
    refine ⟨fun σ' H' => ∃ fo : Addr, σ' = [some (.str (mS LA)), some (.str (mS LB)), some (.ref fo), none, none] ∧ H fo = none ∧ H' fo = some (.lst ((List.replicate T 0).map fun x : Nat => V.int (x : Nat))) ∧ Same H H', ?_, ?_⟩
    · refine ⟨by show 1 ≤ sizeLine; decide, fun l nl => ⟨_, rfl, _, rfl, hz lA, _, rfl, _, rfl, hz lB, _, _, rfl, rfl, l, (T : Int), [V.int 0], rfl, ?_, upd_same, by omega, by omega, ?_, fun p np => ?_⟩⟩
      · show V.int (((mS LA).length : Int) + ((mS LB).length : Int)) = _
        rw [mS_len, mS_len, show (LA.length : Int) + (LB.length : Int) = (T : Int) by omega]
      · rw [Int.toNat_natCast]
        exact Nat.le_trans (by show 1 * T ≤ 402; omega) (by decide)
      · have hpl : p ≠ l := fun z => by rw [z, upd_same] at np; cases np
        have np' : H p = none := by rw [upd_ne hpl] at np; exact np
        refine ⟨p, rfl, np', ?_, (same_new nl).trans (same_new np)⟩
        rw [upd_same, Int.toNat_natCast, List.flatten_replicate_singleton, List.map_replicate]
        rfl
    rintro _ H1 ⟨fo, rfl, nfo, efo, s1⟩
    refine ⟨fun σ' H' => ∃ (Fs : List Nat) (s3 s4 : Option V), σ' = [some (.str (mS LA)), some (.str (mS LB)), some (.ref fo), s3, s4] ∧ Fs.length = T ∧ H' fo = some (.lst (Fs.map fun x => V.int (x : Nat))) ∧ Same H H' ∧ bv m2 Fs = md n m, ?_, ?_⟩
    · have cz : ∀ {L : List Nat}, L.length ≤ 201 → ((mS L).length : Int) = (L.length : Int) := fun _ => by rw [mS_len]
      refine ⟨_, rfl, _, rfl, hz lA, _, rfl, by rw [cz lA]; omega, by rw [cz lA]; omega, for_range (n := LA.length) (fun k σ' H' => ∃ (Fs : List Nat) (s3 s4 : Option V), σ' = [some (.str (mS LA)), some (.str (mS LB)), some (.ref fo), s3, s4] ∧ Fs.length = T ∧ H' fo = some (.lst (Fs.map fun x => V.int (x : Nat))) ∧ Same H H' ∧ bv m2 Fs = md (bv d1 (LA.take k)) m)
        ⟨_, _, _, rfl, List.length_replicate, efo, s1, by rw [bv_zero rfl, List.take_zero, show bv d1 [] = 0 from rfl, md_zl]⟩ ?_ ?_⟩
      · rintro kk _ H2 hk ⟨Fs, s3, s4, rfl, lF, eF, s2, hv⟩
        have hx : LA[kk]? = some LA[kk] := List.getElem?_eq_getElem hk
        have da := d1_lt LA[kk]
        have bt := bv_take d1 hx
        have ltk : bv d1 (LA.take kk) < 2 ^ kk := by
          have := bv_lt d1_lt (LA.take kk)
          rw [List.length_take, Nat.min_eq_left (by omega)] at this
          exact this
        refine ⟨_, rfl, _, rfl, hz lB, _, rfl, by rw [cz lB]; omega, by rw [cz lB]; omega, for_range (n := LB.length) (fun j σ' H' => ∃ (Fs : List Nat) (s4 : Option V), σ' = [some (.str (mS LA)), some (.str (mS LB)), some (.ref fo), some (.int (0 + (kk : Nat))), s4] ∧ Fs.length = T ∧ H' fo = some (.lst (Fs.map fun x => V.int (x : Nat))) ∧ Same H H' ∧ bv m2 Fs = md (bv d1 (LA.take kk)) m ^^^ (d1 LA[kk] * bv d1 (LB.take j) * 2 ^ kk))
          ⟨_, _, rfl, lF, eF, s2, by rw [List.take_zero, show bv d1 [] = 0 from rfl, Nat.mul_zero, Nat.zero_mul, Nat.xor_zero]; exact hv⟩ ?_ ?_⟩
        · rintro j _ H3 hj ⟨Fs, s4, rfl, lF, eF, s3', hv⟩
          have hy : LB[j]? = some LB[j] := List.getElem?_eq_getElem hj
          have db := d1_lt LB[j]
          have btj := bv_take d1 hy
          have ltj : bv d1 (LB.take j) < 2 ^ j := by
            have := bv_lt d1_lt (LB.take j)
            rw [List.length_take, Nat.min_eq_left (by omega)] at this
            exact this
          have hi : kk + j < Fs.length := by omega
          have hF : Fs[kk + j]? = some Fs[kk + j] := List.getElem?_eq_getElem hi
          have eidx : (0 : Int) + (kk : Int) + (0 + (j : Int)) = ((kk + j : Nat) : Int) := by omega
          have atF : atI (Fs.map fun x => V.int (x : Nat)) ((0 : Int) + (kk : Int) + (0 + (j : Int))) = some (.int (Fs[kk + j] : Nat)) := by
            rw [eidx]
            exact atI_nat (by rw [List.getElem?_map, hF]; rfl)
          refine ⟨_, rfl, _, rfl, _, rfl, _, _, rfl, rfl, fo, _, _, .int (Fs[kk + j] : Nat), rfl, rfl, SqL.of eF, atF, ?_⟩
          refine ⟨_, rfl, _, rfl, _, _, LA[kk], rfl, rfl, hz lA, by rw [Int.zero_add]; exact atI_nat hx, ⟨#[LA[kk]]⟩, _, rfl, int_dig (dA.at hx), by show (1 : Nat) ≤ 640; decide, _, rfl, _, rfl, _, _, LB[j], rfl, rfl, hz lB, by rw [Int.zero_add]; exact atI_nat hy, ⟨#[LB[j]]⟩, _, rfl, int_dig (dB.at hy), by show (1 : Nat) ≤ 640; decide, _, _, rfl, rfl, .inl ⟨by omega, by omega⟩, _, _, rfl, rfl, ?_⟩
          refine ⟨_, rfl, _, rfl, _, rfl, _, _, rfl, rfl, fo, _, _, kk + j, rfl, rfl, eF, ?_, ?_⟩
          · rw [eidx, List.length_map]
            unfold ixN
            rw [if_pos (by omega), if_pos (by omega), Int.toNat_natCast]
          · refine ⟨Fs.set (kk + j) (Fs[kk + j] + d1 LA[kk] * d1 LB[j]), _, rfl, by rw [List.length_set]; exact lF, ?_, ?_, ?_⟩
            · rw [upd_same, List.map_set]
              have e : ((Fs[kk + j] + d1 LA[kk] * d1 LB[j] : Nat) : Int) = ((Fs[kk + j] : Nat) : Int) + ((d1 LA[kk] : Nat) : Int) * ((d1 LB[j] : Nat) : Int) := by push_cast; rfl
              rw [e]
            · intro b o e
              rw [upd_ne (ne_of_none e nfo)]
              exact s3' _ _ e
            · rw [bv_set _ hF, hv, btj, Nat.xor_assoc, inner_step da db ltj]
        · rintro _ H3 ⟨Fs, s4, rfl, lF, eF, s3', hv⟩
          refine ⟨Fs, _, _, rfl, lF, eF, s3', ?_⟩
          rw [List.take_of_length_le (Nat.le_refl _), vB] at hv
          rw [hv, bt, add_xor ltk da, md_addl, md_mul da]
      · rintro _ H2 ⟨Fs, s3, s4, rfl, lF, eF, s2, hv⟩
        rw [List.take_of_length_le (Nat.le_refl _), vA] at hv
        exact ⟨Fs, _, _, rfl, lF, eF, s2, hv⟩
    rintro _ H2 ⟨Fs, s3, s4, rfl, lF, eF, s2, hv⟩
    refine ⟨_, rfl, fo, Fs, rfl, SqL.of eF, by omega, fun H' s' => ?_⟩
    rw [hv]
    exact q _ (s2.trans s')
end
end KQ

namespace KQ
open PySem PySem.Spec PyProof.Rows L2
/-! ### several clauses, each with a name for the exception -/
/-- what clauses that all write the slot k wish of an exception, one behind the other -/
def wList (K : PySem.W.Frag) (k : Nat) (W0 : WX) (D : Ends) : List (Value × (Addr → Value → Option Addr → TS)) → WX
  | [] => W0
  | z :: more => wAs K z.1 k z.2 (wList K k W0 D more) D
inductive Clauses (X : Cx) (nm : Str) : List ExceptHandler → List (Value × (Addr → Value → Option Addr → TS)) → Prop
  | done : Clauses X nm [] []
  | next {x : Str} {cl : Value} {tk : Addr → Value → Option Addr → TS} {s0 : Stmt} {ss : List Stmt} {p1 p2 : Pos} {hh : List ExceptHandler} {ll : List (Value × (Addr → Value → Option Addr → TS))} (named : Names X x cl)
      (body : ∀ (r : Addr) (ob : Obj) (k : Value) (d : Option Addr) (pn : List (Addr × Obj)), Zc k d ob → (∃ vs, ob.data = .fields vs) → PSs (X.suite r ((r, ob) :: pn)) (s0 :: ss) (tk r k d)) (more : Clauses X nm hh ll) :
      Clauses X nm (.ExceptHandler (some (.Name x p1)) (some nm) (s0 :: ss) p2 :: hh) ((cl, tk) :: ll)
section
variable {X : Cx} {body : List Stmt} {h0 : ExceptHandler} {hh : List ExceptHandler} {ll : List (Value × (Addr → Value → Option Addr → TS))} {pos : Pos} {tb : WX → TS} {W0 : WX} {nm : Str} {k : Nat}
theorem ps_try_list (hst : X.stack = X.env :: X.outer) (hfr0 : X.env.frame = some X.env.locals) (nd : X.N.Nodup) (hk : X.N[k]? = some nm) (hlo : X.env.kindOf nm = some .local) (tk : Takes X W0)
    (hb : ∀ (W : WX) (pn : List (Addr × Obj)) (xe : Value → Shared → Prop), Takes (X.tr pn xe) W → PassesOwn (model X.prog X.w) X.A X.env xe → PSs (X.tr pn xe) body (tb W))
    (cs : Clauses X nm (h0 :: hh) ll) : PS X (.Try body (h0 :: hh) [] [] pos) (fun D σ H => tb (wList X.K k W0 D ll) D σ H) := by
  refine ⟨fun pins s0 σ0 H0 D I0 want => ?_⟩
  have okX := I0.ok
  have frA : X.A.frames = some (X.env :: X.outer) := by rw [okX.frames, hst]
  refine wpAny_Try_except ?_
  refine wpAny_mono ((hb (wList X.K k W0 D ll) (X.pn ++ pins) (fun ex t1 => wpAny (model X.prog X.w) X.A (noteFrame ex X.env) (fun _ t2 => wpAny (model X.prog X.w) X.A (setFlight ex none) (fun _ t3 =>
    wpAny (model X.prog X.w) X.A (handleBy ex X.env (h0 :: hh)) (SP X pins D) X.xe t3) X.xe t2) X.xe t1) (fun u s1 xx => ?_) PassesOwn.looking).run [] s0 σ0 H0 D (I0.toTry _) want) (fun fl s1 got => ?_) (fun _ _ z => z)
  · obtain ⟨a, B, sI, pins1, σ1, H1, kls, d, rfl, J1, nb, up1, sky1, na, os, ag, wish⟩ := xx
    have J : Inv X pins σ1 H1 sI := J1.ofTry okX
    show wpAny (model X.prog X.w) X.A (noteFrame (.ref a) X.env) _ _ _
    refine Sky.land Zc.steady frA hfr0 (by rw [← hst]; exact sky1) fun hp3 fly3 up3 => ?_
    have J3 : Inv X pins σ1 H1 { s1 with heap := hp3 } := J.landed nb fly3.1 (up1.trans up3) os ag
    obtain ⟨o3, vs3, e3, z3, f3⟩ := fly3.there
    have off : a ∉ frs (X.env :: X.outer) := fun hm => by
      obtain ⟨_, o', e', hnf⟩ := fly3.2.2.1.mem hm
      rw [e3] at e'
      cases e'
      exact hnf _ f3
    have nL : a ≠ X.env.locals := fun z => off (List.mem_filterMap.mpr ⟨X.env, List.mem_cons_self, by rw [hfr0, z]⟩)
    have nF : a ∉ X.fs := fun hm => by
      obtain ⟨e, he, q⟩ := List.mem_filterMap.mp hm
      exact off (List.mem_filterMap.mpr ⟨e, List.mem_cons_of_mem _ he, q⟩)
    have S3 := J3.suite e3 f3 na nL nF
    have looks : PySem.W.Looks (model X.prog X.w) hp3 (typeOf (.ref a)) kls := fun A Q E s kk q => wpAny_typeOf_ref (kk _ _ e3) (by rw [z3.1]; exact q)
    have each : ∀ {hs' : List ExceptHandler} {l' : List (Value × (Addr → Value → Option Addr → TS))}, Clauses X nm hs' l' → wList X.K k W0 D l' kls d σ1 H1 →
        wpAny (model X.prog X.w) X.A (handleBy (.ref a) X.env hs') (SP X pins D) X.xe { s1 with heap := hp3 } := by
      intro hs' l' cl
      induction cl with
      | done =>
        intro out
        refine wpAny_handleBy_nil ?_
        obtain ⟨_, _, _, ob, vs, T, oT, tt, he, hz, hd, h1, hr⟩ := id fly3
        unfold PySem.passOn
        refine wpAny_bind (wpAny_field he hd h1 ?_)
        rw [if_neg (by simp : ¬ ((Value.ref T == Value.none) = true))]
        have go : wpAny (model X.prog X.w) X.A (setFlight (.ref a) X.env.frame) (fun _ s4 => wpAny (model X.prog X.w) X.A (throw (.ref a) : Sem Flow) (SP X pins D) X.xe s4) X.xe { s1 with heap := hp3 } := by
          rw [hfr0]
          refine HandSPX.setFlight_upZ fly3 fun hp4 hh4 up4 => wpAny_throw (tk _ _ ?_)
          exact ⟨a, B, sI, pins, σ1, H1, kls, d, rfl, J, nb, (up1.trans up3).trans up4, .inr (.inr (by rw [hst]; exact hh4)), na, os, ag, out⟩
        first
          | exact wpAny_bind (wpAny_pure (wpAny_bind go))
          | exact wpAny_bind go
      | @next x cl tc s0 ss p1 p2 hs2 l2 named suite more ih =>
        intro ask
        obtain ⟨b, hb1, yes, no⟩ := ask
        refine wpAny_handleBy_cons (codeAny_handlers_test ?_) (by intro q; cases q)
        have LM := PySem.W.exm_one (M := model X.prog X.w) (J3.kIn) looks hb1
        have test : ∀ {Q E : Value → Shared → Prop}, Q cl { s1 with heap := hp3 } → wpAny (model X.prog X.w) (X.A.mark (some (.ref a))) (eval (.Name x p1) X.env) Q E { s1 with heap := hp3 } := fun {Q E} q => by
          obtain ⟨hg, nodbg, hm | ⟨hm, hv, hnn⟩⟩ := named
          · exact ld_glob (X := X.suite a ((a, o3) :: (X.pn ++ pins))) S3 hg hm q nodbg
          · exact ld_blt (X := X.suite a ((a, o3) :: (X.pn ++ pins))) S3 hg hm hv q hnn nodbg
        refine test (LM.here ?_)
        cases b with
        | false =>
          show wpAny _ X.A (handleBy (.ref a) X.env hs2) _ _ _
          exact ih (no rfl)
        | true =>
          refine codeAny_handlers_suite_as ?_
          refine HandSPX.lands_againZ fly3 fun hp4 fly4 up4 => ?_
          have J4 : Inv X pins σ1 H1 { s1 with heap := hp4 } := J.landed nb fly4.1 ((up1.trans up3).trans up4) os ag
          obtain ⟨o4, vs4, e4, z4, f4⟩ := fly4.there
          refine store_ok (X := X.suite a ((a, o4) :: (X.pn ++ pins))) (v := .ref a) (J4.suite e4 f4 na nL nF) nd hk (.inl hlo) rfl (fun s5 S5 => ?_) (.inr hlo)
          refine wpAny_mono ((suite a o4 kls d (X.pn ++ pins) z4 ⟨_, f4⟩).run [] s5 _ H1 _ S5 (yes rfl a na)) (fun fl6 s6 got6 => ?_) (fun _ _ z => False.elim z)
          have gone : ∀ {σ6 : L2.St} {H6 : Hp} {Q : Shared → Prop}, Inv (X.suite a ((a, o4) :: (X.pn ++ pins))) [] σ6 H6 s6 → (∀ s7, Inv X pins (σ6.set k none) H6 s7 → Q s7) →
              wpAny (model X.prog X.w) X.A (do bindName X.env nm .none; unbindBehindTheSuite X.env nm p2) (fun _ s7 => Q s7) X.xe s6 := fun S6 hq => gone_ok (S6.unsuite okX) nd hk hlo hq
          cases fl6 with
          | ret u =>
            obtain ⟨v6, σ6, H6, S6, r6, q6⟩ := got6
            exact gone S6 fun s7 J7 => ⟨_, _, _, J7, r6, q6⟩
          | next =>
            obtain ⟨σ6, H6, S6, q6⟩ := got6
            exact gone S6 fun s7 J7 => ⟨_, _, J7, q6⟩
          | brk =>
            obtain ⟨σ6, H6, S6, q6⟩ := got6
            exact gone S6 fun s7 J7 => ⟨_, _, J7, q6⟩
          | cont =>
            obtain ⟨σ6, H6, S6, q6⟩ := got6
            exact gone S6 fun s7 J7 => ⟨_, _, J7, q6⟩
    exact each cs wish
  · cases fl with
    | ret u =>
      obtain ⟨v, σ', H', J', r, q⟩ := got
      exact ⟨v, σ', H', J'.ofTry okX, r, q⟩
    | next =>
      obtain ⟨σ', H', J', q⟩ := got
      exact wpAny_execs_nil ⟨σ', H', J'.ofTry okX, q⟩
    | brk =>
      obtain ⟨σ', H', J', q⟩ := got
      exact ⟨σ', H', J'.ofTry okX, q⟩
    | cont =>
      obtain ⟨σ', H', J', q⟩ := got
      exact ⟨σ', H', J'.ofTry okX, q⟩
end
end KQ

namespace KQ
open PySem PySem.Spec PyProof.Rows L2 LamX
/-! ### what a call refuses -/
theorem scRef : FnScope ["_law_call", "e"] ["_law_call"] (defScope sRef) := ⟨rfl, rfl, rfl, by decide +kernel, rfl, by decide +kernel, by decide +kernel⟩
/-- the errors of both classes -/
structure Two (K : PySem.W.Frag) (mg : Str → Option Value) (CT CN : Addr) : Prop where
  gT : mg "BadText" = some (.ref CT)
  gN : mg "BadNumber" = some (.ref CN)
  nT0 : PySem.W.findIn K (.ref CT) "line" = some none
  nT1 : PySem.W.findIn K (.ref CT) "column" = some none
  nN0 : PySem.W.findIn K (.ref CN) "what" = some none
  nN1 : PySem.W.findIn K (.ref CN) "number" = some none
  XT : XfC K CT
  XN : XfC K CN
  exTT : PySem.W.exmOne K (.ref CT) (.ref CT) = some true
  exNT : PySem.W.exmOne K (.ref CN) (.ref CT) = some false
  exNN : PySem.W.exmOne K (.ref CN) (.ref CN) = some true
def TTr (CT CN : Addr) : (XK → Hp → VK → Prop) → Hp → VK → Prop := fun tl H Q =>
  tl (fun cls d H' => (∃ (dd : Addr) (l c : V), cls = .ref CT ∧ d = some dd ∧ H' dd = some (.xd (xdT l c)) ∧ ∀ p, H' p = none → Q (.ref p) (upd H' p (.lst [.str "text", l, c]))) ∨
    ∃ (dd : Addr) (wd v : V), cls = .ref CN ∧ d = some dd ∧ H' dd = some (.xd (xdB wd v)) ∧ ∀ p, H' p = none → Q (.ref p) (upd H' p (.lst [.str "number", wd, v])))
    H (fun _ H' => ([] : List V).length ≤ sizeLine ∧ ∀ p, H' p = none → Q (.ref p) (upd H' p (.lst [])))
theorem lkW (wd v : V) : (xdB wd v).lookup ("what" : Str) = some wd := by
  show ([("number", v), ("what", wd)] : List (Str × V)).lookup ("what" : Str) = some wd
  rw [lookup_put, if_neg (by decide +kernel), lookup_put, if_pos rfl]
theorem lkN (wd v : V) : (xdB wd v).lookup ("number" : Str) = some v := by
  show ([("number", v), ("what", wd)] : List (Str × V)).lookup ("number" : Str) = some v
  rw [lookup_put, if_pos rfl]
theorem lkL (l c : V) : (xdT l c).lookup ("line" : Str) = some l := by
  show ([("column", c), ("line", l)] : List (Str × V)).lookup ("line" : Str) = some l
  rw [lookup_put, if_neg (by decide +kernel), lookup_put, if_pos rfl]
theorem lkC (l c : V) : (xdT l c).lookup ("column" : Str) = some c := by
  show ([("column", c), ("line", l)] : List (Str × V)).lookup ("column" : Str) = some c
  rw [lookup_put, if_pos rfl]
theorem ref_gives {X : Cx} {CT CN g : Addr} {cdg : Value} {q : Str} (V2 : Two X.K X.mg CT CN) : GivesTo X ["_law_call", "e"] "_law_refused" (defScope sRef) g cdg (defBody sRef) "_law_call" q (TTr CT CN) := by
  intro f c' s H Q tl act hc h
  refine ⟨_, pss_cons (ps_try_list (X := (cxOf C8.CX0 X.prog X.w X.K X.mg X.base ["_law_call", "e"] "_law_refused" (defScope sRef) g cdg X.A X.stack s H C8.E0).nox) (k := 1) (nm := "e")
      (tb := fun W D σ H => ∃ Ech : XK, (∀ cls d σ' H', σ'.length = 2 → Ech cls d H' → W cls d σ' H') ∧ σ[0]? = some (some (.ref f)) ∧ H c' = some (CodeO c' q) ∧ tl Ech H (fun _ H' => D.nx σ H'))
      rfl rfl scRef.nd rfl rfl LamX.takes0 (fun W pn xe tk _ => ?_)
      (.next (cl := .ref CT) ⟨rfl, by decide, .inl V2.gT⟩ (fun a oe cls d pn hz hf => pss_one (ps_ret (pe_lst (pa_cons pe_str (pa_cons (pe_xf V2.XT V2.nT0 hz hf (pv 1)) (pa_cons (pe_xf V2.XT V2.nT1 hz hf (pv 1)) pa_nil))))))
      (.next (cl := .ref CN) ⟨rfl, by decide, .inl V2.gN⟩ (fun a oe cls d pn hz hf => pss_one (ps_ret (pe_lst (pa_cons pe_str (pa_cons (pe_xf V2.XN V2.nN0 hz hf (pv 1)) (pa_cons (pe_xf V2.XN V2.nN1 hz hf (pv 1)) pa_nil))))))
      .done)))
    (pss_one (ps_ret (pe_lst pa_nil))), ?_⟩
  · refine ⟨fun pins s' σ H' D I h' => ?_⟩
    obtain ⟨Ech, hW, h1, h2, h3⟩ := h'
    have tk' : Takes ((cxOf C8.CX0 X.prog X.w X.K X.mg X.base ["_law_call", "e"] "_law_refused" (defScope sRef) g cdg X.A X.stack s H C8.E0).tr pn xe) (fun cls d σ H => σ.length = 2 → W cls d σ H) :=
      fun u s' ⟨a, B, sI, pins, σ, H, cls, d, e, I, nb, up, sky, na, os, ag, w⟩ => tk u s' ⟨a, B, sI, pins, σ, H, cls, d, e, I, nb, up, sky, na, os, ag, w I.len⟩
    have hp := fun p1 p2 => act (fun cls d σ H => σ.length = 2 → W cls d σ H) pn xe Ech p1 p2 tk' (fun cls d σ' H' h hl => hW cls d σ' H' hl h)
    exact (pss_one (ps_expr (hp _ _))).run pins s' σ H' D I ⟨h1, h2, h3⟩
  · refine ⟨_, fun cls d σ' H' hl hE => ?_, rfl, hc, h⟩
    rcases hE with ⟨dd, l, c, rfl, rfl, hd, hq⟩ | ⟨dd, wd, v, rfl, rfl, hd, hq⟩
    · refine ⟨true, V2.exTT, fun _ a na => ?_, fun z => nomatch z⟩
      have h1 : (σ'.set 1 (some (V.ref a)))[1]? = some (some (V.ref a)) := by
        rw [List.getElem?_set_self (by omega)]
      refine ⟨_, h1, rfl, rfl, dd, _, l, rfl, hd, lkL l c, ?_⟩
      exact ⟨_, h1, rfl, rfl, dd, _, c, rfl, hd, lkC l c, by show 3 ≤ sizeLine; decide, fun p np => hq p np⟩
    · refine ⟨false, V2.exNT, (fun z => nomatch z), fun _ => ⟨true, V2.exNN, fun _ a na => ?_, fun z => nomatch z⟩⟩
      have h1 : (σ'.set 1 (some (V.ref a)))[1]? = some (some (V.ref a)) := by
        rw [List.getElem?_set_self (by omega)]
      refine ⟨_, h1, rfl, rfl, dd, _, wd, rfl, hd, lkW wd v, ?_⟩
      exact ⟨_, h1, rfl, rfl, dd, _, v, rfl, hd, lkN wd v, by show 3 ≤ sizeLine; decide, fun p np => hq p np⟩
end KQ

namespace KQ
open PySem PySem.Spec PyProof.Rows L2
/-! ### texts that are none -/
theorem scWr : FnScope ["_law_pen_here", "_law_text", "_law_at", "_law_sign", "_law_rows"] ["_law_pen_here"] (defScope sWr) := ⟨rfl, rfl, rfl, by decide +kernel, rfl, by decide +kernel, by decide +kernel⟩
def Wrong (H : Hp) (v : V) (l c : Int) : Prop := (∃ L col, v = .str (mS L) ∧ L.length ≤ 1000 ∧ BadAt L col ∧ l = 1 ∧ c = (col : Nat)) ∨ (Odd H v ∧ l = 0 ∧ c = 0)
def RowW (H : Hp) (x : V) : Prop := ∃ (t d : Addr) (v : V) (l c : Int), x = .ref t ∧ H t = some (.tup [v, .ref d]) ∧ H d = some (.lst [.str "text", .int l, .int c]) ∧ Wrong H v l c
theorem Wrong.same {H H' : Hp} {v : V} {l c : Int} (s : Same H H') (h : Wrong H v l c) : Wrong H' v l c := by
  rcases h with h | ⟨o, e⟩
  · exact .inl h
  · exact .inr ⟨o.same s, e⟩
theorem RowW.same {H H' : Hp} {x : V} (s : Same H H') (h : RowW H x) : RowW H' x := by
  obtain ⟨t, d, v, l, c, rfl, e1, e2, w⟩ := h
  exact ⟨t, d, v, l, c, rfl, s _ _ e1, s _ _ e2, w.same s⟩
theorem Odd.keepP {H H' : Hp} {v : V} {p c : Addr} {n : Nat} (hP : PenAt H p c n) (k : KeepP p H H') (h : Odd H v) : Odd H' v := by
  rcases h with h | h | ⟨q, xs, h, e⟩
  · exact .inl h
  · exact .inr (.inl h)
  · exact .inr (.inr ⟨q, xs, h, k _ _ (pen_off hP e (by intro kv z; cases z)) e⟩)
theorem RowW.keepP {H H' : Hp} {x : V} {p c : Addr} {n : Nat} (hP : PenAt H p c n) (k : KeepP p H H') (h : RowW H x) : RowW H' x := by
  obtain ⟨t, d, v, l, c', rfl, e1, e2, w⟩ := h
  refine ⟨t, d, v, l, c', rfl, k _ _ (pen_off hP e1 (by intro kv z; cases z)) e1, k _ _ (pen_off hP e2 (by intro kv z; cases z)) e2, ?_⟩
  rcases w with w | ⟨o, e⟩
  · exact .inl w
  · exact .inr ⟨o.keepP hP k, e⟩
theorem mk_row {H : Hp} {v : V} {l c : Int} {d t : Addr} (w : Wrong H v l c) (nd : H d = none) (nt : (upd H d (.lst [.str "text", .int l, .int c])) t = none) :
    RowW (upd (upd H d (.lst [.str "text", .int l, .int c])) t (.tup [v, .ref d])) (.ref t) :=
  ⟨t, d, v, l, c, rfl, upd_same, same_new nt _ _ upd_same, (w.same (same_new nd)).same (same_new nt)⟩
def RowsW (H : Hp) (xs : List V) : Prop := ∀ x ∈ xs, RowW H x
theorem RowsW.same {H H' : Hp} {xs : List V} (s : Same H H') (h : RowsW H xs) : RowsW H' xs := fun x hx => (h x hx).same s
theorem RowsW.cons {H : Hp} {x : V} {xs : List V} (h : RowW H x) (h' : RowsW H xs) : RowsW H (x :: xs) := fun y hy => by
  rcases List.mem_cons.mp hy with rfl | hy
  · exact h
  · exact h' y hy
theorem RowsW.nil {H : Hp} : RowsW H [] := fun y hy => by cases hy
theorem RowsW.app {H : Hp} {xs ys : List V} (h : RowsW H xs) (h' : RowsW H ys) : RowsW H (xs ++ ys) := fun y hy => by
  rcases List.mem_append.mp hy with hy | hy
  · exact h y hy
  · exact h' y hy
def spWr : Sp := fun vs H Q _ => ∃ (p c : Addr) (n : Nat), vs = [.ref p] ∧ PenAt H p c n ∧ n < 800000 ∧ ∀ x H' n', n' ≤ n + 20 → PenAt H' p c n' → KeepP p H H' → RowW H' x → Q x H'
theorem bad_in {A : List Nat} {j S : Nat} (hA : Dig A) (hj : j ≤ A.length) (hS : ¬ (S = 48 ∨ S = 49)) : BadAt (A.take j ++ [S] ++ A.drop j) (j + 1) := by
  have lj : (A.take j).length = j := by rw [List.length_take]; omega
  refine .inl ⟨j, S, ?_, ?_, hS, rfl⟩
  · rw [List.append_assoc, List.take_append_of_le_length (by omega), List.take_of_length_le (by omega)]
    exact hA.take j
  · rw [List.append_assoc, List.getElem?_append_right (by omega), lj, Nat.sub_self]
    rfl
theorem bad_end {L : List Nat} (h1 : Dig L) (h2 : ¬ Good L) : BadAt L (L.length + 1) := .inr ⟨h1, h2, rfl⟩
instance (L : List Nat) : Decidable (Dig L) := by unfold Dig; infer_instance
instance (L : List Nat) : Decidable (Good L) := by unfold Good; infer_instance
theorem w_none : ∀ H, Wrong H (.str "") 1 1 := fun H => .inl ⟨[], 1, by rw [e_no], by decide, bad_end (by decide) (by decide), rfl, rfl⟩
theorem e_10 : ("10" : Str) = mS [49, 48] := by decide +kernel
theorem e_00 : ("00" : Str) = mS [48, 48] := by decide +kernel
theorem e_0110 : ("0110" : Str) = mS [48, 49, 49, 48] := by decide +kernel
theorem e_1n : ("1\n" : Str) = mS [49, 10] := by decide +kernel
theorem w_10 : ∀ H, Wrong H (.str "10") 1 3 := fun H => .inl ⟨[49, 48], 3, by rw [e_10], by decide, bad_end (by decide) (by decide), rfl, rfl⟩
theorem w_00 : ∀ H, Wrong H (.str "00") 1 3 := fun H => .inl ⟨[48, 48], 3, by rw [e_00], by decide, bad_end (by decide) (by decide), rfl, rfl⟩
theorem w_0110 : ∀ H, Wrong H (.str "0110") 1 5 := fun H => .inl ⟨[48, 49, 49, 48], 5, by rw [e_0110], by decide, bad_end (by decide) (by decide), rfl, rfl⟩
theorem w_1n : ∀ H, Wrong H (.str "1\n") 1 2 := fun H => .inl ⟨[49, 10], 2, by rw [e_1n], by decide, .inl ⟨1, 10, by decide, rfl, by decide, rfl⟩, rfl, rfl⟩
theorem w_non : ∀ H, Wrong H .non 0 0 := fun H => .inr ⟨.inl rfl, rfl, rfl⟩
theorem w_int : ∀ H, Wrong H (.int 5) 0 0 := fun H => .inr ⟨.inr (.inl ⟨5, rfl⟩), rfl, rfl⟩
section
variable {P : Program} {w : World} {K : PySem.W.Frag} {mg : Str → Option Value} {base : Heap}
theorem ok_wr {f fPo fDr fPk : Addr} {fd dPo dDr dPk : FuncData} (F : Fun K "_law_wrong_text" "_law_wrong_text" sWr f fd) (FPo : Fun K "_law_poly" "_law_poly" sPoly fPo dPo) (bPo : Binds K dPo ["_law_pen_here", "_law_most"] []) (gPo : mg "_law_poly" = some (.ref fPo))
    (FDr : Fun K "_law_draw" "_law_draw" sDraw fDr dDr) (bDr : Binds K dDr ["_law_pen_here", "_law_many"] []) (gDr : mg "_law_draw" = some (.ref fDr)) (FPk : Fun K "_law_pick" "_law_pick" sPick fPk dPk) (bPk : Binds K dPk ["_law_pen_here", "_law_some"] []) (gPk : mg "_law_pick" = some (.ref fPk)) (B : Bl mg) :
    FnOk P w K mg base CX0 3 f fd ["_law_pen_here"] spWr := by
  have GPo : FnOk P w K mg base CX0 2 fPo dPo ["_law_pen_here", "_law_most"] spPoly := ok_poly FPo FDr bDr gDr B
  have GDr : FnOk P w K mg base CX0 1 fDr dDr ["_law_pen_here", "_law_many"] spDraw := ok_draw FDr B.int B.len
  have GPk : FnOk P w K mg base CX0 2 fPk dPk ["_law_pen_here", "_law_some"] (spPick K) := ok_pick FPk FDr bDr gDr B.int B.len
  refine F.ok scWr (fun vs H Q E h => ?_) (fun cdv A outer s H vs Q E hr h => ?_)
  · obtain ⟨p, c, n, rfl, _⟩ := h
    rfl
  · obtain ⟨p, c, n, rfl, hP, hn, q⟩ := h
    have r1 : Room 1 _ := hr.mono (by decide)
    refine ⟨_, C8.pss_cut (ps_set (i := 1) scWr.nd rfl (.inl rfl) (pe_call GPo hr (by rfl) gPo FPo.kp bPo .nil pass0 (pa_cons (pv 0) (pa_cons pe_int pa_nil))))
      (C8.pss_cut (ps_set (i := 2) scWr.nd rfl (.inl rfl) (pe_call GDr r1 (by rfl) gDr FDr.kp bDr .nil pass0 (pa_cons (pv 0) (pa_cons (pe_op op_add (pe_callB call_len_str (by rfl) B.len PySem.boot_len (pa_cons (pv 1) pa_nil)) pe_int) pa_nil))))
      (C8.pss_cut (ps_set (i := 3) scWr.nd rfl (.inl rfl) (pe_call GPk hr (by rfl) gPk FPk.kp bPk .nil pass0 (pa_cons (pv 0) (pa_cons (pe_lst (pa_cons pe_str (pa_cons pe_str (pa_cons pe_str (pa_cons pe_str (pa_cons pe_str pa_nil)))))) pa_nil))))
      (C8.pss_cut (ps_set (i := 4) scWr.nd rfl (.inl rfl) (pe_lst (pa_cons (pe_tup (pa_cons (pe_op op_add_str (pe_op op_add_str (pe_slice sl_str (pv 1) po_none (po_some (pv 2))) (pv 3)) (pe_slice sl_str (pv 1) (po_some (pv 2)) po_none)) (pa_cons (pe_lst (pa_cons pe_str (pa_cons pe_int (pa_cons (pe_op op_add (pv 2) pe_int) pa_nil)))) pa_nil))) (pa_cons (pe_tup (pa_cons pe_str (pa_cons (pe_lst (pa_cons pe_str (pa_cons pe_int (pa_cons pe_int pa_nil)))) pa_nil))) (pa_cons (pe_tup (pa_cons pe_non (pa_cons (pe_lst (pa_cons pe_str (pa_cons pe_int (pa_cons pe_int pa_nil)))) pa_nil))) pa_nil)))))
      (C8.pss_cut (ps_set (i := 4) scWr.nd rfl (.inl rfl) (pe_op op_cat (pv 4) (pe_lst (pa_cons (pe_tup (pa_cons pe_int (pa_cons (pe_lst (pa_cons pe_str (pa_cons pe_int (pa_cons pe_int pa_nil)))) pa_nil))) (pa_cons (pe_tup (pa_cons pe_str (pa_cons (pe_lst (pa_cons pe_str (pa_cons pe_int (pa_cons pe_int pa_nil)))) pa_nil))) (pa_cons (pe_tup (pa_cons pe_str (pa_cons (pe_lst (pa_cons pe_str (pa_cons pe_int (pa_cons pe_int pa_nil)))) pa_nil))) (pa_cons (pe_tup (pa_cons pe_str (pa_cons (pe_lst (pa_cons pe_str (pa_cons pe_int (pa_cons pe_int pa_nil)))) pa_nil))) pa_nil)))))))
      (pss_one (ps_ret (pe_call GPk hr (by rfl) gPk FPk.kp bPk .nil pass0 (pa_cons (pv 0) (pa_cons (pe_op op_cat (pv 4) (pe_lst (pa_cons (pe_tup (pa_cons (pe_lst (pa_cons pe_str pa_nil)) (pa_cons (pe_lst (pa_cons pe_str (pa_cons pe_int (pa_cons pe_int pa_nil)))) pa_nil))) (pa_cons (pe_tup (pa_cons pe_str (pa_cons (pe_lst (pa_cons pe_str (pa_cons pe_int (pa_cons pe_int pa_nil)))) pa_nil))) pa_nil)))) pa_nil))))))))), ?_⟩
    -- the text
    refine ⟨fun σ' H' => ∃ (A : List Nat) (n' : Nat), Dig A ∧ A.length ≤ 10 ∧ n' ≤ n + 10 ∧ σ' = [some (.ref p), some (.str (mS A)), none, none, none] ∧ PenAt H' p c n' ∧ KeepP p H H', ?_, ?_⟩
    · exact ⟨_, rfl, p, c, n, 8, rfl, hP, by omega, by decide, fun N n' H' hN hn' hP' kp => ⟨lsb N, n', lsb_dig N, lsb_le hN, by omega, rfl, hP', kp⟩⟩
    rintro _ H1 ⟨A, n1, hA, lA, hn1, rfl, hP1, kp1⟩
    -- where
    refine ⟨fun σ' H' => ∃ j : Nat, j ≤ A.length ∧ σ' = [some (.ref p), some (.str (mS A)), some (.int (j : Nat)), none, none] ∧ PenAt H' p c (n1 + 1) ∧ KeepP p H H', ?_, ?_⟩
    · have cz : ((mS A).length : Int) = (A.length : Int) := by rw [mS_len]
      refine ⟨_, rfl, _, rfl, _, rfl, by rw [mS_len]; exact sizeBig (by omega), _, _, rfl, rfl, p, c, n1, _, rfl, hP1, by omega, by rw [cz]; omega, ?_, fun y H' y0 y1 hP' hk => ⟨y.toNat, ?_, ?_, hP', kp1.trans (KeepP.of_eq hk)⟩⟩
      · rw [cz]
        exact Nat.lt_of_le_of_lt (by omega : ((A.length : Int) + 1).natAbs ≤ 11) (by decide)
      · rw [cz] at y1
        omega
      · rw [show ((y.toNat : Nat) : Int) = y by omega]
        rfl
    rintro _ H2 ⟨j, hj, rfl, hP2, kp2⟩
    -- what sign
    refine ⟨fun σ' H' => ∃ S : Nat, ¬ (S = 48 ∨ S = 49) ∧ σ' = [some (.ref p), some (.str (mS A)), some (.int (j : Nat)), some (.str (mS [S])), none] ∧ PenAt H' p c (n1 + 2) ∧ KeepP p H H', ?_, ?_⟩
    · refine ⟨_, rfl, by show 5 ≤ sizeLine; decide, fun r nr => ⟨p, c, r, n1 + 1, _, rfl, pen_sm hP2 (same_new nr), by omega, .inl (SqL.of upd_same), by simp, by show 5 ≤ 1000; decide, fun i v H' hi hP' hk => ?_⟩⟩
      obtain ⟨S, rfl, hS⟩ : ∃ S : Nat, v = .str (mS [S]) ∧ ¬ (S = 48 ∨ S = 49) := by
        have := List.mem_of_getElem? hi
        simp only [List.mem_cons, List.mem_nil_iff, or_false] at this
        rcases this with h | h | h | h | h <;> subst h
        · exact ⟨50, by rw [show ("2" : Str) = mS [50] from by decide +kernel], by decide⟩
        · exact ⟨32, by rw [show (" " : Str) = mS [32] from by decide +kernel], by decide⟩
        · exact ⟨120, by rw [show ("x" : Str) = mS [120] from by decide +kernel], by decide⟩
        · exact ⟨45, by rw [show ("-" : Str) = mS [45] from by decide +kernel], by decide⟩
        · exact ⟨79, by rw [show ("O" : Str) = mS [79] from by decide +kernel], by decide⟩
      exact ⟨S, hS, rfl, hP', (kp2.trans (KeepP.of_same (same_new nr))).trans (KeepP.of_eq hk)⟩
    rintro _ H3 ⟨S, hS, rfl, hP3, kp3⟩
    have zA : (mS A).length ≤ sizeLine := by rw [mS_len]; exact sizeBig (by omega)
    -- three rows
    refine ⟨fun σ' H' => ∃ (R : Addr) (xs : List V), σ' = [some (.ref p), some (.str (mS A)), some (.int (j : Nat)), some (.str (mS [S])), some (.ref R)] ∧ H' R = some (.lst xs) ∧ xs.length = 3 ∧ RowsW H' xs ∧ Same H3 H', ?_, ?_⟩
    · refine ⟨_, rfl, _, rfl, _, rfl, _, rfl, zA, _, rfl, _, _, rfl, rfl, ?_, _, rfl, _, rfl, _, rfl, _, rfl, zA, _, _, rfl, rfl, ?_, ?_⟩
      · rw [cut_to, mS_len, mS_len, List.length_take]
        exact sizeBig (by show _ + 1 ≤ 1000; omega)
      · rw [cut_to, cut_from, mS_app, mS_len, mS_len, List.length_append, List.length_take, List.length_drop]
        exact sizeBig (by show _ + 1 + _ ≤ 1000; omega)
      rw [cut_to, cut_from, mS_app, mS_app]
      have w1 : Wrong H3 (.str (mS (A.take j ++ [S] ++ A.drop j))) 1 ((j : Int) + 1) := .inl ⟨_, _, rfl, by simp; omega, bad_in hA hj hS, rfl, by omega⟩
      refine ⟨_, rfl, _, _, rfl, rfl, by show 3 ≤ sizeLine; decide, fun d1' nd1 => ⟨by show 2 ≤ sizeLine; decide, fun t1 nt1 => ?_⟩⟩
      have q1 := mk_row w1 nd1 nt1
      have s1 := (same_new (o := .lst [.str "text", .int 1, .int ((j : Int) + 1)]) nd1).trans (same_new (o := .tup [.str (mS (A.take j ++ [S] ++ A.drop j)), .ref d1']) nt1)
      generalize upd (upd H3 d1' (.lst [.str "text", .int 1, .int ((j : Int) + 1)])) t1 (.tup [.str (mS (A.take j ++ [S] ++ A.drop j)), .ref d1']) = G1 at *
      refine ⟨by show 3 ≤ sizeLine; decide, fun d2 nd2 => ⟨by show 2 ≤ sizeLine; decide, fun t2 nt2 => ?_⟩⟩
      have q2 := mk_row (w_none G1) nd2 nt2
      have s2 := (same_new (o := .lst [.str "text", .int 1, .int 1]) nd2).trans (same_new (o := .tup [.str "", .ref d2]) nt2)
      generalize upd (upd G1 d2 (.lst [.str "text", .int 1, .int 1])) t2 (.tup [.str "", .ref d2]) = G2 at *
      refine ⟨by show 3 ≤ sizeLine; decide, fun d3 nd3 => ⟨by show 2 ≤ sizeLine; decide, fun t3 nt3 => ?_⟩⟩
      have q3 := mk_row (w_non G2) nd3 nt3
      have s3 := (same_new (o := .lst [.str "text", .int 0, .int 0]) nd3).trans (same_new (o := .tup [.non, .ref d3]) nt3)
      generalize upd (upd G2 d3 (.lst [.str "text", .int 0, .int 0])) t3 (.tup [.non, .ref d3]) = G3 at *
      refine ⟨by show 3 ≤ sizeLine; decide, fun R nR => ⟨R, _, rfl, upd_same, rfl, ?_, ((s1.trans s2).trans s3).trans (same_new nR)⟩⟩
      exact RowsW.same (same_new nR) (.cons ((q1.same s2).same s3) (.cons (q2.same s3) (.cons q3 .nil)))
    rintro _ H4 ⟨R, xs, rfl, eR, lx, hw, s4⟩
    -- four more
    refine ⟨fun σ' H' => ∃ (R : Addr) (xs : List V), σ' = [some (.ref p), some (.str (mS A)), some (.int (j : Nat)), some (.str (mS [S])), some (.ref R)] ∧ H' R = some (.lst xs) ∧ xs.length = 7 ∧ RowsW H' xs ∧ Same H3 H', ?_, ?_⟩
    · refine ⟨_, rfl, by show 3 ≤ sizeLine; decide, fun d1' nd1 => ⟨by show 2 ≤ sizeLine; decide, fun t1 nt1 => ?_⟩⟩
      have q1 := mk_row (w_int H4) nd1 nt1
      have s1 := (same_new (o := .lst [.str "text", .int 0, .int 0]) nd1).trans (same_new (o := .tup [.int 5, .ref d1']) nt1)
      generalize upd (upd H4 d1' (.lst [.str "text", .int 0, .int 0])) t1 (.tup [.int 5, .ref d1']) = G1 at *
      refine ⟨by show 3 ≤ sizeLine; decide, fun d2 nd2 => ⟨by show 2 ≤ sizeLine; decide, fun t2 nt2 => ?_⟩⟩
      have q2 := mk_row (w_10 G1) nd2 nt2
      have s2 := (same_new (o := .lst [.str "text", .int 1, .int 3]) nd2).trans (same_new (o := .tup [.str "10", .ref d2]) nt2)
      generalize upd (upd G1 d2 (.lst [.str "text", .int 1, .int 3])) t2 (.tup [.str "10", .ref d2]) = G2 at *
      refine ⟨by show 3 ≤ sizeLine; decide, fun d3 nd3 => ⟨by show 2 ≤ sizeLine; decide, fun t3 nt3 => ?_⟩⟩
      have q3 := mk_row (w_00 G2) nd3 nt3
      have s3 := (same_new (o := .lst [.str "text", .int 1, .int 3]) nd3).trans (same_new (o := .tup [.str "00", .ref d3]) nt3)
      generalize upd (upd G2 d3 (.lst [.str "text", .int 1, .int 3])) t3 (.tup [.str "00", .ref d3]) = G3 at *
      refine ⟨by show 3 ≤ sizeLine; decide, fun d4 nd4 => ⟨by show 2 ≤ sizeLine; decide, fun t4 nt4 => ?_⟩⟩
      have q4 := mk_row (w_0110 G3) nd4 nt4
      have s5 := (same_new (o := .lst [.str "text", .int 1, .int 5]) nd4).trans (same_new (o := .tup [.str "0110", .ref d4]) nt4)
      generalize upd (upd G3 d4 (.lst [.str "text", .int 1, .int 5])) t4 (.tup [.str "0110", .ref d4]) = G4 at *
      have sG := ((s1.trans s2).trans s3).trans s5
      refine ⟨by show 4 ≤ sizeLine; decide, fun R2 nR2 => ⟨R, R2, _, _, rfl, rfl, same_new nR2 _ _ (sG _ _ eR), upd_same, ?_, fun R3 nR3 => ?_⟩⟩
      · rw [lx]
        show 3 + 4 ≤ sizeLine
        decide
      refine ⟨R3, _, rfl, upd_same, by rw [List.length_append, lx]; rfl, ?_, ((s4.trans sG).trans (same_new nR2)).trans (same_new nR3)⟩
      exact RowsW.same (same_new nR3) (RowsW.same (same_new nR2) ((hw.same sG).app (.cons (((q1.same s2).same s3).same s5) (.cons ((q2.same s3).same s5) (.cons (q3.same s5) (.cons q4 .nil))))))
    clear eR lx hw s4
    rintro _ H5 ⟨R, xs, rfl, eR, lx, hw, s4⟩
    -- two more, and one of them
    refine ⟨_, rfl, _, rfl, by show 1 ≤ sizeLine; decide, fun o1 no1 => ?_⟩
    have so := same_new (o := .lst [.str "1"]) no1
    have wo : Wrong (upd H5 o1 (.lst [.str "1"])) (.ref o1) 0 0 := .inr ⟨.inr (.inr ⟨o1, _, rfl, upd_same⟩), rfl, rfl⟩
    generalize upd H5 o1 (.lst [.str "1"]) = G0 at *
    refine ⟨by show 3 ≤ sizeLine; decide, fun d1' nd1 => ⟨by show 2 ≤ sizeLine; decide, fun t1 nt1 => ?_⟩⟩
    have q1 := mk_row wo nd1 nt1
    have s1 := (same_new (o := .lst [.str "text", .int 0, .int 0]) nd1).trans (same_new (o := .tup [.ref o1, .ref d1']) nt1)
    generalize upd (upd G0 d1' (.lst [.str "text", .int 0, .int 0])) t1 (.tup [.ref o1, .ref d1']) = G1 at *
    refine ⟨by show 3 ≤ sizeLine; decide, fun d2 nd2 => ⟨by show 2 ≤ sizeLine; decide, fun t2 nt2 => ?_⟩⟩
    have q2 := mk_row (w_1n G1) nd2 nt2
    have s2 := (same_new (o := .lst [.str "text", .int 1, .int 2]) nd2).trans (same_new (o := .tup [.str "1\n", .ref d2]) nt2)
    generalize upd (upd G1 d2 (.lst [.str "text", .int 1, .int 2])) t2 (.tup [.str "1\n", .ref d2]) = G2 at *
    have sG := (so.trans s1).trans s2
    refine ⟨by show 2 ≤ sizeLine; decide, fun R2 nR2 => ⟨R, R2, _, _, rfl, rfl, same_new nR2 _ _ (sG _ _ eR), upd_same, ?_, fun R3 nR3 => ?_⟩⟩
    · rw [lx]
      show 7 + 2 ≤ sizeLine
      decide
    have sAll := ((s4.trans sG).trans (same_new (o := .lst [.ref t1, .ref t2]) nR2)).trans (same_new (o := .lst (xs ++ [.ref t1, .ref t2])) nR3)
    have hw' : RowsW _ (xs ++ [.ref t1, .ref t2]) := RowsW.same (same_new (o := .lst (xs ++ [.ref t1, .ref t2])) nR3) (RowsW.same (same_new (o := .lst [.ref t1, .ref t2]) nR2) ((hw.same sG).app (.cons (q1.same s2) (.cons q2 .nil))))
    have hP6 := pen_sm hP3 sAll
    refine ⟨p, c, R3, n1 + 2, xs ++ [.ref t1, .ref t2], rfl, hP6, by omega, .inl (SqL.of upd_same), by simp, by rw [List.length_append, lx]; show 7 + 2 ≤ 1000; decide, fun i v H' hi hP' hk => ?_⟩
    exact q v H' (n1 + 3) (by omega) hP' ((kp3.trans (KeepP.of_same sAll)).trans (KeepP.of_eq hk)) ((hw' v (List.mem_of_getElem? hi)).keepP hP6 (KeepP.of_eq hk))
end
end KQ

namespace KQ
open PySem PySem.Spec PyProof.Rows L2 LamX
/-! ### the law -/
theorem scLaw : FnScope ["_law_script", "_law_pen_here", "_law_a", "_law_b", "_law_c", "_law_told", "_law_one", "_law_two", "_law_both", "_law_bad", "_law_due", "_law_worse", "_law_other", "_law_tries", "_law_found"] ["_law_script"] (defScope sLaw) := ⟨rfl, rfl, rfl, by decide +kernel, rfl, by decide +kernel, by decide +kernel⟩
theorem bootAll : bootBuiltins "all" = some (.builtin "all") := by decide +kernel
/-- all that the program's top has left -/
structure Top (K : PySem.W.Frag) (mg : Str → Option Value) (CT CN fB fN fR fO fX fD fP fQ fE fG fSu fPr fDi fDv fPn fDr fPk fPo fTm fPl fBy fRf fWr : Addr) (dB dN dR dO dX dD dP dQ dE dG dSu dPr dDi dDv dPn dDr dPk dPo dTm dPl dBy dRf dWr : FuncData) : Prop where
  B : Bl mg
  T : BT K mg CT fB dB
  N : BN K mg CN fN dN
  V : Two K mg CT CN
  FR : Fun K "read_polynomial" "read_polynomial" sRead fR dR
  bR : Binds K dR ["text"] []
  gR : mg "read_polynomial" = some (.ref fR)
  FO : Fun K "read_both" "read_both" sBoth fO dO
  bO : Binds K dO ["a", "b"] []
  gO : mg "read_both" = some (.ref fO)
  FX : Fun K "polynomial_text" "polynomial_text" sPTx fX dX
  bX : Binds K dX ["number"] []
  gX : mg "polynomial_text" = some (.ref fX)
  FD : Fun K "degree" "degree" sDeg fD dD
  bD : Binds K dD ["number"] []
  gD : mg "degree" = some (.ref fD)
  FP : Fun K "poly_times" "poly_times" sPTi fP dP
  bP : Binds K dP ["one", "other"] []
  gP : mg "poly_times" = some (.ref fP)
  FQ : Fun K "quotient_rest" "quotient_rest" sQR fQ dQ
  bQ : Binds K dQ ["number", "divisor"] []
  gQ : mg "quotient_rest" = some (.ref fQ)
  FE : Fun K "rest_of" "rest_of" sRest fE dE
  bE : Binds K dE ["number", "divisor"] []
  gE : mg "rest_of" = some (.ref fE)
  FG : Fun K "common_divisor" "common_divisor" sGcd fG dG
  bG : Binds K dG ["one", "other"] []
  gG : mg "common_divisor" = some (.ref fG)
  FSu : Fun K "sum_of" "sum_of" sSum fSu dSu
  bSu : Binds K dSu ["a", "b"] []
  gSu : mg "sum_of" = some (.ref fSu)
  FPr : Fun K "product_of" "product_of" sProd fPr dPr
  bPr : Binds K dPr ["a", "b"] []
  gPr : mg "product_of" = some (.ref fPr)
  FDi : Fun K "divided" "divided" sDivd fDi dDi
  bDi : Binds K dDi ["a", "b"] []
  gDi : mg "divided" = some (.ref fDi)
  FDv : Fun K "divisor_of" "divisor_of" sDvs fDv dDv
  bDv : Binds K dDv ["a", "b"] []
  gDv : mg "divisor_of" = some (.ref fDv)
  FPn : Fun K "_law_pen" "_law_pen" sPen fPn dPn
  bPn : Binds K dPn ["_law_script"] []
  gPn : mg "_law_pen" = some (.ref fPn)
  FDr : Fun K "_law_draw" "_law_draw" sDraw fDr dDr
  bDr : Binds K dDr ["_law_pen_here", "_law_many"] []
  gDr : mg "_law_draw" = some (.ref fDr)
  FPk : Fun K "_law_pick" "_law_pick" sPick fPk dPk
  bPk : Binds K dPk ["_law_pen_here", "_law_some"] []
  gPk : mg "_law_pick" = some (.ref fPk)
  FPo : Fun K "_law_poly" "_law_poly" sPoly fPo dPo
  bPo : Binds K dPo ["_law_pen_here", "_law_most"] []
  gPo : mg "_law_poly" = some (.ref fPo)
  FTm : Fun K "_law_trim" "_law_trim" sTrim fTm dTm
  bTm : Binds K dTm ["_law_bits"] []
  gTm : mg "_law_trim" = some (.ref fTm)
  FPl : Fun K "_law_plus" "_law_plus" sPlus fPl dPl
  bPl : Binds K dPl ["_law_a", "_law_b"] []
  gPl : mg "_law_plus" = some (.ref fPl)
  FBy : Fun K "_law_by" "_law_by" sBy fBy dBy
  bBy : Binds K dBy ["_law_a", "_law_b"] []
  gBy : mg "_law_by" = some (.ref fBy)
  FRf : Fun K "_law_refused" "_law_refused" sRef fRf dRf
  bRf : Binds K dRf ["_law_call"] []
  gRf : mg "_law_refused" = some (.ref fRf)
  FWr : Fun K "_law_wrong_text" "_law_wrong_text" sWr fWr dWr
  bWr : Binds K dWr ["_law_pen_here"] []
  gWr : mg "_law_wrong_text" = some (.ref fWr)
def spLawT (K : PySem.W.Frag) (P : Addr) : Sp := fun vs H Q _ => ∃ (a : Addr) (ns : List Int), vs = [.ref a] ∧ SqL K H a (ns.map V.int) ∧ ns.length ≤ 63 ∧ H P = some (.tbl #[]) ∧ ∀ H', Q (.bl true) H'
/-- as Fun.ok, the code object told -/
theorem ok_code {P : Program} {w : World} {K : PySem.W.Frag} {mg : Str → Option Value} {base : Heap} {x qual : Str} {st : Stmt} {f c : Addr} {N ps : List Str} {k : Nat} {sp : Sp} {oc : Value} {od an : Option Addr} {osl : Array (Option Value)} {kV doc pm ct : Value}
    (lk : K.lookup f = some ⟨oc, od, .func (PySem.W.fnOf x qual (defArgs st) (defBody st) (defScope st) .none kV doc pm an (.ref c) ct), osl⟩) (hcd : PySem.W.codeIn K (.ref c) qual = true) (S : FnScope N ps (defScope st)) (len : ∀ vs H Q E, sp vs H Q E → vs.length = ps.length)
    (body : ∀ (A : Around) (outer : List Env) (s : Shared) (H : Hp) (vs : List V) (Q : VK) (E : XK), Room k (A.deeper (envOfC qual (defScope st) s.heap.objs.size f (.ref c))) → sp vs H Q E →
      ∃ t, PSs (cxOf CX0 P w K mg base N qual (defScope st) f (.ref c) A outer s H E).nox (defBody st) t ∧ t { nx := fun _ H' => Q .non H', rt := Q } (L2.start N vs) H) :
    FnOk P w K mg base CX0 (k + 1) f (PySem.W.fnOf x qual (defArgs st) (defBody st) (defScope st) .none kV doc pm an (.ref c) ct) ps sp := by
  refine fn_of lk hcd S len fun A outer s H vs Q E hr want => ?_
  obtain ⟨t, fits, rd⟩ := body A outer s H vs Q E hr want
  exact ⟨t, fits.nox, rd⟩
/-! ### beside the pen -/
def Sx (TT : List (Addr × Str)) (p c : Addr) (N : Nat) (H : Hp) : Prop := ∃ n, n ≤ N ∧ PenAt H p c n ∧ Tabs TT H
theorem codeO_ne {c : Addr} {q : Str} : ∀ kv, CodeO c q ≠ .dK kv := by
  intro kv z
  unfold CodeO at z
  cases z
theorem codeO_nl {c : Addr} {q : Str} : ∀ kv, CodeO c q ≠ .lst kv := by
  intro kv z
  unfold CodeO at z
  cases z
theorem tabs_keepP {TT : List (Addr × Str)} {H H' : Hp} {p c : Addr} {n : Nat} (hP : PenAt H p c n) (t : Tabs TT H) (k : KeepP p H H') : Tabs TT H' := by
  intro q hq
  obtain ⟨ps, h1, h2, h3⟩ := t q hq
  refine ⟨ps, k _ _ (pen_off hP h1 (by intro kv z; cases z)) h1, h2, fun pos cv hc => ?_⟩
  obtain ⟨c, e1, e2⟩ := h3 pos cv hc
  exact ⟨c, e1, k _ _ (pen_off hP e2 codeO_ne) e2⟩
theorem tabs_lst {TT : List (Addr × Str)} {H : Hp} {D : Addr} {xs : List V} {o : HO} (t : Tabs TT H) (e : H D = some (.lst xs)) : Tabs TT (upd H D o) := by
  intro q hq
  obtain ⟨ps, h1, h2, h3⟩ := t q hq
  refine ⟨ps, (upd_ne (ne_of h1 e (by intro z; cases z))).trans h1, h2, fun pos cv hc => ?_⟩
  obtain ⟨c, e1, e2⟩ := h3 pos cv hc
  exact ⟨c, e1, (upd_ne (ne_of e2 e (codeO_nl _))).trans e2⟩
theorem pen_ext {H H' : Hp} {p c : Addr} {n : Nat} (h : PenAt H p c n) (x : ExtN H H') : PenAt H' p c n := by
  obtain ⟨ns, a, d, f, e1, e2, r⟩ := h
  exact ⟨ns, a, d, f, x _ _ e1 (fun ps z => by cases z), x _ _ e2 (fun ps z => by cases z), r⟩
theorem Sx.same {TT : List (Addr × Str)} {p c : Addr} {N : Nat} {H H' : Hp} (h : Sx TT p c N H) (s : Same H H') : Sx TT p c N H' := by
  obtain ⟨n, hn, hP, t⟩ := h
  exact ⟨n, hn, pen_sm hP s, Tabs.ext t s⟩
theorem Sx.mono {TT : List (Addr × Str)} {p c : Addr} {N M : Nat} {H : Hp} (h : Sx TT p c N H) (le : N ≤ M) : Sx TT p c M H := by
  obtain ⟨n, hn, r⟩ := h
  exact ⟨n, Nat.le_trans hn le, r⟩
theorem sx_step {TT : List (Addr × Str)} {p c : Addr} {n n' N' : Nat} {H H' : Hp} (hP : PenAt H p c n) (t : Tabs TT H) (hP' : PenAt H' p c n') (k : KeepP p H H') (le : n' ≤ N') : Sx TT p c N' H' := ⟨n', le, hP', tabs_keepP hP t k⟩
theorem Sx.ext {TT : List (Addr × Str)} {p c : Addr} {N : Nat} {H H' : Hp} (h : Sx TT p c N H) (x : ExtN H H') (t : Tabs TT H') : Sx TT p c N H' := by
  obtain ⟨n, hn, hP, _⟩ := h
  exact ⟨n, hn, pen_ext hP x, t⟩
theorem Sx.lst {TT : List (Addr × Str)} {p c : Addr} {N : Nat} {H : Hp} {D : Addr} {xs : List V} {o : HO} (h : Sx TT p c N H) (e : H D = some (.lst xs)) (hc : D ≠ c) : Sx TT p c N (upd H D o) := by
  obtain ⟨n, hn, hP, t⟩ := h
  exact ⟨n, hn, pen_upd hP (pen_off hP e (by intro kv z; cases z)) hc, tabs_lst t e⟩
theorem lsb_inj {n m : Nat} (h : lsb n = lsb m) : n = m := by
  have := congrArg (bv d1) h
  rwa [lsb_val, lsb_val] at this
theorem txt0 : (.str ("0" : Str) : V) = .str (mS (lsb 0)) := by rw [lsb_zero, e_0]
theorem txt1 : (.str ("1" : Str) : V) = .str (mS (lsb 1)) := by rw [lsb_small (by decide), e_1]
theorem str_ne {n m : Nat} (h : n ≠ m) : (.str (mS (lsb n)) : V) ≠ .str (mS (lsb m)) := fun z => h (lsb_inj (mS_inj (V.str.inj z)))
theorem iteNe {v : V} {A B : Prop} (h : B) : if (!decide (v = v)) = true then A else B := by
  rw [decide_eq_true rfl]
  exact iteF h
theorem iteNt {v w : V} {A B : Prop} (n : v ≠ w) (h : A) : if (!decide (v = w)) = true then A else B := by
  rw [decide_eq_false n]
  exact iteT h
theorem extn_lst {H H' : Hp} {a : Addr} {xs : List V} (x : ExtN H H') (e : H a = some (.lst xs)) : H' a = some (.lst xs) := x _ _ e (fun ps z => by cases z)
/-- what a wrong text is due -/
def DW (H : Hp) (d : Addr) (v : V) (l c : Int) : Prop := H d = some (.lst [.str "text", .int l, .int c]) ∧ Wrong H v l c
theorem DW.same {H H' : Hp} {d : Addr} {v : V} {l c : Int} (s : Same H H') (h : DW H d v l c) : DW H' d v l c := ⟨s _ _ h.1, h.2.same s⟩
theorem Wrong.ext {H H' : Hp} {v : V} {l c : Int} (x : ExtN H H') (h : Wrong H v l c) : Wrong H' v l c := by
  rcases h with h | ⟨o, e⟩
  · exact .inl h
  · refine .inr ⟨?_, e⟩
    rcases o with h | h | ⟨q, xs, h, e⟩
    · exact .inl h
    · exact .inr (.inl h)
    · exact .inr (.inr ⟨q, xs, h, extn_lst x e⟩)
theorem Wrong.lst {H : Hp} {v : V} {l c : Int} {R : Addr} {xs ys : List V} (e0 : H R = some (.lst xs)) (h : Wrong H v l c) : Wrong (upd H R (.lst ys)) v l c := by
  rcases h with h | ⟨o, e⟩
  · exact .inl h
  · refine .inr ⟨?_, e⟩
    rcases o with h | h | ⟨q, zs, h, e⟩
    · exact .inl h
    · exact .inr (.inl h)
    · by_cases z : q = R
      · subst z
        exact .inr (.inr ⟨q, ys, h, upd_same⟩)
      · exact .inr (.inr ⟨q, zs, h, (upd_ne z).trans e⟩)
theorem DW.ext {H H' : Hp} {d : Addr} {v : V} {l c : Int} (x : ExtN H H') (h : DW H d v l c) : DW H' d v l c := ⟨extn_lst x h.1, h.2.ext x⟩
theorem DW.lst {H : Hp} {d : Addr} {v : V} {l c : Int} {R : Addr} {xs ys : List V} (e0 : H R = some (.lst xs)) (n : d ≠ R) (h : DW H d v l c) : DW (upd H R (.lst ys)) d v l c := ⟨(upd_ne n).trans h.1, h.2.lst e0⟩
theorem DW.keepP {H H' : Hp} {d : Addr} {v : V} {l c : Int} {p pc : Addr} {n : Nat} (hP : PenAt H p pc n) (k : KeepP p H H') (h : DW H d v l c) : DW H' d v l c := by
  refine ⟨k _ _ (pen_off hP h.1 (by intro kv z; cases z)) h.1, ?_⟩
  rcases h.2 with w | ⟨o, e⟩
  · exact .inl w
  · exact .inr ⟨o.keepP hP k, e⟩
/-- one try: what came, and what was due -/
def TryOk (R : Addr) (H : Hp) (x : V) : Prop := ∃ (t p d : Addr) (a b c : V), x = .ref t ∧ H t = some (.tup [.ref p, .ref d]) ∧ H p = some (.lst [a, b, c]) ∧ H d = some (.lst [a, b, c]) ∧ flatB a = true ∧ flatB b = true ∧ flatB c = true ∧ p ≠ R ∧ d ≠ R
theorem TryOk.ext {R : Addr} {H H' : Hp} {x : V} (s : ExtN H H') (h : TryOk R H x) : TryOk R H' x := by
  obtain ⟨t, p, d, a, b, c, rfl, e1, e2, e3, r⟩ := h
  exact ⟨t, p, d, a, b, c, rfl, s _ _ e1 (fun ps z => by cases z), extn_lst s e2, extn_lst s e3, r⟩
theorem TryOk.lst {R : Addr} {H : Hp} {x : V} {xs ys : List V} (e0 : H R = some (.lst xs)) (h : TryOk R H x) : TryOk R (upd H R (.lst ys)) x := by
  obtain ⟨t, p, d, a, b, c, rfl, e1, e2, e3, f1, f2, f3, n1, n2⟩ := h
  exact ⟨t, p, d, a, b, c, rfl, (upd_ne (ne_of e1 e0 (by intro z; cases z))).trans e1, (upd_ne n1).trans e2, (upd_ne n2).trans e3, f1, f2, f3, n1, n2⟩
structure TS (TT : List (Addr × Str)) (R d1 d2 : Addr) (v1 v2 : V) (l1 c1 l2 c2 : Int) (k : Nat) (H : Hp) (xs : List V) : Prop where
  tb : Tabs TT H
  eR : H R = some (.lst xs)
  ok : ∀ x ∈ xs, TryOk R H x
  w1 : DW H d1 v1 l1 c1
  w2 : DW H d2 v2 l2 c2
  n1 : d1 ≠ R
  n2 : d2 ≠ R
  len : xs.length = k
section
variable {TT : List (Addr × Str)} {R d1 d2 : Addr} {v1 v2 : V} {l1 c1 l2 c2 : Int} {k : Nat} {H H' : Hp} {xs : List V}
theorem TS.ext (h : TS TT R d1 d2 v1 v2 l1 c1 l2 c2 k H xs) (x : ExtN H H') (t : Tabs TT H') : TS TT R d1 d2 v1 v2 l1 c1 l2 c2 k H' xs :=
  ⟨t, extn_lst x h.eR, fun y hy => (h.ok y hy).ext x, h.w1.ext x, h.w2.ext x, h.n1, h.n2, h.len⟩
theorem TS.same (h : TS TT R d1 d2 v1 v2 l1 c1 l2 c2 k H xs) (s : Same H H') : TS TT R d1 d2 v1 v2 l1 c1 l2 c2 k H' xs := h.ext (ExtN.of s) (Tabs.ext h.tb s)
theorem TS.push (h : TS TT R d1 d2 v1 v2 l1 c1 l2 c2 k H xs) {p d t : Addr} {a b c : V} (ep : H p = some (.lst [a, b, c])) (ed : H d = some (.lst [a, b, c])) (f1 : flatB a = true) (f2 : flatB b = true) (f3 : flatB c = true) (np : p ≠ R) (nd : d ≠ R) (nt : H t = none) :
    (upd H t (.tup [.ref p, .ref d])) R = some (.lst xs) ∧ TS TT R d1 d2 v1 v2 l1 c1 l2 c2 (k + 1) (upd (upd H t (.tup [.ref p, .ref d])) R (.lst (xs ++ [.ref t]))) (xs ++ [.ref t]) := by
  have h' := h.same (same_new (o := HO.tup [V.ref p, V.ref d]) nt)
  refine ⟨h'.eR, tabs_lst h'.tb h'.eR, upd_same, fun y hy => ?_, h'.w1.lst h'.eR h.n1, h'.w2.lst h'.eR h.n2, h.n1, h.n2, by rw [List.length_append, h.len]; rfl⟩
  rcases List.mem_append.mp hy with hy | hy
  · exact (h'.ok y hy).lst h'.eR
  · rw [List.mem_singleton.mp hy]
    exact TryOk.lst h'.eR ⟨t, p, d, a, b, c, rfl, upd_same, same_new nt _ _ ep, same_new nt _ _ ed, f1, f2, f3, np, nd⟩
end
theorem bad_reads {C : Addr} {H : Hp} {v : V} {l c : Int} {E : XK} {ok : Nat → Prop} (w : Wrong H v l c) (r : Rz C (xdT (.int l) (.int c)) H E) : Reads C v H E ok := by
  rcases w with ⟨L, col, rfl, hl, hb, rfl, rfl⟩ | ⟨o, rfl, rfl⟩
  · exact .inr (.inl ⟨L, col, rfl, hl, hb, r⟩)
  · exact .inr (.inr ⟨o, r⟩)
theorem iteEt {v : V} {A B : Prop} (h : A) : if decide (v = v) = true then A else B := by
  rw [decide_eq_true rfl]
  exact iteT h
section
variable {P : Program} {w : World} {K : PySem.W.Frag} {mg : Str → Option Value} {base : Heap}
theorem ok_law {f c tP CT CN fB fN fR fO fX fD fP fQ fE fG fSu fPr fDi fDv fPn fDr fPk fPo fTm fPl fBy fRf fWr : Addr} {dB dN dR dO dX dD dP dQ dE dG dSu dPr dDi dDv dPn dDr dPk dPo dTm dPl dBy dRf dWr : FuncData} {oc : Value} {od an : Option Addr} {osl : Array (Option Value)} {kV doc pm ct : Value}
    (lk : K.lookup f = some ⟨oc, od, .func (PySem.W.fnOf "law" "law" (defArgs sLaw) (defBody sLaw) (defScope sLaw) .none kV doc pm an (.ref c) ct), osl⟩) (hcd : PySem.W.codeIn K (.ref c) "law" = true) (TB : TabB base mg c tP)
    (T : Top K mg CT CN fB fN fR fO fX fD fP fQ fE fG fSu fPr fDi fDv fPn fDr fPk fPo fTm fPl fBy fRf fWr dB dN dR dO dX dD dP dQ dE dG dSu dPr dDi dDv dPn dDr dPk dPo dTm dPl dBy dRf dWr) : FnOk P w K mg base CX0 8 f (PySem.W.fnOf "law" "law" (defArgs sLaw) (defBody sLaw) (defScope sLaw) .none kV doc pm an (.ref c) ct) ["_law_script"] (spLawT K tP) := by
  have GSu : FnOk P w K mg base (L2.CX P w) 5 fSu dSu ["a", "b"] (spSum CT) := ok_sum T.FSu T.FO T.bO T.gO T.FR T.bR T.gR T.FX T.bX T.gX T.T T.B
  have GPr : FnOk P w K mg base (L2.CX P w) 5 fPr dPr ["a", "b"] (spProd CT) := ok_prod T.FPr T.FO T.bO T.gO T.FR T.bR T.gR T.FX T.bX T.gX T.FP T.bP T.gP T.T T.B
  have GDv : FnOk P w K mg base (L2.CX P w) 5 fDv dDv ["a", "b"] (spDvs CT) := ok_dvs T.FDv T.FO T.bO T.gO T.FR T.bR T.gR T.FX T.bX T.gX T.FG T.bG T.gG T.FE T.bE T.gE T.FQ T.bQ T.gQ T.FD T.bD T.gD T.T T.B
  have GDi : FnOk P w K mg base (L2.CX P w) 5 fDi dDi ["a", "b"] (spDivd CT CN) := ok_divd T.FDi T.FO T.bO T.gO T.FR T.bR T.gR T.FX T.bX T.gX T.FQ T.bQ T.gQ T.FD T.bD T.gD T.T T.N T.B
  have GPn : FnOk P w K mg base CX0 1 fPn dPn ["_law_script"] (spPen K) := ok_pen T.FPn T.B.int T.B.list
  have GPk : FnOk P w K mg base CX0 2 fPk dPk ["_law_pen_here", "_law_some"] (spPick K) := ok_pick T.FPk T.FDr T.bDr T.gDr T.B.int T.B.len
  have GPo : FnOk P w K mg base CX0 2 fPo dPo ["_law_pen_here", "_law_most"] spPoly := ok_poly T.FPo T.FDr T.bDr T.gDr T.B
  have GPl : FnOk P w K mg base CX0 2 fPl dPl ["_law_a", "_law_b"] spPlus := ok_plus T.FPl T.FTm T.bTm T.gTm T.B
  have GBy : FnOk P w K mg base CX0 2 fBy dBy ["_law_a", "_law_b"] spBy := ok_by T.FBy T.FTm T.bTm T.gTm T.B
  have GWr : FnOk P w K mg base CX0 3 fWr dWr ["_law_pen_here"] spWr := ok_wr T.FWr T.FPo T.bPo T.gPo T.FDr T.bDr T.gDr T.FPk T.bPk T.gPk T.B
  obtain ⟨ocW, odW, kVW, dcW, pmW, anW, cdvW, ctW, oslW, eW, lkR, hcR⟩ := T.FRf.ex
  have bR' := T.bRf
  rw [eW] at bR' lkR
  refine ok_code lk hcd scLaw (fun vs H Q E h => ?_) (fun A outer s H vs Q E hr h => ?_)
  · obtain ⟨a, ns, rfl, _⟩ := h
    rfl
  · obtain ⟨a, ns, rfl, hS, hlen, hTP, q⟩ := h
    have r1 : Room 1 _ := hr.mono (by decide)
    have r2 : Room 2 _ := hr.mono (by decide)
    have r3 : Room 3 _ := hr.mono (by decide)
    have r5 : Room 5 _ := hr.mono (by decide)
    have hu : (A.deeper (envOfC "law" (defScope sLaw) s.heap.objs.size f (.ref c))).units + 64 < cLine := hr.units
    let TT : List (Addr × Str) := [(tP, (envOfC "law" (defScope sLaw) s.heap.objs.size f (.ref c)).qual ++ "<lambda>")]
    refine ⟨_, (C8.pss_cut (ps_set (i := 1) scLaw.nd rfl (.inl rfl) (pe_call GPn r1 (by rfl) T.gPn T.FPn.kp T.bPn .nil pass0 (pa_cons (pv 0) pa_nil)))
      (C8.pss_cut (ps_asg (pe_tup (pa_cons (pe_call GPo r2 (by rfl) T.gPo T.FPo.kp T.bPo .nil pass0 (pa_cons (pv 1) (pa_cons (pe_call GPk r2 (by rfl) T.gPk T.FPk.kp T.bPk .nil pass0 (pa_cons (pv 1) (pa_cons (pe_lst (pa_cons pe_int (pa_cons pe_int (pa_cons pe_int pa_nil)))) pa_nil))) pa_nil))) (pa_cons (pe_call GPo r2 (by rfl) T.gPo T.FPo.kp T.bPo .nil pass0 (pa_cons (pv 1) (pa_cons (pe_call GPk r2 (by rfl) T.gPk T.FPk.kp T.bPk .nil pass0 (pa_cons (pv 1) (pa_cons (pe_lst (pa_cons pe_int (pa_cons pe_int (pa_cons pe_int pa_nil)))) pa_nil))) pa_nil))) pa_nil))) (pg_tup rfl (pgs_cons (pg_name (i := 2) scLaw.nd rfl (.inr rfl)) (pgs_cons (pg_name (i := 3) scLaw.nd rfl (.inl rfl)) pgs_nil))))
      (C8.pss_cut (ps_set (i := 4) scLaw.nd rfl (.inl rfl) (pe_call GPo r2 (by rfl) T.gPo T.FPo.kp T.bPo .nil pass0 (pa_cons (pv 1) (pa_cons pe_int pa_nil))))
      (C8.pss_cut (ps_if (pw_or (pt_cmpR op_ne (pe_call GSu r5 (by rfl) T.gSu T.FSu.kp T.bSu .nil passL (pa_cons (pv 2) (pa_cons (pv 3) pa_nil))) (pe_call GPl r2 (by rfl) T.gPl T.FPl.kp T.bPl .nil pass0 (pa_cons (pv 2) (pa_cons (pv 3) pa_nil))) (nomark _)) (pw_or (pt_cmpR op_ne (pe_call GPr r5 (by rfl) T.gPr T.FPr.kp T.bPr .nil passL (pa_cons (pv 2) (pa_cons (pv 3) pa_nil))) (pe_call GBy r2 (by rfl) T.gBy T.FBy.kp T.bBy .nil pass0 (pa_cons (pv 2) (pa_cons (pv 3) pa_nil))) (nomark _)) (pw_or1 (pt_cmpR op_ne (pe_call GSu r5 (by rfl) T.gSu T.FSu.kp T.bSu .nil passL (pa_cons (pv 2) (pa_cons (pv 2) pa_nil))) pe_str (nomark _))))).pt (pss_one (ps_ret pe_bl)) pss_nil)
      (C8.pss_cut (ps_if (pt_cmpR op_ne (pv 3) pe_str (nomark _)) (C8.pss_cut (ps_set (i := 5) scLaw.nd rfl (.inl rfl) (pe_call GDi r5 (by rfl) T.gDi T.FDi.kp T.bDi .nil passL (pa_cons (pv 2) (pa_cons (pv 3) pa_nil)))) (C8.pss_cut (ps_if (pw_or (pt_not (pt_val (pe_callB call_isi (by rfl) T.B.isi PyProof.Rows.boot_isinstance (pa_cons (pv 5) (pa_cons (pe_bltn (v := .ty "tuple") (by rfl) T.B.tuple bootT rfl) pa_nil))))) (pw_or (pt_cmpR op_ne (pe_callB call_len_seq (by rfl) T.B.len PySem.boot_len (pa_cons (pv 5) pa_nil)) pe_int (nomark _)) (pw_or1 (pt_cmpR op_ne (pe_call GPl r2 (by rfl) T.gPl T.FPl.kp T.bPl .nil pass0 (pa_cons (pe_call GBy r2 (by rfl) T.gBy T.FBy.kp T.bBy .nil pass0 (pa_cons (pe_ix ix_tup (pv 5) pe_int (fun _ _ => rfl)) (pa_cons (pv 3) pa_nil))) (pa_cons (pe_ix ix_tup (pv 5) pe_int (fun _ _ => rfl)) pa_nil))) (pv 2) (nomark _))))).pt (pss_one (ps_ret pe_bl)) pss_nil) (pss_one (ps_if (pw_and (pt_cmpR op_ne (pe_ix ix_tup (pv 5) pe_int (fun _ _ => rfl)) pe_str (nomark _)) (pw_and1 (pt_cmpR op_ge (pe_callB call_len_str (by rfl) T.B.len PySem.boot_len (pa_cons (pe_ix ix_tup (pv 5) pe_int (fun _ _ => rfl)) pa_nil)) (pe_callB call_len_str (by rfl) T.B.len PySem.boot_len (pa_cons (pv 3) pa_nil)) (nomark _)))).pt (pss_one (ps_ret pe_bl)) pss_nil)))) pss_nil)
      (C8.pss_cut (ps_par (i := 6) (j := 7) rfl scLaw.nd rfl rfl (by decide) rfl rfl (pa_cons (pe_call GPr r5 (by rfl) T.gPr T.FPr.kp T.bPr .nil passL (pa_cons (pv 2) (pa_cons (pv 4) pa_nil))) (pa_cons (pe_call GPr r5 (by rfl) T.gPr T.FPr.kp T.bPr .nil passL (pa_cons (pv 3) (pa_cons (pv 4) pa_nil))) pa_nil)) rfl)
      (C8.pss_cut (ps_set (i := 8) scLaw.nd rfl (.inl rfl) (pe_call GDv r5 (by rfl) T.gDv T.FDv.kp T.bDv .nil passL (pa_cons (pv 6) (pa_cons (pv 7) pa_nil))))
      (C8.pss_cut (ps_if (pw_or (pt_cmpR op_eq (pv 6) pe_str (nomark _)) (pw_or1 (pt_cmpR op_eq (pv 7) pe_str (nomark _)))).pt (pss_one (ps_if (pt_cmpR op_ne (pv 8) (pe_call GPl r2 (by rfl) T.gPl T.FPl.kp T.bPl .nil pass0 (pa_cons (pv 6) (pa_cons (pv 7) pa_nil))) (nomark _)) (pss_one (ps_ret pe_bl)) pss_nil)) (pss_one (ps_if (pw_or (pt_cmpR op_ne (pe_ix ix_tup (pe_call GDi r5 (by rfl) T.gDi T.FDi.kp T.bDi .nil passL (pa_cons (pv 6) (pa_cons (pv 8) pa_nil))) pe_int (fun _ _ => rfl)) pe_str (nomark _)) (pw_or (pt_cmpR op_ne (pe_ix ix_tup (pe_call GDi r5 (by rfl) T.gDi T.FDi.kp T.bDi .nil passL (pa_cons (pv 7) (pa_cons (pv 8) pa_nil))) pe_int (fun _ _ => rfl)) pe_str (nomark _)) (pw_or1 (pt_cmpR op_ne (pe_ix ix_tup (pe_call GDi r5 (by rfl) T.gDi T.FDi.kp T.bDi .nil passL (pa_cons (pv 8) (pa_cons (pv 4) pa_nil))) pe_int (fun _ _ => rfl)) pe_str (nomark _))))).pt (pss_one (ps_ret pe_bl)) (pss_one (ps_if (pt_cmpR op_ne (pe_call GDv r5 (by rfl) T.gDv T.FDv.kp T.bDv .nil passL (pa_cons (pe_ix ix_tup (pe_call GDi r5 (by rfl) T.gDi T.FDi.kp T.bDi .nil passL (pa_cons (pv 6) (pa_cons (pv 8) pa_nil))) pe_int (fun _ _ => rfl)) (pa_cons (pe_ix ix_tup (pe_call GDi r5 (by rfl) T.gDi T.FDi.kp T.bDi .nil passL (pa_cons (pv 7) (pa_cons (pv 8) pa_nil))) pe_int (fun _ _ => rfl)) pa_nil))) pe_str (nomark _)) (pss_one (ps_ret pe_bl)) pss_nil)))))
      (C8.pss_cut (ps_asg (pe_call GWr r3 (by rfl) T.gWr T.FWr.kp T.bWr .nil pass0 (pa_cons (pv 1) pa_nil)) (pg_tup rfl (pgs_cons (pg_name (i := 9) scLaw.nd rfl (.inr rfl)) (pgs_cons (pg_name (i := 10) scLaw.nd rfl (.inl rfl)) pgs_nil))))
      (C8.pss_cut (ps_asg (pe_call GWr r3 (by rfl) T.gWr T.FWr.kp T.bWr .nil pass0 (pa_cons (pv 1) pa_nil)) (pg_tup rfl (pgs_cons (pg_name (i := 11) scLaw.nd rfl (.inr rfl)) (pgs_cons (pg_name (i := 12) scLaw.nd rfl (.inl rfl)) pgs_nil))))
      (C8.pss_cut (ps_set (i := 13) scLaw.nd rfl (.inl rfl) (pe_lst (pa_cons (pe_tup (pa_cons (pe_lamcall (T := TT) (TT := TTr CT CN) (Ng := ["_law_call", "e"]) (by rfl) T.gRf T.FRf.kp lkR hcR bR' scRef rfl (.inl rfl) (ref_gives T.V) TB rfl (List.mem_singleton.mpr rfl) (fun p hp _ => by rw [List.mem_singleton.mp hp]; rfl) hr (lamS_by (sc := defScope sLaw) (by decide +kernel)) rfl (fun _ _ _ _ _ => rfl) (fun A2 o2 s2 H2 E2 f2 c2 hr2 => pe_call GSu hr2 (by rfl) T.gSu T.FSu.kp T.bSu .nil (passes_call (takes_of rfl rfl rfl rfl) (fun _ _ _ _ h => h)) (pa_cons (pv 9) (pa_cons (pv 11) pa_nil)))) (pa_cons (pv 10) pa_nil))) pa_nil)))
      (C8.pss_cut (ps_expr (pe_bm PySem.F.plainAttrs_list PySem.F.slot_list_append PySem.F.type_list_append mt_append (pv 13) (pa_cons (pe_tup (pa_cons (pe_lamcall (T := TT) (TT := TTr CT CN) (Ng := ["_law_call", "e"]) (by rfl) T.gRf T.FRf.kp lkR hcR bR' scRef rfl (.inl rfl) (ref_gives T.V) TB rfl (List.mem_singleton.mpr rfl) (fun p hp _ => by rw [List.mem_singleton.mp hp]; rfl) hr (lamS_by (sc := defScope sLaw) (by decide +kernel)) rfl (fun _ _ _ _ _ => rfl) (fun A2 o2 s2 H2 E2 f2 c2 hr2 => pe_call GPr hr2 (by rfl) T.gPr T.FPr.kp T.bPr .nil (passes_call (takes_of rfl rfl rfl rfl) (fun _ _ _ _ h => h)) (pa_cons (pv 2) (pa_cons (pv 9) pa_nil)))) (pa_cons (pv 10) pa_nil))) pa_nil)))
      (C8.pss_cut (ps_expr (pe_bm PySem.F.plainAttrs_list PySem.F.slot_list_append PySem.F.type_list_append mt_append (pv 13) (pa_cons (pe_tup (pa_cons (pe_lamcall (T := TT) (TT := TTr CT CN) (Ng := ["_law_call", "e"]) (by rfl) T.gRf T.FRf.kp lkR hcR bR' scRef rfl (.inl rfl) (ref_gives T.V) TB rfl (List.mem_singleton.mpr rfl) (fun p hp _ => by rw [List.mem_singleton.mp hp]; rfl) hr (lamS_by (sc := defScope sLaw) (by decide +kernel)) rfl (fun _ _ _ _ _ => rfl) (fun A2 o2 s2 H2 E2 f2 c2 hr2 => pe_call GDi hr2 (by rfl) T.gDi T.FDi.kp T.bDi .nil (passes_call (takes_of rfl rfl rfl rfl) (fun _ _ _ _ h => h)) (pa_cons (pv 9) (pa_cons pe_str pa_nil)))) (pa_cons (pv 10) pa_nil))) pa_nil)))
      (C8.pss_cut (ps_expr (pe_bm PySem.F.plainAttrs_list PySem.F.slot_list_append PySem.F.type_list_append mt_append (pv 13) (pa_cons (pe_tup (pa_cons (pe_lamcall (T := TT) (TT := TTr CT CN) (Ng := ["_law_call", "e"]) (by rfl) T.gRf T.FRf.kp lkR hcR bR' scRef rfl (.inl rfl) (ref_gives T.V) TB rfl (List.mem_singleton.mpr rfl) (fun p hp _ => by rw [List.mem_singleton.mp hp]; rfl) hr (lamS_by (sc := defScope sLaw) (by decide +kernel)) rfl (fun _ _ _ _ _ => rfl) (fun A2 o2 s2 H2 E2 f2 c2 hr2 => pe_call GSu hr2 (by rfl) T.gSu T.FSu.kp T.bSu .nil (passes_call (takes_of rfl rfl rfl rfl) (fun _ _ _ _ h => h)) (pa_cons (pv 2) (pa_cons (pv 9) pa_nil)))) (pa_cons (pv 10) pa_nil))) pa_nil)))
      (C8.pss_cut (ps_expr (pe_bm PySem.F.plainAttrs_list PySem.F.slot_list_append PySem.F.type_list_append mt_append (pv 13) (pa_cons (pe_tup (pa_cons (pe_lamcall (T := TT) (TT := TTr CT CN) (Ng := ["_law_call", "e"]) (by rfl) T.gRf T.FRf.kp lkR hcR bR' scRef rfl (.inl rfl) (ref_gives T.V) TB rfl (List.mem_singleton.mpr rfl) (fun p hp _ => by rw [List.mem_singleton.mp hp]; rfl) hr (lamS_by (sc := defScope sLaw) (by decide +kernel)) rfl (fun _ _ _ _ _ => rfl) (fun A2 o2 s2 H2 E2 f2 c2 hr2 => pe_call GDi hr2 (by rfl) T.gDi T.FDi.kp T.bDi .nil (passes_call (takes_of rfl rfl rfl rfl) (fun _ _ _ _ h => h)) (pa_cons (pv 2) (pa_cons (pv 9) pa_nil)))) (pa_cons (pv 10) pa_nil))) pa_nil)))
      (C8.pss_cut (ps_expr (pe_bm PySem.F.plainAttrs_list PySem.F.slot_list_append PySem.F.type_list_append mt_append (pv 13) (pa_cons (pe_tup (pa_cons (pe_lamcall (T := TT) (TT := TTr CT CN) (Ng := ["_law_call", "e"]) (by rfl) T.gRf T.FRf.kp lkR hcR bR' scRef rfl (.inl rfl) (ref_gives T.V) TB rfl (List.mem_singleton.mpr rfl) (fun p hp _ => by rw [List.mem_singleton.mp hp]; rfl) hr (lamS_by (sc := defScope sLaw) (by decide +kernel)) rfl (fun _ _ _ _ _ => rfl) (fun A2 o2 s2 H2 E2 f2 c2 hr2 => pe_call GDv hr2 (by rfl) T.gDv T.FDv.kp T.bDv .nil (passes_call (takes_of rfl rfl rfl rfl) (fun _ _ _ _ h => h)) (pa_cons (pv 2) (pa_cons (pv 9) pa_nil)))) (pa_cons (pv 10) pa_nil))) pa_nil)))
      (C8.pss_cut (ps_expr (pe_bm PySem.F.plainAttrs_list PySem.F.slot_list_append PySem.F.type_list_append mt_append (pv 13) (pa_cons (pe_tup (pa_cons (pe_lamcall (T := TT) (TT := TTr CT CN) (Ng := ["_law_call", "e"]) (by rfl) T.gRf T.FRf.kp lkR hcR bR' scRef rfl (.inl rfl) (ref_gives T.V) TB rfl (List.mem_singleton.mpr rfl) (fun p hp _ => by rw [List.mem_singleton.mp hp]; rfl) hr (lamS_by (sc := defScope sLaw) (by decide +kernel)) rfl (fun _ _ _ _ _ => rfl) (fun A2 o2 s2 H2 E2 f2 c2 hr2 => pe_call GDi hr2 (by rfl) T.gDi T.FDi.kp T.bDi .nil (passes_call (takes_of rfl rfl rfl rfl) (fun _ _ _ _ h => h)) (pa_cons (pv 2) (pa_cons pe_str pa_nil)))) (pa_cons (pe_lst (pa_cons pe_str (pa_cons pe_str (pa_cons pe_str pa_nil)))) pa_nil))) pa_nil)))
      (C8.pss_cut (ps_expr (pe_bm PySem.F.plainAttrs_list PySem.F.slot_list_append PySem.F.type_list_append mt_append (pv 13) (pa_cons (pe_tup (pa_cons (pe_lamcall (T := TT) (TT := TTr CT CN) (Ng := ["_law_call", "e"]) (by rfl) T.gRf T.FRf.kp lkR hcR bR' scRef rfl (.inl rfl) (ref_gives T.V) TB rfl (List.mem_singleton.mpr rfl) (fun p hp _ => by rw [List.mem_singleton.mp hp]; rfl) hr (lamS_by (sc := defScope sLaw) (by decide +kernel)) rfl (fun _ _ _ _ _ => rfl) (fun A2 o2 s2 H2 E2 f2 c2 hr2 => pe_call GDv hr2 (by rfl) T.gDv T.FDv.kp T.bDv .nil (passes_call (takes_of rfl rfl rfl rfl) (fun _ _ _ _ h => h)) (pa_cons (pv 11) (pa_cons (pv 9) pa_nil)))) (pa_cons (pv 12) pa_nil))) pa_nil)))
      (pss_one (ps_ret (pe_callB (cr_all rfl) (by rfl) T.B.all bootAll (pa_cons (pe_lc (own := [("_law_found", 14), ("_law_told", 5)]) (g := gTup K 2 (gCons (gName 14) (gCons (gName 5) gNil))) (by rfl) scLaw.nd (pi_list (pv 13)) (blkOk_by (own := [("_law_found", 14), ("_law_told", 5)]) (N := ["_law_script", "_law_pen_here", "_law_a", "_law_b", "_law_c", "_law_told", "_law_one", "_law_two", "_law_both", "_law_bad", "_law_due", "_law_worse", "_law_other", "_law_tries", "_law_found"]) (sc := defScope sLaw) (by decide +kernel))
              (fun _ _ _ _ _ => pg_tup rfl (pgs_cons (pg_name (i := 14) scLaw.nd rfl (Or.inl rfl)) (pgs_cons (pg_name (i := 5) scLaw.nd rfl (Or.inl rfl)) pgs_nil))) (fun _ _ _ _ _ => pts_nil) (fun _ _ _ _ _ => pe_cmpR (r := rEqV K) (op_eqV hu) (pv 14) (pv 5) (nomark _))) pa_nil)))))))))))))))))))))), ?_⟩
    refine ⟨fun σ' H' => ∃ p pc : Addr, σ' = [some (.ref a), some (.ref p), none, none, none, none, none, none, none, none, none, none, none, none, none] ∧ Sx TT p pc 0 H', ?_, ?_⟩
    · refine ⟨_, rfl, a, ns, rfl, hS, hlen, fun H' p pc sm np nc hP => ⟨p, pc, rfl, 0, Nat.le_refl _, hP, fun q hq => ?_⟩⟩
      rw [List.mem_singleton.mp hq]
      exact TabS.nil (sm _ _ hTP)
    rintro _ H1 ⟨p, pc, rfl, x1⟩
    clear hTP hS
    -- both polynomials
    have pick : ∀ {xs : List V}, (∀ v ∈ xs, ∃ m : Nat, v = .int (m : Nat) ∧ m ≤ 29) → ∀ {i : Nat} {v : V}, xs[i]? = some v → ∃ m : Nat, v = .int (m : Nat) ∧ m ≤ 29 := fun h _ _ e => h _ (List.mem_of_getElem? e)
    refine ⟨fun σ' H' => ∃ A B : Nat, A < 2 ^ 30 ∧ B < 2 ^ 30 ∧ σ' = [some (.ref a), some (.ref p), some (.str (mS (lsb A))), some (.str (mS (lsb B))), none, none, none, none, none, none, none, none, none, none, none] ∧ Sx TT p pc 70 H', ?_, ?_⟩
    · obtain ⟨n, hn, hP, tb⟩ := x1
      refine ⟨_, rfl, _, rfl, by show 3 ≤ sizeLine; decide, fun r nr => ⟨p, pc, r, n, _, rfl, pen_sm hP (same_new nr), by omega, .inl (SqL.of upd_same), by simp, by show 3 ≤ 1000; decide, fun i v H2 hi hP2 hk2 => ?_⟩⟩
      obtain ⟨m, rfl, hm⟩ := pick (by
        intro v hv
        simp only [List.mem_cons, List.mem_nil_iff, or_false] at hv
        rcases hv with h | h | h <;> subst h
        · exact ⟨4, rfl, by decide⟩
        · exact ⟨12, rfl, by decide⟩
        · exact ⟨29, rfl, by decide⟩) hi
      have tb2 := tabs_keepP (pen_sm hP (same_new (o := HO.lst [.int 4, .int 12, .int 29]) nr)) (Tabs.ext tb (same_new nr)) (KeepP.of_eq hk2)
      refine ⟨p, pc, n + 1, m, rfl, hP2, by omega, by omega, fun A n2 H3 hA hn2 hP3 kp3 => ?_⟩
      have tb3 := tabs_keepP hP2 tb2 kp3
      refine ⟨_, rfl, _, rfl, by show 3 ≤ sizeLine; decide, fun r' nr' => ⟨p, pc, r', n2, _, rfl, pen_sm hP3 (same_new nr'), by omega, .inl (SqL.of upd_same), by simp, by show 3 ≤ 1000; decide, fun i' v' H4 hi' hP4 hk4 => ?_⟩⟩
      obtain ⟨m', rfl, hm'⟩ := pick (by
        intro v hv
        simp only [List.mem_cons, List.mem_nil_iff, or_false] at hv
        rcases hv with h | h | h <;> subst h
        · exact ⟨3, rfl, by decide⟩
        · exact ⟨12, rfl, by decide⟩
        · exact ⟨29, rfl, by decide⟩) hi'
      have tb4 := tabs_keepP (pen_sm hP3 (same_new (o := HO.lst [.int 3, .int 12, .int 29]) nr')) (Tabs.ext tb3 (same_new nr')) (KeepP.of_eq hk4)
      refine ⟨p, pc, n2 + 1, m', rfl, hP4, by omega, by omega, fun B n4 H5 hB hn4 hP5 kp5 => ⟨by show 2 ≤ sizeLine; decide, fun t nt => ?_⟩⟩
      refine ⟨t, _, rfl, .inl (.inl upd_same), rfl, _, _, rfl, _, _, rfl, rfl, A, B, up_pow hA (by omega), up_pow hB (by omega), rfl, ?_⟩
      exact Sx.same (show Sx TT p pc 70 H5 from ⟨n4, by omega, hP5, tabs_keepP hP4 tb4 kp5⟩) (same_new nt)
    rintro _ H2 ⟨A, B, hA, hB, rfl, x2⟩
    clear x1
    refine ⟨fun σ' H' => ∃ C : Nat, C < 2 ^ 10 ∧ σ' = [some (.ref a), some (.ref p), some (.str (mS (lsb A))), some (.str (mS (lsb B))), some (.str (mS (lsb C))), none, none, none, none, none, none, none, none, none, none] ∧ Sx TT p pc 90 H', ?_, ?_⟩
    · obtain ⟨n, hn, hP, tb⟩ := x2
      exact ⟨_, rfl, p, pc, n, 9, rfl, hP, by omega, by decide, fun C n' H' hC hn' hP' kp => ⟨C, hC, rfl, n', by omega, hP', tabs_keepP hP tb kp⟩⟩
    rintro _ H3 ⟨C, hC, rfl, x3⟩
    clear x2
    have hA2 : A < 2 ^ 200 := up_pow hA (by decide)
    have hB2 : B < 2 ^ 200 := up_pow hB (by decide)
    have hC2 : C < 2 ^ 200 := up_pow hC (by decide)
    have hA4 : A < 2 ^ 400 := up_pow hA (by decide)
    have hB4 : B < 2 ^ 400 := up_pow hB (by decide)
    -- sums and products
    refine ⟨fun σ' H' => σ' = [some (.ref a), some (.ref p), some (.str (mS (lsb A))), some (.str (mS (lsb B))), some (.str (mS (lsb C))), none, none, none, none, none, none, none, none, none, none] ∧ Same H3 H', ?_, ?_⟩
    · refine ⟨_, rfl, _, rfl, _, _, rfl, .inl ⟨A, rfl, hA2, .inl ⟨B, rfl, hB2, fun G1 g1 => ?_⟩⟩⟩
      refine ⟨_, rfl, _, rfl, A, B, rfl, hA4, hB4, fun G2 g2 => ⟨rfl, _, rfl, iteNe ?_⟩⟩
      refine ⟨_, rfl, _, rfl, _, _, rfl, .inl ⟨A, rfl, hA2, .inl ⟨B, rfl, hB2, fun G3 g3 => ?_⟩⟩⟩
      refine ⟨_, rfl, _, rfl, A, B, rfl, hA2, hB2, fun G4 g4 => ⟨rfl, _, rfl, iteNe ?_⟩⟩
      refine ⟨_, rfl, _, rfl, _, _, rfl, .inl ⟨A, rfl, hA2, .inl ⟨A, rfl, hA2, fun G5 g5 => ⟨rfl, _, rfl, ?_⟩⟩⟩⟩
      rw [Nat.xor_self, txt0]
      exact iteNe ⟨rfl, (((g1.trans g2).trans g3).trans g4).trans g5⟩
    rintro _ H4 ⟨rfl, s4⟩
    have x4 := x3.same s4
    clear x3 s4
    -- the division
    refine ⟨fun σ' H' => ∃ s5 : Option V, σ' = [some (.ref a), some (.ref p), some (.str (mS (lsb A))), some (.str (mS (lsb B))), some (.str (mS (lsb C))), s5, none, none, none, none, none, none, none, none, none] ∧ Same H4 H', ?_, ?_⟩
    · refine ⟨_, rfl, rfl, _, rfl, ?_⟩
      rw [txt0]
      by_cases zB : B = 0
      · subst zB
        exact iteNe ⟨none, rfl, fun _ _ e => e⟩
      · refine iteNt (str_ne zB) ?_
        refine ⟨fun σ' H' => ∃ (t : Addr) (qq r : Nat), DivR A B qq r ∧ σ' = [some (.ref a), some (.ref p), some (.str (mS (lsb A))), some (.str (mS (lsb B))), some (.str (mS (lsb C))), some (.ref t), none, none, none, none, none, none, none, none, none] ∧ H' t = some (.tup [.str (mS (lsb qq)), .str (mS (lsb r))]) ∧ Same H4 H', ?_, ?_⟩
        · exact ⟨_, rfl, _, rfl, _, _, rfl, .inl ⟨A, rfl, hA2, .inl ⟨B, rfl, hB2, .inr ⟨zB, fun qq r G t hd g e => ⟨t, qq, r, hd, rfl, e, g⟩⟩⟩⟩⟩
        rintro _ H5 ⟨t, qq, r, hd, rfl, et, s5'⟩
        have hq2 := hd.q_lt zB hA2
        have hr2 := (hd.r_lt zB hB2).2
        refine ⟨fun σ' H' => σ' = [some (.ref a), some (.ref p), some (.str (mS (lsb A))), some (.str (mS (lsb B))), some (.str (mS (lsb C))), some (.ref t), none, none, none, none, none, none, none, none, none] ∧ Same H5 H', ?_, ?_⟩
        · refine ⟨_, rfl, _, _, _, _, true, rfl, .ty "tuple", .base (.tup et), kit_ty (by decide +kernel), _, rfl, iteF ?_⟩
          refine ⟨_, rfl, t, _, rfl, .inr (.inl (.inl et)), rfl, _, rfl, iteNe ?_⟩
          refine ⟨_, rfl, t, _, _, .str (mS (lsb qq)), rfl, rfl, .inl (.inl et), at_of (j := 0) rfl rfl, _, rfl, qq, B, rfl, hq2, hB2, fun G1 g1 => ?_⟩
          refine ⟨_, rfl, t, _, _, .str (mS (lsb r)), rfl, rfl, .inl (.inl (g1 _ _ et)), at_of (j := 1) rfl rfl, md qq B, r, rfl, md_lt hq2 hB2, up_pow hr2 (by decide), fun G2 g2 => ⟨_, rfl, rfl, _, rfl, ?_⟩⟩
          rw [← hd.1]
          exact iteNe ⟨rfl, g1.trans g2⟩
        rintro _ H6 ⟨rfl, s6'⟩
        have et6 := s6' _ _ et
        refine ⟨_, rfl, t, _, _, .str (mS (lsb r)), rfl, rfl, .inl (.inl et6), at_of (j := 1) rfl rfl, rfl, _, rfl, ?_⟩
        by_cases zr : r = 0
        · subst zr
          exact iteNe ⟨_, rfl, s5'.trans s6'⟩
        · refine iteNt (str_ne zr) ?_
          have len : (lsb r).length < (lsb B).length := by
            rw [lsb_len, lsb_len]
            have := (Nat.log2_lt zr).mpr hd.2
            omega
          have lB := lsb_le hB
          refine ⟨_, rfl, t, _, _, .str (mS (lsb r)), rfl, rfl, .inl (.inl et6), at_of (j := 1) rfl rfl, _, rfl, by rw [mS_len]; exact sizeBig (by omega), _, rfl, _, rfl, by rw [mS_len]; exact sizeBig (by omega), _, _, rfl, rfl, _, rfl, ?_⟩
          rw [decide_eq_false (by rw [mS_len, mS_len]; omega : ¬ ((mS (lsb B)).length : Int) ≤ ((mS (lsb r)).length : Int))]
          exact iteF ⟨_, rfl, s5'.trans s6'⟩
    rintro _ H5 ⟨s5, rfl, s5'⟩
    have x5 := x4.same s5'
    clear x4 s5'
    -- common divisors
    obtain ⟨X, eX⟩ : ∃ X, X = md A C := ⟨_, rfl⟩
    obtain ⟨Y, eY⟩ : ∃ Y, Y = md B C := ⟨_, rfl⟩
    have hX : X < 2 ^ 40 := by rw [eX]; exact md_lt hA hC
    have hY : Y < 2 ^ 40 := by rw [eY]; exact md_lt hB hC
    have hX2 : X < 2 ^ 200 := up_pow hX (by decide)
    have hY2 : Y < 2 ^ 200 := up_pow hY (by decide)
    refine ⟨fun σ' H' => σ' = [some (.ref a), some (.ref p), some (.str (mS (lsb A))), some (.str (mS (lsb B))), some (.str (mS (lsb C))), s5, some (.str (mS (lsb X))), some (.str (mS (lsb Y))), none, none, none, none, none, none, none] ∧ Same H5 H', ?_, ?_⟩
    · refine ⟨_, rfl, _, rfl, _, _, rfl, .inl ⟨A, rfl, hA2, .inl ⟨C, rfl, hC2, fun G1 g1 => ?_⟩⟩⟩
      refine ⟨_, rfl, _, rfl, _, _, rfl, .inl ⟨B, rfl, hB2, .inl ⟨C, rfl, hC2, fun G2 g2 => ⟨_, _, rfl, ?_, g1.trans g2⟩⟩⟩⟩
      rw [← eX, ← eY]
      rfl
    rintro _ H6 ⟨rfl, s6'⟩
    have x6 := x5.same s6'
    clear x5 s6'
    refine ⟨fun σ' H' => ∃ g : Nat, g < 2 ^ 200 ∧ Gc X Y g ∧ σ' = [some (.ref a), some (.ref p), some (.str (mS (lsb A))), some (.str (mS (lsb B))), some (.str (mS (lsb C))), s5, some (.str (mS (lsb X))), some (.str (mS (lsb Y))), some (.str (mS (lsb g))), none, none, none, none, none, none] ∧ Same H6 H', ?_, ?_⟩
    · exact ⟨_, rfl, _, rfl, _, _, rfl, .inl ⟨X, rfl, hX2, .inl ⟨Y, rfl, hY2, fun g G hg gl g1 => ⟨g, gl, hg, rfl, g1⟩⟩⟩⟩
    rintro _ H7 ⟨g, hg2, hG, rfl, s7'⟩
    have x7 := x6.same s7'
    clear x6 s7'
    refine ⟨fun σ' H' => σ' = [some (.ref a), some (.ref p), some (.str (mS (lsb A))), some (.str (mS (lsb B))), some (.str (mS (lsb C))), s5, some (.str (mS (lsb X))), some (.str (mS (lsb Y))), some (.str (mS (lsb g))), none, none, none, none, none, none] ∧ Same H7 H', ?_, ?_⟩
    · have few : (X = 0 ∨ Y = 0) → g = X ^^^ Y := by
        rintro (h | h)
        · rw [h, Nat.zero_xor]
          rw [h] at hG
          exact hG.uniq (gc_swap (gc_end Y))
        · rw [h, Nat.xor_zero]
          rw [h] at hG
          exact hG.uniq (gc_end X)
      rw [txt0]
      have hX4 : X < 2 ^ 400 := up_pow hX (by decide)
      have hY4 : Y < 2 ^ 400 := up_pow hY (by decide)
      have nx0 : ∀ {n : Nat}, ¬ decide (V.str (mS (lsb n)) = V.str (mS (lsb 0))) = true → n ≠ 0 := fun h z => h (by rw [z, decide_eq_true rfl])
      have is0 : ∀ {n : Nat}, decide (V.str (mS (lsb n)) = V.str (mS (lsb 0))) = true → n = 0 := fun h => lsb_inj (mS_inj (V.str.inj (of_decide_eq_true h)))
      refine ⟨_, rfl, rfl, _, rfl, ite2 (fun h => ?_) (fun h => ⟨_, rfl, rfl, _, rfl, ite2 (fun h' => ?_) (fun h' => ?_)⟩)⟩
      · refine ⟨_, rfl, _, rfl, _, rfl, X, Y, rfl, hX4, hY4, fun G g1 => ⟨rfl, _, rfl, ?_⟩⟩
        rw [few (.inl (is0 h))]
        exact iteNe ⟨rfl, g1⟩
      · refine ⟨_, rfl, _, rfl, _, rfl, X, Y, rfl, hX4, hY4, fun G g1 => ⟨rfl, _, rfl, ?_⟩⟩
        rw [few (.inr (is0 h'))]
        exact iteNe ⟨rfl, g1⟩
      · have X0 := nx0 h
        have Y0 := nx0 h'
        obtain ⟨k, ek⟩ := hG.left
        obtain ⟨l, el⟩ := hG.rightd
        have g0 : g ≠ 0 := fun z => X0 (by rw [ek, z, md_zero])
        have C0 : C ≠ 0 := fun z => X0 (by rw [eX, z, md_zero])
        obtain ⟨m, em⟩ := (hG C).mp ⟨⟨A, eX⟩, ⟨B, eY⟩⟩
        have dX : DivR X g k 0 := ⟨by rw [Nat.xor_zero]; exact ek, Nat.two_pow_pos _⟩
        have dY : DivR Y g l 0 := ⟨by rw [Nat.xor_zero]; exact el, Nat.two_pow_pos _⟩
        have dC : DivR g C m 0 := ⟨by rw [Nat.xor_zero]; exact em, Nat.two_pow_pos _⟩
        have hk2 := dX.q_lt g0 hX2
        have hl2 := dY.q_lt g0 hY2
        refine ⟨_, rfl, _, rfl, _, _, rfl, .inl ⟨X, rfl, hX2, .inl ⟨g, rfl, hg2, .inr ⟨g0, fun qq r G1 t hd g1 e1 => ?_⟩⟩⟩⟩
        obtain ⟨rfl, rfl⟩ := hd.uniq g0 dX
        refine ⟨t, _, _, .str (mS (lsb 0)), rfl, rfl, .inl (.inl e1), at_of (j := 1) rfl rfl, rfl, _, rfl, iteNe ?_⟩
        refine ⟨_, rfl, _, rfl, _, _, rfl, .inl ⟨Y, rfl, hY2, .inl ⟨g, rfl, hg2, .inr ⟨g0, fun qq' r G2 t2 hd2 g2 e2 => ?_⟩⟩⟩⟩
        obtain ⟨rfl, rfl⟩ := hd2.uniq g0 dY
        refine ⟨t2, _, _, .str (mS (lsb 0)), rfl, rfl, .inl (.inl e2), at_of (j := 1) rfl rfl, rfl, _, rfl, iteNe ?_⟩
        refine ⟨_, rfl, _, rfl, _, _, rfl, .inl ⟨g, rfl, hg2, .inl ⟨C, rfl, hC2, .inr ⟨C0, fun qq3 r G3 t3 hd3 g3 e3 => ?_⟩⟩⟩⟩
        obtain ⟨rfl, rfl⟩ := hd3.uniq C0 dC
        refine ⟨t3, _, _, .str (mS (lsb 0)), rfl, rfl, .inl (.inl e3), at_of (j := 1) rfl rfl, rfl, _, rfl, iteNe ?_⟩
        refine ⟨_, rfl, _, rfl, _, _, rfl, .inl ⟨X, rfl, hX2, .inl ⟨g, rfl, hg2, .inr ⟨g0, fun q4 r4 G4 t4 hd4 g4 e4 => ?_⟩⟩⟩⟩
        obtain ⟨rfl, rfl⟩ := hd4.uniq g0 dX
        refine ⟨t4, _, _, .str (mS (lsb q4)), rfl, rfl, .inl (.inl e4), at_of (j := 0) rfl rfl, _, rfl, _, rfl, _, _, rfl, .inl ⟨Y, rfl, hY2, .inl ⟨g, rfl, hg2, .inr ⟨g0, fun q5 r5 G5 t5 hd5 g5 e5 => ?_⟩⟩⟩⟩
        obtain ⟨rfl, rfl⟩ := hd5.uniq g0 dY
        refine ⟨t5, _, _, .str (mS (lsb q5)), rfl, rfl, .inl (.inl e5), at_of (j := 0) rfl rfl, _, _, rfl, .inl ⟨q4, rfl, hk2, .inl ⟨q5, rfl, hl2, fun g' G6 hg' _ g6 => ⟨rfl, _, rfl, ?_⟩⟩⟩⟩
        rw [gc_rest hG g0 ek el hg', txt1]
        exact iteNe ⟨rfl, ((((g1.trans g2).trans g3).trans g4).trans g5).trans g6⟩
    rintro _ H8 ⟨rfl, s8'⟩
    have x8 := x7.same s8'
    clear x7 s8'
    refine ⟨fun σ' H' => ∃ (v1 : V) (d1 : Addr) (l1 c1 : Int), σ' = [some (.ref a), some (.ref p), some (.str (mS (lsb A))), some (.str (mS (lsb B))), some (.str (mS (lsb C))), s5, some (.str (mS (lsb X))), some (.str (mS (lsb Y))), some (.str (mS (lsb g))), some v1, some (.ref d1), none, none, none, none] ∧ DW H' d1 v1 l1 c1 ∧ Sx TT p pc 120 H', ?_, ?_⟩
    · obtain ⟨n, hn, hP, tb⟩ := x8
      refine ⟨_, rfl, p, pc, n, rfl, hP, by omega, fun x H' n' hn' hP' kp hw => ?_⟩
      obtain ⟨t, d, v, l, c', rfl, e1, e2, w⟩ := hw
      exact ⟨t, _, rfl, .inl (.inl e1), rfl, _, _, rfl, _, _, rfl, rfl, v, d, l, c', rfl, ⟨e2, w⟩, n', by omega, hP', tabs_keepP hP tb kp⟩
    rintro _ H9 ⟨v1, d1, l1, c1, rfl, w1, x9⟩
    clear x8
    refine ⟨fun σ' H' => ∃ (v2 : V) (d2 : Addr) (l2 c2 : Int), σ' = [some (.ref a), some (.ref p), some (.str (mS (lsb A))), some (.str (mS (lsb B))), some (.str (mS (lsb C))), s5, some (.str (mS (lsb X))), some (.str (mS (lsb Y))), some (.str (mS (lsb g))), some v1, some (.ref d1), some v2, some (.ref d2), none, none] ∧ DW H' d1 v1 l1 c1 ∧ DW H' d2 v2 l2 c2 ∧ Tabs TT H', ?_, ?_⟩
    · obtain ⟨n, hn, hP, tb⟩ := x9
      refine ⟨_, rfl, p, pc, n, rfl, hP, by omega, fun x H' n' hn' hP' kp hw => ?_⟩
      obtain ⟨t, d, v, l, c', rfl, e1, e2, w⟩ := hw
      exact ⟨t, _, rfl, .inl (.inl e1), rfl, _, _, rfl, _, _, rfl, rfl, v, d, l, c', rfl, w1.keepP hP kp, ⟨e2, w⟩, tabs_keepP hP tb kp⟩
    clear w1 x9
    rintro _ H10 ⟨v2, d2, l2, c2, rfl, w1, w2, tb⟩
    -- the first try
    refine ⟨fun σ' H' => ∃ (R : Addr) (xs : List V), σ' = [some (.ref a), some (.ref p), some (.str (mS (lsb A))), some (.str (mS (lsb B))), some (.str (mS (lsb C))), s5, some (.str (mS (lsb X))), some (.str (mS (lsb Y))), some (.str (mS (lsb g))), some v1, some (.ref d1), some v2, some (.ref d2), some (.ref R), none] ∧ TS TT R d1 d2 v1 v2 l1 c1 l2 c2 1 H' xs, ?_, ?_⟩
    · refine ⟨tb, fun G x tb1 => ?_⟩
      have u1 := w1.ext x
      have u2 := w2.ext x
      refine ⟨_, rfl, _, rfl, _, _, rfl, bad_reads u1.2 (fun d H2 s2 ed => .inl ⟨d, _, _, rfl, rfl, ed, fun p0 np => ?_⟩)⟩
      refine ⟨_, rfl, by show 2 ≤ sizeLine; decide, fun t nt => ⟨by show 1 ≤ sizeLine; decide, fun R nR => ?_⟩⟩
      have sa := s2.trans (same_new (o := .lst [.str "text", .int l1, .int c1]) np)
      have sb := sa.trans (same_new (o := .tup [.ref p0, .ref d1]) nt)
      have sc := sb.trans (same_new (o := .lst [.ref t]) nR)
      have z1 := u1.same sb
      have z2 := u2.same sb
      have ep : (upd (upd H2 p0 (.lst [.str "text", .int l1, .int c1])) t (.tup [.ref p0, .ref d1])) p0 = some (.lst [.str "text", .int l1, .int c1]) := same_new nt _ _ upd_same
      refine ⟨R, _, rfl, Tabs.ext tb1 sc, upd_same, fun y hy => ?_, u1.same sc, u2.same sc, ne_of_none z1.1 nR, ne_of_none z2.1 nR, rfl⟩
      rw [List.mem_singleton.mp hy]
      exact ⟨t, p0, d1, _, _, _, rfl, same_new nR _ _ upd_same, same_new nR _ _ ep, same_new nR _ _ z1.1, rfl, rfl, rfl, ne_of_none ep nR, ne_of_none z1.1 nR⟩
    rintro _ H11 ⟨R, xs, rfl, ts⟩
    have tsx : ∃ xs, TS TT R d1 d2 v1 v2 l1 c1 l2 c2 1 H11 xs := ⟨xs, ts⟩
    clear ts xs w1 w2 tb
    refine ⟨fun σ' H' => ∃ xs, σ' = [some (.ref a), some (.ref p), some (.str (mS (lsb A))), some (.str (mS (lsb B))), some (.str (mS (lsb C))), s5, some (.str (mS (lsb X))), some (.str (mS (lsb Y))), some (.str (mS (lsb g))), some v1, some (.ref d1), some v2, some (.ref d2), some (.ref R), none] ∧ TS TT R d1 d2 v1 v2 l1 c1 l2 c2 2 H' xs, ?_, ?_⟩
    · obtain ⟨xs, ts⟩ := tsx
      refine ⟨_, rfl, .inl ⟨rfl, _, SqL.of ts.eR⟩, ts.tb, fun G x tb1 => ?_⟩
      have tg := ts.ext x tb1
      refine ⟨_, rfl, _, rfl, _, _, rfl, .inl ⟨A, rfl, hA2, bad_reads tg.w1.2 (fun d H2 s2 ed => .inl ⟨d, _, _, rfl, rfl, ed, fun p0 np => ?_⟩)⟩⟩
      refine ⟨_, rfl, by show 2 ≤ sizeLine; decide, fun t nt => ?_⟩
      have sa := s2.trans (same_new (o := .lst [.str "text", .int l1, .int c1]) np)
      have tn := tg.same sa
      obtain ⟨eR', ts'⟩ := tn.push upd_same tn.w1.1 rfl rfl rfl (Ne.symm (ne_of_none (s2 _ _ tg.eR) np)) tn.n1 nt
      refine ⟨R, _, _, rfl, rfl, eR', ?_, _, rfl, ts'⟩
      rw [ts.len]
      decide
    clear tsx
    rintro _ Hx ⟨xs, rfl, ts⟩
    have tsx : ∃ xs, TS TT R d1 d2 v1 v2 l1 c1 l2 c2 2 Hx xs := ⟨xs, ts⟩
    clear ts xs
    refine ⟨fun σ' H' => ∃ xs, σ' = [some (.ref a), some (.ref p), some (.str (mS (lsb A))), some (.str (mS (lsb B))), some (.str (mS (lsb C))), s5, some (.str (mS (lsb X))), some (.str (mS (lsb Y))), some (.str (mS (lsb g))), some v1, some (.ref d1), some v2, some (.ref d2), some (.ref R), none] ∧ TS TT R d1 d2 v1 v2 l1 c1 l2 c2 3 H' xs, ?_, ?_⟩
    · obtain ⟨xs, ts⟩ := tsx
      refine ⟨_, rfl, .inl ⟨rfl, _, SqL.of ts.eR⟩, ts.tb, fun G x tb1 => ?_⟩
      have tg := ts.ext x tb1
      refine ⟨_, rfl, _, _, rfl, bad_reads tg.w1.2 (fun d H2 s2 ed => .inl ⟨d, _, _, rfl, rfl, ed, fun p0 np => ?_⟩)⟩
      refine ⟨_, rfl, by show 2 ≤ sizeLine; decide, fun t nt => ?_⟩
      have sa := s2.trans (same_new (o := .lst [.str "text", .int l1, .int c1]) np)
      have tn := tg.same sa
      obtain ⟨eR', ts'⟩ := tn.push upd_same tn.w1.1 rfl rfl rfl (Ne.symm (ne_of_none (s2 _ _ tg.eR) np)) tn.n1 nt
      refine ⟨R, _, _, rfl, rfl, eR', ?_, _, rfl, ts'⟩
      rw [ts.len]
      decide
    clear tsx
    rintro _ Hx ⟨xs, rfl, ts⟩
    have tsx : ∃ xs, TS TT R d1 d2 v1 v2 l1 c1 l2 c2 3 Hx xs := ⟨xs, ts⟩
    clear ts xs
    refine ⟨fun σ' H' => ∃ xs, σ' = [some (.ref a), some (.ref p), some (.str (mS (lsb A))), some (.str (mS (lsb B))), some (.str (mS (lsb C))), s5, some (.str (mS (lsb X))), some (.str (mS (lsb Y))), some (.str (mS (lsb g))), some v1, some (.ref d1), some v2, some (.ref d2), some (.ref R), none] ∧ TS TT R d1 d2 v1 v2 l1 c1 l2 c2 4 H' xs, ?_, ?_⟩
    · obtain ⟨xs, ts⟩ := tsx
      refine ⟨_, rfl, .inl ⟨rfl, _, SqL.of ts.eR⟩, ts.tb, fun G x tb1 => ?_⟩
      have tg := ts.ext x tb1
      refine ⟨_, rfl, _, rfl, _, _, rfl, .inl ⟨A, rfl, hA2, bad_reads tg.w1.2 (fun d H2 s2 ed => .inl ⟨d, _, _, rfl, rfl, ed, fun p0 np => ?_⟩)⟩⟩
      refine ⟨_, rfl, by show 2 ≤ sizeLine; decide, fun t nt => ?_⟩
      have sa := s2.trans (same_new (o := .lst [.str "text", .int l1, .int c1]) np)
      have tn := tg.same sa
      obtain ⟨eR', ts'⟩ := tn.push upd_same tn.w1.1 rfl rfl rfl (Ne.symm (ne_of_none (s2 _ _ tg.eR) np)) tn.n1 nt
      refine ⟨R, _, _, rfl, rfl, eR', ?_, _, rfl, ts'⟩
      rw [ts.len]
      decide
    clear tsx
    rintro _ Hx ⟨xs, rfl, ts⟩
    have tsx : ∃ xs, TS TT R d1 d2 v1 v2 l1 c1 l2 c2 4 Hx xs := ⟨xs, ts⟩
    clear ts xs
    refine ⟨fun σ' H' => ∃ xs, σ' = [some (.ref a), some (.ref p), some (.str (mS (lsb A))), some (.str (mS (lsb B))), some (.str (mS (lsb C))), s5, some (.str (mS (lsb X))), some (.str (mS (lsb Y))), some (.str (mS (lsb g))), some v1, some (.ref d1), some v2, some (.ref d2), some (.ref R), none] ∧ TS TT R d1 d2 v1 v2 l1 c1 l2 c2 5 H' xs, ?_, ?_⟩
    · obtain ⟨xs, ts⟩ := tsx
      refine ⟨_, rfl, .inl ⟨rfl, _, SqL.of ts.eR⟩, ts.tb, fun G x tb1 => ?_⟩
      have tg := ts.ext x tb1
      refine ⟨_, rfl, _, rfl, _, _, rfl, .inl ⟨A, rfl, hA2, bad_reads tg.w1.2 (fun d H2 s2 ed => .inl ⟨d, _, _, rfl, rfl, ed, fun p0 np => ?_⟩)⟩⟩
      refine ⟨_, rfl, by show 2 ≤ sizeLine; decide, fun t nt => ?_⟩
      have sa := s2.trans (same_new (o := .lst [.str "text", .int l1, .int c1]) np)
      have tn := tg.same sa
      obtain ⟨eR', ts'⟩ := tn.push upd_same tn.w1.1 rfl rfl rfl (Ne.symm (ne_of_none (s2 _ _ tg.eR) np)) tn.n1 nt
      refine ⟨R, _, _, rfl, rfl, eR', ?_, _, rfl, ts'⟩
      rw [ts.len]
      decide
    clear tsx
    rintro _ Hx ⟨xs, rfl, ts⟩
    have tsx : ∃ xs, TS TT R d1 d2 v1 v2 l1 c1 l2 c2 5 Hx xs := ⟨xs, ts⟩
    clear ts xs
    refine ⟨fun σ' H' => ∃ xs, σ' = [some (.ref a), some (.ref p), some (.str (mS (lsb A))), some (.str (mS (lsb B))), some (.str (mS (lsb C))), s5, some (.str (mS (lsb X))), some (.str (mS (lsb Y))), some (.str (mS (lsb g))), some v1, some (.ref d1), some v2, some (.ref d2), some (.ref R), none] ∧ TS TT R d1 d2 v1 v2 l1 c1 l2 c2 6 H' xs, ?_, ?_⟩
    · obtain ⟨xs, ts⟩ := tsx
      refine ⟨_, rfl, .inl ⟨rfl, _, SqL.of ts.eR⟩, ts.tb, fun G x tb1 => ?_⟩
      have tg := ts.ext x tb1
      refine ⟨_, rfl, _, rfl, _, _, rfl, .inl ⟨A, rfl, hA2, bad_reads tg.w1.2 (fun d H2 s2 ed => .inl ⟨d, _, _, rfl, rfl, ed, fun p0 np => ?_⟩)⟩⟩
      refine ⟨_, rfl, by show 2 ≤ sizeLine; decide, fun t nt => ?_⟩
      have sa := s2.trans (same_new (o := .lst [.str "text", .int l1, .int c1]) np)
      have tn := tg.same sa
      obtain ⟨eR', ts'⟩ := tn.push upd_same tn.w1.1 rfl rfl rfl (Ne.symm (ne_of_none (s2 _ _ tg.eR) np)) tn.n1 nt
      refine ⟨R, _, _, rfl, rfl, eR', ?_, _, rfl, ts'⟩
      rw [ts.len]
      decide
    clear tsx
    rintro _ Hx ⟨xs, rfl, ts⟩
    have tsx : ∃ xs, TS TT R d1 d2 v1 v2 l1 c1 l2 c2 6 Hx xs := ⟨xs, ts⟩
    clear ts xs
    refine ⟨fun σ' H' => ∃ xs, σ' = [some (.ref a), some (.ref p), some (.str (mS (lsb A))), some (.str (mS (lsb B))), some (.str (mS (lsb C))), s5, some (.str (mS (lsb X))), some (.str (mS (lsb Y))), some (.str (mS (lsb g))), some v1, some (.ref d1), some v2, some (.ref d2), some (.ref R), none] ∧ TS TT R d1 d2 v1 v2 l1 c1 l2 c2 7 H' xs, ?_, ?_⟩
    · obtain ⟨xs, ts⟩ := tsx
      refine ⟨_, rfl, .inl ⟨rfl, _, SqL.of ts.eR⟩, ts.tb, fun G x tb1 => ?_⟩
      have tg := ts.ext x tb1
      refine ⟨_, rfl, _, _, rfl, .inl ⟨A, rfl, hA2, .inl ⟨0, txt0, Nat.two_pow_pos _, .inl ⟨rfl, (fun d H2 s2 ed => .inr ⟨d, _, _, rfl, rfl, ed, fun p0 np => ?_⟩)⟩⟩⟩⟩
      refine ⟨by show 3 ≤ sizeLine; decide, fun dl ndl => ⟨by show 2 ≤ sizeLine; decide, fun t nt => ?_⟩⟩
      have sa := s2.trans (same_new (o := .lst [.str "number", .str "divisor", .str "0"]) np)
      have ep : (upd H2 p0 (.lst [.str "number", .str "divisor", .str "0"])) p0 = some (.lst [.str "number", .str "divisor", .str "0"]) := upd_same
      have tn := tg.same (sa.trans (same_new (o := .lst [.str "number", .str "divisor", .str "0"]) ndl))
      obtain ⟨eR', ts'⟩ := tn.push (same_new ndl _ _ ep) upd_same rfl rfl rfl (Ne.symm (ne_of_none (s2 _ _ tg.eR) np)) (Ne.symm (ne_of_none (sa _ _ tg.eR) ndl)) nt
      refine ⟨R, _, _, rfl, rfl, eR', ?_, _, rfl, ts'⟩
      rw [ts.len]
      decide
    clear tsx
    rintro _ Hx ⟨xs, rfl, ts⟩
    have tsx : ∃ xs, TS TT R d1 d2 v1 v2 l1 c1 l2 c2 7 Hx xs := ⟨xs, ts⟩
    clear ts xs
    refine ⟨fun σ' H' => ∃ xs, σ' = [some (.ref a), some (.ref p), some (.str (mS (lsb A))), some (.str (mS (lsb B))), some (.str (mS (lsb C))), s5, some (.str (mS (lsb X))), some (.str (mS (lsb Y))), some (.str (mS (lsb g))), some v1, some (.ref d1), some v2, some (.ref d2), some (.ref R), none] ∧ TS TT R d1 d2 v1 v2 l1 c1 l2 c2 8 H' xs, ?_, ?_⟩
    · obtain ⟨xs, ts⟩ := tsx
      refine ⟨_, rfl, .inl ⟨rfl, _, SqL.of ts.eR⟩, ts.tb, fun G x tb1 => ?_⟩
      have tg := ts.ext x tb1
      refine ⟨_, rfl, _, rfl, _, _, rfl, bad_reads tg.w2.2 (fun d H2 s2 ed => .inl ⟨d, _, _, rfl, rfl, ed, fun p0 np => ?_⟩)⟩
      refine ⟨_, rfl, by show 2 ≤ sizeLine; decide, fun t nt => ?_⟩
      have sa := s2.trans (same_new (o := .lst [.str "text", .int l2, .int c2]) np)
      have tn := tg.same sa
      obtain ⟨eR', ts'⟩ := tn.push upd_same tn.w2.1 rfl rfl rfl (Ne.symm (ne_of_none (s2 _ _ tg.eR) np)) tn.n2 nt
      refine ⟨R, _, _, rfl, rfl, eR', ?_, _, rfl, ts'⟩
      rw [ts.len]
      decide
    clear tsx
    rintro _ Hx ⟨xs, rfl, ts⟩
    have tsx : ∃ xs, TS TT R d1 d2 v1 v2 l1 c1 l2 c2 8 Hx xs := ⟨xs, ts⟩
    clear ts xs
    obtain ⟨xs, ts⟩ := tsx
    refine ⟨_, rfl, R, rfl, ⟨_, SqL.of ts.eR⟩, fun D nD => ?_⟩

    refine lc_list (K := K) (a := R) (xs := xs) (Pv := fun i Hc => Same Hx Hc ∧ Hc D = some (.lst (List.replicate i (V.bl true)))) ⟨same_new nD, upd_same⟩ (fun i Hc _ ⟨sc, _⟩ => SqL.of (sc _ _ ts.eR)) ?_ ?_
    · rintro i x Hc hi ⟨sc, ec⟩
      obtain ⟨t, p0, d, z1, z2, z3, rfl, e1, e2, e3, f1, f2, f3, _⟩ := ts.ok x (List.mem_of_getElem? hi)
      have hi8 : i < 8 := by
        have := (List.getElem?_eq_some_iff.mp hi).1
        rw [ts.len] at this
        exact this
      refine ⟨t, _, rfl, .inl (.inl (sc _ _ e1)), rfl, _, _, rfl, _, _, rfl, rfl, rfl, ?_⟩
      refine ⟨_, rfl, _, rfl, 1, by decide, .inl ⟨p0, d, _, _, rfl, rfl, SqL.of (sc _ _ e2), SqL.of (sc _ _ e3), .cons (.inl ⟨rfl, f1⟩) (.cons (.inl ⟨rfl, f2⟩) (.cons (.inl ⟨rfl, f3⟩) .nil))⟩, _, ec, ?_, ?_, ?_⟩
      · rw [List.length_replicate]
        exact Nat.lt_of_lt_of_le hi8 (by decide)
      · intro b o e'
        rw [upd_ne (ne_of_none e' nD)]
        exact sc _ _ e'
      · rw [upd_same, ← List.replicate_succ']
    · rintro Hc ⟨sc, ec⟩
      refine ⟨D, List.replicate xs.length true, rfl, SqL.of (by rw [List.map_replicate]; exact ec), ?_⟩
      have e1 : (List.replicate xs.length true).all id = true := by simp
      rw [e1]
      exact q _
end
end KQ

namespace KQ
open PySem PySem.Spec PyProof.Rows L2 LamX

/-! ### what the top has written -/
/-- an own exception class straight over the class at cK, which is straight over ValueError -/
structure KC (K : PySem.W.Frag) (cK C : Addr) : Prop where
  l : ∃ nm q N bs sn sub ab col dd k0 k1 k2 k3 k5, K.lookup C = some (excClassObj nm q C N bs [.ref cK, .type "ValueError", .type "Exception", .type "BaseException", .type "object"] true sn sub ab col dd k0 k1 k2 k3 k5 "ValueError.__new__")
  sa : PySem.W.findIn K (Value.ref C) "__setattr__" = some (some (.builtin "object.__setattr__"))
  ty : PySem.W.typeIn K (.ref C) = some (.type "type")
  kp : PySem.W.keepIn K (Value.ref C) = true
  hg : PySem.W.findIn K (.ref C) "__getattribute__" = some (some (.builtin "BaseException.__getattribute__"))
  hk : PySem.W.findIn K (.ref C) "__getattr__" = some none
  ha : PySem.W.findIn K (Value.ref C) "__class__" = some (some (.builtin "object.__class__"))
theorem KC.of {K : PySem.W.Frag} {cK C N : Addr} {nm q : Str} {bs : List Value} {sn : List Str} {sub : List Value} {ab : Bool} {col : Option Bool} {dd : Option Addr} {k0 k1 k2 k3 k5 : Option Value}
    (l : K.lookup C = some (excClassObj nm q C N bs [.ref cK, .type "ValueError", .type "Exception", .type "BaseException", .type "object"] true sn sub ab col dd k0 k1 k2 k3 k5 "ValueError.__new__"))
    (sa : PySem.W.findIn K (.ref C) "__setattr__" = some (some (.builtin "object.__setattr__"))) (ty : PySem.W.typeIn K (.ref C) = some (.type "type")) (kp : PySem.W.keepIn K (.ref C) = true)
    (hg : PySem.W.findIn K (.ref C) "__getattribute__" = some (some (.builtin "BaseException.__getattribute__"))) (hk : PySem.W.findIn K (.ref C) "__getattr__" = some none)
    (ha : PySem.W.findIn K (.ref C) "__class__" = some (some (.builtin "object.__class__"))) : KC K cK C := ⟨⟨_, _, _, _, _, _, _, _, _, _, _, _, _, _, l⟩, sa, ty, kp, hg, hk, ha⟩
theorem fun_ex {K : PySem.W.Frag} {x qual : Str} {st : Stmt} {f : Addr} {oc : Value} {od an : Option Addr} {osl : Array (Option Value)} {kV doc pm cdv ct : Value} (l : K.lookup f = some ⟨oc, od, .func (PySem.W.fnOf x qual (defArgs st) (defBody st) (defScope st) .none kV doc pm an cdv ct), osl⟩)
    (c : PySem.W.codeIn K cdv qual = true) (k : PySem.W.keepIn K (.ref f) = true) : ∃ d, Fun K x qual st f d := ⟨_, L2.fun_mk l c k⟩
theorem KC.cls {K : PySem.W.Frag} {cK C : Addr} (h : KC K cK C) : ∃ cd, PySem.W.clsIn K C = some cd ∧ cd.mro = [.ref C, .ref cK, .type "ValueError", .type "Exception", .type "BaseException", .type "object"] ∧ cd.hasDict = true := by
  obtain ⟨nm, q, N, bs, sn, sub, ab, col, dd, k0, k1, k2, k3, k5, hl⟩ := h.l
  refine ⟨_, by unfold PySem.W.clsIn; rw [hl] <;> rfl, rfl, rfl⟩
theorem KC.mro {K : PySem.W.Frag} {cK C : Addr} (h : KC K cK C) (b : Value) : PySem.W.mroIn K C b = some ([Value.ref C, .ref cK, .type "ValueError", .type "Exception", .type "BaseException", .type "object"].contains b) := by
  obtain ⟨cd, e, m, _⟩ := h.cls
  unfold PySem.W.mroIn
  rw [e, Option.bind_some, m]
  rfl
theorem KC.exC {K : PySem.W.Frag} {cK C : Addr} (h : KC K cK C) : PySem.W.subIn K (.ref C) (.type "BaseException") = some true := by
  show PySem.W.mroIn K C _ = _
  rw [h.mro]
  rfl
theorem KC.ox {K : PySem.W.Frag} {cK C : Addr} (h : KC K cK C) : OexC K C := by
  obtain ⟨nm, q, N, bs, sn, sub, ab, col, dd, k0, k1, k2, k3, k5, hl⟩ := h.l
  exact ⟨⟨nm, q, N, bs, _, sn, sub, ab, col, dd, k0, k1, k2, k3, k5, hl, rfl⟩, h.sa, h.exC, h.ty, h.kp⟩

theorem KC.hd {K : PySem.W.Frag} {cK C : Addr} (h : KC K cK C) : PySem.W.hasDictIn K C = true := by
  obtain ⟨cd, e, _, d⟩ := h.cls
  show (PySem.W.clsIn K C).any _ = true
  rw [e]
  exact d
theorem KC.xf {K : PySem.W.Frag} {cK C : Addr} (h : KC K cK C) : XfC K C := ⟨h.hg, h.hk, h.exC, h.hd⟩
theorem KC.ex {K : PySem.W.Frag} {cK C : Addr} (h : KC K cK C) : PySem.W.exmOne K (.ref C) (.ref C) = some true := by
  refine PySem.W.exm_ref h.exC h.hd h.ty ?_
  show PySem.W.mroIn K C _ = _
  rw [h.mro, List.contains_cons, beq_self_eq_true, Bool.true_or]


theorem all_mk {l : PySem.W.OpenLaw} {w : World} {K : PySem.W.Frag} {h : Heap} {mg : Str → Option Value} {fa : Addr} {CX : CXT} (eCX : CX = CX0) (X : K.In h) (G : h.Ns mainGlobals mg) (hfa : mg "law" = some (.ref fa)) {ts : List Addr} (hTs : ∀ R ∈ ts, h.get? R = some (PySem.W.tabObj #[]))
    {cK CT CN fB fN fR fO fX fD fP fQ fE fG fSu fPr fDi fDv fPn fDr fPk fPo fTm fPl fBy fRf fWr fLa c tP : Addr} {oc ec kV doc pm ct : Value} {od an dc : Option Addr} {osl sc : Array (Option Value)} {vc : Array Value}
    (aK : PySem.W.nsIn K mainGlobals "KeptError" = some (some (.ref cK)))
    (aT : PySem.W.nsIn K mainGlobals "BadText" = some (some (.ref CT)))
    (aN : PySem.W.nsIn K mainGlobals "BadNumber" = some (some (.ref CN)))
    (kcT : KC K cK CT)
    (kcN : KC K cK CN)
    (icT : PySem.W.findIn K (.ref CT) "__init__" = some (some (.ref fB)))
    (tiT : PySem.W.typeIn K (.ref fB) = some (.type "function"))
    (nt0 : PySem.W.findIn K (.ref CT) "line" = some none)
    (nt1 : PySem.W.findIn K (.ref CT) "column" = some none)
    (FB : ∃ d, Fun K "__init__" "BadText.__init__" sInitT fB d)
    (icN : PySem.W.findIn K (.ref CN) "__init__" = some (some (.ref fN)))
    (tiN : PySem.W.typeIn K (.ref fN) = some (.type "function"))
    (nn0 : PySem.W.findIn K (.ref CN) "what" = some none)
    (nn1 : PySem.W.findIn K (.ref CN) "number" = some none)
    (FN : ∃ d, Fun K "__init__" "BadNumber.__init__" sInitB fN d)
    (exNT : PySem.W.exmOne K (.ref CN) (.ref CT) = some false)
    (gR : PySem.W.nsIn K mainGlobals "read_polynomial" = some (some (.ref fR)))
    (FR : ∃ d, Fun K "read_polynomial" "read_polynomial" sRead fR d)
    (gO : PySem.W.nsIn K mainGlobals "read_both" = some (some (.ref fO)))
    (FO : ∃ d, Fun K "read_both" "read_both" sBoth fO d)
    (gX : PySem.W.nsIn K mainGlobals "polynomial_text" = some (some (.ref fX)))
    (FX : ∃ d, Fun K "polynomial_text" "polynomial_text" sPTx fX d)
    (gD : PySem.W.nsIn K mainGlobals "degree" = some (some (.ref fD)))
    (FD : ∃ d, Fun K "degree" "degree" sDeg fD d)
    (gP : PySem.W.nsIn K mainGlobals "poly_times" = some (some (.ref fP)))
    (FP : ∃ d, Fun K "poly_times" "poly_times" sPTi fP d)
    (gQ : PySem.W.nsIn K mainGlobals "quotient_rest" = some (some (.ref fQ)))
    (FQ : ∃ d, Fun K "quotient_rest" "quotient_rest" sQR fQ d)
    (gE : PySem.W.nsIn K mainGlobals "rest_of" = some (some (.ref fE)))
    (FE : ∃ d, Fun K "rest_of" "rest_of" sRest fE d)
    (gG : PySem.W.nsIn K mainGlobals "common_divisor" = some (some (.ref fG)))
    (FG : ∃ d, Fun K "common_divisor" "common_divisor" sGcd fG d)
    (gSu : PySem.W.nsIn K mainGlobals "sum_of" = some (some (.ref fSu)))
    (FSu : ∃ d, Fun K "sum_of" "sum_of" sSum fSu d)
    (gPr : PySem.W.nsIn K mainGlobals "product_of" = some (some (.ref fPr)))
    (FPr : ∃ d, Fun K "product_of" "product_of" sProd fPr d)
    (gDi : PySem.W.nsIn K mainGlobals "divided" = some (some (.ref fDi)))
    (FDi : ∃ d, Fun K "divided" "divided" sDivd fDi d)
    (gDv : PySem.W.nsIn K mainGlobals "divisor_of" = some (some (.ref fDv)))
    (FDv : ∃ d, Fun K "divisor_of" "divisor_of" sDvs fDv d)
    (gPn : PySem.W.nsIn K mainGlobals "_law_pen" = some (some (.ref fPn)))
    (FPn : ∃ d, Fun K "_law_pen" "_law_pen" sPen fPn d)
    (gDr : PySem.W.nsIn K mainGlobals "_law_draw" = some (some (.ref fDr)))
    (FDr : ∃ d, Fun K "_law_draw" "_law_draw" sDraw fDr d)
    (gPk : PySem.W.nsIn K mainGlobals "_law_pick" = some (some (.ref fPk)))
    (FPk : ∃ d, Fun K "_law_pick" "_law_pick" sPick fPk d)
    (gPo : PySem.W.nsIn K mainGlobals "_law_poly" = some (some (.ref fPo)))
    (FPo : ∃ d, Fun K "_law_poly" "_law_poly" sPoly fPo d)
    (gTm : PySem.W.nsIn K mainGlobals "_law_trim" = some (some (.ref fTm)))
    (FTm : ∃ d, Fun K "_law_trim" "_law_trim" sTrim fTm d)
    (gPl : PySem.W.nsIn K mainGlobals "_law_plus" = some (some (.ref fPl)))
    (FPl : ∃ d, Fun K "_law_plus" "_law_plus" sPlus fPl d)
    (gBy : PySem.W.nsIn K mainGlobals "_law_by" = some (some (.ref fBy)))
    (FBy : ∃ d, Fun K "_law_by" "_law_by" sBy fBy d)
    (gRf : PySem.W.nsIn K mainGlobals "_law_refused" = some (some (.ref fRf)))
    (FRf : ∃ d, Fun K "_law_refused" "_law_refused" sRef fRf d)
    (gWr : PySem.W.nsIn K mainGlobals "_law_wrong_text" = some (some (.ref fWr)))
    (FWr : ∃ d, Fun K "_law_wrong_text" "_law_wrong_text" sWr fWr d)
    (z_isinstance : PySem.W.nsIn K mainGlobals "isinstance" = some none)
    (z_int : PySem.W.nsIn K mainGlobals "int" = some none)
    (z_str : PySem.W.nsIn K mainGlobals "str" = some none)
    (z_len : PySem.W.nsIn K mainGlobals "len" = some none)
    (z_range : PySem.W.nsIn K mainGlobals "range" = some none)
    (z_list : PySem.W.nsIn K mainGlobals "list" = some none)
    (z_tuple : PySem.W.nsIn K mainGlobals "tuple" = some none)
    (z_max : PySem.W.nsIn K mainGlobals "max" = some none)
    (z_enumerate : PySem.W.nsIn K mainGlobals "enumerate" = some none)
    (z_all : PySem.W.nsIn K mainGlobals "all" = some none)
    (gLa : PySem.W.nsIn K mainGlobals "law" = some (some (.ref fLa)))
    (lk : K.lookup fLa = some ⟨oc, od, .func (PySem.W.fnOf "law" "law" (defArgs sLaw) (defBody sLaw) (defScope sLaw) .none kV doc pm an (.ref c) ct), osl⟩)
    (hcd : PySem.W.codeIn K (.ref c) "law" = true)
    (lc : K.lookup c = some ⟨ec, dc, .fields vc, sc⟩)
    (h11 : vc[11]? = some (.ref tP))
    (nP : K.lookup tP = none)
    (hb : PySem.W.codeHdIn K c tP = true)
    (mem : tP ∈ ts) :
    LawAtS l w K CX 8 63 "_law_script" mg fa h := by
  subst eCX
  have e := hfa.symm.trans (PySem.W.mg_of X G gLa)
  cases e
  obtain ⟨dB, FB⟩ := FB
  have bB := FB.binds (ps := ["self", "line", "column"]) fun _ _ _ _ _ _ us hl => match us, hl with | [_, _, _], _ => rfl
  obtain ⟨dN, FN⟩ := FN
  have bN := FN.binds (ps := ["self", "what", "number"]) fun _ _ _ _ _ _ us hl => match us, hl with | [_, _, _], _ => rfl
  obtain ⟨dR, FR⟩ := FR
  have bR := FR.binds (ps := ["text"]) fun _ _ _ _ _ _ us hl => match us, hl with | [_], _ => rfl
  obtain ⟨dO, FO⟩ := FO
  have bO := FO.binds (ps := ["a", "b"]) fun _ _ _ _ _ _ us hl => match us, hl with | [_, _], _ => rfl
  obtain ⟨dX, FX⟩ := FX
  have bX := FX.binds (ps := ["number"]) fun _ _ _ _ _ _ us hl => match us, hl with | [_], _ => rfl
  obtain ⟨dD, FD⟩ := FD
  have bD := FD.binds (ps := ["number"]) fun _ _ _ _ _ _ us hl => match us, hl with | [_], _ => rfl
  obtain ⟨dP, FP⟩ := FP
  have bP := FP.binds (ps := ["one", "other"]) fun _ _ _ _ _ _ us hl => match us, hl with | [_, _], _ => rfl
  obtain ⟨dQ, FQ⟩ := FQ
  have bQ := FQ.binds (ps := ["number", "divisor"]) fun _ _ _ _ _ _ us hl => match us, hl with | [_, _], _ => rfl
  obtain ⟨dE, FE⟩ := FE
  have bE := FE.binds (ps := ["number", "divisor"]) fun _ _ _ _ _ _ us hl => match us, hl with | [_, _], _ => rfl
  obtain ⟨dG, FG⟩ := FG
  have bG := FG.binds (ps := ["one", "other"]) fun _ _ _ _ _ _ us hl => match us, hl with | [_, _], _ => rfl
  obtain ⟨dSu, FSu⟩ := FSu
  have bSu := FSu.binds (ps := ["a", "b"]) fun _ _ _ _ _ _ us hl => match us, hl with | [_, _], _ => rfl
  obtain ⟨dPr, FPr⟩ := FPr
  have bPr := FPr.binds (ps := ["a", "b"]) fun _ _ _ _ _ _ us hl => match us, hl with | [_, _], _ => rfl
  obtain ⟨dDi, FDi⟩ := FDi
  have bDi := FDi.binds (ps := ["a", "b"]) fun _ _ _ _ _ _ us hl => match us, hl with | [_, _], _ => rfl
  obtain ⟨dDv, FDv⟩ := FDv
  have bDv := FDv.binds (ps := ["a", "b"]) fun _ _ _ _ _ _ us hl => match us, hl with | [_, _], _ => rfl
  obtain ⟨dPn, FPn⟩ := FPn
  have bPn := FPn.binds (ps := ["_law_script"]) fun _ _ _ _ _ _ us hl => match us, hl with | [_], _ => rfl
  obtain ⟨dDr, FDr⟩ := FDr
  have bDr := FDr.binds (ps := ["_law_pen_here", "_law_many"]) fun _ _ _ _ _ _ us hl => match us, hl with | [_, _], _ => rfl
  obtain ⟨dPk, FPk⟩ := FPk
  have bPk := FPk.binds (ps := ["_law_pen_here", "_law_some"]) fun _ _ _ _ _ _ us hl => match us, hl with | [_, _], _ => rfl
  obtain ⟨dPo, FPo⟩ := FPo
  have bPo := FPo.binds (ps := ["_law_pen_here", "_law_most"]) fun _ _ _ _ _ _ us hl => match us, hl with | [_, _], _ => rfl
  obtain ⟨dTm, FTm⟩ := FTm
  have bTm := FTm.binds (ps := ["_law_bits"]) fun _ _ _ _ _ _ us hl => match us, hl with | [_], _ => rfl
  obtain ⟨dPl, FPl⟩ := FPl
  have bPl := FPl.binds (ps := ["_law_a", "_law_b"]) fun _ _ _ _ _ _ us hl => match us, hl with | [_, _], _ => rfl
  obtain ⟨dBy, FBy⟩ := FBy
  have bBy := FBy.binds (ps := ["_law_a", "_law_b"]) fun _ _ _ _ _ _ us hl => match us, hl with | [_, _], _ => rfl
  obtain ⟨dRf, FRf⟩ := FRf
  have bRf := FRf.binds (ps := ["_law_call"]) fun _ _ _ _ _ _ us hl => match us, hl with | [_], _ => rfl
  obtain ⟨dWr, FWr⟩ := FWr
  have bWr := FWr.binds (ps := ["_law_pen_here"]) fun _ _ _ _ _ _ us hl => match us, hl with | [_], _ => rfl
  have B : Bl mg := ⟨PySem.W.mg_none_of X G z_isinstance, PySem.W.mg_none_of X G z_int, PySem.W.mg_none_of X G z_str, PySem.W.mg_none_of X G z_len, PySem.W.mg_none_of X G z_range, PySem.W.mg_none_of X G z_list, PySem.W.mg_none_of X G z_tuple, PySem.W.mg_none_of X G z_max, PySem.W.mg_none_of X G z_enumerate, PySem.W.mg_none_of X G z_all⟩
  have TT : BT K mg CT fB dB := ⟨kcT.ox, icT, tiT, nt0, nt1, PySem.W.mg_of X G aT, FB, bB⟩
  have TN : BN K mg CN fN dN := ⟨kcN.ox, icN, tiN, nn0, nn1, PySem.W.mg_of X G aN, FN, bN⟩
  have V : Two K mg CT CN := ⟨PySem.W.mg_of X G aT, PySem.W.mg_of X G aN, nt0, nt1, nn0, nn1, kcT.xf, kcN.xf, kcT.ex, exNT, kcN.ex⟩
  have T : Top K mg CT CN fB fN fR fO fX fD fP fQ fE fG fSu fPr fDi fDv fPn fDr fPk fPo fTm fPl fBy fRf fWr dB dN dR dO dX dD dP dQ dE dG dSu dPr dDi dDv dPn dDr dPk dPo dTm dPl dBy dRf dWr := ⟨B, TT, TN, V, FR, bR, PySem.W.mg_of X G gR, FO, bO, PySem.W.mg_of X G gO, FX, bX, PySem.W.mg_of X G gX, FD, bD, PySem.W.mg_of X G gD, FP, bP, PySem.W.mg_of X G gP, FQ, bQ, PySem.W.mg_of X G gQ, FE, bE, PySem.W.mg_of X G gE, FG, bG, PySem.W.mg_of X G gG, FSu, bSu, PySem.W.mg_of X G gSu, FPr, bPr, PySem.W.mg_of X G gPr, FDi, bDi, PySem.W.mg_of X G gDi, FDv, bDv, PySem.W.mg_of X G gDv, FPn, bPn, PySem.W.mg_of X G gPn, FDr, bDr, PySem.W.mg_of X G gDr, FPk, bPk, PySem.W.mg_of X G gPk, FPo, bPo, PySem.W.mg_of X G gPo, FTm, bTm, PySem.W.mg_of X G gTm, FPl, bPl, PySem.W.mg_of X G gPl, FBy, bBy, PySem.W.mg_of X G gBy, FRf, bRf, PySem.W.mg_of X G gRf, FWr, bWr, PySem.W.mg_of X G gWr⟩
  refine ⟨PySem.W.fnOf "law" "law" (defArgs sLaw) (defBody sLaw) (defScope sLaw) .none kV doc pm an (.ref c) ct, [(c, tP)], spLawT K tP, fun p hp => ?_, fun p hp => ?_, fun p hp => ?_, fun s v => .of_eq rfl, ?_, ?_⟩
  · rw [List.mem_singleton.mp hp]
    exact hTs tP mem
  · rw [List.mem_singleton.mp hp]
    exact nP
  · rw [List.mem_singleton.mp hp]
    exact PySem.W.codeHd_of_K X hb
  · intro H a ns hl _ hT hS
    exact ⟨a, ns, rfl, hS, hl, hT (c, tP) (List.mem_singleton.mpr rfl), fun _ => rfl⟩
  · intro base _ _ TB
    exact ok_law lk hcd (TB (c, tP) (List.mem_singleton.mpr rfl)) T
theorem walk {l : PySem.W.OpenLaw} {q : Program} {loose : List Str} {XP : (Str → Option Value) → Heap → Prop} {YP : World → Heap → Prop} {d : DefRec} {K : Params → PySem.W.Frag} (hn : l.most = some 63) (hdf : d.params.defaults = [])
    (ts : List Addr) (hY : ∀ (w : World) (h : Heap), YP w h → (K w.params).In h) (hT : ∀ (w : World) (h : Heap), YP w h → ∀ R ∈ ts, h.get? R = some (PySem.W.tabObj #[]))
    (F : ∀ (w : World) (mg : Str → Option Value) (fa : Addr) (h : Heap), (K w.params).In h → h.Ns mainGlobals mg → mg d.name = some (.ref fa) → (∀ R ∈ ts, h.get? R = some (PySem.W.tabObj #[])) → LawAtS l w (K w.params) CX0 8 63 "_law_script" mg fa h) :
    PySem.W.WalkO q loose XP YP l.row.toRowW d [] (fun f vs => PySem.call f vs) :=
  walk_ofTs (n := 63) (k := 8) (x := "_law_script") (CX := fun _ => CX0) hn (by decide) hdf ⟨rfl, by decide, by decide⟩ hY (fun w mg fa h Y X G e => F w mg fa h X G e (hT w h Y)) (fun _ _ _ _ _ z => z)
end KQ
open PySem PySem.W PyProof.Rows
set_option maxRecDepth 100000 in
set_option maxHeartbeats 0 in
theorem PySem.Challenge.cw_keptqubits_k02_polynomials_of_bits_holds : PySem.Challenge.rw_keptqubits_k02_polynomials_of_bits.Holds := by
  w_on; o_law; k_head; (case hw => w_witness2)
  k_fill
  refine KQ.walk (l := PySem.Challenge.rw_keptqubits_k02_polynomials_of_bits) rfl rfl _ (fun w h Y => PySem.W.km_in_of Y) (fun w h Y => PySem.W.km_tabs_of Y) ?F
  case F =>
    intro w mg fa h KX G hmg own
    refine' KQ.all_mk rfl KX G hmg own ?zq_aK ?zq_aT ?zq_aN ?zq_kcT ?zq_kcN ?zq_icT ?zq_tiT ?zq_nt0 ?zq_nt1 ?zq_FB ?zq_icN ?zq_tiN ?zq_nn0 ?zq_nn1 ?zq_FN ?zq_exNT ?zq_gR ?zq_FR ?zq_gO ?zq_FO ?zq_gX ?zq_FX ?zq_gD ?zq_FD ?zq_gP ?zq_FP ?zq_gQ ?zq_FQ ?zq_gE ?zq_FE ?zq_gG ?zq_FG ?zq_gSu ?zq_FSu ?zq_gPr ?zq_FPr ?zq_gDi ?zq_FDi ?zq_gDv ?zq_FDv ?zq_gPn ?zq_FPn ?zq_gDr ?zq_FDr ?zq_gPk ?zq_FPk ?zq_gPo ?zq_FPo ?zq_gTm ?zq_FTm ?zq_gPl ?zq_FPl ?zq_gBy ?zq_FBy ?zq_gRf ?zq_FRf ?zq_gWr ?zq_FWr ?zq_z_isinstance ?zq_z_int ?zq_z_str ?zq_z_len ?zq_z_range ?zq_z_list ?zq_z_tuple ?zq_z_max ?zq_z_enumerate ?zq_z_all ?zq_gLa ?zq_lk ?zq_hcd ?zq_lc ?zq_h11 ?zq_nP ?zq_hb ?zq_mem
    (case zq_aK => k_is)
    (case zq_aT => k_is)
    (case zq_aN => k_is)
    (case zq_kcT => refine' KQ.KC.of ?l ?sa ?ty ?kp ?hg ?hk ?ha; (case l => k_is); (case sa => k_is); (case ty => k_is); (case kp => k_is); (case hg => k_is); (case hk => k_is); (case ha => k_is))
    (case zq_kcN => refine' KQ.KC.of ?l ?sa ?ty ?kp ?hg ?hk ?ha; (case l => k_is); (case sa => k_is); (case ty => k_is); (case kp => k_is); (case hg => k_is); (case hk => k_is); (case ha => k_is))
    (case zq_icT => k_is)
    (case zq_tiT => k_is)
    (case zq_nt0 => k_is)
    (case zq_nt1 => k_is)
    (case zq_FB => refine' KQ.fun_ex ?l ?c ?k; (case l => k_is); (case c => k_is); (case k => k_is))
    (case zq_icN => k_is)
    (case zq_tiN => k_is)
    (case zq_nn0 => k_is)
    (case zq_nn1 => k_is)
    (case zq_FN => refine' KQ.fun_ex ?l ?c ?k; (case l => k_is); (case c => k_is); (case k => k_is))
    (case zq_exNT => first | k_is | kernel_rfl | decide +kernel)
    (case zq_gR => k_is)
    (case zq_FR => refine' KQ.fun_ex ?l ?c ?k; (case l => k_is); (case c => k_is); (case k => k_is))
    (case zq_gO => k_is)
    (case zq_FO => refine' KQ.fun_ex ?l ?c ?k; (case l => k_is); (case c => k_is); (case k => k_is))
    (case zq_gX => k_is)
    (case zq_FX => refine' KQ.fun_ex ?l ?c ?k; (case l => k_is); (case c => k_is); (case k => k_is))
    (case zq_gD => k_is)
    (case zq_FD => refine' KQ.fun_ex ?l ?c ?k; (case l => k_is); (case c => k_is); (case k => k_is))
    (case zq_gP => k_is)
    (case zq_FP => refine' KQ.fun_ex ?l ?c ?k; (case l => k_is); (case c => k_is); (case k => k_is))
    (case zq_gQ => k_is)
    (case zq_FQ => refine' KQ.fun_ex ?l ?c ?k; (case l => k_is); (case c => k_is); (case k => k_is))
    (case zq_gE => k_is)
    (case zq_FE => refine' KQ.fun_ex ?l ?c ?k; (case l => k_is); (case c => k_is); (case k => k_is))
    (case zq_gG => k_is)
    (case zq_FG => refine' KQ.fun_ex ?l ?c ?k; (case l => k_is); (case c => k_is); (case k => k_is))
    (case zq_gSu => k_is)
    (case zq_FSu => refine' KQ.fun_ex ?l ?c ?k; (case l => k_is); (case c => k_is); (case k => k_is))
    (case zq_gPr => k_is)
    (case zq_FPr => refine' KQ.fun_ex ?l ?c ?k; (case l => k_is); (case c => k_is); (case k => k_is))
    (case zq_gDi => k_is)
    (case zq_FDi => refine' KQ.fun_ex ?l ?c ?k; (case l => k_is); (case c => k_is); (case k => k_is))
    (case zq_gDv => k_is)
    (case zq_FDv => refine' KQ.fun_ex ?l ?c ?k; (case l => k_is); (case c => k_is); (case k => k_is))
    (case zq_gPn => k_is)
    (case zq_FPn => refine' KQ.fun_ex ?l ?c ?k; (case l => k_is); (case c => k_is); (case k => k_is))
    (case zq_gDr => k_is)
    (case zq_FDr => refine' KQ.fun_ex ?l ?c ?k; (case l => k_is); (case c => k_is); (case k => k_is))
    (case zq_gPk => k_is)
    (case zq_FPk => refine' KQ.fun_ex ?l ?c ?k; (case l => k_is); (case c => k_is); (case k => k_is))
    (case zq_gPo => k_is)
    (case zq_FPo => refine' KQ.fun_ex ?l ?c ?k; (case l => k_is); (case c => k_is); (case k => k_is))
    (case zq_gTm => k_is)
    (case zq_FTm => refine' KQ.fun_ex ?l ?c ?k; (case l => k_is); (case c => k_is); (case k => k_is))
    (case zq_gPl => k_is)
    (case zq_FPl => refine' KQ.fun_ex ?l ?c ?k; (case l => k_is); (case c => k_is); (case k => k_is))
    (case zq_gBy => k_is)
    (case zq_FBy => refine' KQ.fun_ex ?l ?c ?k; (case l => k_is); (case c => k_is); (case k => k_is))
    (case zq_gRf => k_is)
    (case zq_FRf => refine' KQ.fun_ex ?l ?c ?k; (case l => k_is); (case c => k_is); (case k => k_is))
    (case zq_gWr => k_is)
    (case zq_FWr => refine' KQ.fun_ex ?l ?c ?k; (case l => k_is); (case c => k_is); (case k => k_is))
    (case zq_z_isinstance => k_is)
    (case zq_z_int => k_is)
    (case zq_z_str => k_is)
    (case zq_z_len => k_is)
    (case zq_z_range => k_is)
    (case zq_z_list => k_is)
    (case zq_z_tuple => k_is)
    (case zq_z_max => k_is)
    (case zq_z_enumerate => k_is)
    (case zq_z_all => k_is)
    (case zq_gLa => k_is)
    (case zq_lk => k_is)
    (case zq_hcd => k_is)
    (case zq_lc => k_is)
    (case zq_h11 => rfl)
    (case zq_nP => kernel_rfl)
    (case zq_hb => kernel_rfl)
    (case zq_mem => simp)
