import PyProof.Rows.All
import Wide.All
import OpenK.AllK
import Wide.FinOn
import HandS.ForMost
import HandS.Wide
import HandS.Codes
import HandS.Base
import HandS.Call
import HandS.List
import HandS.Text
import HandS.StrMore
import PyProof.Rows.StrStrike
import PyProof.Rows.StrCountLaw
import HandS.Exc
import HandS.TryMany
import HandS.OwnEq
import HandS.Strs
import HandS.Replace
import HandS.ReplaceLit
import HandS.Comp
import HandS.IsInst
import HandS.ExcInit
import HandS.ExcField
import HandS.WordsExc
import HandS.Style
import HandS.DeepEq
import HandS.CallLocal
import HandS.Lambda
import HandS.EndOwn
import HandS.Walk
import HandS.ExcIs
import PyProof.ListStr
import PyProof.ZipIter
import PyProof.Draws
import PyProof.EnumMake
import HandS.Iter
import PyProof.Rows.SeqCalls
import HandS.WideBits
import HandS.Dict
import PyProof.StrOps2
import PySem.Challenge.RW_keptqubits_k08_whole_products_of_strings
set_option Elab.async false
set_option linter.all false
set_option maxRecDepth 100000
set_option maxHeartbeats 4000000
namespace KQ
open PySem PySem.Spec PyProof.Rows L2
/-! ### the text -/
def topS (i : Nat) : Stmt := PySem.Challenge.pw_keptqubits_k08_whole_products_of_strings.main.body.getD i (.Pass ⟨0, 0, 0, 0⟩)
abbrev sPen : Stmt := topS 15
abbrev sDraw : Stmt := topS 16
abbrev sPick : Stmt := topS 17
theorem scPen : FnScope ["_law_script", "_law_fold", "_law_cell"] ["_law_script"] (defScope sPen) := ⟨rfl, rfl, rfl, by decide +kernel, rfl, by decide +kernel, by decide +kernel⟩
theorem scDraw : FnScope ["_law_pen_here", "_law_many", "_law_cell", "_law_digit", "_law_mixed"] ["_law_pen_here", "_law_many"] (defScope sDraw) := ⟨rfl, rfl, rfl, by decide +kernel, rfl, by decide +kernel, by decide +kernel⟩
theorem scPick : FnScope ["_law_pen_here", "_law_some"] ["_law_pen_here", "_law_some"] (defScope sPick) := ⟨rfl, rfl, rfl, by decide +kernel, rfl, by decide +kernel, by decide +kernel⟩
/-! ### the pen -/
theorem k12 : ¬ ("cells" : Str) = "at" := by decide +kernel
theorem k13 : ¬ ("cells" : Str) = "digits" := by decide +kernel
theorem k14 : ¬ ("cells" : Str) = "count" := by decide +kernel
theorem k15 : ¬ ("cells" : Str) = "fold" := by decide +kernel
theorem k21 : ¬ ("at" : Str) = "cells" := by decide +kernel
theorem k23 : ¬ ("at" : Str) = "digits" := by decide +kernel
theorem k24 : ¬ ("at" : Str) = "count" := by decide +kernel
theorem k25 : ¬ ("at" : Str) = "fold" := by decide +kernel
theorem k31 : ¬ ("digits" : Str) = "cells" := by decide +kernel
theorem k32 : ¬ ("digits" : Str) = "at" := by decide +kernel
theorem k34 : ¬ ("digits" : Str) = "count" := by decide +kernel
theorem k35 : ¬ ("digits" : Str) = "fold" := by decide +kernel
theorem k41 : ¬ ("count" : Str) = "cells" := by decide +kernel
theorem k42 : ¬ ("count" : Str) = "at" := by decide +kernel
theorem k43 : ¬ ("count" : Str) = "digits" := by decide +kernel
theorem k45 : ¬ ("count" : Str) = "fold" := by decide +kernel
theorem k51 : ¬ ("fold" : Str) = "cells" := by decide +kernel
theorem k52 : ¬ ("fold" : Str) = "at" := by decide +kernel
theorem k53 : ¬ ("fold" : Str) = "digits" := by decide +kernel
theorem k54 : ¬ ("fold" : Str) = "count" := by decide +kernel
def kvsP (c : Addr) (a d n f : Int) : List (Key × V) := [(.inr "cells", .ref c), (.inr "at", .int a), (.inr "digits", .int d), (.inr "count", .int n), (.inr "fold", .int f)]
section
variable (c : Addr) (a d n f z : Int)
theorem vCells : valV (kvsP c a d n f) (.inr "cells" : Key) = some (.ref c) := by simp [kvsP, valV, List.find?]
theorem vAt : valV (kvsP c a d n f) (.inr "at" : Key) = some (.int a) := by simp [kvsP, valV, List.find?, k12]
theorem vDigits : valV (kvsP c a d n f) (.inr "digits" : Key) = some (.int d) := by simp [kvsP, valV, List.find?, k13, k23]
theorem vCount : valV (kvsP c a d n f) (.inr "count" : Key) = some (.int n) := by simp [kvsP, valV, List.find?, k14, k24, k34]
theorem vFold : valV (kvsP c a d n f) (.inr "fold" : Key) = some (.int f) := by simp [kvsP, valV, List.find?, k15, k25, k35, k45]
theorem pAt : putK (kvsP c a d n f) (.inr "at" : Key) (.int z) = kvsP c z d n f := by simp [kvsP, putK, k12, k32, k42, k52]
theorem pDigits : putK (kvsP c a d n f) (.inr "digits" : Key) (.int z) = kvsP c a z n f := by simp [kvsP, putK, k13, k23, k43, k53]
theorem pCount : putK (kvsP c a d n f) (.inr "count" : Key) (.int z) = kvsP c a d z f := by simp [kvsP, putK, k14, k24, k34, k54]
theorem pFold : putK (kvsP c a d n f) (.inr "fold" : Key) (.int z) = kvsP c a d n z := by simp [kvsP, putK, k15, k25, k35, k45]
theorem mPen : mergeK [] [((.inr "cells" : Key), V.ref c), (.inr "at", .int a), (.inr "digits", .int d), (.inr "count", .int n), (.inr "fold", .int f)] = kvsP c a d n f := by
  simp [mergeK, kvsP, putK, k12, k13, k14, k15, k23, k24, k25, k34, k35, k45]
end
theorem getS {H : Hp} {a : Addr} {kvs : List (Key × V)} {x : Str} {v : V} (e : H a = some (.dK kvs)) (h : valV kvs (.inr x : Key) = some v) : DGet H a (.str x) (some v) := .inl ⟨kvs, .inr x, .inl e, rfl, h.symm⟩
theorem putS {H : Hp} {a : Addr} {kvs kvs' : List (Key × V)} {x : Str} {v : V} (e : H a = some (.dK kvs)) (hl : kvs.length < sizeLine) (h : putK kvs (.inr x : Key) v = kvs') : DPut H a (.str x) v (upd H a (.dK kvs')) := .inl ⟨kvs, .inr x, e, rfl, hl, by rw [h]⟩
theorem lenP {c : Addr} {a d n f : Int} : (kvsP c a d n f).length < sizeLine := small1000 (by show 5 ≤ 1000; decide)
/-- a pen stands at p, its cells at c, n draws so far -/
def PenAt (H : Hp) (p c : Addr) (n : Nat) : Prop := ∃ (ns : List Int) (a d f : Int), H p = some (.dK (kvsP c a d n f)) ∧ H c = some (.lst (ns.map V.int)) ∧ ns.length ≤ 63 ∧ 0 ≤ a ∧ 0 ≤ d ∧ 0 ≤ f ∧ f < 2147483587
theorem PenAt.ne {H : Hp} {p c : Addr} {n : Nat} (h : PenAt H p c n) : p ≠ c := by
  obtain ⟨ns, a, d, f, hp, hc, _⟩ := h
  exact ne_of hp hc (by intro z; cases z)
theorem PenAt.same {H H' : Hp} {p c : Addr} {n : Nat} (h : PenAt H p c n) (hp : H' p = H p) (hc : H' c = H c) : PenAt H' p c n := by
  obtain ⟨ns, a, d, f, e1, e2, r⟩ := h
  exact ⟨ns, a, d, f, hp.trans e1, hc.trans e2, r⟩
theorem PenAt.some {H : Hp} {p c : Addr} {n : Nat} (h : PenAt H p c n) : (∃ o, H p = some o) ∧ ∃ o, H c = some o := by
  obtain ⟨ns, a, d, f, e1, e2, r⟩ := h
  exact ⟨⟨_, e1⟩, ⟨_, e2⟩⟩
theorem PenAt.ext {H H' : Hp} {p c : Addr} {n : Nat} (h : PenAt H p c n) (s : Same H H') : PenAt H' p c n := by
  obtain ⟨⟨o, e1⟩, o', e2⟩ := h.some
  exact h.same ((s _ _ e1).trans e1.symm) ((s _ _ e2).trans e2.symm)
theorem sqL_pen {K : PySem.W.Frag} {H H' : Hp} {p y : Addr} {xs : List V} {kv : List (Key × V)} (hk : ∀ b, b ≠ p → H' b = H b) (hp : H p = some (.dK kv)) (h : SqL K H y xs) : SqL K H' y xs := by
  rcases h with (h | ⟨ob, h⟩) | h
  · exact .inl (.inl ((hk y (ne_of h hp (by intro z; cases z))).trans h))
  · exact .inl (.inr ⟨ob, (hk y (ne_of h hp (by intro z; cases z))).trans h⟩)
  · exact .inr h
theorem sqT_pen {K : PySem.W.Frag} {H H' : Hp} {p y : Addr} {xs : List V} {kv : List (Key × V)} (hk : ∀ b, b ≠ p → H' b = H b) (hp : H p = some (.dK kv)) (h : SqT K H y xs) : SqT K H' y xs := by
  rcases h with (h | ⟨ob, h⟩) | h
  · exact .inl (.inl ((hk y (ne_of h hp (by intro z; cases z))).trans h))
  · exact .inl (.inr ⟨ob, (hk y (ne_of h hp (by intro z; cases z))).trans h⟩)
  · exact .inr h
theorem ix_or {X : Cx} {r1 r2 : R2} (h1 : IxR X r1) (h2 : IxR X r2) : IxR X (fun x y H Q => r1 x y H Q ∨ r2 x y H Q) := by
  intro val sl pins st σ G x y v u Q J rx ry h hs
  rcases h with h | h
  · exact h1 val sl pins st σ G x y v u Q J rx ry h hs
  · exact h2 val sl pins st σ G x y v u Q J rx ry h hs
def spPen (K : PySem.W.Frag) : Sp := fun vs H Q _ => ∃ (a : Addr) (ns : List Int), vs = [.ref a] ∧ SqL K H a (ns.map V.int) ∧ ns.length ≤ 63 ∧
  ∀ H' p c, Same H H' → H p = none → H c = none → PenAt H' p c 0 → Q (.ref p) H'
def spDraw : Sp := fun vs H Q _ => ∃ (p c : Addr) (n : Nat) (m : Int), vs = [.ref p, .int m] ∧ PenAt H p c n ∧ n < 1000000 ∧ 0 < m ∧ m.natAbs < 2 ^ 200 ∧
  ∀ (r : Int) H', 0 ≤ r → r < m → PenAt H' p c (n + 1) → (∀ b, b ≠ p → H' b = H b) → Q (.int r) H'
def spPick (K : PySem.W.Frag) : Sp := fun vs H Q _ => ∃ (p c q : Addr) (n : Nat) (xs : List V), vs = [.ref p, .ref q] ∧ PenAt H p c n ∧ n < 1000000 ∧ (SqL K H q xs ∨ SqT K H q xs) ∧ xs ≠ [] ∧ xs.length ≤ 1000 ∧
  ∀ (i : Nat) (v : V) H', xs[i]? = some v → PenAt H' p c (n + 1) → (∀ b, b ≠ p → H' b = H b) → Q v H'
section
variable {P : Program} {w : World} {K : PySem.W.Frag} {mg : Str → Option Value} {base : Heap}
theorem ok_pen {f : Addr} {fd : FuncData} {k : Nat} (F : Fun K "_law_pen" "_law_pen" sPen f fd) (mi : mg "int" = none) (ml : mg "list" = none) : FnOk P w K mg base CX0 (k + 1) f fd ["_law_script"] (spPen K) := by
  refine F.ok scPen (fun vs H Q E h => ?_) (fun cdv A outer s H vs Q E hr h => ?_)
  · obtain ⟨a, ns, rfl, _⟩ := h
    rfl
  · obtain ⟨a, ns, rfl, hS, hlen, q⟩ := h
    refine ⟨_, pss_cons (ps_set (i := 1) scPen.nd rfl (.inl rfl) pe_int)
      (pss_cons (ps_for PassesOwn.never rfl (pi_list (pv 0)) (pg_name (i := 2) scPen.nd rfl (.inl rfl))
        (pss_one (ps_set (i := 1) scPen.nd rfl (.inl rfl) (pe_op op_mod (pe_callTy call_int1 (by rfl) mi (by decide +kernel) (pa_cons (pe_op op_add (pe_op op_mul (pv 1) pe_int) (pv 2)) pa_nil)) pe_int))))
      (pss_one (ps_ret (pe_disp (pps_cons pe_str (pe_callTy call_list_of (by rfl) ml (by decide +kernel) (pa_cons (pv 0) pa_nil)) (pps_cons pe_str pe_int (pps_cons pe_str pe_int (pps_cons pe_str pe_int (pps_cons pe_str (pv 1) pps_nil))))) (by rfl) (by rfl) (fun z => by cases z) (by decide))))), ?_⟩
    refine ⟨_, rfl, a, rfl, ⟨_, hS⟩, for_list (K := K) (a := a) (xs := ns.map V.int) (fun i σ H2 => ∃ (g : Int) (v : Option V), σ = [some (.ref a), some (.int g), v] ∧ H2 = H ∧ 0 ≤ g ∧ g < 1000000007)
      ⟨0, none, rfl, rfl, by decide, by decide⟩ (fun i σ H2 _ ⟨_, _, _, e, _⟩ => by rw [e]; exact hS) ?_ ?_⟩
    · rintro i y σ H2 hi ⟨g, v, rfl, rfl, h0, h1⟩
      obtain ⟨z, rfl⟩ : ∃ z, y = V.int z := by
        rw [List.getElem?_map] at hi
        cases e : ns[i]? with
        | none => rw [e] at hi; cases hi
        | some z => rw [e] at hi; exact ⟨z, (Option.some.inj hi).symm⟩
      refine ⟨_, rfl, _, _, rfl, rfl, .inr ⟨by decide, by decide⟩, _, rfl, _, _, rfl, rfl, .inl ⟨_, rfl, _, _, rfl, rfl, (by show (0 : Int) < 1000000007; decide), ?_⟩⟩
      exact ⟨_, _, rfl, rfl, Int.emod_nonneg _ (by decide), Int.emod_lt_of_pos _ (by decide)⟩
    · rintro σ H2 ⟨g, v, rfl, rfl, h0, h1⟩
      intro p np
      refine ⟨.ref a, rfl, a, ns.map V.int, rfl, .inl ?_, fun c nc => ?_⟩
      · exact Same.seq (H := H2) (fun b o e => by rw [upd_ne (ne_of_none e np)]; exact e) hS
      have ncp : c ≠ p := fun e => by rw [e, upd_same] at nc; cases nc
      have nc2 : H2 c = none := by rw [upd_ne ncp] at nc; exact nc
      refine ⟨_, rfl, ?_⟩
      refine ⟨by rw [upd_ne ncp.symm, upd_same], [((.inr "cells" : Key), V.ref c), (.inr "at", .int 0), (.inr "digits", .int 0), (.inr "count", .int 0), (.inr "fold", .int g)], rfl, (by show 5 ≤ 15; decide), ?_⟩
      rw [mPen]
      refine q _ p c (fun b o e => ?_) np nc2 ⟨ns, 0, 0, g, upd_same, ?_, hlen, by decide, by decide, h0, by omega⟩
      · rw [upd_ne (ne_of_none e np), upd_ne (ne_of_none e nc2), upd_ne (ne_of_none e np)]
        exact e
      · rw [upd_ne ncp, upd_same]
theorem ok_draw {f : Addr} {fd : FuncData} {k : Nat} (F : Fun K "_law_draw" "_law_draw" sDraw f fd) (mi : mg "int" = none) (ml : mg "len" = none) : FnOk P w K mg base CX0 (k + 1) f fd ["_law_pen_here", "_law_many"] spDraw := by
  refine F.ok scDraw (fun vs H Q E h => ?_) (fun cdv A outer s H vs Q E hr h => ?_)
  · obtain ⟨p, c, n, m, rfl, _⟩ := h
    rfl
  · obtain ⟨p, c, n, m, rfl, hP, hn, hm, hm9, q⟩ := h
    have hu := hu_of hr
    have hpc := hP.ne
    obtain ⟨ns, a0, d0, f0, hp, hc, hlen, ha, hd, hf0, hf1⟩ := hP
    refine ⟨_, pss_cons (ps_dput hu (pv 0) pe_str (pe_op op_add (pe_dget hu (pv 0) pe_str (fun _ _ => rfl)) pe_int) rfl)
      (C8.pss_cut (ps_if (pw_and (pt_cmpR op_eq (pe_dget hu (pv 0) pe_str (fun _ _ => rfl)) pe_int (nomark _))
            (pw_and1 (pt_cmpR op_lt (pe_dget hu (pv 0) pe_str (fun _ _ => rfl)) (pe_callB call_len_seq (by rfl) ml PySem.boot_len (pa_cons (pe_dget hu (pv 0) pe_str (fun _ _ => rfl)) pa_nil)) (nomark _)))).pt
          (pss_cons (ps_set (i := 2) scDraw.nd rfl (.inl rfl) (pe_ix ix_list (pe_dget hu (pv 0) pe_str (fun _ _ => rfl)) (pe_dget hu (pv 0) pe_str (fun _ _ => rfl)) (fun _ _ => rfl)))
          (pss_cons (ps_dput hu (pv 0) pe_str (pe_op op_add (pe_dget hu (pv 0) pe_str (fun _ _ => rfl)) pe_int) rfl)
          (pss_one (ps_if (pt_cmpR op_ge (pv 2) (pe_op op_pow pe_int pe_int) (nomark _))
            (pss_one (ps_dput hu (pv 0) pe_str (pe_op op_sub (pv 2) (pe_op op_pow pe_int pe_int)) rfl))
            (pss_one (ps_dput hu (pv 0) pe_str (pe_op op_mod (pe_callTy call_int1 (by rfl) mi (by decide +kernel) (pa_cons (pe_op op_add (pe_op op_mul (pe_dget hu (pv 0) pe_str (fun _ _ => rfl)) pe_int) (pv 2)) pa_nil)) pe_int) rfl))))))
          pss_nil)
      (pss_cons (ps_if (pt_cmpR op_gt (pe_dget hu (pv 0) pe_str (fun _ _ => rfl)) pe_int (nomark _))
          (pss_cons (ps_set (i := 3) scDraw.nd rfl (.inl rfl) (pe_op op_mod (pe_callTy call_int1 (by rfl) mi (by decide +kernel) (pa_cons (pe_dget hu (pv 0) pe_str (fun _ _ => rfl)) pa_nil)) (pv 1)))
          (pss_cons (ps_dput hu (pv 0) pe_str (pe_op op_fdivW (pe_dget hu (pv 0) pe_str (fun _ _ => rfl)) (pv 1)) rfl)
          (pss_one (ps_ret (pv 3)))))
          pss_nil)
      (pss_cons (ps_set (i := 4) scDraw.nd rfl (.inl rfl) (pe_op op_add (pe_op op_add (pe_dget hu (pv 0) pe_str (fun _ _ => rfl)) (pe_op op_mul (pe_dget hu (pv 0) pe_str (fun _ _ => rfl)) pe_int)) pe_int))
      (pss_one (ps_ret (pe_op op_mod (pe_op op_fdivW (pe_callTy call_int1 (by rfl) mi (by decide +kernel) (pa_cons (pe_op op_mod (pe_op op_pow (pv 4) pe_int) pe_int) pa_nil)) pe_int) (pv 1))))))), ?_⟩
    -- count
    refine ⟨_, rfl, p, _, rfl, getS hp (vCount ..), _, _, rfl, rfl, _, rfl, p, _, rfl, putS hp lenP (pCount ..), ?_⟩
    have up : ∀ {o : HO}, (upd H p o) p = some o := fun {o} => upd_same
    have uc : ∀ {o : HO}, (upd H p o) c = some (.lst (ns.map V.int)) := fun {o} => by rw [upd_ne hpc.symm]; exact hc
    -- the cell
    refine ⟨fun σ' H' => ∃ (a d g : Int) (v2 : Option V), σ' = [some (.ref p), some (.int m), v2, none, none] ∧ H' = upd H p (.dK (kvsP c a d ((n : Int) + 1) g)) ∧ 0 ≤ a ∧ 0 ≤ d ∧ 0 ≤ g ∧ g < 2147483587, ?_, ?_⟩
    · refine ⟨_, rfl, p, _, rfl, getS up (vDigits ..), rfl, _, rfl, ite2 (fun e1 => ?_) (fun e1 => ?_)⟩
      · refine ⟨_, rfl, p, _, rfl, getS up (vAt ..), _, rfl, p, _, rfl, getS up (vCells ..), c, _, rfl, .inl (SqL.of uc), _, _, rfl, rfl, _, rfl, ite2 (fun e2 => ?_) (fun e2 => ?_)⟩
        · have e2' : a0 < (ns.length : Int) := by
            have z := of_decide_eq_true e2
            rw [List.length_map] at z
            exact z
          have hat : (ns.map V.int)[a0.toNat]? = some (V.int (ns[a0.toNat]'(by omega))) := by
            rw [List.getElem?_map, List.getElem?_eq_getElem (by omega)]
            rfl
          refine ⟨_, rfl, p, _, rfl, getS up (vCells ..), _, rfl, p, _, rfl, getS up (vAt ..), c, _, _, _, rfl, rfl, SqL.of uc, at_of (by omega) hat, ?_⟩
          refine ⟨_, rfl, p, _, rfl, getS up (vAt ..), _, _, rfl, rfl, _, rfl, p, _, rfl, putS up lenP (pAt ..), ?_⟩
          rw [upd_upd]
          refine ⟨_, rfl, _, _, rfl, rfl, ⟨by decide, by decide, by decide⟩, _, _, rfl, rfl, _, rfl, ite2 (fun e3 => ?_) (fun e3 => ?_)⟩
          · refine ⟨_, rfl, _, _, rfl, rfl, ⟨by decide, by decide, by decide⟩, _, _, rfl, rfl, _, rfl, p, _, rfl, putS up lenP (pDigits ..), ?_⟩
            rw [upd_upd]
            have e3' := of_decide_eq_true e3
            exact ⟨_, _, _, _, rfl, rfl, by omega, by omega, hf0, hf1⟩
          · refine ⟨_, rfl, p, _, rfl, getS up (vFold ..), _, _, rfl, rfl, .inr ⟨by decide, by decide⟩, _, rfl, _, _, rfl, rfl, .inl ⟨_, rfl, _, _, rfl, rfl, (by show (0 : Int) < 2147483587; decide), _, rfl, p, _, rfl, putS up lenP (pFold ..), ?_⟩⟩
            rw [upd_upd]
            exact ⟨_, _, _, _, rfl, rfl, by omega, hd, Int.emod_nonneg _ (by decide), Int.emod_lt_of_pos _ (by decide)⟩
        · exact ⟨_, _, _, _, rfl, rfl, ha, hd, hf0, hf1⟩
      · refine iteF ?_
        exact ⟨_, _, _, _, rfl, rfl, ha, hd, hf0, hf1⟩
    · rintro σ' H' ⟨a, d, g, v2, rfl, rfl, ha', hd', hg0, hg1⟩
      have fin : ∀ (r a d g : Int), 0 ≤ r → r < m → 0 ≤ a → 0 ≤ d → 0 ≤ g → g < 2147483587 → Q (.int r) (upd H p (.dK (kvsP c a d ((n : Int) + 1) g))) := fun r a d g r0 r1 a0 d0 g0 g1 =>
        q r _ r0 r1 ⟨ns, a, d, g, up, uc, hlen, a0, d0, g0, g1⟩ fun b hb => upd_ne hb
      refine ⟨_, rfl, p, _, rfl, getS up (vDigits ..), _, _, rfl, rfl, _, rfl, ite2 (fun e1 => ?_) (fun e1 => ?_)⟩
      · refine ⟨_, rfl, p, _, rfl, getS up (vDigits ..), .inl ⟨_, rfl, _, rfl, _, _, rfl, rfl, hm, ?_⟩⟩
        refine ⟨_, rfl, p, _, rfl, getS up (vDigits ..), _, rfl, _, _, rfl, rfl, wide_div hm hm9 (by decide) (by decide), _, rfl, p, _, rfl, putS up lenP (pDigits ..), ?_⟩
        rw [upd_upd]
        refine ⟨_, rfl, ?_⟩
        exact fin _ _ _ _ (Int.emod_nonneg _ (by omega)) (Int.emod_lt_of_pos _ hm) ha' (Int.ediv_nonneg hd' (by omega)) hg0 hg1
      · refine ⟨_, rfl, p, _, rfl, getS up (vFold ..), _, rfl, p, _, rfl, getS up (vCount ..), _, _, rfl, rfl, .inr ⟨by decide, by decide⟩, _, _, rfl, rfl, _, _, rfl, rfl, ?_⟩
        refine ⟨_, rfl, _, _, rfl, rfl, ⟨by decide, by decide, ?_⟩, _, _, rfl, rfl, (by show (0 : Int) < 2305843009213693951; decide), .inl ⟨_, rfl, _, _, rfl, rfl, wide_div (b := 200) (by decide) (by decide) (by decide) (by decide), _, rfl, _, _, rfl, rfl, hm, ?_⟩⟩
        · omega
        · exact fin _ _ _ _ (Int.emod_nonneg _ (by omega)) (Int.emod_lt_of_pos _ hm) ha' hd' hg0 hg1
theorem ok_pick {f fD : Addr} {fd fdD : FuncData} {k : Nat} (F : Fun K "_law_pick" "_law_pick" sPick f fd) (FD : Fun K "_law_draw" "_law_draw" sDraw fD fdD) (bD : Binds K fdD ["_law_pen_here", "_law_many"] []) (gD : mg "_law_draw" = some (.ref fD)) (mi : mg "int" = none) (ml : mg "len" = none) :
    FnOk P w K mg base CX0 (k + 2) f fd ["_law_pen_here", "_law_some"] (spPick K) := by
  have GD : FnOk P w K mg base CX0 (k + 1) fD fdD ["_law_pen_here", "_law_many"] spDraw := ok_draw FD mi ml
  refine F.ok scPick (fun vs H Q E h => ?_) (fun cdv A outer s H vs Q E hr h => ?_)
  · obtain ⟨p, c, y, n, xs, rfl, _⟩ := h
    rfl
  · obtain ⟨p, c, y, n, xs, rfl, hP, hn, hS, h0, hl, q⟩ := h
    refine ⟨_, pss_one (ps_ret (pe_ix (ix_or ix_list ix_tup) (pv 1) (pe_call GD hr (by rfl) gD FD.kp bD .nil pass0 (pa_cons (pv 0) (pa_cons (pe_callB call_len_seq (by rfl) ml PySem.boot_len (pa_cons (pv 1) pa_nil)) pa_nil))) (fun _ _ => rfl))), ?_⟩
    have hpos : 0 < xs.length := List.length_pos_iff.mpr h0
    refine ⟨_, rfl, _, rfl, _, rfl, y, xs, rfl, hS, p, c, n, _, rfl, hP, hn, by omega, ?_, fun r H' r0 r1 hP' hk => ?_⟩
    · have e : (xs.length : Int).natAbs = xs.length := by omega
      rw [e]
      exact Nat.lt_of_le_of_lt hl (by decide)
    · obtain ⟨j, rfl⟩ : ∃ j : Nat, r = (j : Int) := ⟨r.toNat, by omega⟩
      have hj : j < xs.length := by omega
      have hx : xs[j]? = some xs[j] := List.getElem?_eq_getElem hj
      obtain ⟨ns, a0, d0, f0, ep, _⟩ := hP
      rcases hS with hS | hS
      · exact .inl ⟨y, xs, _, _, rfl, rfl, sqL_pen hk ep hS, atI_nat hx, q j _ H' hx hP' hk⟩
      · exact .inr ⟨y, xs, _, _, rfl, rfl, sqT_pen hk ep hS, atI_nat hx, q j _ H' hx hP' hk⟩
end
end KQ

namespace KQ
open PySem PySem.Spec PyProof.Rows L2
/-! ### texts as lists of signs -/
abbrev mS (L : List Nat) : Str := ⟨L.toArray⟩
theorem mS_len (L : List Nat) : (mS L).length = L.length := by simp [Str.length]
theorem mS_inj {L M : List Nat} (h : mS L = mS M) : L = M := by
  have := congrArg (fun x : Str => x.cps.toList) h
  simpa using this
theorem mS_app (L M : List Nat) : mS L ++ mS M = mS (L ++ M) := by
  show Str.mk (L.toArray ++ M.toArray) = _
  simp
theorem mS_eta (x : Str) : x = mS x.cps.toList := by
  show x = Str.mk x.cps.toList.toArray
  simp
theorem mS_of {x : Str} {L : List Nat} (h : x.cps.toList = L) : x = mS L := by rw [mS_eta x, h]
theorem mS_cut (L : List Nat) (lo hi : Option Int) : cutS (mS L) lo hi = mS ((L.drop (HT.sIx L.length 0 lo)).take (HT.sIx L.length L.length hi - HT.sIx L.length 0 lo)) := by
  unfold cutS
  rw [mS_len]
theorem cut_from (L : List Nat) (k : Nat) : cutS (mS L) (some (k : Int)) none = mS (L.drop k) := by
  rw [mS_cut, HT.sIx_nat, HT.sIx_none]
  by_cases h : k ≤ L.length
  · rw [Nat.min_eq_left h, List.take_of_length_le (by simp)]
  · rw [Nat.min_eq_right (by omega), List.drop_of_length_le (Nat.le_refl _), List.drop_of_length_le (by omega)]
    simp
theorem cut_to (L : List Nat) (k : Nat) : cutS (mS L) none (some (k : Int)) = mS (L.take k) := by
  rw [mS_cut, HT.sIx_nat, HT.sIx_none, List.drop_zero, Nat.sub_zero]
  by_cases h : k ≤ L.length
  · rw [Nat.min_eq_left h]
  · rw [Nat.min_eq_right (by omega), List.take_of_length_le (Nat.le_refl _), List.take_of_length_le (by omega)]
theorem cut_mid (L : List Nat) (k : Nat) : cutS (mS L) (some (k : Int)) (some ((k : Int) + 1)) = mS (L.drop k |>.take 1) := by
  have e : ((k : Int) + 1) = ((k + 1 : Nat) : Int) := by omega
  rw [e, mS_cut, HT.sIx_nat, HT.sIx_nat]
  by_cases h : k + 1 ≤ L.length
  · rw [Nat.min_eq_left h, Nat.min_eq_left (by omega)]
    congr 2
    omega
  · rw [Nat.min_eq_right (by omega), Nat.min_eq_right (by omega), List.drop_of_length_le (Nat.le_refl _), List.drop_of_length_le (by omega)]
    simp
theorem sw_one (L : List Nat) (c : Nat) : Txt.startswith (mS L) ⟨#[c]⟩ = decide (L.head? = some c) := by
  cases L with
  | nil => rfl
  | cons a L =>
    unfold Txt.startswith Builtin.Str.subAt
    show (decide (0 + 1 ≤ (mS (a :: L)).length) && ((a :: L).toArray.extract 0 (0 + 1) == #[c])) = _
    rw [mS_len]
    by_cases h : a = c
    · subst h
      simp
    · have : ¬ (some a = some c) := fun e => h (Option.some.inj e)
      simp [h]
theorem drop_take {p : Nat → Bool} (L : List Nat) : L.drop (L.takeWhile p).length = L.dropWhile p := by
  have h := List.takeWhile_append_dropWhile (p := p) (l := L)
  have h2 : (L.takeWhile p ++ L.dropWhile p).drop (L.takeWhile p).length = L.dropWhile p := List.drop_left
  rw [h] at h2
  exact h2
theorem lstrip_eq (L S : List Nat) : Txt.lstripChars (mS L) (mS S) = mS (L.dropWhile S.toArray.contains) := by
  have key : Builtin.Str.strSub (mS L) (L.takeWhile S.toArray.contains).length L.length = mS (L.dropWhile S.toArray.contains) := by
    refine mS_of ?_
    rw [PySem.StrLaws.strSub_toList]
    show ((L.drop _).take _) = _
    rw [drop_take, List.take_of_length_le]
    have h := congrArg List.length (List.takeWhile_append_dropWhile (p := S.toArray.contains) (l := L))
    rw [List.length_append] at h
    omega
  unfold Txt.lstripChars Txt.stripBy
  split
  · rename_i h
    have h0 : (L.takeWhile S.toArray.contains).length = 0 := by
      exact eq_of_beq ((Bool.and_eq_true _ _).mp h).1
    rw [← drop_take, h0, List.drop_zero]
  · show Builtin.Str.strSub (mS L) _ (mS L).length = _
    rw [mS_len]
    exact key
theorem strike (L : List Nat) (c : Nat) : Txt.replace (mS L) ⟨#[c]⟩ ⟨#[]⟩ = mS (L.filter (· != c)) := mS_of (by rw [replace_strikes])
/-! ### the letters and their bits -/
def isL (c : Nat) : Bool := (#[73, 88, 89, 90] : Array Nat).contains c
theorem isL_iff {c : Nat} : isL c = true ↔ c = 73 ∨ c = 88 ∨ c = 89 ∨ c = 90 := by
  unfold isL
  simp
def lx (c : Nat) : Nat := if c = 88 ∨ c = 89 then 1 else 0
def lz (c : Nat) : Nat := if c = 90 ∨ c = 89 then 1 else 0
def bv (f : Nat → Nat) : List Nat → Nat
  | [] => 0
  | c :: L => f c + 2 * bv f L
theorem bv_app (f : Nat → Nat) : ∀ (L : List Nat) (c : Nat), bv f (L ++ [c]) = bv f L + 2 ^ L.length * f c
  | [], c => by simp [bv]
  | a :: L, c => by
    show f a + 2 * bv f (L ++ [c]) = f a + 2 * bv f L + 2 ^ (L.length + 1) * f c
    rw [bv_app f L c, Nat.pow_succ, Nat.mul_add, Nat.add_assoc, Nat.mul_comm (2 ^ L.length) 2, Nat.mul_assoc]
theorem bv_take (f : Nat → Nat) {L : List Nat} {k c : Nat} (h : L[k]? = some c) : bv f (L.take (k + 1)) = bv f (L.take k) + 2 ^ k * f c := by
  have hk : k < L.length := by
    rcases Nat.lt_or_ge k L.length with h' | h'
    · exact h'
    · rw [List.getElem?_eq_none h'] at h; cases h
  have e : L.take (k + 1) = L.take k ++ [c] := by
    rw [List.take_succ, h]
    rfl
  rw [e, bv_app, List.length_take, Nat.min_eq_left (by omega)]
theorem bv_bit {f : Nat → Nat} (hf : ∀ c, f c < 2) : ∀ {L : List Nat} {k c : Nat}, L[k]? = some c → bv f L / 2 ^ k % 2 = f c
  | [], k, c, h => by simp at h
  | a :: L, 0, c, h => by
    have e : a = c := by simpa using h
    subst e
    have := hf a
    show (f a + 2 * bv f L) / 2 ^ 0 % 2 = f a
    rw [Nat.pow_zero, Nat.div_one]
    omega
  | a :: L, k + 1, c, h => by
    have h' : L[k]? = some c := by simpa using h
    have := hf a
    show (f a + 2 * bv f L) / 2 ^ (k + 1) % 2 = f c
    rw [Nat.pow_succ, Nat.mul_comm (2 ^ k) 2, ← Nat.div_div_eq_div_mul, show (f a + 2 * bv f L) / 2 = bv f L from by omega]
    exact bv_bit hf h'
theorem bv_lt {f : Nat → Nat} (hf : ∀ c, f c < 2) : ∀ L : List Nat, bv f L < 2 ^ L.length
  | [] => Nat.one_pos
  | a :: L => by
    have := bv_lt hf L
    have := hf a
    show f a + 2 * bv f L < 2 ^ (L.length + 1)
    rw [Nat.pow_succ]
    omega
theorem lx_lt (c : Nat) : lx c < 2 := by unfold lx; split <;> omega
theorem lz_lt (c : Nat) : lz c < 2 := by unfold lz; split <;> omega
theorem letter_back {c : Nat} (h : isL c = true) : ([73, 88, 90, 89] : List Nat)[lx c + 2 * lz c]? = some c := by
  rcases isL_iff.mp h with rfl | rfl | rfl | rfl <;> decide
/-! ### counting ones -/
def pc (n : Nat) : Nat := if h : n = 0 then 0 else n % 2 + pc (n / 2)
termination_by n
decreasing_by omega
theorem pc_zero : pc 0 = 0 := by unfold pc; rfl
theorem pc_two (m b : Nat) (hb : b < 2) : pc (2 * m + b) = b + pc m := by
  by_cases h : 2 * m + b = 0
  · have h1 : m = 0 := by omega
    have h2 : b = 0 := by omega
    subst h1 h2
    rw [pc_zero]
  · rw [pc, dif_neg h, show (2 * m + b) % 2 = b from by omega, show (2 * m + b) / 2 = m from by omega]
theorem and_two (a b i j : Nat) (hi : i < 2) (hj : j < 2) : (2 * a + i) &&& (2 * b + j) = 2 * (a &&& b) + (i &&& j) := by
  have h1 : ((2 * a + i) &&& (2 * b + j)) / 2 = a &&& b := by
    rw [Nat.and_div_two, show (2 * a + i) / 2 = a from by omega, show (2 * b + j) / 2 = b from by omega]
  have h2 : ((2 * a + i) &&& (2 * b + j)) % 2 = i &&& j := by
    have := Nat.and_mod_two_pow (a := 2 * a + i) (b := 2 * b + j) (n := 1)
    rw [Nat.pow_one] at this
    rw [this, show (2 * a + i) % 2 = i from by omega, show (2 * b + j) % 2 = j from by omega]
  omega
theorem or_two (a b i j : Nat) (hi : i < 2) (hj : j < 2) : (2 * a + i) ||| (2 * b + j) = 2 * (a ||| b) + (i ||| j) := by
  have h1 : ((2 * a + i) ||| (2 * b + j)) / 2 = a ||| b := by
    rw [Nat.or_div_two, show (2 * a + i) / 2 = a from by omega, show (2 * b + j) / 2 = b from by omega]
  have h2 : ((2 * a + i) ||| (2 * b + j)) % 2 = i ||| j := by
    have := Nat.or_mod_two_pow (a := 2 * a + i) (b := 2 * b + j) (n := 1)
    rw [Nat.pow_one] at this
    rw [this, show (2 * a + i) % 2 = i from by omega, show (2 * b + j) % 2 = j from by omega]
  omega
theorem pc_step : ∀ (n : Nat), 0 < n → pc (n &&& (n - 1)) + 1 = pc n := by
  intro n
  induction n using Nat.strongRecOn with
  | ind n ih =>
    intro hn
    by_cases h : n % 2 = 1
    · have e : n = 2 * (n / 2) + 1 := by omega
      have e2 : n - 1 = 2 * (n / 2) + 0 := by omega
      have e3 : n &&& (n - 1) = 2 * (n / 2) + 0 := by
        rw [e2]
        conv => lhs; lhs; rw [e]
        rw [and_two _ _ _ _ (by decide) (by decide), Nat.and_self]
        rfl
      rw [e3, pc_two _ _ (by decide)]
      conv => rhs; rw [e]
      rw [pc_two _ _ (by decide)]
      omega
    · have e : n = 2 * (n / 2) + 0 := by omega
      have e2 : n - 1 = 2 * (n / 2 - 1) + 1 := by omega
      have e3 : n &&& (n - 1) = 2 * (n / 2 &&& (n / 2 - 1)) + 0 := by
        rw [e2]
        conv => lhs; lhs; rw [e]
        rw [and_two _ _ _ _ (by decide) (by decide)]
        rfl
      have := ih (n / 2) (by omega) (by omega)
      rw [e3, pc_two _ _ (by decide)]
      conv => rhs; rw [e]
      rw [pc_two _ _ (by decide)]
      omega
def wt (L : List Nat) : Nat := L.length - L.count 73
theorem pc_or : ∀ {L : List Nat}, (∀ c ∈ L, isL c = true) → pc (bv lx L ||| bv lz L) + L.count 73 = L.length
  | [], _ => by
    show pc (0 ||| 0) + 0 = 0
    rw [show (0 ||| 0 : Nat) = 0 from rfl, pc_zero]
  | c :: L, h => by
    have ih := pc_or fun d hd => h d (List.mem_cons_of_mem _ hd)
    show pc ((lx c + 2 * bv lx L) ||| (lz c + 2 * bv lz L)) + (c :: L).count 73 = L.length + 1
    rw [Nat.add_comm (lx c), Nat.add_comm (lz c), or_two _ _ _ _ (lx_lt c) (lz_lt c), List.count_cons]
    have hc := isL_iff.mp (h c List.mem_cons_self)
    have two : (lx c ||| lz c) < 2 ∧ (lx c ||| lz c) + (if c == 73 then 1 else 0) = 1 := by
      rcases hc with rfl | rfl | rfl | rfl <;> decide
    rw [pc_two _ _ two.1]
    omega
theorem pc_wt {L : List Nat} (h : ∀ c ∈ L, isL c = true) : pc (bv lx L ||| bv lz L) = wt L := by
  have := pc_or h
  unfold wt
  omega
/-! ### a text's parts -/
def st1 (B : List Nat) : Nat := if B.head? = some 43 ∨ B.head? = some 45 then 1 else 0
def start (B : List Nat) : Nat := st1 B + (if (B.drop (st1 B)).head? = some 105 then 1 else 0)
def rest (B : List Nat) : List Nat := B.drop (start B)
def fine (B : List Nat) : Prop := (rest B).dropWhile isL = [] ∧ rest B ≠ []
instance (B : List Nat) : Decidable (fine B) := inferInstanceAs (Decidable (_ ∧ _))
def col (B : List Nat) : Nat := if fine B then 0 else B.length - ((rest B).dropWhile isL).length + 1
def ph (B : List Nat) : Nat := (if B.head? = some 45 then 2 else 0) + (if (B.drop (st1 B)).head? = some 105 then 1 else 0)
def headL : Nat → List Nat
  | 0 => []
  | 1 => [105]
  | 2 => [45]
  | _ => [45, 105]
theorem ph_lt (B : List Nat) : ph B < 4 := by
  unfold ph
  split <;> split <;> omega
theorem head_of (B : List Nat) : (B.take (start B)).filter (· != 43) = headL (ph B) := by
  cases B with
  | nil => rfl
  | cons a B =>
    unfold start ph
    by_cases h1 : a = 43
    · subst h1
      have e : st1 (43 :: B) = 1 := rfl
      rw [e]
      cases B with
      | nil => rfl
      | cons b B =>
        by_cases h2 : b = 105
        · subst h2
          rfl
        · have e2 : ((43 :: b :: B).drop 1).head? ≠ some 105 := fun z => h2 (Option.some.inj z)
          rw [if_neg e2, if_neg (by simp : ¬ ((43 :: b :: B).head? = some 45))]
          rfl
    · by_cases h3 : a = 45
      · subst h3
        have e : st1 (45 :: B) = 1 := rfl
        rw [e]
        cases B with
        | nil => rfl
        | cons b B =>
          by_cases h2 : b = 105
          · subst h2
            rfl
          · have e2 : ((45 :: b :: B).drop 1).head? ≠ some 105 := fun z => h2 (Option.some.inj z)
            rw [if_neg e2]
            rfl
      · have e : st1 (a :: B) = 0 := by
          unfold st1
          rw [if_neg]
          rintro (z | z)
          · exact h1 (Option.some.inj z)
          · exact h3 (Option.some.inj z)
        have e3 : ¬ ((a :: B).head? = some 45) := fun z => h3 (Option.some.inj z)
        rw [e, if_neg e3]
        by_cases h2 : a = 105
        · subst h2
          rfl
        · have e2 : ¬ (((a :: B).drop 0).head? = some 105) := fun z => h2 (Option.some.inj z)
          rw [if_neg e2]
          rfl
theorem start_le (B : List Nat) : start B ≤ B.length := by
  unfold start
  cases B with
  | nil => decide
  | cons a B =>
    have h1 : st1 (a :: B) ≤ 1 := by unfold st1; split <;> omega
    split
    · rename_i h
      have : st1 (a :: B) < (a :: B).length := by
        rcases Nat.lt_or_ge (st1 (a :: B)) (a :: B).length with z | z
        · exact z
        · rw [List.drop_of_length_le z] at h
          cases h
      omega
    · show _ ≤ B.length + 1
      omega
theorem dw_all : ∀ {L : List Nat}, (∀ c ∈ L, isL c = true) → L.dropWhile isL = []
  | [], _ => rfl
  | c :: L, h => by
    rw [List.dropWhile_cons_of_pos (h c List.mem_cons_self)]
    exact dw_all fun d hd => h d (List.mem_cons_of_mem _ hd)
/-- a head before letters -/
theorem read_head {L : List Nat} (hL : ∀ c ∈ L, isL c = true) (h0 : L ≠ []) (i : Nat) (T : List Nat) (p : Nat) (hT : ([([], 0), ([43], 0), ([45], 2), ([105], 1), ([43, 105], 1), ([45, 105], 3)] : List (List Nat × Nat))[i]? = some (T, p)) :
    rest (T ++ L) = L ∧ ph (T ++ L) = p ∧ fine (T ++ L) := by
  have hd : ∃ a M, L = a :: M ∧ a ≠ 43 ∧ a ≠ 45 ∧ a ≠ 105 := by
    cases L with
    | nil => exact absurd rfl h0
    | cons a M =>
      refine ⟨a, M, rfl, ?_, ?_, ?_⟩ <;> rintro rfl <;> have := isL_iff.mp (hL _ List.mem_cons_self) <;> omega
  obtain ⟨a, M, rfl, n1, n2, n3⟩ := hd
  have dw : (a :: M).dropWhile isL = [] := by
    exact dw_all hL
  have go : ∀ T p, start (T ++ (a :: M)) = T.length → ph (T ++ (a :: M)) = p → rest (T ++ (a :: M)) = a :: M ∧ ph (T ++ (a :: M)) = p ∧ fine (T ++ (a :: M)) := by
    intro T p hs hp
    have hr : rest (T ++ (a :: M)) = a :: M := by
      unfold rest
      rw [hs]
      exact List.drop_left
    refine ⟨hr, hp, ?_⟩
    unfold fine
    rw [hr]
    exact ⟨dw, by simp⟩
  have s1 : ∀ x : Nat, x ≠ 43 → x ≠ 45 → ∀ M, st1 (x :: M) = 0 := by
    intro x h1 h2 M
    unfold st1
    rw [if_neg]
    rintro (z | z)
    · exact h1 (Option.some.inj z)
    · exact h2 (Option.some.inj z)
  have no : ∀ M : List Nat, ¬ ((a :: M).head? = some 105) := fun M z => n3 (Option.some.inj z)
  match i, hT with
  | 0, e =>
    cases e
    refine go [] 0 ?_ ?_
    · show st1 (a :: M) + (if ((a :: M).drop (st1 (a :: M))).head? = some 105 then 1 else 0) = 0
      rw [s1 a n1 n2, List.drop_zero, if_neg (no M)]
    · have n4 : ¬ ((a :: M).head? = some 45) := fun z => n2 (Option.some.inj z)
      show (if (a :: M).head? = some 45 then 2 else 0) + (if ((a :: M).drop (st1 (a :: M))).head? = some 105 then 1 else 0) = 0
      rw [s1 a n1 n2, if_neg n4, List.drop_zero, if_neg (no M)]
  | 1, e =>
    cases e
    refine go [43] 0 ?_ ?_
    · show 1 + (if (a :: M).head? = some 105 then 1 else 0) = 1
      rw [if_neg (no M)]
    · show 0 + (if (a :: M).head? = some 105 then 1 else 0) = 0
      rw [if_neg (no M)]
  | 2, e =>
    cases e
    refine go [45] 2 ?_ ?_
    · show 1 + (if (a :: M).head? = some 105 then 1 else 0) = 1
      rw [if_neg (no M)]
    · show 2 + (if (a :: M).head? = some 105 then 1 else 0) = 2
      rw [if_neg (no M)]
  | 3, e =>
    cases e
    exact go [105] 1 rfl rfl
  | 4, e =>
    cases e
    exact go [43, 105] 1 rfl rfl
  | 5, e =>
    cases e
    exact go [45, 105] 3 rfl rfl
theorem col_zero {B : List Nat} : col B = 0 ↔ fine B := by
  unfold col
  split
  · exact ⟨fun _ => by assumption, fun _ => rfl⟩
  · exact ⟨fun z => by omega, fun z => absurd z (by assumption)⟩
theorem len_split (B : List Nat) : B.length = start B + ((rest B).takeWhile isL).length + ((rest B).dropWhile isL).length := by
  have h := congrArg List.length (List.takeWhile_append_dropWhile (p := isL) (l := rest B))
  rw [List.length_append] at h
  have h2 : (rest B).length = B.length - start B := List.length_drop
  have := start_le B
  omega
end KQ

namespace KQ
open PySem PySem.Spec PyProof.Rows L2
/-! ### several clauses, each with a name for the exception -/
/-- what clauses that all write the slot k wish of an exception, one behind the other -/
def wList (K : PySem.W.Frag) (k : Nat) (W0 : WX) (D : Ends) : List (Value × (Addr → Value → Option Addr → TS)) → WX
  | [] => W0
  | z :: more => wAs K z.1 k z.2 (wList K k W0 D more) D
inductive Clauses (X : Cx) (nm : Str) : List ExceptHandler → List (Value × (Addr → Value → Option Addr → TS)) → Prop
  | done : Clauses X nm [] []
  | next {x : Str} {cl : Value} {tk : Addr → Value → Option Addr → TS} {s0 : Stmt} {ss : List Stmt} {p1 p2 : Pos} {hh : List ExceptHandler} {ll : List (Value × (Addr → Value → Option Addr → TS))} (named : Names X x cl)
      (body : ∀ (r : Addr) (ob : Obj) (k : Value) (d : Option Addr) (pn : List (Addr × Obj)), Zc k d ob → (∃ vs, ob.data = .fields vs) → PSs (X.suite r ((r, ob) :: pn)) (s0 :: ss) (tk r k d)) (more : Clauses X nm hh ll) :
      Clauses X nm (.ExceptHandler (some (.Name x p1)) (some nm) (s0 :: ss) p2 :: hh) ((cl, tk) :: ll)
section
variable {X : Cx} {body : List Stmt} {h0 : ExceptHandler} {hh : List ExceptHandler} {ll : List (Value × (Addr → Value → Option Addr → TS))} {pos : Pos} {tb : WX → TS} {W0 : WX} {nm : Str} {k : Nat}
theorem ps_try_list (hst : X.stack = X.env :: X.outer) (hfr0 : X.env.frame = some X.env.locals) (nd : X.N.Nodup) (hk : X.N[k]? = some nm) (hlo : X.env.kindOf nm = some .local) (tk : Takes X W0)
    (hb : ∀ (W : WX) (pn : List (Addr × Obj)) (xe : Value → Shared → Prop), Takes (X.tr pn xe) W → PassesOwn (model X.prog X.w) X.A X.env xe → PSs (X.tr pn xe) body (tb W))
    (cs : Clauses X nm (h0 :: hh) ll) : PS X (.Try body (h0 :: hh) [] [] pos) (fun D σ H => tb (wList X.K k W0 D ll) D σ H) := by
  refine ⟨fun pins s0 σ0 H0 D I0 want => ?_⟩
  have okX := I0.ok
  have frA : X.A.frames = some (X.env :: X.outer) := by rw [okX.frames, hst]
  refine wpAny_Try_except ?_
  refine wpAny_mono ((hb (wList X.K k W0 D ll) (X.pn ++ pins) (fun ex t1 => wpAny (model X.prog X.w) X.A (noteFrame ex X.env) (fun _ t2 => wpAny (model X.prog X.w) X.A (setFlight ex none) (fun _ t3 =>
    wpAny (model X.prog X.w) X.A (handleBy ex X.env (h0 :: hh)) (SP X pins D) X.xe t3) X.xe t2) X.xe t1) (fun u s1 xx => ?_) PassesOwn.looking).run [] s0 σ0 H0 D (I0.toTry _) want) (fun fl s1 got => ?_) (fun _ _ z => z)
  · obtain ⟨a, B, sI, pins1, σ1, H1, kls, d, rfl, J1, nb, up1, sky1, na, os, ag, wish⟩ := xx
    have J : Inv X pins σ1 H1 sI := J1.ofTry okX
    show wpAny (model X.prog X.w) X.A (noteFrame (.ref a) X.env) _ _ _
    refine Sky.land Zc.steady frA hfr0 (by rw [← hst]; exact sky1) fun hp3 fly3 up3 => ?_
    have J3 : Inv X pins σ1 H1 { s1 with heap := hp3 } := J.landed nb fly3.1 (up1.trans up3) os ag
    obtain ⟨o3, vs3, e3, z3, f3⟩ := fly3.there
    have off : a ∉ frs (X.env :: X.outer) := fun hm => by
      obtain ⟨_, o', e', hnf⟩ := fly3.2.2.1.mem hm
      rw [e3] at e'
      cases e'
      exact hnf _ f3
    have nL : a ≠ X.env.locals := fun z => off (List.mem_filterMap.mpr ⟨X.env, List.mem_cons_self, by rw [hfr0, z]⟩)
    have nF : a ∉ X.fs := fun hm => by
      obtain ⟨e, he, q⟩ := List.mem_filterMap.mp hm
      exact off (List.mem_filterMap.mpr ⟨e, List.mem_cons_of_mem _ he, q⟩)
    have S3 := J3.suite e3 f3 na nL nF
    have looks : PySem.W.Looks (model X.prog X.w) hp3 (typeOf (.ref a)) kls := fun A Q E s kk q => wpAny_typeOf_ref (kk _ _ e3) (by rw [z3.1]; exact q)
    have each : ∀ {hs' : List ExceptHandler} {l' : List (Value × (Addr → Value → Option Addr → TS))}, Clauses X nm hs' l' → wList X.K k W0 D l' kls d σ1 H1 →
        wpAny (model X.prog X.w) X.A (handleBy (.ref a) X.env hs') (SP X pins D) X.xe { s1 with heap := hp3 } := by
      intro hs' l' cl
      induction cl with
      | done =>
        intro out
        refine wpAny_handleBy_nil ?_
        obtain ⟨_, _, _, ob, vs, T, oT, tt, he, hz, hd, h1, hr⟩ := id fly3
        unfold PySem.passOn
        refine wpAny_bind (wpAny_field he hd h1 ?_)
        rw [if_neg (by simp : ¬ ((Value.ref T == Value.none) = true))]
        have go : wpAny (model X.prog X.w) X.A (setFlight (.ref a) X.env.frame) (fun _ s4 => wpAny (model X.prog X.w) X.A (throw (.ref a) : Sem Flow) (SP X pins D) X.xe s4) X.xe { s1 with heap := hp3 } := by
          rw [hfr0]
          refine HandSPX.setFlight_upZ fly3 fun hp4 hh4 up4 => wpAny_throw (tk _ _ ?_)
          exact ⟨a, B, sI, pins, σ1, H1, kls, d, rfl, J, nb, (up1.trans up3).trans up4, .inr (.inr (by rw [hst]; exact hh4)), na, os, ag, out⟩
        first
          | exact wpAny_bind (wpAny_pure (wpAny_bind go))
          | exact wpAny_bind go
      | @next x cl tc s0 ss p1 p2 hs2 l2 named suite more ih =>
        intro ask
        obtain ⟨b, hb1, yes, no⟩ := ask
        refine wpAny_handleBy_cons (codeAny_handlers_test ?_) (by intro q; cases q)
        have LM := PySem.W.exm_one (M := model X.prog X.w) (J3.kIn) looks hb1
        have test : ∀ {Q E : Value → Shared → Prop}, Q cl { s1 with heap := hp3 } → wpAny (model X.prog X.w) (X.A.mark (some (.ref a))) (eval (.Name x p1) X.env) Q E { s1 with heap := hp3 } := fun {Q E} q => by
          obtain ⟨hg, nodbg, hm | ⟨hm, hv, hnn⟩⟩ := named
          · exact ld_glob (X := X.suite a ((a, o3) :: (X.pn ++ pins))) S3 hg hm q nodbg
          · exact ld_blt (X := X.suite a ((a, o3) :: (X.pn ++ pins))) S3 hg hm hv q hnn nodbg
        refine test (LM.here ?_)
        cases b with
        | false =>
          show wpAny _ X.A (handleBy (.ref a) X.env hs2) _ _ _
          exact ih (no rfl)
        | true =>
          refine codeAny_handlers_suite_as ?_
          refine HandSPX.lands_againZ fly3 fun hp4 fly4 up4 => ?_
          have J4 : Inv X pins σ1 H1 { s1 with heap := hp4 } := J.landed nb fly4.1 ((up1.trans up3).trans up4) os ag
          obtain ⟨o4, vs4, e4, z4, f4⟩ := fly4.there
          refine store_ok (X := X.suite a ((a, o4) :: (X.pn ++ pins))) (v := .ref a) (J4.suite e4 f4 na nL nF) nd hk (.inl hlo) rfl (fun s5 S5 => ?_) (.inr hlo)
          refine wpAny_mono ((suite a o4 kls d (X.pn ++ pins) z4 ⟨_, f4⟩).run [] s5 _ H1 _ S5 (yes rfl a na)) (fun fl6 s6 got6 => ?_) (fun _ _ z => False.elim z)
          have gone : ∀ {σ6 : L2.St} {H6 : Hp} {Q : Shared → Prop}, Inv (X.suite a ((a, o4) :: (X.pn ++ pins))) [] σ6 H6 s6 → (∀ s7, Inv X pins (σ6.set k none) H6 s7 → Q s7) →
              wpAny (model X.prog X.w) X.A (do bindName X.env nm .none; unbindBehindTheSuite X.env nm p2) (fun _ s7 => Q s7) X.xe s6 := fun S6 hq => gone_ok (S6.unsuite okX) nd hk hlo hq
          cases fl6 with
          | ret u =>
            obtain ⟨v6, σ6, H6, S6, r6, q6⟩ := got6
            exact gone S6 fun s7 J7 => ⟨_, _, _, J7, r6, q6⟩
          | next =>
            obtain ⟨σ6, H6, S6, q6⟩ := got6
            exact gone S6 fun s7 J7 => ⟨_, _, J7, q6⟩
          | brk =>
            obtain ⟨σ6, H6, S6, q6⟩ := got6
            exact gone S6 fun s7 J7 => ⟨_, _, J7, q6⟩
          | cont =>
            obtain ⟨σ6, H6, S6, q6⟩ := got6
            exact gone S6 fun s7 J7 => ⟨_, _, J7, q6⟩
    exact each cs wish
  · cases fl with
    | ret u =>
      obtain ⟨v, σ', H', J', r, q⟩ := got
      exact ⟨v, σ', H', J'.ofTry okX, r, q⟩
    | next =>
      obtain ⟨σ', H', J', q⟩ := got
      exact wpAny_execs_nil ⟨σ', H', J'.ofTry okX, q⟩
    | brk =>
      obtain ⟨σ', H', J', q⟩ := got
      exact ⟨σ', H', J'.ofTry okX, q⟩
    | cont =>
      obtain ⟨σ', H', J', q⟩ := got
      exact ⟨σ', H', J'.ofTry okX, q⟩
end
end KQ

namespace KQ
open PySem PySem.Spec PyProof.Rows L2
/-! ### == by an __eq__ of the class's own, whatever it answers -/
/-- the right side: of the same class, or a text -/
def Beside (C : Addr) (H : Hp) (y : V) : Prop := (∃ b dy gs, y = .ref b ∧ H b = some (.ins C dy gs)) ∨ ∃ z : Str, y = .str z
def rOwn (C : Addr) (sp : Sp) (E : XK) : R2 := fun x y H Q => ∃ a dx fs, x = .ref a ∧ H a = some (.ins C dx fs) ∧ Beside C H y ∧ sp [x, y] H (fun v H' => (∃ b, v = .bl b) ∧ Q v H') E
theorem op_own {X : Cx} {n : Nat} {CX : CXT} {C f : Addr} {fd : FuncData} {ps : List Str} {sp : Sp} {E : XK} (F : FnOk X.prog X.w X.K X.mg X.base CX n f fd ps sp) (hr : Room n X.A)
    (hs : PySem.W.findIn X.K (.ref C) "__eq__" = some (some (.ref f))) (hf : PySem.W.isFn X.K (.ref f) = true) (hn : PySem.W.notFirst X.K C (.type "str") = true) (hb : Binds X.K fd ps []) (hx : Passes CX X E) :
    OpR X (compareOp .Eq) (rOwn C sp E) := by
  intro pins s σ H x y v u Q I rx ry want
  obtain ⟨a, dx, fs, rfl, ha, be, hsp⟩ := want
  cases rx
  show wpAny (model X.prog X.w) X.A (richCompare .Eq (.ref a) u) (EP X pins σ Q) X.xe s
  obtain ⟨m1, I1, _⟩ := ins_get I.hok ha
  obtain ⟨d1, I1, _⟩ := I1.look
  obtain ⟨m, hF⟩ := I.fr
  have hl := F.len _ _ _ _ hsp
  have run : wpAny (model X.prog X.w) X.A (call (.ref f) [.ref a, u]) (PySem.W.CmpBack (EP X pins σ Q)) X.xe s := by
    have r2 : Vals [V.ref a, y] [Value.ref a, u] := .cons rfl (.cons ry .nil)
    refine wpAny_call (codeAny_mono (F.run X.A X.stack s H ⟨[.ref a, u], []⟩ [.ref a, u] [.ref a, y] _ E hr I.env0 (by
      have := hb s [.ref a, u] I.kIn (by simpa using hl)
      simpa using this) r2 hsp) fun r s' hq => ?_)
    cases r with
    | error e => exact hx pins σ H s e s' I hq
    | ok fl =>
      cases fl with
      | ret w =>
        obtain ⟨z, H', I', rz, ⟨b, ez⟩, q⟩ := I.after hq
        subst ez
        cases rz
        exact ⟨.bl b, H', I', rfl, q⟩
      | next => exact False.elim hq
      | brk => exact False.elim hq
      | cont => exact False.elim hq
  rcases be with ⟨b, dy, gs, rfl, hb'⟩ | ⟨z, rfl⟩
  · cases ry
    obtain ⟨m2, I2, _⟩ := ins_get I.hok hb'
    obtain ⟨d2, I2, _⟩ := I2.look
    exact PySem.W.cmp_K (op := .Eq) (tb := .ref C) hr.units0 hF I.ok.mod.kin I1 I2.type (by simp [PySem.W.notFirst]) hs hf run
  · obtain ⟨t, rfl⟩ : ∃ t, u = .str z t := ry
    exact PySem.W.cmp_K (op := .Eq) (tb := .type "str") hr.units0 hF I.ok.mod.kin I1 (PySem.W.Looks.of_pure rfl) hn hs hf run
end KQ

namespace KQ
open PySem PySem.Spec PyProof.Rows L2
/-! ### one token is out behind x = y.lstrip('..') -/
def PEk (X : Cx) (e : Expr) (t : TE) : Prop :=
  ∀ (pins : List (Addr × Obj)) (s : Shared) (σ : L2.St) (H : Hp) (Q : VK), Inv X pins σ H s → t σ H Q → wpAny (model X.prog X.w) X.A (eval e X.env) (fun v s' => 1 ≤ s'.toks ∧ EP X pins σ Q v s') X.xe s
section
variable {X : Cx} {rest : List Stmt} {u : TS} {e : Expr} {te : TE}
theorem pss_tok {i : Nat} {x : Str} {pos' pos : Pos} (he : PEk X e te) (nd : X.N.Nodup) (hi : X.N[i]? = some x) (hx : Loc X.env.scope x) (h2 : PSsT X rest u)
    (hs : swapsWith e (some (.Name x pos')) pos.line X.env = pure false := by rfl) (hf : X.fn x = true ∨ X.env.scope.names.lookup x = some .local := by first | exact .inl rfl | exact .inr rfl | assumption) :
    PSs X (.Assign [.Name x pos'] e pos :: rest) (tSeq (tAsg te (gName i)) u) := by
  refine ⟨fun pins s σ H D I want => ?_⟩
  refine wpAny_execs_cons (wpAny_Assign_Name (wpAny_mono (he pins s σ H _ I want) (fun v s1 q => ?_) fun _ _ z => z) hs)
  obtain ⟨hk, z, H1, I1, r1, q1⟩ := q
  refine wpAny_mono (PySem.wpAny_toks (store_ok (v := z) (u := v) (Q := fun _ s2 => Inv X pins (σ.set i (some z)) H1 s2) I1 nd hi hx r1 (fun _ I2 => I2) hf)) (fun _ s2 q => ?_) fun _ _ z => z.2
  exact h2 pins s2 _ H1 D (Nat.le_trans hk q.1) q.2 q1
def tStrip (to : TE) (c : Str) : TE := fun σ H Q => to σ H fun v H1 => ∃ x, v = .str x ∧ x.length ≤ sizeLine ∧ Q (.str (Txt.lstripChars x c)) H1
theorem pek_strip {o : Expr} {to : TE} {c : Str} {j : Nat} {cpos apos pos : Pos} (ho : PE X o to)
    (hst : starEach [.Constant (.str c) j cpos] X.env = [(false, eval (.Constant (.str c) j cpos) X.env)] := by rfl)
    (hbase : attributeBase o "lstrip" X.env (eval o X.env) = eval o X.env := by rfl) (hline : (apos.endLine == pos.line) = true := by rfl) :
    PEk X (.Call (.Attribute o "lstrip" apos) [.Constant (.str c) j cpos] [] pos) (tStrip to c) := by
  intro pins s σ H Q I want
  refine PySem.Call_method1 hbase hst hline (wpAny_mono (ho.run pins s σ H _ I want) (fun v s1 q => ?_) fun _ _ z => z)
  obtain ⟨v', H1, I1, r1, x, rfl, hz, q⟩ := q
  obtain ⟨tx, rfl⟩ := r1
  refine ⟨"str", _, PySem.F.plainAttrs_str, PySem.F.slot_str_lstrip, PySem.F.type_str_lstrip, typeIs_str _ _ _, (fun _ e => nomatch e), Calls.callWith_builtin rfl (Calls.evalArgs_plain (Calls.spliced_cons ?_))⟩
  refine Calls.Constant_str (Calls.spliced_nil ?_)
  refine wpAny_mono (PySem.wpAny_toks_of (n := 1) (by show 1 ≤ s1.toks + 1; omega) (PySem.SC.lstripChars (Q := EP X pins σ Q) (fun t' k => ⟨.str _, H1, I1.tok k, ⟨t', rfl⟩, q⟩) hz)) (fun _ _ z => z) fun _ _ z => z.2
/-- a written pair, one token out -/
theorem pet_tup {es : List Expr} {ta : TA} {pos : Pos} {x1} (h : PAT X es ta) : PET X (.Tuple es x1 pos) (tTup ta) := by
  intro pins s σ H Q h0 I hq
  refine wpAny_Tuple_spliced (thn (h pos pins s σ H _ h0 I hq) fun us s1 ⟨xs, H1, I1, r, z, q⟩ => ⟨by rw [← r.length]; exact z, ?_⟩)
  refine ⟨.ref s1.heap.objs.size, upd H1 s1.heap.objs.size (.tup xs), I1.laid (t' := s1.toks) (fun b u e => Heap.get?_push_of_some _ e) (Nat.le_refl _) ?_, rfl, q _ (I1.hok.fresh (Nat.le_refl _))⟩
  exact ⟨z, us, r, ⟨_, Heap.get?_push_size _ rfl, rfl, _, rfl⟩⟩
/-- list(text) -/
theorem vals_signs {x : Str} : ∀ (n : Nat) (vs : List Value), vs.length = n → (∀ (j : Nat) (v : Value), vs[j]? = some v → ∃ c u, x.cps.toList[j]? = some c ∧ v = Value.str ⟨#[c]⟩ u) → n ≤ x.cps.toList.length → Vals ((x.cps.toList.take n).map fun c => V.str ⟨#[c]⟩) vs := by
  have go : ∀ (L : List Nat) (vs : List Value), vs.length ≤ L.length → (∀ (j : Nat) (v : Value), vs[j]? = some v → ∃ c u, L[j]? = some c ∧ v = Value.str ⟨#[c]⟩ u) → Vals ((L.take vs.length).map fun c => V.str ⟨#[c]⟩) vs := by
    intro L
    induction L with
    | nil =>
      intro vs hl _
      cases vs with
      | nil => exact .nil
      | cons v vs => simp at hl
    | cons c L ih =>
      intro vs hl h
      cases vs with
      | nil => exact .nil
      | cons v vs =>
        obtain ⟨c', u, e1, e2⟩ := h 0 v rfl
        have e3 : c = c' := by simpa using e1
        subst e3
        subst e2
        refine .cons ⟨u, rfl⟩ (ih vs (by simpa using hl) fun j w hj => ?_)
        have := h (j + 1) w (by simpa using hj)
        simpa using this
  intro n vs hl h hn
  subst hl
  exact go _ vs hn h
theorem call_list_txt (calm : X.calm = true) : CallR X (.type "list") (fun xs H Q => ∃ z : Str, xs = [.str z] ∧ z.cps.toList.length ≤ sizeLine ∧ ∀ l, H l = none → Q (.ref l) (upd H l (.lst (z.cps.toList.map fun c => V.str ⟨#[c]⟩)))) := by
  intro pins s σ H xs us Q I r want
  obtain ⟨z, rfl, hz, q⟩ := want
  obtain ⟨u, rfl, rx⟩ := vals1 r
  obtain ⟨t, rfl⟩ := rx
  refine PySem.call_list_str (I.ok.hd calm) z t (fun h' tk acc c' kp e items => ?_) (by simpa using hz)
  obtain ⟨n1, n2⟩ := items
  have hv := vals_signs (x := z) z.cps.toList.length acc.toList (by rw [Array.length_toList, n1]; simp) (fun j v hj => by
    obtain ⟨c, u, e1, e2⟩ := n2 j v (by simpa using hj)
    exact ⟨c, u, by simpa using e1, e2⟩) (Nat.le_refl _)
  rw [List.take_of_length_le (Nat.le_refl _)] at hv
  refine ⟨.ref s.heap.objs.size, _, I.laid (t' := tk) kp (Nat.le_refl _) (show ObjOk X.prog X.w _ h' _ (.lst _) from ⟨by rw [List.length_map]; exact hz, acc.toList, c', hv, by simpa using e⟩), rfl, q _ (I.hok.fresh (Nat.le_refl _))⟩
end
/-! ### the program's defs -/
abbrev sPauli : Stmt := topS 10
abbrev sInit : Stmt := inClass (topS 10) 0
abbrev sEq : Stmt := inClass (topS 10) 1
abbrev sText : Stmt := topS 11
abbrev sCut : Stmt := topS 12
abbrev sInitT : Stmt := inClass (topS 2) 0
theorem scInitT : FnScope ["self", "line", "column"] ["self", "line", "column"] (defScope sInitT) := ⟨rfl, rfl, rfl, by decide +kernel, rfl, by decide +kernel, by decide +kernel⟩
theorem scCut : FnScope ["text", "start", "letters", "wrong"] ["text"] (defScope sCut) := ⟨rfl, rfl, rfl, by decide +kernel, rfl, by decide +kernel, by decide +kernel⟩
theorem scInit : FnScope ["self", "text", "head", "letters"] ["self", "text"] (defScope sInit) := ⟨rfl, rfl, rfl, by decide +kernel, rfl, by decide +kernel, by decide +kernel⟩
theorem scEq : FnScope ["self", "other"] ["self", "other"] (defScope sEq) := ⟨rfl, rfl, rfl, by decide +kernel, rfl, by decide +kernel, by decide +kernel⟩
theorem scText : FnScope ["p"] ["p"] (defScope sText) := ⟨rfl, rfl, rfl, by decide +kernel, rfl, by decide +kernel, by decide +kernel⟩
/-- built-in names -/
structure Bl (mg : Str → Option Value) : Prop where
  isi : mg "isinstance" = none
  int : mg "int" = none
  bool : mg "bool" = none
  str : mg "str" = none
  len : mg "len" = none
  range : mg "range" = none
  list : mg "list" = none
/-- no text -/
def Odd (H : Hp) (v : V) : Prop := v = .non ∨ (∃ b, v = .bl b) ∨ (∃ i, v = .int i) ∨ (∃ p xs, v = .ref p ∧ H p = some (.lst xs)) ∨ (∃ p xs, v = .ref p ∧ H p = some (.tup xs)) ∨ ∃ p kv, v = .ref p ∧ H p = some (.dK kv)
theorem Odd.ty {H : Hp} {v : V} (h : Odd H v) : ∃ n : String, (∀ K, TyX K H v (.type n)) ∧ kitB n "str" = some false := by
  rcases h with h | ⟨b, h⟩ | ⟨i, h⟩ | ⟨p, xs, h, e⟩ | ⟨p, xs, h, e⟩ | ⟨p, kv, h, e⟩ <;> subst h
  · exact ⟨_, fun K => .base .non, by decide +kernel⟩
  · exact ⟨_, fun K => .base (.bl b), by decide +kernel⟩
  · exact ⟨_, fun K => .base (.int i), by decide +kernel⟩
  · exact ⟨_, fun K => .base (.lst e), by decide +kernel⟩
  · exact ⟨_, fun K => .base (.tup e), by decide +kernel⟩
  · exact ⟨_, fun K => .base (.dK e), by decide +kernel⟩
theorem Odd.same {H H' : Hp} {v : V} (s : Same H H') (h : Odd H v) : Odd H' v := by
  rcases h with h | h | h | ⟨p, xs, h, e⟩ | ⟨p, xs, h, e⟩ | ⟨p, kv, h, e⟩
  · exact .inl h
  · exact .inr (.inl h)
  · exact .inr (.inr (.inl h))
  · exact .inr (.inr (.inr (.inl ⟨p, xs, h, s _ _ e⟩)))
  · exact .inr (.inr (.inr (.inr (.inl ⟨p, xs, h, s _ _ e⟩))))
  · exact .inr (.inr (.inr (.inr (.inr ⟨p, kv, h, s _ _ e⟩))))
def xdT (l c : V) : List (Str × V) := [("column", c), ("line", l)]
/-- BadText(l, c) leaves the call -/
def Rz (C : Addr) (l c : V) (H : Hp) (E : XK) : Prop := ∀ d H', Same H H' → H' d = some (.xd (xdT l c)) → E (.ref C) (some d) H'
def spInitT (C : Addr) : Sp := fun vs H Q _ => ∃ (a : Addr) (y0 y1 : V), vs = [.ref a, y0, y1] ∧ H a = some (exo a C none) ∧
  ∀ H' d, H d = none → d ≠ a → H' a = some (exo a C (some d)) → H' d = some (exd d (xdT y0 y1)) → (∀ b o, H b = some o → b ≠ a → H' b = some o) → Q .non H'
def Telling (C : Addr) (B : List Nat) (H : Hp) (Q : VK) (E : XK) : Prop := (fine B ∧ ∀ H' p, Same H H' → H p = none → H' p = some (.tup [.str (mS (headL (ph B))), .str (mS (rest B))]) → Q (.ref p) H') ∨ (¬ fine B ∧ Rz C (.int 1) (.int (col B)) H E)
def spCut (C : Addr) : Sp := fun vs H Q E => ∃ v, vs = [v] ∧ ((∃ B : List Nat, v = .str (mS B) ∧ B.length ≤ 1000 ∧ Telling C B H Q E) ∨ (Odd H v ∧ Rz C (.int 0) (.int 0) H E))
theorem same_new {H : Hp} {r : Addr} {o : HO} (n : H r = none) : Same H (upd H r o) := fun b u e => by
  rw [upd_ne (ne_of_none e n)]
  exact e
/-- what the top has written of BadText -/
structure BT (K : PySem.W.Frag) (mg : Str → Option Value) (C fB : Addr) (dB : FuncData) : Prop where
  ox : OexC K C
  ic : PySem.W.findIn K (.ref C) "__init__" = some (some (.ref fB))
  ti : PySem.W.typeIn K (.ref fB) = some (.type "function")
  n0 : PySem.W.findIn K (.ref C) "line" = some none
  n1 : PySem.W.findIn K (.ref C) "column" = some none
  g : mg "BadText" = some (.ref C)
  F : Fun K "__init__" "BadText.__init__" sInitT fB dB
  b : Binds K dB ["self", "line", "column"] []
theorem bootS : bootBuiltins "str" = some (.type "str") := by decide +kernel
theorem bootI : bootBuiltins "int" = some (.type "int") := by decide +kernel
theorem e_plus : ("+" : Str) = ⟨#[43]⟩ := by decide +kernel
theorem e_minus : ("-" : Str) = ⟨#[45]⟩ := by decide +kernel
theorem e_i : ("i" : Str) = ⟨#[105]⟩ := by decide +kernel
theorem e_all : ("IXYZ" : Str) = mS [73, 88, 89, 90] := by decide +kernel
theorem e_no : ("" : Str) = ⟨#[]⟩ := by decide +kernel
theorem e_I : ("I" : Str) = ⟨#[73]⟩ := by decide +kernel
section
variable {P : Program} {w : World} {K : PySem.W.Frag} {mg : Str → Option Value} {base : Heap}
theorem ok_initT {f C : Addr} {fd : FuncData} {k : Nat} (F : Fun K "__init__" "BadText.__init__" sInitT f fd) (T : OexC K C) (n0 : PySem.W.findIn K (.ref C) "line" = some none) (n1 : PySem.W.findIn K (.ref C) "column" = some none) :
    FnOk P w K mg base CX0 (k + 1) f fd ["self", "line", "column"] (spInitT C) := by
  refine F.ok scInitT (fun vs H Q E h => ?_) (fun cdv A outer s H vs Q E hr h => ?_)
  · obtain ⟨a, y0, y1, rfl, _⟩ := h
    rfl
  · obtain ⟨a, y0, y1, rfl, ha, q⟩ := h
    refine ⟨_, pss_cons (ps_ost (pv 0) (pv 1) rfl) (pss_one (ps_ost (pv 0) (pv 2) rfl)), ?_⟩
    refine ⟨_, rfl, _, rfl, a, C, rfl, T, n0, .inl ⟨ha, fun dx nx dne => ?_⟩⟩
    refine ⟨_, rfl, _, rfl, a, C, rfl, T, n1, .inr ⟨dx, _, upd_same, by rw [upd_ne dne]; exact upd_same, by show _ ≤ 900; exact Nat.le_of_ble_eq_true rfl, ?_⟩⟩
    exact q _ dx nx dne (by rw [upd_ne dne.symm]; exact upd_same) upd_same (fun b o e hb => by rw [upd_ne (ne_of_none e nx), upd_ne hb, upd_ne (ne_of_none e nx)]; exact e)
theorem raise_rd {C : Addr} {y0 y1 : V} {H : Hp} {W : XK} (h : Rz C y0 y1 H W) : ∀ a, H a = none → spInitT C (.ref a :: ([y0, y1] ++ [])) (upd H a (exo a C none))
    (fun v H2 => v = .non ∧ ∃ (d : Addr) (fs : List (Str × V)), H2 a = some (exo a C (some d)) ∧ H2 d = some (exd d fs) ∧ H d = none ∧ W (.ref C) (some d) (upd (del H2 a) d (.xd fs))) (fun _ _ _ => False) := by
  intro a na
  refine ⟨a, y0, y1, rfl, upd_same, fun H' d nd dne e1 e2 kp => ⟨rfl, d, _, e1, e2, ?_, ?_⟩⟩
  · rw [upd_ne dne] at nd
    exact nd
  · have nd' : H d = none := by
      rw [upd_ne dne] at nd
      exact nd
    refine h d _ (fun b o e => ?_) upd_same
    have hba : b ≠ a := ne_of_none e na
    rw [upd_ne (ne_of_none e nd'), del_ne hba]
    exact kp b o (by rw [upd_ne hba]; exact e) hba
theorem sizeBig {n : Nat} (h : n ≤ 1000) : n ≤ sizeLine := Nat.le_trans h (by decide)
theorem ok_cut {f C fB : Addr} {fd dB : FuncData} (F : Fun K "_cut_text" "_cut_text" sCut f fd) (T : BT K mg C fB dB) (B : Bl mg) : FnOk P w K mg base (L2.CX P w) 3 f fd ["text"] (spCut C) := by
  have GB : FnOk P w K mg base CX0 1 fB dB ["self", "line", "column"] (spInitT C) := ok_initT T.F T.ox T.n0 T.n1
  refine F.okX scCut (fun vs H Q E h => ?_) (fun cdv A outer s H vs Q E hr h => ?_)
  · obtain ⟨v, rfl, _⟩ := h
    rfl
  · obtain ⟨v, rfl, h⟩ := h
    have hr1 : Room 1 _ := hr.mono (by decide)
    refine ⟨_, C8.pss_cut (ps_if (pt_not (pt_val (pe_callB call_isi (by rfl) B.isi PyProof.Rows.boot_isinstance (pa_cons (pv 0) (pa_cons (pe_bltn (v := .ty "str") (by rfl) B.str bootS rfl) pa_nil)))))
        (pss_one (ps_raise rfl (takes_of rfl rfl rfl rfl) (pmk_oex T.ox T.ic T.ti GB hr T.b .nil pass0 (by rfl) T.g (pa_cons pe_int (pa_cons pe_int pa_nil))))) pss_nil)
      (C8.pss_cut (ps_set (i := 1) scCut.nd rfl (.inl rfl) pe_int)
      (C8.pss_cut (ps_if (pw_or (pt_val (pe_bm PySem.F.plainAttrs_str PySem.F.slot_str_startswith PySem.F.type_str_startswith mt_startswith (pv 0) (pa_cons pe_str pa_nil))) (pw_or1 (pt_val (pe_bm PySem.F.plainAttrs_str PySem.F.slot_str_startswith PySem.F.type_str_startswith mt_startswith (pv 0) (pa_cons pe_str pa_nil))))).pt
        (pss_one (ps_set (i := 1) scCut.nd rfl (.inl rfl) pe_int)) pss_nil)
      (C8.pss_cut (ps_if (pt_val (pe_bm PySem.F.plainAttrs_str PySem.F.slot_str_startswith PySem.F.type_str_startswith mt_startswith (pe_slice sl_str (pv 0) (po_some (pv 1)) po_none) (pa_cons pe_str pa_nil)))
        (pss_one (ps_aug (i := 1) scCut.nd rfl (.inl rfl) pe_int ip_add)) pss_nil)
      (C8.pss_cut (ps_set (i := 2) scCut.nd rfl (.inl rfl) (pe_slice sl_str (pv 0) (po_some (pv 1)) po_none))
      (pss_tok (i := 3) (pek_strip (pv 2)) scCut.nd rfl (.inl rfl)
        (psst_cons (PST.of (ps_if (pw_or (pt_truth (pv 3) (by intro _; rfl)) (pw_or1 (pt_not (pt_truth (pv 2) (by intro _; rfl))))).pt
          (pss_one (ps_raise rfl (takes_of rfl rfl rfl rfl) (pmk_oex T.ox T.ic T.ti GB hr T.b .nil pass0 (by rfl) T.g (pa_cons pe_int (pa_cons (pe_op op_add (pe_op op_sub (pe_callB call_len_str (by rfl) B.len PySem.boot_len (pa_cons (pv 0) pa_nil)) (pe_callB call_len_str (by rfl) B.len PySem.boot_len (pa_cons (pv 3) pa_nil))) pe_int) pa_nil))))) pss_nil))
        (CwR.psst_one (CwR.pst_ret (pet_tup (pat_cons (CwR.pet_replC (pe_slice sl_str (pv 0) po_none (po_some (pv 1)))) (pat_cons (CwR.PET.of (pv 2)) pat_nil)))))))))))  , ?_⟩
    refine ⟨fun σ' H' => σ' = [some v, none, none, none] ∧ H' = H ∧ ∃ B : List Nat, v = .str (mS B) ∧ B.length ≤ 1000 ∧ Telling C B H Q E, ?_, ?_⟩
    · rcases h with ⟨B, rfl, hl, t⟩ | ⟨ho, q⟩
      · exact ⟨_, rfl, _, _, _, _, true, rfl, .ty "str", .base (.str _), kit_ty (by decide +kernel), _, rfl, iteF ⟨rfl, rfl, B, rfl, hl, t⟩⟩
      · obtain ⟨n, ty, kt⟩ := ho.ty
        refine ⟨_, rfl, v, _, _, _, false, rfl, .ty "str", ty K, kit_ty kt, _, rfl, iteT ⟨by show 2 ≤ 1000; decide, raise_rd q⟩⟩
    rintro _ H1 ⟨rfl, rfl, B, rfl, hl, t⟩
    have hz : (mS B).length ≤ sizeLine := by rw [mS_len]; exact sizeBig hl
    refine ⟨fun σ' H' => σ' = [some (.str (mS B)), some (.int 0), none, none] ∧ H' = H1, ⟨rfl, rfl⟩, ?_⟩
    rintro _ H2 ⟨rfl, rfl⟩
    refine ⟨fun σ' H' => σ' = [some (.str (mS B)), some (.int ((st1 B : Nat) : Int)), none, none] ∧ H' = H2, ?_, ?_⟩
    · have s1 := sw_one B 43
      have s2 := sw_one B 45
      rw [← e_plus] at s1
      rw [← e_minus] at s2
      refine ⟨_, rfl, rfl, _, _, rfl, rfl, _, rfl, ite2 (fun e => ?_) (fun e => ⟨_, rfl, rfl, _, _, rfl, rfl, _, rfl, ite2 (fun e2 => ?_) (fun e2 => ?_)⟩)⟩
      · have h1 : B.head? = some 43 := of_decide_eq_true (s1.symm.trans e)
        have : st1 B = 1 := if_pos (.inl h1)
        rw [this]
        exact ⟨rfl, rfl⟩
      · have h1 : B.head? = some 45 := of_decide_eq_true (s2.symm.trans e2)
        have : st1 B = 1 := if_pos (.inr h1)
        rw [this]
        exact ⟨rfl, rfl⟩
      · have h1 : ¬ B.head? = some 43 := fun z => e (s1.trans (decide_eq_true z))
        have h2 : ¬ B.head? = some 45 := fun z => e2 (s2.trans (decide_eq_true z))
        have : st1 B = 0 := if_neg (fun z => z.elim h1 h2)
        rw [this]
        exact ⟨rfl, rfl⟩
    rintro _ H3 ⟨rfl, rfl⟩
    refine ⟨fun σ' H' => σ' = [some (.str (mS B)), some (.int ((start B : Nat) : Int)), none, none] ∧ H' = H3, ?_, ?_⟩
    · have s1 := sw_one (B.drop (st1 B)) 105
      rw [← e_i, ← cut_from] at s1
      refine ⟨_, rfl, _, rfl, _, rfl, _, rfl, hz, rfl, _, _, rfl, rfl, _, rfl, ite2 (fun e => ?_) (fun e => ?_)⟩
      · have h1 : (B.drop (st1 B)).head? = some 105 := of_decide_eq_true (s1.symm.trans e)
        have : start B = st1 B + 1 := by unfold start; rw [if_pos h1]
        rw [this]
        exact ⟨_, rfl, _, _, rfl, rfl, rfl, rfl⟩
      · have h1 : ¬ (B.drop (st1 B)).head? = some 105 := fun z => e (s1.trans (decide_eq_true z))
        have : start B = st1 B := by unfold start; rw [if_neg h1]; rfl
        rw [this]
        exact ⟨rfl, rfl⟩
    rintro _ H4 ⟨rfl, rfl⟩
    refine ⟨fun σ' H' => σ' = [some (.str (mS B)), some (.int ((start B : Nat) : Int)), some (.str (mS (rest B))), none] ∧ H' = H4, ?_, ?_⟩
    · refine ⟨_, rfl, _, rfl, _, rfl, _, rfl, hz, ?_⟩
      rw [cut_from]
      exact ⟨rfl, rfl⟩
    rintro _ H5 ⟨rfl, rfl⟩
    have hzr : (mS (rest B)).length ≤ sizeLine := by
      rw [mS_len]
      refine sizeBig (Nat.le_trans ?_ hl)
      rw [show rest B = B.drop (start B) from rfl, List.length_drop]
      omega
    have hst : Txt.lstripChars (mS (rest B)) ("IXYZ" : Str) = mS ((rest B).dropWhile isL) := by
      rw [e_all, lstrip_eq]
      rfl
    refine ⟨_, rfl, _, rfl, hzr, ?_⟩
    rw [hst]
    have hw : ((rest B).dropWhile isL).length ≤ B.length := by
      have := len_split B
      omega
    have hzw : (mS ((rest B).dropWhile isL)).length ≤ sizeLine := by rw [mS_len]; exact sizeBig (Nat.le_trans hw hl)
    have no_fine : ¬ fine B → Rz C (.int 1) (.int (((mS B).length : Int) - ((mS ((rest B).dropWhile isL)).length : Int) + 1)) H5 E := by
      intro nf
      rcases t with ⟨y, _⟩ | ⟨_, q⟩
      · exact absurd y nf
      · have e : (((mS B).length : Int) - ((mS ((rest B).dropWhile isL)).length : Int) + 1) = ((col B : Nat) : Int) := by
          rw [mS_len, mS_len]
          unfold col
          rw [if_neg nf]
          omega
        rw [e]
        exact q
    refine ⟨_, rfl, _, ⟨hzw, rfl⟩, ite2 (fun e => ?_) (fun e => ⟨_, rfl, _, ⟨hzr, rfl⟩, ite2 (fun e2 => ?_) (fun e2 => ?_)⟩)⟩
    · have nf : ¬ fine B := by
        rintro ⟨z, _⟩
        rw [z] at e
        revert e
        decide
      refine ⟨_, rfl, _, rfl, hz, _, rfl, _, rfl, hzw, _, _, rfl, rfl, _, _, rfl, rfl, by show 2 ≤ 1000; decide, raise_rd (no_fine nf)⟩
    · have nf : ¬ fine B := by
        rintro ⟨_, z⟩
        have : ((mS (rest B)).length : Int) ≠ 0 := by
          rw [mS_len]
          have := List.length_pos_iff.mpr z
          omega
        rw [(bne_iff_ne).mpr this] at e2
        cases e2
      refine ⟨_, rfl, _, rfl, hz, _, rfl, _, rfl, hzw, _, _, rfl, rfl, _, _, rfl, rfl, by show 2 ≤ 1000; decide, raise_rd (no_fine nf)⟩
    · have f1 : (rest B).dropWhile isL = [] := by
        have : ¬ ((mS ((rest B).dropWhile isL)).length : Int) ≠ 0 := fun z => e ((bne_iff_ne).mpr z)
        rw [mS_len] at this
        exact List.length_eq_zero_iff.mp (by omega)
      have f2 : rest B ≠ [] := by
        intro z
        rw [z] at e2
        exact e2 rfl
      rcases t with ⟨_, q⟩ | ⟨nf, _⟩
      · refine ⟨_, rfl, _, rfl, _, rfl, _, rfl, hz, ?_⟩
        rw [cut_to]
        have l1 : (mS (B.take (start B))).length ≤ 1000 := by
          rw [mS_len, List.length_take]
          omega
        refine ⟨_, rfl, ?_, ?_⟩
        · have : ("" : Str).length = 0 := by decide +kernel
          rw [this, Nat.mul_zero]
          omega
        · rw [show ("+" : Str) = ⟨#[43]⟩ from e_plus, show ("" : Str) = ⟨#[]⟩ from e_no, strike, head_of]
          refine ⟨_, rfl, by show 2 ≤ sizeLine; decide, fun p np => ?_⟩
          exact q _ p (same_new np) np upd_same
      · exact absurd ⟨f1, f2⟩ nf
end
end KQ

namespace KQ
open PySem PySem.Spec PyProof.Rows L2
/-! ### strings as objects -/
def PauliAt (C : Addr) (H : Hp) (a : Addr) (R : List Nat) (p : Nat) : Prop := ∃ dx fs, H a = some (.ins C dx fs) ∧ fs.lookup ("letters" : Str) = some (.str (mS R)) ∧ fs.lookup ("phase" : Str) = some (.int (p : Int)) ∧
  fs.lookup ("size" : Str) = some (.int (R.length : Int)) ∧ fs.lookup ("weight" : Str) = some (.int ((R.length : Int) - (R.count 73 : Int))) ∧ fs.lookup ("times" : Str) = none ∧ fs.lookup ("commutes" : Str) = none
/-- the tuple of heads -/
structure Hd4 (K : PySem.W.Frag) (mg : Str → Option Value) (A : Addr) : Prop where
  l : ∃ t0 t1 t2 t3 n sl, K.lookup A = some ⟨.type "tuple", none, .seq #[.str "" t0, .str "i" t1, .str "-" t2, .str "-i" t3] n, sl⟩
  g : mg "HEADS" = some (.ref A)
theorem e_mi : ("-i" : Str) = mS [45, 105] := by decide +kernel
def headsV : List V := [mS [], mS [105], mS [45], mS [45, 105]].map V.str
theorem Hd4.sq {K : PySem.W.Frag} {mg : Str → Option Value} {A : Addr} (h : Hd4 K mg A) (H : Hp) : SqT K H A ([mS [], mS [105], mS [45], mS [45, 105]].map V.str) := by
  obtain ⟨t0, t1, t2, t3, n, sl, e⟩ := h.l
  refine .inr ⟨_, _, n, e, rfl, rfl, by show 4 ≤ sizeLine; decide, ?_⟩
  refine .cons ⟨t0, ?_⟩ (.cons ⟨t1, ?_⟩ (.cons ⟨t2, ?_⟩ (.cons ⟨t3, ?_⟩ .nil)))
  · rw [e_no]
  · rw [e_i]
  · rw [e_minus]
  · rw [e_mi]
theorem Hd4.ty {K : PySem.W.Frag} {mg : Str → Option Value} {A : Addr} (h : Hd4 K mg A) (H : Hp) : tyV K "tuple" (.ref A) H := by
  obtain ⟨t0, t1, t2, t3, n, sl, e⟩ := h.l
  exact .inr (.inl ⟨rfl, _, e, rfl, rfl⟩)
/-- what the top has written of Pauli -/
structure PCl (K : PySem.W.Frag) (mg : Str → Option Value) (C fI fE : Addr) : Prop where
  cl : Cls K C
  nL : NoAttr K C "letters"
  nP : NoAttr K C "phase"
  nS : NoAttr K C "size"
  nW : NoAttr K C "weight"
  mkf : Mk K C fI
  ha : PySem.W.findIn K (.ref C) "__class__" = some (some (.builtin "object.__class__"))
  hn : PySem.W.specialIn K (.builtin "object.__class__") "__get__" = some (some (.builtin "getset_descriptor.__get__"))
  ht : PySem.W.takesIn K (.builtin "object.__class__") = some true
  hm : PySem.W.mroIn K C (.type "object") = some true
  kC : PySem.W.kitOne K (.ref C) (.ref C) = some true
  kS : PySem.W.kitOne K (.type "str") (.ref C) = some false
  eq : PySem.W.findIn K (.ref C) "__eq__" = some (some (.ref fE))
  ef : PySem.W.isFn K (.ref fE) = true
  en : PySem.W.notFirst K C (.type "str") = true
  g : mg "Pauli" = some (.ref C)
def spInit (C CT : Addr) : Sp := fun vs H Q E => ∃ (a dx : Addr) (v : V), vs = [.ref a, v] ∧ H a = some (.ins C dx []) ∧
  ((∃ B : List Nat, v = .str (mS B) ∧ B.length ≤ 1000 ∧ ((fine B ∧ ∀ H', PauliAt C H' a (rest B) (ph B) → (∀ b o, b ≠ a → H b = some o → H' b = some o) → Q .non H') ∨ (¬ fine B ∧ Rz CT (.int 1) (.int (col B)) H E))) ∨ (Odd H v ∧ Rz CT (.int 0) (.int 0) H E))
def spEqP (C : Addr) : Sp := fun vs H Q _ => ∃ (a : Addr) (y : V) (R : List Nat) (p : Nat), vs = [.ref a, y] ∧ PauliAt C H a R p ∧
  ((∃ b R' p', y = .ref b ∧ PauliAt C H b R' p' ∧ Q (.bl (decide (R = R') && decide (p = p'))) H) ∨ ((∃ z : Str, y = .str z) ∧ Q (.bl false) H))
def spText (C : Addr) : Sp := fun vs H Q _ => ∃ (a : Addr) (R : List Nat) (p : Nat), vs = [.ref a] ∧ PauliAt C H a R p ∧ p < 4 ∧ R.length ≤ 1000 ∧ Q (.str (mS (headL p ++ R))) H
theorem cnt_count (c : Nat) : ∀ L : List Nat, countIn (.str ⟨#[c]⟩) (L.map fun n => PyData.str ⟨#[n]⟩) = (L.count c : Int)
  | [] => rfl
  | a :: L => by
    show (if same (.str ⟨#[a]⟩) (.str ⟨#[c]⟩) then 1 else 0) + countIn (.str ⟨#[c]⟩) (L.map fun n => PyData.str ⟨#[n]⟩) = _
    rw [cnt_count c L, List.count_cons]
    have e : same (.str ⟨#[a]⟩) (.str ⟨#[c]⟩) = (a == c) := by
      show ((⟨#[a]⟩ : Str) == ⟨#[c]⟩) = _
      by_cases h : a = c
      · subst h
        simp
      · have : (⟨#[a]⟩ : Str) ≠ ⟨#[c]⟩ := fun z => h (by injection z with z; simpa using z)
        rw [beq_eq_false_iff_ne.mpr this, beq_eq_false_iff_ne.mpr h]
    rw [e]
    by_cases h : a = c
    · subst h
      simp
      omega
    · rw [beq_eq_false_iff_ne.mpr h]
      simp
theorem head_at {p : Nat} (h : p < 4) : ([mS [], mS [105], mS [45], mS [45, 105]] : List Str)[p]? = some (mS (headL p)) := by
  match p, h with
  | 0, _ => rfl
  | 1, _ => rfl
  | 2, _ => rfl
  | 3, _ => rfl
theorem head_first {p : Nat} (h : p < 4) : ∀ m, m < p → ([mS [], mS [105], mS [45], mS [45, 105]] : List Str)[m]? ≠ some (mS (headL p)) := by
  match p, h with
  | 0, _ => exact fun m hm => by omega
  | 1, _ => 
    intro m hm
    match m, hm with
    | 0, _ => decide
  | 2, _ =>
    intro m hm
    match m, hm with
    | 0, _ => decide
    | 1, _ => decide
  | 3, _ =>
    intro m hm
    match m, hm with
    | 0, _ => decide
    | 1, _ => decide
    | 2, _ => decide
section
variable {P : Program} {w : World} {K : PySem.W.Frag} {mg : Str → Option Value} {base : Heap}
theorem ok_init {f fC C CT fE fB A : Addr} {fd dC dB : FuncData} (F : Fun K "__init__" "Pauli.__init__" sInit f fd) (N : PCl K mg C f fE) (FC : Fun K "_cut_text" "_cut_text" sCut fC dC) (bC : Binds K dC ["text"] []) (gC : mg "_cut_text" = some (.ref fC))
    (T : BT K mg CT fB dB) (hd : Hd4 K mg A) (B : Bl mg) : FnOk P w K mg base (L2.CX P w) 4 f fd ["self", "text"] (spInit C CT) := by
  have GC : FnOk P w K mg base (L2.CX P w) 3 fC dC ["text"] (spCut CT) := ok_cut FC T B
  refine F.okX scInit (fun vs H Q E h => ?_) (fun cdv A' outer s H vs Q E hr h => ?_)
  · obtain ⟨a, dx, v, rfl, _⟩ := h
    rfl
  · obtain ⟨a, dx, v, rfl, ea, h⟩ := h
    refine ⟨_, C8.pss_cut (ps_asg (pe_call GC hr (by rfl) gC FC.kp bC .nil (passes_call (takes_of rfl rfl rfl rfl) (fun _ _ _ _ h => h)) (pa_cons (pv 1) pa_nil)) (pg_tup rfl (pgs_cons (pg_name (i := 2) scInit.nd rfl (.inl rfl)) (pgs_cons (pg_name (i := 3) scInit.nd rfl (.inl rfl)) pgs_nil))))
      (pss_cons (ps_fld (pv 0) (pv 3) rfl)
      (pss_cons (ps_fld (pv 0) (pe_bm PySem.F.plainAttrs_tuple PySem.F.slot_tuple_index PySem.F.type_tuple_index mt_tup_index (pe_glob (v := .ref A) (by rfl) hd.g rfl) (pa_cons (pv 2) pa_nil)) rfl)
      (pss_cons (ps_fld (pv 0) (pe_callB call_len_str (by rfl) B.len PySem.boot_len (pa_cons (pv 3) pa_nil)) rfl)
      (pss_one (ps_fld (pv 0) (pe_op op_sub (pe_callB call_len_str (by rfl) B.len PySem.boot_len (pa_cons (pv 3) pa_nil)) (pe_bm PySem.F.plainAttrs_str PySem.F.slot_str_count PySem.F.type_str_count mt_count (pv 3) (pa_cons pe_str pa_nil))) rfl))))), ?_⟩
    refine ⟨fun σ' H' => ∃ B : List Nat, fine B ∧ B.length ≤ 1000 ∧ σ' = [some (.ref a), some v, some (.str (mS (headL (ph B)))), some (.str (mS (rest B)))] ∧ Same H H' ∧ ∀ H', PauliAt C H' a (rest B) (ph B) → (∀ b o, b ≠ a → H b = some o → H' b = some o) → Q .non H', ?_, ?_⟩
    · refine ⟨_, rfl, v, rfl, ?_⟩
      rcases h with ⟨B, rfl, hl, h⟩ | ⟨ho, q⟩
      · refine .inl ⟨B, rfl, hl, ?_⟩
        rcases h with ⟨hf, q⟩ | ⟨hf, q⟩
        · exact .inl ⟨hf, fun H' p s np ep => ⟨p, _, rfl, .inl (.inl ep), rfl, _, _, rfl, _, _, rfl, rfl, B, hf, hl, rfl, s, q⟩⟩
        · exact .inr ⟨hf, q⟩
      · exact .inr ⟨ho, q⟩
    rintro _ H1 ⟨B, hf, hl, rfl, s1, q⟩
    have ea1 := s1 _ _ ea
    have hlr : (rest B).length ≤ 1000 := by
      refine Nat.le_trans ?_ hl
      rw [show rest B = B.drop (start B) from rfl, List.length_drop]
      omega
    have hz : (mS (rest B)).length ≤ sizeLine := by rw [mS_len]; exact sizeBig hlr
    refine ⟨_, rfl, _, rfl, a, C, dx, _, rfl, ea1, N.cl, N.nL, by show 0 < 1000; decide, ?_⟩
    refine ⟨hd.ty _, _, rfl, A, _, _, _, rfl, rfl, hd.sq _, head_at (ph_lt B), head_first (ph_lt B), _, rfl, a, C, dx, _, rfl, upd_same, N.cl, N.nP, by show 1 < 1000; decide, ?_⟩
    refine ⟨_, rfl, _, rfl, hz, _, rfl, a, C, dx, _, rfl, upd_same, N.cl, N.nS, by show 2 < 1000; decide, ?_⟩
    refine ⟨_, rfl, _, rfl, hz, _, rfl, rfl, _, _, rfl, rfl, _, _, rfl, rfl, _, rfl, a, C, dx, _, rfl, upd_same, N.cl, N.nW, by show 3 < 1000; decide, ?_⟩
    refine q _ ⟨dx, _, upd_same, ?_, ?_, ?_, ?_, ?_, ?_⟩ (fun b o hb e => by rw [upd_ne hb, upd_ne hb, upd_ne hb, upd_ne hb]; exact s1 _ _ e)
    · rw [lookup_putF, if_neg (by decide +kernel), lookup_putF, if_neg (by decide +kernel), lookup_putF, if_neg (by decide +kernel), lookup_putF, if_pos rfl]
    · rw [lookup_putF, if_neg (by decide +kernel), lookup_putF, if_neg (by decide +kernel), lookup_putF, if_pos rfl]
    · rw [lookup_putF, if_neg (by decide +kernel), lookup_putF, if_pos rfl, mS_len]
    · rw [lookup_putF, if_pos rfl, mS_len, e_I]
      have : Txt.count (mS (rest B)) ⟨#[73]⟩ = ((rest B).count 73 : Int) := (PyProof.Rows.count_is _ _).trans (cnt_count 73 _)
      rw [this]
    · rw [lookup_putF, if_neg (by decide +kernel), lookup_putF, if_neg (by decide +kernel), lookup_putF, if_neg (by decide +kernel), lookup_putF, if_neg (by decide +kernel)]
      rfl
    · rw [lookup_putF, if_neg (by decide +kernel), lookup_putF, if_neg (by decide +kernel), lookup_putF, if_neg (by decide +kernel), lookup_putF, if_neg (by decide +kernel)]
      rfl
theorem PauliAt.ty {C : Addr} {fI fE : Addr} (N : PCl K mg C fI fE) {H : Hp} {a : Addr} {R : List Nat} {p : Nat} (h : PauliAt C H a R p) : TyX K H (.ref a) (.ref C) := by
  obtain ⟨dx, fs, e, _⟩ := h
  exact .base (.ins e N.cl N.ha N.hn N.ht N.hm)
theorem ok_eq {f fI C : Addr} {fd : FuncData} {k : Nat} (F : Fun K "__eq__" "Pauli.__eq__" sEq f fd) (N : PCl K mg C fI f) (B : Bl mg) : FnOk P w K mg base CX0 (k + 1) f fd ["self", "other"] (spEqP C) := by
  refine F.ok scEq (fun vs H Q E h => ?_) (fun cdv A' outer s H vs Q E hr h => ?_)
  · obtain ⟨a, y, R, p, rfl, _⟩ := h
    rfl
  · obtain ⟨a, y, R, p, rfl, hP, h⟩ := h
    refine ⟨_, pss_one (ps_ret (pe_and (pe_callB call_isi (by rfl) B.isi PyProof.Rows.boot_isinstance (pa_cons (pv 1) (pa_cons (pe_glob (v := .ref C) (by rfl) N.g rfl) pa_nil)))
      (pe_and (pe_cmpR op_eq (pe_fld (pv 0) rfl) (pe_fld (pv 1) rfl) (nomark _)) (pe_one (pe_cmpR op_eq (pe_fld (pv 0) rfl) (pe_fld (pv 1) rfl) (nomark _)))))), ?_⟩
    rcases h with ⟨b, R', p', rfl, hP', q⟩ | ⟨⟨z, rfl⟩, q⟩
    · refine ⟨_, rfl, _, _, _, _, true, rfl, .own C, hP'.ty N, N.kC, _, rfl, ?_⟩
      obtain ⟨dx, fs, e, l1, l2, _⟩ := hP
      obtain ⟨dy, gs, e', l1', l2', _⟩ := hP'
      refine ⟨_, rfl, a, C, dx, fs, _, rfl, e, N.cl, N.nL, l1, _, rfl, b, C, dy, gs, _, rfl, e', N.cl, N.nL, l1', rfl, _, rfl, ?_⟩
      by_cases hR : R = R'
      · subst hR
        rw [decide_eq_true rfl] at q ⊢
        refine ⟨_, rfl, a, C, dx, fs, _, rfl, e, N.cl, N.nP, l2, _, rfl, b, C, dy, gs, _, rfl, e', N.cl, N.nP, l2', rfl, ?_⟩
        by_cases hp : p = p'
        · subst hp
          rw [decide_eq_true rfl] at q ⊢
          exact q
        · rw [decide_eq_false hp] at q
          rw [decide_eq_false (fun z => hp (by have := V.int.inj z; omega))]
          exact q
      · rw [decide_eq_false hR] at q
        rw [decide_eq_false (fun z => hR (mS_inj (V.str.inj z)))]
        exact q
    · exact ⟨_, rfl, _, _, _, _, false, rfl, .own C, .base (.str z), N.kS, _, rfl, q⟩
theorem ok_text {f fI fE C A : Addr} {fd : FuncData} {k : Nat} (F : Fun K "pauli_text" "pauli_text" sText f fd) (N : PCl K mg C fI fE) (hd : Hd4 K mg A) : FnOk P w K mg base CX0 (k + 1) f fd ["p"] (spText C) := by
  refine F.ok scText (fun vs H Q E h => ?_) (fun cdv A' outer s H vs Q E hr h => ?_)
  · obtain ⟨a, R, p, rfl, _⟩ := h
    rfl
  · obtain ⟨a, R, p, rfl, hP, hp, hl, q⟩ := h
    refine ⟨_, pss_one (ps_ret (pe_op op_add_str (pe_ix ix_tup (pe_glob (v := .ref A) (by rfl) hd.g rfl) (pe_fld (pv 0) rfl) (fun _ _ => rfl)) (pe_fld (pv 0) rfl))), ?_⟩
    obtain ⟨dx, fs, e, l1, l2, _⟩ := hP
    have hh := head_at hp
    refine ⟨_, rfl, a, C, dx, fs, _, rfl, e, N.cl, N.nP, l2, A, _, _, _, rfl, rfl, hd.sq _, atI_nat (by rw [List.getElem?_map, hh]; rfl), _, rfl, a, C, dx, fs, _, rfl, e, N.cl, N.nL, l1, _, _, rfl, rfl, ?_, ?_⟩
    · rw [mS_len, mS_len]
      have : (headL p).length ≤ 2 := by
        match p, hp with
        | 0, _ => decide
        | 1, _ => decide
        | 2, _ => decide
        | 3, _ => decide
      exact Nat.le_trans (by omega : _ ≤ 1002) (by decide)
    · rw [mS_app]
      exact q
end
end KQ

namespace KZ
open PySem
open PySem.Sem (wp)
/-! ### zip over two things that are drawn from -/
section
variable {prog : Program} {w : World} {A : Around} {E : Value → Shared → Prop} {s : Shared}
variable {z TI TO i1 i2 : Addr} {n1 n2 k : Nat} {P1 P2 : Nat → Value → Prop} {S1 S2 : Nat → Heap → Prop} {a b : Value}
theorem go_on {i : Addr} {n k : Nat} {P : Nat → Value → Prop} {S : Nat → Heap → Prop} (D : Draws prog w A i [i] n P S) {h h' : Heap} (st : S k h) (e : ∀ o, h.get? i = some o → h'.get? i = some o) : S k h' :=
  D.frame _ _ _ st fun c hc o q => by
    rw [List.mem_singleton.mp hc] at q ⊢
    exact e o q
theorem zip_item {Q : Value → Shared → Prop} (D : ZipApart z TI TO i1 i2 TI TI) (D1 : Draws prog w A i1 [i1] n1 P1 S1) (D2 : Draws prog w A i2 [i2] n2 P2 S2)
    (hz : IsZip s.heap z TI TO .none) (hTI : IsPair s.heap TI (.ref i1) (.ref i2)) (hTO : IsPair s.heap TO a b) (t1 : S1 k s.heap) (t2 : S2 k s.heap) (l1 : k < n1) (l2 : k < n2)
    (hQ : ∀ x y h' tk, P1 k x → P2 k y → IsZip h' z TI TO (rawInt s.heap.objs.size) → IsPair h' TO x y → S1 (k + 1) h' → S2 (k + 1) h' → IsPair h' s.heap.objs.size x y → h'.objs.size = s.heap.objs.size + 1 →
      (∀ c o, c ≠ z → c ≠ TO → c ≠ i1 → c ≠ i2 → s.heap.get? c = some o → h'.get? c = some o) → Q (.ref s.heap.objs.size) { s with heap := h', toks := tk }) :
    wpAny (model prog w) A (Builtin.«zip.__next__» ⟨[.ref z], []⟩) (fun fin s' => ∃ v, fin = .done (.ret v) ∧ Q v s') E s := by
  obtain ⟨h0, gs, dr, tk0, os0⟩ := s
  show wpAny _ _ (field (.ref z) 2 >>= _) _ _ _
  refine wpAny_bind (wpAny_field hz rfl (x := .bool false) rfl ?_)
  show wpAny _ _ (field (.ref z) 3 >>= _) _ _ _
  refine wpAny_bind (wpAny_field hz rfl (x := .ref TI) rfl (wpAny_bind (wpAny_seqItems hTI rfl ?_)))
  show wpAny _ _ (Builtin.SmallTypes.ownedTupleIsFree (.ref z) >>= _) _ _ _
  refine wpAny_bind ?_
  unfold Builtin.SmallTypes.ownedTupleIsFree
  refine wpAny_bind (wpAny_field hz rfl (x := .none) rfl (wpAny_pure ?_))
  simp only [if_true]
  refine wpAny_bind (wpAny_rule (wpAny_bind (wpAny_field hz rfl (x := .ref TO) rfl ?_)))
  refine wpAny_bind (wpAny_setField_rec hz (by simp) fun ha za sa => ?_)
  have za' : IsZip ha z TI TO .ellipsis := za
  refine wpAny_bind ?_
  simp only [List.zipIdx_cons, List.zipIdx_nil, List.forIn_cons, List.forIn_nil]
  -- the left one
  refine wpAny_bind (wpAny_bind (wpAny_onRaise ?_))
  show wpAny _ _ (Builtin.SmallTypes.nextOf (.ref i1) >>= _) _ _ _
  refine wpAny_bind (D1.item k _ _ _ l1 (go_on D1 t1 fun o q => sa.extBut _ _ D.i1z q) fun x hb tkb px tb sb => wpAny_pure ?_)
  have TOb : IsPair hb TO a b := sb.extBut _ _ D.TOi1 (sa.extBut _ _ D.TOz hTO)
  refine wpAny_bind (wpAny_seqItems TOb rfl (wpAny_bind (wpAny_updateSeq_pair TOb fun hc TOc sc => ?_)))
  have TOc' : IsPair hc TO x b := TOc
  refine wpAny_bind (wpAny_letGo (wpAny_pure ?_))
  -- the right one
  refine wpAny_bind (wpAny_bind (wpAny_onRaise ?_))
  show wpAny _ _ (Builtin.SmallTypes.nextOf (.ref i2) >>= _) _ _ _
  refine wpAny_bind (D2.item k _ _ _ l2 (go_on D2 t2 fun o q => sc.extBut _ _ D.TOi2.symm (sb.extBut _ _ D.i12.symm (sa.extBut _ _ D.i2z q))) fun y hd tkd py td sd => wpAny_pure ?_)
  have TOd : IsPair hd TO x b := sd.extBut _ _ D.TOi2 TOc'
  refine wpAny_bind (wpAny_seqItems TOd rfl (wpAny_bind (wpAny_updateSeq_pair TOd fun he TOe se => ?_)))
  have TOe' : IsPair he TO x y := TOe
  refine wpAny_bind (wpAny_letGo (wpAny_pure (wpAny_pure ?_)))
  refine wpAny_bind (wpAny_seqItems TOe' rfl (wpAny_bind (wpAny_newTuple ?_)))
  have sz : he.objs.size = h0.objs.size := by rw [se.1, sd.1, sc.1, sb.1, sa.1]
  have ze : IsZip he z TI TO .ellipsis := se.extBut _ _ D.TOz.symm (sd.extBut _ _ D.i2z.symm (sc.extBut _ _ D.TOz.symm (sb.extBut _ _ D.i1z.symm za')))
  have ke : ∀ c o, c ≠ z → c ≠ TO → c ≠ i1 → c ≠ i2 → h0.get? c = some o → he.get? c = some o := fun c o c1 c2 c3 c4 q =>
    se.extBut _ _ c2 (sd.extBut _ _ c4 (sc.extBut _ _ c2 (sb.extBut _ _ c3 (sa.extBut _ _ c1 q))))
  have zlt : z < he.objs.size := Heap.lt_size ze
  show wpAny _ _ (Builtin.SmallTypes.ownedTupleHandOut (.ref z) (.ref he.objs.size) >>= _) _ _ _
  refine wpAny_bind ?_
  unfold Builtin.SmallTypes.ownedTupleHandOut
  have zf : IsZip (he.push { cls := .type "tuple", data := .seq #[x, y] }) z TI TO .ellipsis := Heap.get?_push_of_some _ ze
  refine wpAny_bind (wpAny_setField_rec zf (by simp) fun hg zg sg => ?_)
  have zg' : IsZip hg z TI TO (rawInt he.objs.size) := zg
  refine wpAny_setField_rec zg' (by simp) fun hh zh sh => ?_
  have zh' : IsZip hh z TI TO (rawInt he.objs.size) := zh
  have up : ∀ c o, c ≠ z → he.get? c = some o → hh.get? c = some o := fun c o c1 q => sh.extBut _ _ c1 (sg.extBut _ _ c1 (Heap.get?_push_of_some _ q))
  have Th : IsPair hh he.objs.size x y := sh.extBut _ _ (Nat.ne_of_gt zlt) (sg.extBut _ _ (Nat.ne_of_gt zlt) (Heap.get?_push_size _ rfl))
  have szh : hh.objs.size = he.objs.size + 1 := by rw [sh.1, sg.1, Heap.size_push]
  rw [sz] at zh' Th szh
  refine wpAny_pure ⟨_, rfl, ?_⟩
  show Q (.ref he.objs.size) _
  rw [sz]
  refine hQ x y hh tkd px py zh' (up _ _ D.TOz TOe') (go_on D1 tb fun o q => up _ o D.i1z (se.extBut _ _ D.TOi1.symm (sd.extBut _ _ D.i12 (sc.extBut _ _ D.TOi1.symm q)))) (go_on D2 td fun o q => up _ o D.i2z (se.extBut _ _ D.TOi2.symm q)) Th szh fun c o c1 c2 c3 c4 q => up c o c1 (ke c o c1 c2 c3 c4 q)
theorem zip_done {Q : Fin → Shared → Prop} (D : ZipApart z TI TO i1 i2 TI TI) (D1 : Draws prog w A i1 [i1] n1 P1 S1)
    (hz : IsZip s.heap z TI TO .none) (hTI : IsPair s.heap TI (.ref i1) (.ref i2)) (hTO : IsPair s.heap TO a b) (t1 : S1 n1 s.heap)
    (hE : ∀ h' e, (∀ c o, c ≠ z → c ≠ TO → c ≠ i1 → c ≠ i2 → s.heap.get? c = some o → h'.get? c = some o) → (∃ o, h'.get? e = some o ∧ o.cls = .type "StopIteration") → E (.ref e) { s with heap := h' }) :
    wpAny (model prog w) A (Builtin.«zip.__next__» ⟨[.ref z], []⟩) Q E s := by
  show wpAny _ _ (field (.ref z) 2 >>= _) _ _ _
  refine wpAny_bind (wpAny_field hz rfl (x := .bool false) rfl ?_)
  show wpAny _ _ (field (.ref z) 3 >>= _) _ _ _
  refine wpAny_bind (wpAny_field hz rfl (x := .ref TI) rfl (wpAny_bind (wpAny_seqItems hTI rfl ?_)))
  show wpAny _ _ (Builtin.SmallTypes.ownedTupleIsFree (.ref z) >>= _) _ _ _
  refine wpAny_bind ?_
  unfold Builtin.SmallTypes.ownedTupleIsFree
  refine wpAny_bind (wpAny_field hz rfl (x := .none) rfl (wpAny_pure ?_))
  simp only [if_true]
  refine wpAny_bind (wpAny_rule (wpAny_bind (wpAny_field hz rfl (x := .ref TO) rfl ?_)))
  refine wpAny_bind (wpAny_setField_rec hz (by simp) fun ha za sa => ?_)
  have za' : IsZip ha z TI TO .ellipsis := za
  refine wpAny_bind ?_
  simp only [List.zipIdx_cons, List.zipIdx_nil, List.forIn_cons, List.forIn_nil]
  refine wpAny_bind (wpAny_bind (wpAny_onRaise ?_))
  show wpAny _ _ (Builtin.SmallTypes.nextOf (.ref i1) >>= _) _ _ _
  refine wpAny_bind (D1.done _ _ _ (go_on D1 t1 fun o q => sa.extBut _ _ D.i1z q) fun hb e sb he => ?_)
  obtain ⟨oe, eo, ec⟩ := he
  have zb : IsZip hb z TI TO .ellipsis := sb _ _ D.i1z.symm za'
  have ez : e ≠ z := fun q => by
    subst q
    rw [zb] at eo
    cases eo
    simp at ec
  exact wpAny_setField_rec zb (by simp) fun hc _ sc => hE hc e (fun c o c1 _ c3 _ q => sc.extBut _ _ c1 (sb _ _ c3 (sa.extBut _ _ c1 q))) ⟨oe, sc.extBut _ _ ez eo, ec⟩
theorem next_item {Q : Option Value → Shared → Prop} (D : ZipApart z TI TO i1 i2 TI TI) (D1 : Draws prog w A.in1 i1 [i1] n1 P1 S1) (D2 : Draws prog w A.in1 i2 [i2] n2 P2 S2)
    (hz : IsZip s.heap z TI TO .none) (hTI : IsPair s.heap TI (.ref i1) (.ref i2)) (hTO : IsPair s.heap TO a b) (t1 : S1 k s.heap) (t2 : S2 k s.heap) (l1 : k < n1) (l2 : k < n2)
    (hQ : ∀ x y h' tk, P1 k x → P2 k y → IsZip h' z TI TO (rawInt s.heap.objs.size) → IsPair h' TO x y → S1 (k + 1) h' → S2 (k + 1) h' → IsPair h' s.heap.objs.size x y → h'.objs.size = s.heap.objs.size + 1 →
      (∀ c o, c ≠ z → c ≠ TO → c ≠ i1 → c ≠ i2 → s.heap.get? c = some o → h'.get? c = some o) → Q (some (.ref s.heap.objs.size)) { s with heap := h', toks := tk }) :
    wpAny (model prog w) A (pyNext (.ref z)) Q E s := by
  have hT : s.TypeIs (.ref z) "zip" := ⟨_, hz, rfl⟩
  unfold pyNext
  exact wpAny_bind (wpAny_attempt (wpAny_callSpecial?_slot (name := Str.ofString "__next__") hT F.slot_zip_next
    (wpAny_call_entry F.slot_zip_next hT F.entry_zip_next
      (zip_item D D1 D2 hz hTI hTO t1 t2 l1 l2 fun x y h' tk a1 a2 a3 a4 a5 a6 a7 a8 a9 => wpAny_pure (hQ x y h' tk a1 a2 a3 a4 a5 a6 a7 a8 a9)) (F.args_zip_next_1 _))))
theorem next_done {Q : Option Value → Shared → Prop} (D : ZipApart z TI TO i1 i2 TI TI) (D1 : Draws prog w A.in1 i1 [i1] n1 P1 S1)
    (hz : IsZip s.heap z TI TO .none) (hTI : IsPair s.heap TI (.ref i1) (.ref i2)) (hTO : IsPair s.heap TO a b) (t1 : S1 n1 s.heap)
    (hQ : ∀ h', (∀ c o, c ≠ z → c ≠ TO → c ≠ i1 → c ≠ i2 → s.heap.get? c = some o → h'.get? c = some o) → Q none { s with heap := h' }) : wpAny (model prog w) A (pyNext (.ref z)) Q E s := by
  have hT : s.TypeIs (.ref z) "zip" := ⟨_, hz, rfl⟩
  unfold pyNext
  refine wpAny_bind (wpAny_attempt (wpAny_callSpecial?_slot (name := Str.ofString "__next__") hT F.slot_zip_next
    (wpAny_call_entry F.slot_zip_next hT F.entry_zip_next (zip_done D D1 hz hTI hTO t1 fun h' e hk he => ?_) (F.args_zip_next_1 _))))
  obtain ⟨o, ho, hc⟩ := he
  exact wpAny_bind (wpAny_isInstance (T := "StopIteration") (b := true) ⟨o, ho, hc⟩ isSubtype_stop (wpAny_pure (hQ _ hk)))
end
end KZ

namespace KZ
open PySem
open PySem.Sem (wp)
/-! ### zip(text, text) -/
def strIt (x : Str) (t : Tok) : Obj := { cls := .type (strIterType x), data := .fields #[.str x t, .int 0 0] }
def zp1 (h : Heap) (x : Str) (t : Tok) : Heap := h.push { cls := .type (strIterType x), data := .fields #[.str x t, .int 0 0] }
def zp2 (h : Heap) (x y : Str) (t u : Tok) : Heap := (zp1 h x t).push { cls := .type (strIterType y), data := .fields #[.str y u, .int 0 0] }
def zp3 (h : Heap) (x y : Str) (t u : Tok) : Heap := (zp2 h x y t u).push { cls := .type "tuple", data := .seq #[.ref h.objs.size, .ref (zp1 h x t).objs.size] }
def zp4 (h : Heap) (x y : Str) (t u : Tok) : Heap := (zp3 h x y t u).push { cls := .type "tuple", data := .seq #[.none, .none] }
def zp5 (h : Heap) (x y : Str) (t u : Tok) : Heap := (zp4 h x y t u).push { cls := .type "zip", data := .fields #[.none, .bool false, .bool false, .ref (zp2 h x y t u).objs.size, .ref (zp3 h x y t u).objs.size] }
theorem meets_zipS (x y : Str) (t u : Tok) :
    Meets (Builtin.«zip.__new__» ⟨[.type "zip", .str x t, .str y u], []⟩) (fun _ R s => R (.ok (.ret (.ref (zp4 s.heap x y t u).objs.size))) { s with heap := zp5 s.heap x y t u }) :=
  .of_wp fun prog w A R s h => by
    obtain ⟨h0, g, d, tk, os⟩ := s
    have hsub := sub_zip
    wp_walk using wpAny_pyIter_strU
    exact ⟨_, rfl, h⟩
section
variable {prog : Program} {w : World} {A : Around} {E : Value → Shared → Prop} {s : Shared}
theorem call_zipS {x y : Str} {t u : Tok} {Q : Value → Shared → Prop}
    (h : ∀ h', IsZip h' (s.heap.objs.size + 4) (s.heap.objs.size + 2) (s.heap.objs.size + 3) .none → IsPair h' (s.heap.objs.size + 2) (.ref s.heap.objs.size) (.ref (s.heap.objs.size + 1)) →
      IsPair h' (s.heap.objs.size + 3) .none .none → h'.IsStrIter s.heap.objs.size (strIterType x) x t 0 → h'.IsStrIter (s.heap.objs.size + 1) (strIterType y) y u 0 →
      (∀ c o, s.heap.get? c = some o → h'.get? c = some o) → Q (.ref (s.heap.objs.size + 4)) { s with heap := h' }) :
    wpAny (model prog w) A (call (.type "zip") [.str x t, .str y u]) Q E s := by
  refine callType_new F.called_zip (by decide) (F.typeCall_zip_2 _ _) (F.newCall_zip_2 _ _) (fun obj => F.args_object_init_3 obj _ _) F.entry_zip_new (meets_zipS x y t u) ?_
  have s1 : (zp1 s.heap x t).objs.size = s.heap.objs.size + 1 := Heap.size_push ..
  have s2 : (zp2 s.heap x y t u).objs.size = s.heap.objs.size + 2 := by rw [zp2, Heap.size_push, s1]
  have s3 : (zp3 s.heap x y t u).objs.size = s.heap.objs.size + 3 := by rw [zp3, Heap.size_push, s2]
  have s4 : (zp4 s.heap x y t u).objs.size = s.heap.objs.size + 4 := by rw [zp4, Heap.size_push, s3]
  have e5 : (zp5 s.heap x y t u).get? (zp4 s.heap x y t u).objs.size = some _ := Heap.get?_push_size _ rfl
  have e4 : (zp5 s.heap x y t u).get? (zp3 s.heap x y t u).objs.size = some _ := Heap.get?_push_of_some _ (Heap.get?_push_size _ rfl)
  have e3 : (zp5 s.heap x y t u).get? (zp2 s.heap x y t u).objs.size = some _ := Heap.get?_push_of_some _ (Heap.get?_push_of_some _ (Heap.get?_push_size _ rfl))
  have e2 : (zp5 s.heap x y t u).get? (zp1 s.heap x t).objs.size = some _ := Heap.get?_push_of_some _ (Heap.get?_push_of_some _ (Heap.get?_push_of_some _ (Heap.get?_push_size _ rfl)))
  have e1 : (zp5 s.heap x y t u).get? s.heap.objs.size = some _ := Heap.get?_push_of_some _ (Heap.get?_push_of_some _ (Heap.get?_push_of_some _ (Heap.get?_push_of_some _ (Heap.get?_push_size _ rfl))))
  show _ ∧ _
  rw [s2, s3, s4] at e5
  rw [s1, s2] at e3
  rw [s3] at e4
  rw [s1] at e2
  rw [s4]
  exact ⟨⟨_, e5, rfl⟩, h _ e5 e3 e4 ⟨_, e1, rfl, rfl⟩ ⟨_, e2, rfl, rfl⟩ fun c o q =>
    Heap.get?_push_of_some _ (Heap.get?_push_of_some _ (Heap.get?_push_of_some _ (Heap.get?_push_of_some _ (Heap.get?_push_of_some _ q))))⟩
end
end KZ
namespace KQ
open PySem PySem.Spec PyProof.Rows L2
theorem draws_tx {prog : Program} {w : World} {A : Around} (calm : A.handled = none) (it : Addr) (x : Str) (t : Tok) :
    Draws prog w A.in1 it [it] x.cps.size (fun i v => ∃ c u, x.cps[i]? = some c ∧ v = .str ⟨#[c]⟩ u) (fun i h => h.IsStrIter it (strIterType x) x t i) := by
  unfold strIterType
  split
  · exact Draws.strAscii (A := A.in1) calm it x t
  · exact Draws.strWide (A := A.in1) calm it x t
/-- the signs of two texts of one length, in new pairs -/
def ItZx (x y : Str) : It := ⟨fun i _ => i < x.cps.size ∧ i < y.cps.size, fun i H v H' => ∃ T c d, v = .ref T ∧ H T = none ∧ x.cps[i]? = some c ∧ y.cps[i]? = some d ∧ H' = upd H T (.tup [.str ⟨#[c]⟩, .str ⟨#[d]⟩]), fun i _ => i = x.cps.size⟩
theorem turn_zipTxt {P : Program} {w : World} {K : PySem.W.Frag} {elts : List Expr} {kk : Nat} {tpos : Pos} {z TI TO i1 i2 : Addr} (D : ZipApart z TI TO i1 i2 TI TI) (x y : Str) (t u : Tok) :
    Turn P w K (.Tuple elts kk tpos) (ItZx x y) [z, TI, TO, i1, i2] z (fun i h => IsZip h z TI TO .none ∧ IsPair h TI (.ref i1) (.ref i2) ∧ (∃ a b, IsPair h TO a b) ∧ h.IsStrIter i1 (strIterType x) x t i ∧ h.IsStrIter i2 (strIterType y) y u i) where
  mem := List.mem_cons_self
  obj := fun i h st c hc => by
    obtain ⟨hz, hTI, ⟨a, b, hTO⟩, ⟨o1, e1, _, d1⟩, ⟨o2, e2, _, d2⟩⟩ := st
    have h5 : c = z ∨ c = TI ∨ c = TO ∨ c = i1 ∨ c = i2 := by simpa using hc
    rcases h5 with rfl | rfl | rfl | rfl | rfl
    · exact ⟨_, hz, fun v q => nomatch q⟩
    · exact ⟨_, hTI, fun v q => nomatch q⟩
    · exact ⟨_, hTO, fun v q => nomatch q⟩
    · exact ⟨o1, e1, fun v q => by rw [d1] at q; cases q⟩
    · exact ⟨o2, e2, fun v q => by rw [d2] at q; cases q⟩
  keep := fun i h h' st kp => by
    obtain ⟨hz, hTI, ⟨a, b, hTO⟩, ⟨o1, e1, r1⟩, ⟨o2, e2, r2⟩⟩ := st
    exact ⟨kp z (by simp) _ hz, kp TI (by simp) _ hTI, ⟨a, b, kp TO (by simp) _ hTO⟩, ⟨o1, kp i1 (by simp) _ e1, r1⟩, ⟨o2, kp i2 (by simp) _ e2, r2⟩⟩
  item := by
    intro X hP hw hK calm i pins s σ H E I fp st hg
    subst hP hw hK
    obtain ⟨hz, hTI, ⟨a0, b0, hTO⟩, t1, t2⟩ := st
    have zl : z < s.heap.objs.size := Heap.lt_size hz
    refine KZ.next_item D (draws_tx (I.ok.hd calm) i1 x t) (draws_tx (I.ok.hd calm) i2 y u) hz hTI hTO t1 t2 hg.1 hg.2 fun v1 v2 h1 tk p1 p2 z1 TO1 t1' t2' hT hsz hk => ?_
    obtain ⟨c, tc, ec, rfl⟩ := p1
    obtain ⟨d, td, ed, rfl⟩ := p2
    refine ⟨_, rfl, wpAny_letOwnedTupleGo_zip (s := { s with heap := h1, toks := tk }) z1 fun h2 z2 sb => ?_⟩
    have hT2 := (sb.2 _ (Nat.ne_of_gt zl)).trans hT
    have fresh : H s.heap.objs.size = none := I.hok.fresh (Nat.le_refl _)
    have I1 : Inv X pins σ (upd H s.heap.objs.size (.tup [.str ⟨#[c]⟩, .str ⟨#[d]⟩])) { s with heap := h2, toks := tk } :=
      I.turnedNew (ch := [z, TI, TO, i1, i2]) (fun b ob hb q => by
        have n1 : b ≠ z := fun e => hb (by simp [e])
        have n2 : b ≠ TO := fun e => hb (by simp [e])
        have n3 : b ≠ i1 := fun e => hb (by simp [e])
        have n4 : b ≠ i2 := fun e => hb (by simp [e])
        exact (sb.2 b n1).trans (hk b ob n1 n2 n3 n4 q)) fp (Nat.le_refl _) ⟨by show 2 ≤ sizeLine; decide, [.str ⟨#[c]⟩ tc, .str ⟨#[d]⟩ td], .cons ⟨_, rfl⟩ (.cons ⟨_, rfl⟩ .nil), ⟨_, hT2, rfl, _, rfl⟩⟩
    refine ⟨.ref s.heap.objs.size, _, I1, rfl, ⟨_, c, d, rfl, fresh, ec, ed, rfl⟩, ⟨z2, (sb.2 _ D.TIz).trans (hk _ _ D.TIz D.TITO D.TIi1 D.TIi2 hTI), ⟨_, _, (sb.2 _ D.TOz).trans TO1⟩, ?_, ?_⟩, fun b hb => ?_⟩
    · obtain ⟨o, q, r⟩ := t1'
      exact ⟨o, (sb.2 _ D.i1z).trans q, r⟩
    · obtain ⟨o, q, r⟩ := t2'
      exact ⟨o, (sb.2 _ D.i2z).trans q, r⟩
    · have lb : b < s.heap.objs.size := by
        have h5 : b = z ∨ b = TI ∨ b = TO ∨ b = i1 ∨ b = i2 := by simpa using hb
        rcases h5 with rfl | rfl | rfl | rfl | rfl
        · exact zl
        · exact Heap.lt_size hTI
        · exact Heap.lt_size hTO
        · obtain ⟨_, q, _⟩ := t1
          exact Heap.lt_size q
        · obtain ⟨_, q, _⟩ := t2
          exact Heap.lt_size q
      rw [upd_ne (Nat.ne_of_lt lb)]
      exact (fp b hb).1
  done := by
    intro X hP hw hK calm i pins s σ H E I fp st hg
    subst hP hw hK
    obtain ⟨hz, hTI, ⟨a0, b0, hTO⟩, t1, t2⟩ := st
    have ei : i = x.cps.size := hg
    subst ei
    exact KZ.next_done D (draws_tx (I.ok.hd calm) i1 x t) hz hTI hTO t1 fun h' hk => ⟨rfl, I.turnedL (t' := s.toks) (ch := [z, TI, TO, i1, i2]) (fun b o hb q =>
      hk b o (fun e => hb (by simp [e])) (fun e => hb (by simp [e])) (fun e => hb (by simp [e])) (fun e => hb (by simp [e])) q) fp⟩
  self := fun A i s Q E st h => wpAny_pyIter_zip st.1 h
def iZipX (ta : TA) : TI := fun σ H R => ta σ H fun vs H1 => ∃ x y : Str, vs = [.str x, .str y] ∧ R (ItZx x y) H1
theorem pi_zipTxt {X : Cx} {e e2 : Expr} {ta : TA} {p pos tpos : Pos} {elts : List Expr} {kk : Nat} (hg : Gl X "zip") (hm : X.mg "zip" = none) (ha : PA X [e, e2] ta)
    (hs : starEach [e, e2] X.env = (false, eval e X.env) :: starEach [e2] X.env := by rfl) (hpl : (backTo pos (starEach [e2] X.env)).any (·.1) = false := by rfl) :
    PI X (.Tuple elts kk tpos) (.Call (.Name "zip" p) [e, e2] [] pos) (iZipX ta) := by
  refine ⟨fun pins s σ H R I want => ?_⟩
  refine Call_ (ld_blt I hg hm PyProof.Rows.boot_zip (PyProof.Rows.callWith_type1 (thn (ha.run pos pins s σ H _ I want) fun us s1 ⟨vs, H1, I1, r1, q1⟩ => ?_) hs hpl))
  obtain ⟨x, y, rfl, q⟩ := q1
  obtain ⟨u1, u2, rfl, rx, ry⟩ := vals2 r1
  obtain ⟨t, rfl⟩ := rx
  obtain ⟨u, rfl⟩ := ry
  refine KZ.call_zipS fun h' hz hTI hTO h1 h2 hk => wpAny_pyIter_zip hz ?_
  have I2 : Inv X pins σ H1 { s1 with heap := h' } := I1.kept (t' := s1.toks) hk
  have D : ZipApart (s1.heap.objs.size + 4) (s1.heap.objs.size + 2) (s1.heap.objs.size + 3) s1.heap.objs.size (s1.heap.objs.size + 1) (s1.heap.objs.size + 2) (s1.heap.objs.size + 2) := by
    generalize s1.heap.objs.size = m
    constructor <;> (intro z; have z' : (_ : Nat) = _ := z; omega)
  refine ⟨s1.heap.objs.size + 4, [s1.heap.objs.size + 4, s1.heap.objs.size + 2, s1.heap.objs.size + 3, s1.heap.objs.size, s1.heap.objs.size + 1], _, _, H1, rfl, I2, turn_zipTxt D x y t u, ⟨hz, hTI, ⟨_, _, hTO⟩, h1, h2⟩, fun c hc => ?_, q⟩
  have h5 : c = s1.heap.objs.size + 4 ∨ c = s1.heap.objs.size + 2 ∨ c = s1.heap.objs.size + 3 ∨ c = s1.heap.objs.size ∨ c = s1.heap.objs.size + 1 := by simpa using hc
  have hle : s1.heap.objs.size ≤ c := by
    rcases h5 with rfl | rfl | rfl | rfl | rfl
    · exact Nat.le_add_right _ _
    · exact Nat.le_add_right _ _
    · exact Nat.le_add_right _ _
    · exact Nat.le_refl _
    · exact Nat.le_add_right _ _
  exact I1.fpOk hle (I1.hok.fresh hle)
end KQ

namespace KQ
open PySem PySem.Spec PyProof.Rows L2
theorem walk_zipTxt {L M : List Nat} (h : L.length = M.length) : Walk (ItZx (mS L) (mS M)) L.length (fun _ => True) (YPair (fun i => (L[i]?).map fun c => .str ⟨#[c]⟩) (fun i => (M[i]?).map fun c => .str ⟨#[c]⟩)) := by
  have z1 : (mS L).cps.size = L.length := by simp
  have z2 : (mS M).cps.size = M.length := by simp
  refine ⟨fun i _ hi _ => ⟨by rw [z1]; exact hi, by rw [z2]; omega⟩, fun _ _ => z1.symm, fun i H v H' hi _ y => ?_⟩
  obtain ⟨T, c, d, h1, h2, h3, h4, h5⟩ := y
  have h3' : L[i]? = some c := by simpa using h3
  have h4' : M[i]? = some d := by simpa using h4
  exact ⟨T, _, _, h1, h2, h5, by show (L[i]?).map _ = _; rw [h3']; rfl, by show (M[i]?).map _ = _; rw [h4']; rfl⟩
abbrev sPairs : Stmt := topS 13
abbrev sInitU : Stmt := inClass (topS 4) 0
theorem scPairs : FnScope ["one", "other", "letter", "beside"] ["one", "other"] (defScope sPairs) := ⟨rfl, rfl, rfl, by decide +kernel, rfl, by decide +kernel, by decide +kernel⟩
theorem scInitU : FnScope ["self", "what"] ["self", "what"] (defScope sInitU) := ⟨rfl, rfl, rfl, by decide +kernel, rfl, by decide +kernel, by decide +kernel⟩
/-- Unlike(w) leaves the call -/
def RzU (C : Addr) (w : V) (H : Hp) (E : XK) : Prop := ∀ d H', Same H H' → H' d = some (.xd [("what", w)]) → E (.ref C) (some d) H'
def spInitU (C : Addr) : Sp := fun vs H Q _ => ∃ (a : Addr) (y0 : V), vs = [.ref a, y0] ∧ H a = some (exo a C none) ∧
  ∀ H' d, H d = none → d ≠ a → H' a = some (exo a C (some d)) → H' d = some (exd d [("what", y0)]) → (∀ b o, H b = some o → b ≠ a → H' b = some o) → Q .non H'
structure BU (K : PySem.W.Frag) (mg : Str → Option Value) (C fB : Addr) (dB : FuncData) : Prop where
  ox : OexC K C
  ic : PySem.W.findIn K (.ref C) "__init__" = some (some (.ref fB))
  ti : PySem.W.typeIn K (.ref fB) = some (.type "function")
  n0 : PySem.W.findIn K (.ref C) "what" = some none
  g : mg "Unlike" = some (.ref C)
  F : Fun K "__init__" "Unlike.__init__" sInitU fB dB
  b : Binds K dB ["self", "what"] []
def pairsV (L M : List Nat) : List V := (L.zip M).map fun p => V.str (mS [p.1, p.2])
def spPairs (C CU : Addr) : Sp := fun vs H Q E => ∃ (a b : Addr) (R R' : List Nat) (p p' : Nat), vs = [.ref a, .ref b] ∧ PauliAt C H a R p ∧ PauliAt C H b R' p' ∧ R.length ≤ 1000 ∧
  ((R.length = R'.length ∧ ∀ H' q, Same H H' → H q = none → H' q = some (.lst (pairsV R R')) → Q (.ref q) H') ∨ (R.length ≠ R'.length ∧ RzU CU (.str "size") H E))
section
variable {P : Program} {w : World} {K : PySem.W.Frag} {mg : Str → Option Value} {base : Heap}
theorem ok_initU {f C : Addr} {fd : FuncData} {k : Nat} (F : Fun K "__init__" "Unlike.__init__" sInitU f fd) (T : OexC K C) (n0 : PySem.W.findIn K (.ref C) "what" = some none) :
    FnOk P w K mg base CX0 (k + 1) f fd ["self", "what"] (spInitU C) := by
  refine F.ok scInitU (fun vs H Q E h => ?_) (fun cdv A outer s H vs Q E hr h => ?_)
  · obtain ⟨a, y0, rfl, _⟩ := h
    rfl
  · obtain ⟨a, y0, rfl, ha, q⟩ := h
    refine ⟨_, pss_one (ps_ost (pv 0) (pv 1) rfl), ?_⟩
    refine ⟨_, rfl, _, rfl, a, C, rfl, T, n0, .inl ⟨ha, fun dx nx dne => ?_⟩⟩
    exact q _ dx nx dne upd_same (by rw [upd_ne dne]; exact upd_same) (fun b o e hb => by rw [upd_ne hb, upd_ne (ne_of_none e nx)]; exact e)
theorem raise_un {C : Addr} {y0 : V} {H : Hp} {W : XK} (h : RzU C y0 H W) : ∀ a, H a = none → spInitU C (.ref a :: ([y0] ++ [])) (upd H a (exo a C none))
    (fun v H2 => v = .non ∧ ∃ (d : Addr) (fs : List (Str × V)), H2 a = some (exo a C (some d)) ∧ H2 d = some (exd d fs) ∧ H d = none ∧ W (.ref C) (some d) (upd (del H2 a) d (.xd fs))) (fun _ _ _ => False) := by
  intro a na
  refine ⟨a, y0, rfl, upd_same, fun H' d nd dne e1 e2 kp => ?_⟩
  have nd' : H d = none := by
    rw [upd_ne dne] at nd
    exact nd
  refine ⟨rfl, d, _, e1, e2, nd', h d _ (fun b o e => ?_) upd_same⟩
  have hba : b ≠ a := ne_of_none e na
  rw [upd_ne (ne_of_none e nd'), del_ne hba]
  exact kp b o (by rw [upd_ne hba]; exact e) hba
theorem ok_pairs {f C CU fI fE fU : Addr} {fd dU : FuncData} (F : Fun K "_letter_pairs" "_letter_pairs" sPairs f fd) (N : PCl K mg C fI fE) (U : BU K mg CU fU dU) (mz : mg "zip" = none) : FnOk P w K mg base (L2.CX P w) 3 f fd ["one", "other"] (spPairs C CU) := by
  have GU : FnOk P w K mg base CX0 1 fU dU ["self", "what"] (spInitU CU) := ok_initU U.F U.ox U.n0
  refine F.okX scPairs (fun vs H Q E h => ?_) (fun cdv A outer s H vs Q E hr h => ?_)
  · obtain ⟨a, b, R, R', p, p', rfl, _⟩ := h
    rfl
  · obtain ⟨a, b, R, R', p, p', rfl, hP, hP', hl, h⟩ := h
    refine ⟨_, C8.pss_cut (ps_if (pt_cmpR op_ne (pe_fld (pv 0) rfl) (pe_fld (pv 1) rfl) (nomark _)) (pss_one (ps_raise rfl (takes_of rfl rfl rfl rfl) (pmk_oex U.ox U.ic U.ti GU hr U.b .nil pass0 (by rfl) U.g (pa_cons pe_str pa_nil)))) pss_nil)
      (pss_one (ps_ret (pe_lc (own := [("letter", 2), ("beside", 3)]) (g := gTup K 2 (gCons (gName 2) (gCons (gName 3) gNil))) (by rfl) scPairs.nd (pi_zipTxt (by rfl) mz (pa_cons (pe_fld (pv 0) rfl) (pa_cons (pe_fld (pv 1) rfl) pa_nil)))
        (blkOk_by (own := [("letter", 2), ("beside", 3)]) (N := ["one", "other", "letter", "beside"]) (sc := defScope sPairs) (by decide +kernel))
        (fun _ _ _ _ _ => pg_tup rfl (pgs_cons (pg_name (i := 2) scPairs.nd rfl (Or.inl rfl)) (pgs_cons (pg_name (i := 3) scPairs.nd rfl (Or.inl rfl)) pgs_nil))) (fun _ _ _ _ _ => pts_nil) (fun _ _ _ _ _ => pe_op op_add_str (pv 2) (pv 3))))), ?_⟩
    obtain ⟨dx, fs, e, k1, k2, k3, k4⟩ := hP
    obtain ⟨dy, gs, e', l1, l2, l3, l4⟩ := hP'
    refine ⟨fun σ' H' => σ' = [some (.ref a), some (.ref b), none, none] ∧ H' = H ∧ R.length = R'.length ∧ (∀ H' q, Same H H' → H q = none → H' q = some (.lst (pairsV R R')) → Q (.ref q) H'), ?_, ?_⟩
    · refine ⟨_, rfl, a, C, dx, fs, _, rfl, e, N.cl, N.nS, k3, _, rfl, b, C, dy, gs, _, rfl, e', N.cl, N.nS, l3, rfl, _, rfl, ite2 (fun z => ?_) (fun z => ?_)⟩
      · have ne : R.length ≠ R'.length := fun y => by
          rw [y, decide_eq_true rfl] at z
          cases z
        rcases h with ⟨y, _⟩ | ⟨_, q⟩
        · exact absurd y ne
        · exact ⟨by show 1 ≤ 1000; decide, raise_un q⟩
      · have eq : R.length = R'.length := by
          by_cases y : R.length = R'.length
          · exact y
          · exact absurd (by rw [decide_eq_false (fun x => y (by have := V.int.inj x; omega))]; rfl) z
        rcases h with ⟨_, q⟩ | ⟨y, _⟩
        · exact ⟨rfl, rfl, eq, q⟩
        · exact absurd eq y
    rintro _ H1 ⟨rfl, rfl, eq, q⟩
    refine ⟨_, rfl, a, C, dx, fs, _, rfl, e, N.cl, N.nL, k1, _, rfl, b, C, dy, gs, _, rfl, e', N.cl, N.nL, l1, _, _, rfl, fun D nD => ?_⟩
    refine lc_it (walk_zipTxt eq) (fun i Hc => Same H1 Hc ∧ Hc D = some (.lst ((pairsV R R').take i))) ⟨same_new nD, upd_same⟩ (fun _ _ _ _ => trivial) ?_ ?_
    · rintro i v Hc H' hi ⟨sc, ec⟩ ⟨T, x, y, rfl, nT, rfl, hx, hy⟩
      have h1 : R[i]? = some R[i] := List.getElem?_eq_getElem hi
      have h2 : R'[i]? = some (R'[i]'(by omega)) := List.getElem?_eq_getElem (by omega)
      have hx' : (R[i]?).map (fun c => V.str ⟨#[c]⟩) = some x := hx
      have hy' : (R'[i]?).map (fun c => V.str ⟨#[c]⟩) = some y := hy
      rw [h1] at hx'
      rw [h2] at hy'
      cases hx'
      cases hy'
      have nTD : T ≠ D := fun z => by rw [z, ec] at nT; cases nT
      refine ⟨T, _, rfl, .inl (.inl upd_same), rfl, _, _, rfl, _, _, rfl, rfl, rfl, ?_⟩
      refine ⟨_, rfl, _, rfl, _, _, rfl, rfl, by show 1 + 1 ≤ sizeLine; decide, _, (upd_ne nTD.symm).trans ec, ?_, ?_, ?_⟩
      · rw [List.length_take]
        exact Nat.lt_of_le_of_lt (by unfold pairsV; rw [List.length_map, List.length_zip]; omega : _ ≤ 1000) (by decide)
      · intro c o q'
        rw [upd_ne (ne_of_none q' nD), upd_ne (ne_of_none (sc _ _ q') nT)]
        exact sc _ _ q'
      · rw [upd_same, List.take_succ]
        have e3 : (pairsV R R')[i]? = some (.str (mS [R[i], R'[i]'(by omega)])) := by
          have ez : (R.zip R')[i]? = some (R[i], R'[i]'(by omega)) := List.getElem?_zip_eq_some.mpr ⟨h1, h2⟩
          unfold pairsV
          rw [List.getElem?_map, ez]
          rfl
        rw [e3]
        rfl
    · rintro Hc ⟨sc, ec⟩
      refine q Hc D sc nD ?_
      rw [ec, List.take_of_length_le]
      unfold pairsV
      rw [List.length_map, List.length_zip]
      omega
end
end KQ

namespace KQ
open PySem PySem.Spec PyProof.Rows L2
/-! ### products of letters -/
/-- the letter and the power of i of c times d, by their bits -/
def ltr (x z : Nat) : Nat := if x = 0 then (if z = 0 then 73 else 90) else if z = 0 then 88 else 89
def pl (c d : Nat) : Nat := ltr ((lx c + lx d) % 2) ((lz c + lz d) % 2)
def pw (c d : Nat) : Nat :=
  if c = 73 ∨ d = 73 ∨ c = d then 0 else if (c = 88 ∧ d = 89) ∨ (c = 89 ∧ d = 90) ∨ (c = 90 ∧ d = 88) then 1 else 3
theorem pl_isL (c d : Nat) : isL (pl c d) = true := by
  unfold pl ltr
  refine isL_iff.mpr ?_
  split <;> split <;> omega
def prodL : List Nat → List Nat → List Nat
  | c :: L, d :: M => pl c d :: prodL L M
  | _, _ => []
def prodP : List Nat → List Nat → Nat
  | c :: L, d :: M => pw c d + prodP L M
  | _, _ => 0
theorem prodL_len : ∀ {L M : List Nat}, L.length = M.length → (prodL L M).length = L.length
  | [], [], _ => rfl
  | c :: L, d :: M, h => by
    show (prodL L M).length + 1 = L.length + 1
    rw [prodL_len (by simpa using h)]
theorem prodL_lets : ∀ (L M : List Nat), ∀ c ∈ prodL L M, isL c = true
  | [], _, c, h => by cases h
  | _ :: _, [], c, h => by cases h
  | a :: L, b :: M, c, h => by
    rcases List.mem_cons.mp h with rfl | h
    · exact pl_isL a b
    · exact prodL_lets L M c h
theorem prodL_app : ∀ {L M : List Nat} {c d : Nat}, L.length = M.length → prodL (L ++ [c]) (M ++ [d]) = prodL L M ++ [pl c d]
  | [], [], _, _, _ => rfl
  | a :: L, b :: M, c, d, h => by
    show pl a b :: prodL (L ++ [c]) (M ++ [d]) = pl a b :: (prodL L M ++ [pl c d])
    rw [prodL_app (by simpa using h)]
theorem prodP_app : ∀ {L M : List Nat} {c d : Nat}, L.length = M.length → prodP (L ++ [c]) (M ++ [d]) = prodP L M + pw c d
  | [], [], c, d, _ => by
    show pw c d + 0 = 0 + pw c d
    omega
  | a :: L, b :: M, c, d, h => by
    show pw a b + prodP (L ++ [c]) (M ++ [d]) = pw a b + prodP L M + pw c d
    rw [prodP_app (by simpa using h)]
    omega
/-- the table of products -/
structure Prods (K : PySem.W.Frag) (w : World) (mg : Str → Option Value) (A : Addr) : Prop where
  g : mg "PRODUCTS" = some (.ref A)
  at_ : ∀ c d, isL c = true → isL d = true → ∃ q, KDct K w A (mS [c, d]) (.ref q) ∧ ∀ H, SqT K H q [.str (mS [pl c d]), .int (pw c d : Nat)]
abbrev sTimes : Stmt := inClass (topS 10) 2
abbrev sCommutes : Stmt := inClass (topS 10) 3
theorem scTimes : FnScope ["self", "q", "letters", "phase", "pair", "letter", "power"] ["self", "q"] (defScope sTimes) := ⟨rfl, rfl, rfl, by decide +kernel, rfl, by decide +kernel, by decide +kernel⟩
theorem scCommutes : FnScope ["self", "q", "unlike", "pair", "_", "power"] ["self", "q"] (defScope sCommutes) := ⟨rfl, rfl, rfl, by decide +kernel, rfl, by decide +kernel, by decide +kernel⟩
def spCommutes (C CU : Addr) : Sp := fun vs H Q E => ∃ (a b : Addr) (R R' : List Nat) (p p' : Nat), vs = [.ref a, .ref b] ∧ PauliAt C H a R p ∧ PauliAt C H b R' p' ∧ R.length ≤ 1000 ∧ (∀ c ∈ R, isL c = true) ∧ (∀ c ∈ R', isL c = true) ∧
  ((R.length = R'.length ∧ ∀ H', Same H H' → Q (.bl (decide (prodP R R' % 2 = 0))) H') ∨ (R.length ≠ R'.length ∧ RzU CU (.str "size") H E))
section
variable {P : Program} {w : World} {K : PySem.W.Frag} {mg : Str → Option Value} {base : Heap}
theorem take_zip {R R' : List Nat} {i : Nat} (h : R.length = R'.length) (hi : i < R.length) : (pairsV R R')[i]? = some (.str (mS [R[i], R'[i]'(by omega)])) := by
  have h1 : R[i]? = some R[i] := List.getElem?_eq_getElem hi
  have h2 : R'[i]? = some (R'[i]'(by omega)) := List.getElem?_eq_getElem (by omega)
  have ez : (R.zip R')[i]? = some (R[i], R'[i]'(by omega)) := List.getElem?_zip_eq_some.mpr ⟨h1, h2⟩
  unfold pairsV
  rw [List.getElem?_map, ez]
  rfl
theorem pairs_len {R R' : List Nat} (h : R.length = R'.length) : (pairsV R R').length = R.length := by
  unfold pairsV
  rw [List.length_map, List.length_zip]
  omega
theorem ok_commutes {f C CU fI fE fU fP A : Addr} {fd dU dP : FuncData} (F : Fun K "commutes" "Pauli.commutes" sCommutes f fd) (N : PCl K mg C fI fE) (U : BU K mg CU fU dU) (mz : mg "zip" = none) (T : Prods K w mg A)
    (FP : Fun K "_letter_pairs" "_letter_pairs" sPairs fP dP) (bP : Binds K dP ["one", "other"] []) (gP : mg "_letter_pairs" = some (.ref fP)) : FnOk P w K mg base (L2.CX P w) 4 f fd ["self", "q"] (spCommutes C CU) := by
  have GP : FnOk P w K mg base (L2.CX P w) 3 fP dP ["one", "other"] (spPairs C CU) := ok_pairs FP N U mz
  refine F.okX scCommutes (fun vs H Q E h => ?_) (fun cdv A' outer s H vs Q E hr h => ?_)
  · obtain ⟨a, b, R, R', p, p', rfl, _⟩ := h
    rfl
  · obtain ⟨a, b, R, R', p, p', rfl, hP, hP', hl, hR, hR', h⟩ := h
    refine ⟨_, C8.pss_cut (ps_set (i := 2) scCommutes.nd rfl (.inl rfl) pe_int)
      (C8.pss_cut (ps_for (passes_of rfl) rfl (pi_list (pe_call GP hr (by rfl) gP FP.kp bP .nil (passes_call (takes_of rfl rfl rfl rfl) (fun _ _ _ _ h => h)) (pa_cons (pv 0) (pa_cons (pv 1) pa_nil)))) (pg_name (i := 3) scCommutes.nd rfl (.inl rfl))
        (C8.pss_cut (ps_asg (pe_ix ix_kdict (pe_glob (v := .ref A) (by rfl) T.g rfl) (pv 3) (fun _ _ => rfl)) (pg_tup rfl (pgs_cons (pg_name (i := 4) scCommutes.nd rfl (.inl rfl)) (pgs_cons (pg_name (i := 5) scCommutes.nd rfl (.inl rfl)) pgs_nil))))
        (pss_one (ps_aug (i := 2) scCommutes.nd rfl (.inl rfl) (pe_op op_mod (pv 5) pe_int) ip_add))))
      (pss_one (ps_ret (pe_cmpR op_eq (pe_op op_mod (pv 2) pe_int) pe_int (nomark _))))), ?_⟩
    refine ⟨fun σ' H' => σ' = [some (.ref a), some (.ref b), some (.int 0), none, none, none] ∧ H' = H, ⟨rfl, rfl⟩, ?_⟩
    rintro _ H1 ⟨rfl, rfl⟩
    refine ⟨fun σ' H' => ∃ (m : Nat) (s3 s4 s5 : Option V), σ' = [some (.ref a), some (.ref b), some (.int (m : Int)), s3, s4, s5] ∧ m % 2 = prodP R R' % 2 ∧ Same H1 H' ∧ ∀ H', Same H1 H' → Q (.bl (decide (prodP R R' % 2 = 0))) H', ?_, ?_⟩
    · refine ⟨_, rfl, _, rfl, a, b, R, R', p, p', rfl, hP, hP', hl, ?_⟩
      rcases h with ⟨eq, q⟩ | ⟨ne, q⟩
      · refine .inl ⟨eq, fun H2 l s2 nl el => ⟨l, rfl, ⟨_, SqL.of el⟩, for_list (K := K) (a := l) (xs := pairsV R R') (fun i σ H' => ∃ (m : Nat) (s3 s4 s5 : Option V), σ = [some (.ref a), some (.ref b), some (.int (m : Int)), s3, s4, s5] ∧ m % 2 = prodP (R.take i) (R'.take i) % 2 ∧ H' = H2)
          ⟨0, none, none, none, rfl, by rw [List.take_zero, List.take_zero]; rfl, rfl⟩ (fun i σ H' _ ⟨_, _, _, _, _, _, e⟩ => by rw [e]; exact SqL.of el) ?_ ?_⟩⟩
        · rintro i y σ H' hi ⟨m, s3, s4, s5, rfl, hm, rfl⟩
          have li : i < R.length := by
            rw [← pairs_len eq]
            exact (List.getElem?_eq_some_iff.mp hi).1
          rw [take_zip eq li] at hi
          cases hi
          have c1 := hR R[i] (List.getElem_mem li)
          have c2 := hR' (R'[i]'(by omega)) (List.getElem_mem (by omega))
          obtain ⟨tq, kd, sq⟩ := T.at_ _ _ c1 c2
          refine ⟨fun σ' H'' => σ' = [some (.ref a), some (.ref b), some (.int (m : Int)), some (.str (mS [R[i], R'[i]'(by omega)])), some (.str (mS [pl R[i] (R'[i]'(by omega))])), some (.int ((pw R[i] (R'[i]'(by omega)) : Nat) : Int))] ∧ H'' = H', ?_, ?_⟩
          · refine ⟨_, rfl, A, _, _, rfl, rfl, kd, tq, _, rfl, sq _, rfl, _, _, rfl, _, _, rfl, rfl, rfl, rfl⟩
          rintro _ _ ⟨rfl, rfl⟩
          refine ⟨_, rfl, _, rfl, _, _, rfl, rfl, by show (0 : Int) < 2; decide, _, _, rfl, rfl, m + pw R[i] (R'[i]'(by omega)) % 2, _, _, _, rfl, ?_, rfl⟩
          have e1 : R.take (i + 1) = R.take i ++ [R[i]] := by
            rw [List.take_succ, List.getElem?_eq_getElem li]
            rfl
          have e2 : R'.take (i + 1) = R'.take i ++ [R'[i]'(by omega)] := by
            rw [List.take_succ, List.getElem?_eq_getElem (by omega : i < R'.length)]
            rfl
          rw [e1, e2, prodP_app (by rw [List.length_take, List.length_take]; omega)]
          omega
        · rintro σ H' ⟨m, s3, s4, s5, rfl, hm, rfl⟩
          rw [pairs_len eq, List.take_of_length_le (Nat.le_refl _), List.take_of_length_le (by omega)] at hm
          exact ⟨m, s3, s4, s5, rfl, hm, s2, q⟩
      · exact .inr ⟨ne, q⟩
    rintro _ H2 ⟨m, s3, s4, s5, rfl, hm, s2, q⟩
    refine ⟨_, rfl, _, _, rfl, rfl, by show (0 : Int) < 2; decide, rfl, ?_⟩
    have e : decide (V.int ((m : Int) % 2) = V.int 0) = decide (prodP R R' % 2 = 0) := by
      rw [← hm]
      by_cases z : m % 2 = 0
      · rw [decide_eq_true z, decide_eq_true (by congr 1; omega)]
      · rw [decide_eq_false z, decide_eq_false (fun y => z (by have := V.int.inj y; omega))]
    have q' := q H2 s2
    rw [← e] at q'
    exact q'
end
end KQ

namespace KQ
open PySem PySem.Spec PyProof.Rows L2
def spTimes (C CU : Addr) : Sp := fun vs H Q E => ∃ (a b : Addr) (R R' : List Nat) (p p' : Nat), vs = [.ref a, .ref b] ∧ PauliAt C H a R p ∧ PauliAt C H b R' p' ∧ R ≠ [] ∧ R.length ≤ 900 ∧ (∀ c ∈ R, isL c = true) ∧ (∀ c ∈ R', isL c = true) ∧
  ((R.length = R'.length ∧ ∀ H' x, Same H H' → PauliAt C H' x (prodL R R') ((p + p' + prodP R R') % 4) → Q (.ref x) H') ∨ (R.length ≠ R'.length ∧ RzU CU (.str "size") H E))
theorem headL_le {q : Nat} (hq : q < 4) : (headL q).length ≤ 2 := by
  match q, hq with
  | 0, _ => decide
  | 1, _ => decide
  | 2, _ => decide
  | 3, _ => decide
theorem own_read {L : List Nat} (hL : ∀ c ∈ L, isL c = true) (h0 : L ≠ []) {q : Nat} (hq : q < 4) : rest (headL q ++ L) = L ∧ ph (headL q ++ L) = q ∧ fine (headL q ++ L) := by
  match q, hq with
  | 0, _ => exact read_head hL h0 0 _ _ rfl
  | 1, _ => exact read_head hL h0 3 _ _ rfl
  | 2, _ => exact read_head hL h0 2 _ _ rfl
  | 3, _ => exact read_head hL h0 5 _ _ rfl
def sgs (L : List Nat) : List Str := L.map fun c => (⟨#[c]⟩ : Str)
theorem join_sgs (L : List Nat) : Txt.join ("" : Str) (sgs L) = mS L := by
  rw [TL.join_eq, e_no]
  exact PyProof.Rows.join_ones L
theorem sgs_len : ∀ L : List Nat, ((sgs L).map (·.length)).sum = L.length
  | [] => rfl
  | c :: L => by
    show 1 + ((sgs L).map (·.length)).sum = L.length + 1
    rw [sgs_len L]
    omega
theorem made_same {H H' : Hp} {x dx C : Addr} (nx : H x = none) (nd : H dx = none) (k : ∀ b o, b ≠ x → (upd (upd H dx (.own x)) x (.ins C dx [])) b = some o → H' b = some o) : Same H H' := by
  intro b o e
  have h1 : b ≠ x := ne_of_none e nx
  have h2 : b ≠ dx := ne_of_none e nd
  exact k b o h1 (by rw [upd_ne h1, upd_ne h2]; exact e)
section
variable {P : Program} {w : World} {K : PySem.W.Frag} {mg : Str → Option Value} {base : Heap}
theorem ok_times {f C CT CU fI fE fU fP fC fB A hA : Addr} {fd dU dP dI dC dB : FuncData} (F : Fun K "times" "Pauli.times" sTimes f fd) (N : PCl K mg C fI fE) (U : BU K mg CU fU dU) (mz : mg "zip" = none) (T : Prods K w mg A)
    (FP : Fun K "_letter_pairs" "_letter_pairs" sPairs fP dP) (bP : Binds K dP ["one", "other"] []) (gP : mg "_letter_pairs" = some (.ref fP)) (FI : Fun K "__init__" "Pauli.__init__" sInit fI dI) (bI : Binds K dI ["self", "text"] [])
    (FC : Fun K "_cut_text" "_cut_text" sCut fC dC) (bC : Binds K dC ["text"] []) (gC : mg "_cut_text" = some (.ref fC)) (TT : BT K mg CT fB dB) (hd : Hd4 K mg hA) (B : Bl mg) : FnOk P w K mg base (L2.CX P w) 6 f fd ["self", "q"] (spTimes C CU) := by
  have GP : FnOk P w K mg base (L2.CX P w) 3 fP dP ["one", "other"] (spPairs C CU) := ok_pairs FP N U mz
  have GI : FnOk P w K mg base (L2.CX P w) 4 fI dI ["self", "text"] (spInit C CT) := ok_init FI N FC bC gC TT hd B
  refine F.okX scTimes (fun vs H Q E h => ?_) (fun cdv A' outer s H vs Q E hr h => ?_)
  · obtain ⟨a, b, R, R', p, p', rfl, _⟩ := h
    rfl
  · obtain ⟨a, b, R, R', p, p', rfl, hP, hP', h0, hl, hR, hR', h⟩ := h
    have r3 : Room 3 _ := hr.mono (by decide)
    refine ⟨_, C8.pss_cut (ps_set (i := 2) scTimes.nd rfl (.inl rfl) (pe_lst pa_nil))
      (C8.pss_cut (ps_set (i := 3) scTimes.nd rfl (.inl rfl) (pe_op op_add (pe_fld (pv 0) rfl) (pe_fld (pv 1) rfl)))
      (C8.pss_cut (ps_for (passes_of rfl) rfl (pi_list (pe_call GP r3 (by rfl) gP FP.kp bP .nil (passes_call (takes_of rfl rfl rfl rfl) (fun _ _ _ _ h => h)) (pa_cons (pv 0) (pa_cons (pv 1) pa_nil)))) (pg_name (i := 4) scTimes.nd rfl (.inl rfl))
        (C8.pss_cut (ps_asg (pe_ix ix_kdict (pe_glob (v := .ref A) (by rfl) T.g rfl) (pv 4) (fun _ _ => rfl)) (pg_tup rfl (pgs_cons (pg_name (i := 5) scTimes.nd rfl (.inl rfl)) (pgs_cons (pg_name (i := 6) scTimes.nd rfl (.inl rfl)) pgs_nil))))
        (C8.pss_cut (ps_expr (pe_bm PySem.F.plainAttrs_list PySem.F.slot_list_append PySem.F.type_list_append mt_append (pv 2) (pa_cons (pv 5) pa_nil)))
        (pss_one (ps_aug (i := 3) scTimes.nd rfl (.inl rfl) (pv 6) ip_add)))))
      (pss_one (ps_ret (pe_make N.mkf GI hr (by rfl) N.g bI .nil (passes_call (takes_of rfl rfl rfl rfl) (fun _ _ _ _ h => h)) (pa_cons (pe_op op_add_str (pe_ix ix_tup (pe_glob (v := .ref hA) (by rfl) hd.g rfl) (pe_op op_mod (pv 3) pe_int) (fun _ _ => rfl)) (pe_bm PySem.F.plainAttrs_str PySem.F.slot_str_join PySem.F.type_str_join mt_join pe_str (pa_cons (pv 2) pa_nil))) pa_nil)))))), ?_⟩
    refine ⟨fun σ' H' => ∃ l, σ' = [some (.ref a), some (.ref b), some (.ref l), none, none, none, none] ∧ H l = none ∧ H' = upd H l (.lst []), ⟨by show 0 ≤ sizeLine; decide, fun l nl => ⟨l, rfl, nl, rfl⟩⟩, ?_⟩
    rintro _ H1 ⟨l, rfl, nl, rfl⟩
    have s1 : Same H (upd H l (.lst [])) := same_new nl
    obtain ⟨dx, fs, e, k1, k2, k3⟩ := id hP
    obtain ⟨dy, gs, e', l1, l2, l3⟩ := id hP'
    refine ⟨fun σ' H' => σ' = [some (.ref a), some (.ref b), some (.ref l), some (.int (((p + p' : Nat)) : Int)), none, none, none] ∧ H' = upd H l (.lst []), ?_, ?_⟩
    · refine ⟨_, rfl, a, C, dx, fs, _, rfl, s1 _ _ e, N.cl, N.nP, k2, _, rfl, b, C, dy, gs, _, rfl, s1 _ _ e', N.cl, N.nP, l2, _, _, rfl, rfl, ?_, rfl⟩
      have z : ((p : Int) + (p' : Int)) = ((p + p' : Nat) : Int) := by omega
      show [_, _, _, some (V.int ((p : Int) + (p' : Int))), _, _, _] = _
      rw [z]
    rintro _ H2 ⟨rfl, rfl⟩
    have PA : PauliAt C (upd H l (.lst [])) a R p := ⟨dx, fs, s1 _ _ e, k1, k2, k3⟩
    have PB : PauliAt C (upd H l (.lst [])) b R' p' := ⟨dy, gs, s1 _ _ e', l1, l2, l3⟩
    refine ⟨fun σ' H' => ∃ (s4 s5 s6 : Option V), σ' = [some (.ref a), some (.ref b), some (.ref l), some (.int (((p + p' + prodP R R' : Nat)) : Int)), s4, s5, s6] ∧ R.length = R'.length ∧ Same H H' ∧ H' l = some (.lst ((sgs (prodL R R')).map V.str)) ∧ (∀ H' x, Same H H' → PauliAt C H' x (prodL R R') ((p + p' + prodP R R') % 4) → Q (.ref x) H'), ?_, ?_⟩
    · refine ⟨_, rfl, _, rfl, a, b, R, R', p, p', rfl, PA, PB, by omega, ?_⟩
      rcases h with ⟨eq, q⟩ | ⟨ne, q⟩
      · refine .inl ⟨eq, fun H2 j s2 nj ej => ⟨j, rfl, ⟨_, SqL.of ej⟩, ?_⟩⟩
        have elj : l ≠ j := fun z => by rw [← z, upd_same] at nj; cases nj
        have el2 := s2 _ _ (upd_same (H := H) (a := l) (o := HO.lst []))
        refine for_list (K := K) (a := j) (xs := pairsV R R') (fun i σ H' => ∃ (s4 s5 s6 : Option V), σ = [some (.ref a), some (.ref b), some (.ref l), some (.int (((p + p' + prodP (R.take i) (R'.take i) : Nat)) : Int)), s4, s5, s6] ∧ Same H H' ∧ H' j = some (.lst (pairsV R R')) ∧ H' l = some (.lst ((sgs (prodL (R.take i) (R'.take i))).map V.str)))
          ⟨none, none, none, rfl, s1.trans s2, ej, el2⟩ (fun i σ H' _ ⟨_, _, _, _, _, e, _⟩ => SqL.of e) ?_ ?_
        · rintro i y σ H' hi ⟨s4, s5, s6, rfl, sc, ec, elc⟩
          have li : i < R.length := by
            rw [← pairs_len eq]
            exact (List.getElem?_eq_some_iff.mp hi).1
          rw [take_zip eq li] at hi
          cases hi
          have c1 := hR R[i] (List.getElem_mem li)
          have c2 := hR' (R'[i]'(by omega)) (List.getElem_mem (by omega))
          obtain ⟨tq, kd, sq⟩ := T.at_ _ _ c1 c2
          have e1 : R.take (i + 1) = R.take i ++ [R[i]] := by
            rw [List.take_succ, List.getElem?_eq_getElem li]
            rfl
          have e2 : R'.take (i + 1) = R'.take i ++ [R'[i]'(by omega)] := by
            rw [List.take_succ, List.getElem?_eq_getElem (by omega : i < R'.length)]
            rfl
          have lt : (R.take i).length = (R'.take i).length := by rw [List.length_take, List.length_take]; omega
          refine ⟨fun σ' H'' => σ' = [some (.ref a), some (.ref b), some (.ref l), some (.int (((p + p' + prodP (R.take i) (R'.take i) : Nat)) : Int)), some (.str (mS [R[i], R'[i]'(by omega)])), some (.str (mS [pl R[i] (R'[i]'(by omega))])), some (.int ((pw R[i] (R'[i]'(by omega)) : Nat) : Int))] ∧ H'' = H', ?_, ?_⟩
          · refine ⟨_, rfl, A, _, _, rfl, rfl, kd, tq, _, rfl, sq _, rfl, _, _, rfl, _, _, rfl, rfl, rfl, rfl⟩
          rintro _ _ ⟨rfl, rfl⟩
          rename_i H3
          refine ⟨fun σ' H'' => σ' = [some (.ref a), some (.ref b), some (.ref l), some (.int (((p + p' + prodP (R.take i) (R'.take i) : Nat)) : Int)), some (.str (mS [R[i], R'[i]'(by omega)])), some (.str (mS [pl R[i] (R'[i]'(by omega))])), some (.int ((pw R[i] (R'[i]'(by omega)) : Nat) : Int))] ∧ H'' = upd H3 l (.lst ((sgs (prodL (R.take i) (R'.take i))).map V.str ++ [.str (mS [pl R[i] (R'[i]'(by omega))])])), ?_, ?_⟩
          · refine ⟨_, rfl, .inl ⟨rfl, _, SqL.of elc⟩, _, rfl, l, _, _, rfl, rfl, elc, ?_, rfl, rfl⟩
            rw [List.length_map, sgs, List.length_map, prodL_len lt, List.length_take]
            exact Nat.lt_of_le_of_lt (by omega : _ ≤ 900) (by decide)
          rintro _ _ ⟨rfl, rfl⟩
          refine ⟨_, rfl, _, rfl, _, _, rfl, rfl, some (.str (mS [R[i], R'[i]'(by omega)])), some (.str (mS [pl R[i] (R'[i]'(by omega))])), some (.int ((pw R[i] (R'[i]'(by omega)) : Nat) : Int)), ?_, ?_, ?_, ?_⟩
          · rw [e1, e2, prodP_app lt]
            have z : ∀ x y : Nat, ((x : Int) + (y : Int)) = ((x + y : Nat) : Int) := fun x y => by omega
            show [_, _, _, some (V.int ((((p + p' + prodP (R.take i) (R'.take i) : Nat)) : Int) + ((pw R[i] (R'[i]'(by omega)) : Nat) : Int))), _, _, _] = _
            rw [z, Nat.add_assoc (p + p')]
          · intro c o q'
            rw [upd_ne (ne_of_none q' nl)]
            exact sc _ _ q'
          · rw [upd_ne elj.symm]
            exact ec
          · rw [upd_same, e1, e2, prodL_app lt]
            unfold sgs
            rw [List.map_append, List.map_append]
            rfl
        · rintro σ H' ⟨s4, s5, s6, rfl, sc, ec, elc⟩
          rw [pairs_len eq, List.take_of_length_le (Nat.le_refl _), List.take_of_length_le (by omega)] at elc ⊢
          exact ⟨s4, s5, s6, rfl, eq, sc, elc, q⟩
      · exact .inr ⟨ne, fun d H3 s3 ed => q d H3 (s1.trans s3) ed⟩
    rintro _ H3 ⟨s4, s5, s6, rfl, eq, sc, elc, q⟩
    have hq4 : (p + p' + prodP R R') % 4 < 4 := Nat.mod_lt _ (by decide)
    have hne : prodL R R' ≠ [] := fun z => by
      have := congrArg List.length z
      rw [prodL_len eq] at this
      exact h0 (List.length_eq_zero_iff.mp this)
    have lp := prodL_len eq
    have lh := headL_le hq4
    obtain ⟨u1, u2, u3⟩ := own_read (prodL_lets R R') hne hq4
    refine ⟨_, rfl, _, _, rfl, rfl, by show (0 : Int) < 4; decide, hA, _, _, .str (mS (headL ((p + p' + prodP R R') % 4))), rfl, rfl, hd.sq _, ?_, ?_⟩
    · have z : (((p + p' + prodP R R' : Nat)) : Int) % 4 = (((p + p' + prodP R R') % 4 : Nat) : Int) := by omega
      rw [z]
      exact atI_nat (by rw [List.getElem?_map, head_at hq4]; rfl)
    refine ⟨rfl, _, rfl, _, l, sgs (prodL R R'), rfl, rfl, .inl (SqL.of elc), ?_, ?_⟩
    · rw [sgs_len, show ("" : Str).length = 0 from by decide +kernel]
      omega
    rw [join_sgs]
    refine ⟨_, _, rfl, rfl, ?_, fun x dx' nx nd ne => ?_⟩
    · rw [mS_len, mS_len]
      exact Nat.le_trans (by omega : _ ≤ 902) (by decide)
    refine ⟨x, dx', .str (mS (headL ((p + p' + prodP R R') % 4) ++ prodL R R')), by rw [← mS_app]; rfl, upd_same, .inl ⟨_, rfl, by rw [List.length_append]; omega, .inl ⟨u3, fun H' PX k => ⟨rfl, ?_⟩⟩⟩⟩
    rw [u1, u2] at PX
    exact q H' x (sc.trans (made_same nx nd k)) PX
end
end KQ

namespace KQ
open PySem PySem.Spec PyProof.Rows L2
/-! ### the law's helpers -/
abbrev sOnes : Stmt := topS 18
abbrev sLett : Stmt := topS 21
abbrev sOfT : Stmt := topS 22
abbrev sWt : Stmt := topS 23
abbrev sSome : Stmt := topS 24
abbrev sWhy : Stmt := topS 25
abbrev sPh : Stmt := topS 26
abbrev sTold : Stmt := topS 27
abbrev sCross : Stmt := topS 19
abbrev sLTimes : Stmt := topS 20
abbrev sDue : Stmt := topS 28
abbrev sLaw : Stmt := topS 29
theorem scOnes : FnScope ["_law_number", "_law_count", "_law_lap"] ["_law_number"] (defScope sOnes) := ⟨rfl, rfl, rfl, by decide +kernel, rfl, by decide +kernel, by decide +kernel⟩
theorem scLett : FnScope ["_law_string", "_law_size", "_law_found", "_law_k"] ["_law_string", "_law_size"] (defScope sLett) := ⟨rfl, rfl, rfl, by decide +kernel, rfl, by decide +kernel, by decide +kernel⟩
theorem scOfT : FnScope ["_law_text", "_law_sign", "_law_letters_here", "_law_x", "_law_z", "_law_k"] ["_law_text"] (defScope sOfT) := ⟨rfl, rfl, rfl, by decide +kernel, rfl, by decide +kernel, by decide +kernel⟩
theorem scWt : FnScope ["_law_string"] ["_law_string"] (defScope sWt) := ⟨rfl, rfl, rfl, by decide +kernel, rfl, by decide +kernel, by decide +kernel⟩
theorem scSome : FnScope ["_law_pen_here", "_law_size", "_law_letters_here", "_law_k"] ["_law_pen_here", "_law_size"] (defScope sSome) := ⟨rfl, rfl, rfl, by decide +kernel, rfl, by decide +kernel, by decide +kernel⟩
theorem scPh : FnScope ["_law_string", "_law_phase", "_law_size"] ["_law_string", "_law_phase", "_law_size"] (defScope sPh) := ⟨rfl, rfl, rfl, by decide +kernel, rfl, by decide +kernel, by decide +kernel⟩
theorem scTold : FnScope ["_law_pauli", "_law_string", "_law_phase", "_law_size"] ["_law_pauli", "_law_string", "_law_phase", "_law_size"] (defScope sTold) := ⟨rfl, rfl, rfl, by decide +kernel, rfl, by decide +kernel, by decide +kernel⟩
theorem band (a b : Nat) : Builtin.bitAnd (a : Int) (b : Int) = ((a &&& b : Nat) : Int) := by
  unfold Builtin.bitAnd
  rw [decide_eq_true (Int.natCast_nonneg a), decide_eq_true (Int.natCast_nonneg b)]
  rfl
theorem bor (a b : Nat) : Builtin.bitOr (a : Int) (b : Int) = ((a ||| b : Nat) : Int) := by
  have n1 : ∀ n : Nat, Builtin.bitNot (n : Int) = -(n : Int) - 1 := fun n => by
    unfold Builtin.bitNot
    omega
  have n2 : ∀ n : Nat, Builtin.bitNot (-(n : Int) - 1) = (n : Int) := fun n => by
    unfold Builtin.bitNot
    omega
  unfold Builtin.bitOr
  rw [n1, n1]
  unfold Builtin.bitAnd
  rw [decide_eq_false (by omega : ¬ (0 ≤ -(a : Int) - 1)), decide_eq_false (by omega : ¬ (0 ≤ -(b : Int) - 1))]
  show Builtin.bitNot (Builtin.bitNot (((Builtin.bitNot (-(a : Int) - 1)).toNat ||| (Builtin.bitNot (-(b : Int) - 1)).toNat : Nat) : Int)) = _
  rw [n2, n2, n1, n2]
  rfl
theorem shr_bit {f : Nat → Nat} (hf : ∀ c, f c < 2) {L : List Nat} {k c : Nat} (h : L[k]? = some c) : ((bv f L : Nat) : Int) / 2 ^ ((0 : Int) + (k : Nat)).toNat % 2 = ((f c : Nat) : Int) := by
  rw [Int.zero_add, Int.toNat_natCast]
  have e := bv_bit hf h
  have : (((bv f L / 2 ^ k % 2 : Nat)) : Int) = ((f c : Nat) : Int) := by rw [e]
  rw [← this]
  push_cast
  rfl
theorem e_XY : ("XY" : Str).cps.toList = [88, 89] := by decide +kernel
theorem e_ZY : ("ZY" : Str).cps.toList = [90, 89] := by decide +kernel
theorem e_IXZY : ("IXZY" : Str) = mS [73, 88, 90, 89] := by decide +kernel
theorem e_IXYZ : ("IXYZ" : Str).cps.toList = [73, 88, 89, 90] := by decide +kernel
theorem e_some : ("IIXYZ" : Str).cps.toList = [73, 73, 88, 89, 90] := by decide +kernel
theorem e_pm : ("+-" : Str) = mS [43, 45] := by decide +kernel
theorem in_XY (c : Nat) : (if decide (c ∈ ("XY" : Str).cps.toList) then (1 : Int) else 0) = ((lx c : Nat) : Int) := by
  rw [e_XY]
  unfold lx
  by_cases h : c = 88 ∨ c = 89
  · rw [if_pos h, if_pos (decide_eq_true (by simpa using h))]
    rfl
  · rw [if_neg h, if_neg (by simpa using h)]
    rfl
theorem in_ZY (c : Nat) : (if decide (c ∈ ("ZY" : Str).cps.toList) then (1 : Int) else 0) = ((lz c : Nat) : Int) := by
  rw [e_ZY]
  unfold lz
  by_cases h : c = 90 ∨ c = 89
  · rw [if_pos h, if_pos (decide_eq_true (by simpa using h))]
    rfl
  · rw [if_neg h, if_neg (by simpa using h)]
    rfl
def Lets (L : List Nat) : Prop := ∀ c ∈ L, isL c = true
theorem Lets.at {L : List Nat} (h : Lets L) {k c : Nat} (e : L[k]? = some c) : isL c = true := h c (List.mem_of_getElem? e)
def spOnes : Sp := fun vs H Q _ => ∃ n : Nat, vs = [.int (n : Int)] ∧ pc n ≤ 63 ∧ Q (.int (pc n : Nat)) H
def spLett : Sp := fun vs H Q _ => ∃ (t : Addr) (L : List Nat) (z : Int), vs = [.ref t, .int (L.length : Int)] ∧ H t = some (.tup [.int (bv lx L : Nat), .int (bv lz L : Nat), .int z]) ∧ Lets L ∧ L.length ≤ 60 ∧ Q (.str (mS L)) H
def spOfT : Sp := fun vs H Q _ => ∃ L : List Nat, vs = [.str (mS L)] ∧ Lets L ∧ L.length ≤ 60 ∧ ∀ H' t, Same H H' → H t = none → H' t = some (.tup [.int (bv lx L : Nat), .int (bv lz L : Nat), .int 0]) → Q (.ref t) H'
def spWt : Sp := fun vs H Q _ => ∃ (t : Addr) (L : List Nat) (z : Int), vs = [.ref t] ∧ H t = some (.tup [.int (bv lx L : Nat), .int (bv lz L : Nat), .int z]) ∧ Lets L ∧ L.length ≤ 60 ∧ Q (.int (wt L : Nat)) H
section
variable {P : Program} {w : World} {K : PySem.W.Frag} {mg : Str → Option Value} {base : Heap}
theorem ok_ones {f : Addr} {fd : FuncData} {k : Nat} (F : Fun K "_law_ones" "_law_ones" sOnes f fd) (B : Bl mg) : FnOk P w K mg base CX0 (k + 1) f fd ["_law_number"] spOnes := by
  refine F.ok scOnes (fun vs H Q E h => ?_) (fun cdv A outer s H vs Q E hr h => ?_)
  · obtain ⟨n, rfl, _⟩ := h
    rfl
  · obtain ⟨n, rfl, hn, q⟩ := h
    refine ⟨_, C8.pss_cut (ps_set (i := 1) scOnes.nd rfl (.inl rfl) pe_int)
      (C8.pss_cut (ps_for PassesOwn.never rfl (pi_range1 (by rfl) B.range (pa_cons pe_int pa_nil)) (pg_name (i := 2) scOnes.nd rfl (.inl rfl))
        (pss_cons (ps_if (pt_cmpR op_eq (pv 0) pe_int (nomark _)) (pss_one ps_break) pss_nil)
        (pss_one (ps_par (i := 0) (j := 1) rfl scOnes.nd rfl rfl (by decide) rfl rfl (pa_cons (pe_op op_and (pv 0) (pe_op op_sub (pv 0) pe_int)) (pa_cons (pe_op op_add (pv 1) pe_int) pa_nil)) rfl))))
      (pss_one (ps_ret (pv 1)))), ?_⟩
    refine ⟨fun σ' H' => σ' = [some (.int (n : Int)), some (.int 0), none] ∧ H' = H, ⟨rfl, rfl⟩, ?_⟩
    rintro _ H1 ⟨rfl, rfl⟩
    refine ⟨fun σ' H' => ∃ lap, σ' = [some (.int 0), some (.int (pc n : Nat)), lap] ∧ H' = H1, ?_, ?_⟩
    · refine ⟨64, rfl, by decide, by decide, for_range (n := 64) (fun i σ' H' => ∃ (m : Nat) (lap : Option V), σ' = [some (.int (m : Int)), some (.int (i : Int)), lap] ∧ H' = H1 ∧ pc m + i = pc n) ⟨n, none, rfl, rfl, rfl⟩ ?_ ?_⟩
      · rintro i _ _ hi ⟨m, lap, rfl, rfl, he⟩
        refine ⟨_, rfl, rfl, _, rfl, ite2 (fun e => ?_) (fun e => ?_)⟩
        · have e' : m = 0 := by have := V.int.inj (of_decide_eq_true e); omega
          subst e'
          rw [pc_zero] at he
          exact ⟨_, by rw [← he, Nat.zero_add]; rfl, rfl⟩
        · have e' : m ≠ 0 := fun z => e (decide_eq_true (by rw [z]; rfl))
          have em : ((m : Nat) : Int) - 1 = ((m - 1 : Nat) : Int) := by omega
          refine ⟨_, rfl, _, rfl, _, _, rfl, rfl, _, _, rfl, rfl, _, rfl, _, _, rfl, rfl, _, _, rfl, m &&& (m - 1), some (.int (0 + (i : Int))), ?_, rfl, ?_⟩
          · show [some (V.int (Builtin.bitAnd (m : Int) ((m : Int) - 1))), some (V.int ((i : Int) + 1)), some (V.int (0 + (i : Int)))] = _
            rw [em, band]
            rfl
          · have := pc_step m (by omega)
            omega
      · rintro _ _ ⟨m, lap, rfl, rfl, he⟩
        omega
    rintro _ H2 ⟨lap, rfl, rfl⟩
    exact ⟨_, rfl, q⟩
theorem ok_lett {f : Addr} {fd : FuncData} {k : Nat} (F : Fun K "_law_letters" "_law_letters" sLett f fd) (B : Bl mg) : FnOk P w K mg base CX0 (k + 1) f fd ["_law_string", "_law_size"] spLett := by
  refine F.ok scLett (fun vs H Q E h => ?_) (fun cdv A outer s H vs Q E hr h => ?_)
  · obtain ⟨t, L, z, rfl, _⟩ := h
    rfl
  · obtain ⟨t, L, z, rfl, et, hL, hl, q⟩ := h
    refine ⟨_, C8.pss_cut (ps_set (i := 2) scLett.nd rfl (.inl rfl) pe_str)
      (C8.pss_cut (ps_for PassesOwn.never rfl (pi_range1 (by rfl) B.range (pa_cons (pv 1) pa_nil)) (pg_name (i := 3) scLett.nd rfl (.inl rfl))
        (pss_one (ps_set (i := 2) scLett.nd rfl (.inl rfl) (pe_op op_add_str (pv 2) (pe_ix ix_str pe_str (pe_op op_add
          (pe_op op_mod (pe_callTy call_int1 (by rfl) B.int bootI (pa_cons (pe_op op_shr (pe_ix ix_tup (pv 0) pe_int (fun _ _ => rfl)) (pv 3)) pa_nil)) pe_int)
          (pe_op op_mul pe_int (pe_op op_mod (pe_callTy call_int1 (by rfl) B.int bootI (pa_cons (pe_op op_shr (pe_ix ix_tup (pv 0) pe_int (fun _ _ => rfl)) (pv 3)) pa_nil)) pe_int))) (fun _ _ => rfl))))))
      (pss_one (ps_ret (pv 2)))), ?_⟩
    have sq : SqT K H t [.int (bv lx L : Nat), .int (bv lz L : Nat), .int z] := .inl (.inl et)
    have j0 : atI [V.int (bv lx L : Nat), V.int (bv lz L : Nat), V.int z] 0 = some (.int (bv lx L : Nat)) := at_of (j := 0) rfl rfl
    have j1 : atI [V.int (bv lx L : Nat), V.int (bv lz L : Nat), V.int z] 1 = some (.int (bv lz L : Nat)) := at_of (j := 1) rfl rfl
    refine ⟨fun σ' H' => σ' = [some (.ref t), some (.int (L.length : Int)), some (.str (mS [])), none] ∧ H' = H, ⟨by rw [show mS [] = ("" : Str) from e_no.symm]; rfl, rfl⟩, ?_⟩
    rintro _ H1 ⟨rfl, rfl⟩
    refine ⟨fun σ' H' => ∃ lap, σ' = [some (.ref t), some (.int (L.length : Int)), some (.str (mS L)), lap] ∧ H' = H1, ?_, ?_⟩
    · refine ⟨_, rfl, _, rfl, by omega, by omega, for_range (n := L.length) (fun i σ' H' => ∃ lap, σ' = [some (.ref t), some (.int (L.length : Int)), some (.str (mS (L.take i))), lap] ∧ H' = H1) ⟨none, rfl, rfl⟩ ?_ ?_⟩
      · rintro i _ _ hi ⟨lap, rfl, rfl⟩
        have hx : L[i]? = some L[i] := List.getElem?_eq_getElem hi
        have hc := hL.at hx
        have b0 := shr_bit lx_lt hx
        have b1 := shr_bit lz_lt hx
        refine ⟨_, rfl, _, rfl, t, _, _, _, rfl, rfl, sq, j0, _, rfl, _, _, rfl, rfl, by show (0 : Int) ≤ 0 + (i : Int); omega, .inl ⟨_, rfl, _, _, rfl, rfl, by show (0 : Int) < 2; decide, ?_⟩⟩
        refine ⟨_, rfl, t, _, _, _, rfl, rfl, sq, j1, _, rfl, _, _, rfl, rfl, by show (0 : Int) ≤ 0 + (i : Int); omega, .inl ⟨_, rfl, _, _, rfl, rfl, by show (0 : Int) < 2; decide, _, _, rfl, rfl, .inl ⟨by decide, by decide⟩, ?_⟩⟩
        refine ⟨_, _, rfl, rfl, _, _, L[i], rfl, rfl, by show (4 : Nat) ≤ sizeLine; decide, ?_, _, _, rfl, rfl, ?_, ?_⟩
        · show atI _ (((bv lx L : Nat) : Int) / 2 ^ ((0 : Int) + (i : Nat)).toNat % 2 + 2 * (((bv lz L : Nat) : Int) / 2 ^ ((0 : Int) + (i : Nat)).toNat % 2)) = _
          rw [b0, b1, e_IXZY]
          have e2 : ((lx L[i] : Nat) : Int) + 2 * ((lz L[i] : Nat) : Int) = ((lx L[i] + 2 * lz L[i] : Nat) : Int) := by omega
          rw [e2]
          exact atI_nat (letter_back hc)
        · rw [mS_len, List.length_take]
          exact Nat.le_trans (by show _ + 1 ≤ 61; omega) (by decide : 61 ≤ sizeLine)
        · refine ⟨some (.int (0 + (i : Int))), ?_, rfl⟩
          show [_, _, some (V.str (mS (L.take i) ++ mS [L[i]])), _] = _
          rw [mS_app]
          have e3 : L.take (i + 1) = L.take i ++ [L[i]] := by rw [List.take_succ, hx]; rfl
          rw [e3]
      · rintro _ _ ⟨lap, rfl, rfl⟩
        rw [List.take_of_length_le (Nat.le_refl _)]
        exact ⟨_, rfl, rfl⟩
    rintro _ H2 ⟨lap, rfl, rfl⟩
    exact ⟨_, rfl, q⟩
end
end KQ

namespace KQ
open PySem PySem.Spec PyProof.Rows L2
theorem cut_one (L : List Nat) : cutS (mS L) none (some 1) = mS (L.take 1) := cut_to L 1
theorem take_one (L : List Nat) (c : Nat) : decide (V.str (mS (L.take 1)) = V.str (mS [c])) = decide (L.head? = some c) := by
  cases L with
  | nil =>
    rw [decide_eq_false (fun z => by cases mS_inj (V.str.inj z)), decide_eq_false (fun z => by cases z)]
  | cons a L =>
    show decide (V.str (mS [a]) = V.str (mS [c])) = decide (some a = some c)
    by_cases h : a = c
    · subst h
      rw [decide_eq_true rfl, decide_eq_true rfl]
    · rw [decide_eq_false (fun z => h (List.cons.inj (mS_inj (V.str.inj z))).1), decide_eq_false (fun z => h (Option.some.inj z))]
theorem Lets.strip {L : List Nat} (h : Lets L) : L.dropWhile (#[43, 45] : Array Nat).contains = L := by
  cases L with
  | nil => rfl
  | cons a M =>
    have := isL_iff.mp (h a List.mem_cons_self)
    rw [List.dropWhile_cons_of_neg]
    rcases this with rfl | rfl | rfl | rfl <;> simp
theorem Lets.head {L : List Nat} (h : Lets L) : ¬ L.head? = some 45 := by
  cases L with
  | nil => exact fun z => by cases z
  | cons a M =>
    intro z
    have := isL_iff.mp (h a List.mem_cons_self)
    have e := Option.some.inj z
    omega
section
variable {P : Program} {w : World} {K : PySem.W.Frag} {mg : Str → Option Value} {base : Heap}
theorem ok_oft {f : Addr} {fd : FuncData} {k : Nat} (F : Fun K "_law_of_text" "_law_of_text" sOfT f fd) (B : Bl mg) : FnOk P w K mg base CX0 (k + 1) f fd ["_law_text"] spOfT := by
  refine F.ok scOfT (fun vs H Q E h => ?_) (fun cdv A outer s H vs Q E hr h => ?_)
  · obtain ⟨L, rfl, _⟩ := h
    rfl
  · obtain ⟨L, rfl, hL, hl, q⟩ := h
    refine ⟨_, C8.pss_cut (ps_par (i := 1) (j := 2) rfl scOfT.nd rfl rfl (by decide) rfl rfl (pa_cons (pe_callTy call_int1 (by rfl) B.int bootI (pa_cons (pe_cmpR op_eq (pe_slice sl_str (pv 0) po_none (po_some pe_int)) pe_str (nomark _)) pa_nil))
        (pa_cons (pe_bm PySem.F.plainAttrs_str PySem.F.slot_str_lstrip PySem.F.type_str_lstrip mt_lstripChars (pv 0) (pa_cons pe_str pa_nil)) pa_nil)) rfl)
      (C8.pss_cut (ps_asg (pe_tup (pa_cons pe_int (pa_cons pe_int pa_nil))) (pg_tup rfl (pgs_cons (pg_name (i := 3) scOfT.nd rfl (.inl rfl)) (pgs_cons (pg_name (i := 4) scOfT.nd rfl (.inl rfl)) pgs_nil))))
      (C8.pss_cut (ps_for PassesOwn.never rfl (pi_range1 (by rfl) B.range (pa_cons (pe_callB call_len_str (by rfl) B.len PySem.boot_len (pa_cons (pv 2) pa_nil)) pa_nil)) (pg_name (i := 5) scOfT.nd rfl (.inl rfl))
        (pss_cons (ps_set (i := 3) scOfT.nd rfl (.inl rfl) (pe_op op_add (pv 3) (pe_op op_mul (pe_op op_shl pe_int (pv 5)) (pe_callTy call_int1 (by rfl) B.int bootI (pa_cons (pe_cmpR op_in_sign (pe_ix ix_str (pv 2) (pv 5) (fun _ _ => rfl)) pe_str (by rfl)) pa_nil)))))
        (pss_one (ps_set (i := 4) scOfT.nd rfl (.inl rfl) (pe_op op_add (pv 4) (pe_op op_mul (pe_op op_shl pe_int (pv 5)) (pe_callTy call_int1 (by rfl) B.int bootI (pa_cons (pe_cmpR op_in_sign (pe_ix ix_str (pv 2) (pv 5) (fun _ _ => rfl)) pe_str (by rfl)) pa_nil))))))))
      (pss_one (ps_ret (pe_tup (pa_cons (pv 3) (pa_cons (pv 4) (pa_cons (pv 1) pa_nil)))))))), ?_⟩
    have hz : (mS L).length ≤ sizeLine := by rw [mS_len]; exact sizeBig (by omega)
    refine ⟨fun σ' H' => σ' = [some (.str (mS L)), some (.int 0), some (.str (mS L)), none, none, none] ∧ H' = H, ?_, ?_⟩
    · refine ⟨_, rfl, _, rfl, _, rfl, hz, rfl, .inr ⟨_, rfl, _, rfl, rfl, _, _, rfl, rfl, hz, _, _, rfl, ?_⟩⟩
      rw [cut_one, show ("-" : Str) = mS [45] from e_minus, take_one, decide_eq_false hL.head, e_pm, lstrip_eq, hL.strip]
      exact ⟨rfl, rfl⟩
    rintro _ H1 ⟨rfl, rfl⟩
    refine ⟨fun σ' H' => σ' = [some (.str (mS L)), some (.int 0), some (.str (mS L)), some (.int 0), some (.int 0), none] ∧ Same H1 H', ⟨by show 2 ≤ sizeLine; decide, fun r nr => ⟨r, _, rfl, .inl (.inl upd_same), rfl, _, _, rfl, _, _, rfl, rfl, rfl, same_new nr⟩⟩, ?_⟩
    rintro _ H2 ⟨rfl, s12⟩
    refine ⟨fun σ' H' => ∃ lap, σ' = [some (.str (mS L)), some (.int 0), some (.str (mS L)), some (.int (bv lx L : Nat)), some (.int (bv lz L : Nat)), lap] ∧ H' = H2, ?_, ?_⟩
    · refine ⟨_, rfl, _, rfl, hz, _, rfl, by rw [mS_len]; omega, by rw [mS_len]; omega, for_range (n := (mS L).length) (fun i σ' H' => ∃ lap, σ' = [some (.str (mS L)), some (.int 0), some (.str (mS L)), some (.int (bv lx (L.take i) : Nat)), some (.int (bv lz (L.take i) : Nat)), lap] ∧ H' = H2) ⟨none, rfl, rfl⟩ ?_ ?_⟩
      · rintro i _ _ hi ⟨lap, rfl, rfl⟩
        rw [mS_len] at hi
        have hx : L[i]? = some L[i] := List.getElem?_eq_getElem hi
        have hat : atI (mS L).cps.toList ((0 : Int) + (i : Nat)) = some L[i] := by
          rw [Int.zero_add]
          exact atI_nat hx
        have cp : CPow 1 ((0 : Int) + (i : Nat)) := ⟨by omega, by omega, by decide⟩
        have cm : ∀ (m : Int) (b : Bool), CMul m (if b then 1 else 0) := fun m b => .inr (by cases b <;> decide)
        refine ⟨_, rfl, _, rfl, _, _, rfl, rfl, cp, _, rfl, _, rfl, _, _, L[i], rfl, rfl, hz, hat, _, _, rfl, rfl, .inr ⟨_, rfl, _, _, rfl, rfl, cm _ _, _, _, rfl, rfl, ?_⟩⟩
        refine ⟨_, rfl, _, rfl, _, _, rfl, rfl, cp, _, rfl, _, rfl, _, _, L[i], rfl, rfl, hz, hat, _, _, rfl, rfl, .inr ⟨_, rfl, _, _, rfl, rfl, cm _ _, _, _, rfl, rfl, ?_⟩⟩
        refine ⟨some (.int (0 + (i : Int))), ?_, rfl⟩
        show [_, _, _, some (V.int (((bv lx (L.take i) : Nat) : Int) + 1 * 2 ^ ((0 : Int) + (i : Nat)).toNat * (if decide (L[i] ∈ ("XY" : Str).cps.toList) then 1 else 0))), some (V.int (((bv lz (L.take i) : Nat) : Int) + 1 * 2 ^ ((0 : Int) + (i : Nat)).toNat * (if decide (L[i] ∈ ("ZY" : Str).cps.toList) then 1 else 0))), _] = _
        rw [in_XY, in_ZY, bv_take lx hx, bv_take lz hx, Int.zero_add, Int.toNat_natCast, Int.one_mul]
        push_cast
        rfl
      · rintro _ _ ⟨lap, rfl, rfl⟩
        rw [mS_len, List.take_of_length_le (Nat.le_refl _)]
        exact ⟨_, rfl, rfl⟩
    rintro _ H3 ⟨lap, rfl, rfl⟩
    exact ⟨_, rfl, _, rfl, _, rfl, by show 3 ≤ sizeLine; decide, fun p np => q _ p (s12.trans (same_new np)) (s12.free np) upd_same⟩
theorem ok_wt {f fO : Addr} {fd dO : FuncData} {k : Nat} (F : Fun K "_law_weight" "_law_weight" sWt f fd) (FO : Fun K "_law_ones" "_law_ones" sOnes fO dO) (bO : Binds K dO ["_law_number"] []) (gO : mg "_law_ones" = some (.ref fO)) (B : Bl mg) : FnOk P w K mg base CX0 (k + 2) f fd ["_law_string"] spWt := by
  have GO : FnOk P w K mg base CX0 (k + 1) fO dO ["_law_number"] spOnes := ok_ones FO B
  refine F.ok scWt (fun vs H Q E h => ?_) (fun cdv A outer s H vs Q E hr h => ?_)
  · obtain ⟨t, L, z, rfl, _⟩ := h
    rfl
  · obtain ⟨t, L, z, rfl, et, hL, hl, q⟩ := h
    refine ⟨_, pss_one (ps_ret (pe_call GO hr (by rfl) gO FO.kp bO .nil pass0 (pa_cons (pe_op op_or (pe_ix ix_tup (pv 0) pe_int (fun _ _ => rfl)) (pe_ix ix_tup (pv 0) pe_int (fun _ _ => rfl))) pa_nil))), ?_⟩
    have sq : SqT K H t [.int (bv lx L : Nat), .int (bv lz L : Nat), .int z] := .inl (.inl et)
    have j0 : atI [V.int (bv lx L : Nat), V.int (bv lz L : Nat), V.int z] 0 = some (.int (bv lx L : Nat)) := at_of (j := 0) rfl rfl
    have j1 : atI [V.int (bv lx L : Nat), V.int (bv lz L : Nat), V.int z] 1 = some (.int (bv lz L : Nat)) := at_of (j := 1) rfl rfl
    have hp := pc_wt hL
    have hw : wt L ≤ 60 := by unfold wt; omega
    refine ⟨_, rfl, t, _, _, _, rfl, rfl, sq, j0, _, rfl, t, _, _, _, rfl, rfl, sq, j1, _, _, rfl, rfl, bv lx L ||| bv lz L, ?_, by rw [hp]; omega, by rw [hp]; exact q⟩
    show [V.int (Builtin.bitOr _ _)] = _
    rw [bor]
def spPickS : Sp := fun vs H Q _ => ∃ (p c : Addr) (z : Str) (n : Nat), vs = [.ref p, .str z] ∧ PenAt H p c n ∧ n < 1000000 ∧ z.cps.toList ≠ [] ∧ z.length ≤ 1000 ∧
  ∀ (i ch : Nat) H', z.cps.toList[i]? = some ch → PenAt H' p c (n + 1) → (∀ b, b ≠ p → H' b = H b) → Q (.str ⟨#[ch]⟩) H'
theorem ok_pickS {f fD : Addr} {fd fdD : FuncData} {k : Nat} (F : Fun K "_law_pick" "_law_pick" sPick f fd) (FD : Fun K "_law_draw" "_law_draw" sDraw fD fdD) (bD : Binds K fdD ["_law_pen_here", "_law_many"] []) (gD : mg "_law_draw" = some (.ref fD)) (B : Bl mg) :
    FnOk P w K mg base CX0 (k + 2) f fd ["_law_pen_here", "_law_some"] spPickS := by
  have GD : FnOk P w K mg base CX0 (k + 1) fD fdD ["_law_pen_here", "_law_many"] spDraw := ok_draw FD B.int B.len
  refine F.ok scPick (fun vs H Q E h => ?_) (fun cdv A outer s H vs Q E hr h => ?_)
  · obtain ⟨p, c, z, n, rfl, _⟩ := h
    rfl
  · obtain ⟨p, c, z, n, rfl, hP, hn, h0, hl, q⟩ := h
    refine ⟨_, pss_one (ps_ret (pe_ix ix_str (pv 1) (pe_call GD hr (by rfl) gD FD.kp bD .nil pass0 (pa_cons (pv 0) (pa_cons (pe_callB call_len_str (by rfl) B.len PySem.boot_len (pa_cons (pv 1) pa_nil)) pa_nil))) (fun _ _ => rfl))), ?_⟩
    have hlen : z.cps.toList.length = z.length := by simp [Str.length]
    have hpos : 0 < z.cps.toList.length := List.length_pos_iff.mpr h0
    refine ⟨_, rfl, _, rfl, _, rfl, _, rfl, sizeBig hl, p, c, n, _, rfl, hP, hn, by omega, ?_, fun r H' r0 r1 hP' hk => ?_⟩
    · have e : (z.length : Int).natAbs = z.length := by omega
      rw [e]
      exact Nat.lt_of_le_of_lt hl (by decide)
    · obtain ⟨j, rfl⟩ : ∃ j : Nat, r = (j : Int) := ⟨r.toNat, by omega⟩
      have hj : j < z.cps.toList.length := by omega
      have hx : z.cps.toList[j]? = some z.cps.toList[j] := List.getElem?_eq_getElem hj
      exact ⟨_, _, _, rfl, rfl, sizeBig hl, atI_nat hx, q j _ H' hx hP' hk⟩
end
end KQ

namespace KQ
open PySem PySem.Spec PyProof.Rows L2
/-- all but the pen is as it was -/
def KeepP (p : Addr) (H H' : Hp) : Prop := ∀ q o, q ≠ p → H q = some o → H' q = some o
theorem KeepP.refl (p : Addr) (H : Hp) : KeepP p H H := fun _ _ _ e => e
theorem KeepP.trans {p : Addr} {H H1 H2 : Hp} (a : KeepP p H H1) (b : KeepP p H1 H2) : KeepP p H H2 := fun q o n e => b q o n (a q o n e)
theorem KeepP.of_same {p : Addr} {H H' : Hp} (s : Same H H') : KeepP p H H' := fun q o _ e => s q o e
theorem KeepP.of_eq {p : Addr} {H H' : Hp} (s : ∀ b, b ≠ p → H' b = H b) : KeepP p H H' := fun q o n e => (s q n).trans e
theorem pen_upd {H : Hp} {p c y : Addr} {n : Nat} {o : HO} (h : PenAt H p c n) (hp : y ≠ p) (hc : y ≠ c) : PenAt (upd H y o) p c n := h.same (upd_ne (Ne.symm hp)) (upd_ne (Ne.symm hc))
theorem pen_sm {H H' : Hp} {p c : Addr} {n : Nat} (h : PenAt H p c n) (s : Same H H') : PenAt H' p c n := by
  obtain ⟨ns, a, d, f, e1, e2, r⟩ := h
  exact ⟨ns, a, d, f, s _ _ e1, s _ _ e2, r⟩
theorem pen_get {H : Hp} {p c : Addr} {n : Nat} (h : PenAt H p c n) : (∃ o, H p = some o) ∧ ∃ o, H c = some o := by
  obtain ⟨ns, a, d, f, e1, e2, r⟩ := h
  exact ⟨⟨_, e1⟩, ⟨_, e2⟩⟩
theorem pen_off {H : Hp} {p c y : Addr} {n : Nat} {o : HO} (h : PenAt H p c n) (hy : H y = some o) (d : ∀ kv, o ≠ .dK kv) : y ≠ p := by
  obtain ⟨ns, a, d', f, hp, _⟩ := h
  exact ne_of hy hp (d _)
theorem bootB : bootBuiltins "bool" = some (.type "bool") := by decide +kernel
def signs1 (L : List Nat) : List Str := L.map fun c => (⟨#[c]⟩ : Str)
theorem join_signs (L : List Nat) : Txt.join ("" : Str) (signs1 L) = mS L := by
  rw [TL.join_eq, e_no]
  exact PyProof.Rows.join_ones L
theorem signs_len : ∀ L : List Nat, ((signs1 L).map (·.length)).sum = L.length
  | [] => rfl
  | c :: L => by
    show 1 + ((signs1 L).map (·.length)).sum = L.length + 1
    rw [signs_len L]
    omega
def spSome : Sp := fun vs H Q _ => ∃ (p c : Addr) (n m : Nat), vs = [.ref p, .int (m : Int)] ∧ PenAt H p c n ∧ n + m < 1000000 ∧ m ≤ 60 ∧
  ∀ (L : List Nat) (t : Addr) (H' : Hp), L.length = m → Lets L → H' t = some (.tup [.int (bv lx L : Nat), .int (bv lz L : Nat), .int 0]) → PenAt H' p c (n + m) → KeepP p H H' → Q (.ref t) H'
def spPh : Sp := fun vs H Q _ => ∃ (t : Addr) (L : List Nat) (z : Int) (p : Nat), vs = [.ref t, .int (p : Int), .int (L.length : Int)] ∧ p < 4 ∧ H t = some (.tup [.int (bv lx L : Nat), .int (bv lz L : Nat), .int z]) ∧ Lets L ∧ L.length ≤ 60 ∧ ∀ H', Same H H' → Q (.str (mS (headL p ++ L))) H'
def spTold (C : Addr) : Sp := fun vs H Q _ => ∃ (a t : Addr) (L : List Nat) (z : Int) (p : Nat), vs = [.ref a, .ref t, .int (p : Int), .int (L.length : Int)] ∧ PauliAt C H a L p ∧ H t = some (.tup [.int (bv lx L : Nat), .int (bv lz L : Nat), .int z]) ∧ Lets L ∧ L.length ≤ 60 ∧ Q (.bl true) H
section
variable {P : Program} {w : World} {K : PySem.W.Frag} {mg : Str → Option Value} {base : Heap}
theorem ok_some {f fD fP fT : Addr} {fd dD dP dT : FuncData} (F : Fun K "_law_some_string" "_law_some_string" sSome f fd) (FD : Fun K "_law_draw" "_law_draw" sDraw fD dD) (bD : Binds K dD ["_law_pen_here", "_law_many"] []) (gD : mg "_law_draw" = some (.ref fD))
    (FP : Fun K "_law_pick" "_law_pick" sPick fP dP) (bP : Binds K dP ["_law_pen_here", "_law_some"] []) (gP : mg "_law_pick" = some (.ref fP)) (FT : Fun K "_law_of_text" "_law_of_text" sOfT fT dT) (bT : Binds K dT ["_law_text"] []) (gT : mg "_law_of_text" = some (.ref fT)) (B : Bl mg) :
    FnOk P w K mg base CX0 3 f fd ["_law_pen_here", "_law_size"] spSome := by
  have GP : FnOk P w K mg base CX0 2 fP dP ["_law_pen_here", "_law_some"] spPickS := ok_pickS FP FD bD gD B
  have GT : FnOk P w K mg base CX0 2 fT dT ["_law_text"] spOfT := ok_oft FT B
  refine F.ok scSome (fun vs H Q E h => ?_) (fun cdv A outer s H vs Q E hr h => ?_)
  · obtain ⟨p, c, n, m, rfl, _⟩ := h
    rfl
  · obtain ⟨p, c, n, m, rfl, hP, hn, hm, q⟩ := h
    refine ⟨_, C8.pss_cut (ps_set (i := 2) scSome.nd rfl (.inl rfl) (pe_bm PySem.F.plainAttrs_str PySem.F.slot_str_join PySem.F.type_str_join mt_join pe_str
        (pa_cons (pe_lc (own := [("_law_k", 3)]) (g := gName 3) (by rfl) scSome.nd (pi_range1 (by rfl) B.range (pa_cons (pv 1) pa_nil)) (blkOk_by (own := [("_law_k", 3)]) (N := ["_law_pen_here", "_law_size", "_law_letters_here", "_law_k"]) (sc := defScope sSome) (by decide +kernel))
          (fun _ _ _ _ _ => pg_name (i := 3) scSome.nd rfl (Or.inl rfl)) (fun _ _ _ _ _ => pts_nil) (fun _ _ _ _ _ => pe_call GP hr (by rfl) gP FP.kp bP .nil pass0 (pa_cons (pv 0) (pa_cons pe_str pa_nil)))) pa_nil)))
      (pss_one (ps_ret (pe_call GT hr (by rfl) gT FT.kp bT .nil pass0 (pa_cons (pv 2) pa_nil)))), ?_⟩
    obtain ⟨⟨op, ep⟩, ⟨oc, ec⟩⟩ := pen_get hP
    refine ⟨fun σ' H' => ∃ L : List Nat, L.length = m ∧ Lets L ∧ σ' = [some (.ref p), some (.int (m : Int)), some (.str (mS L)), none] ∧ PenAt H' p c (n + m) ∧ KeepP p H H', ?_, ?_⟩
    · refine ⟨rfl, _, rfl, _, rfl, by omega, by omega, fun D nD => ?_⟩
      have hDp : D ≠ p := Ne.symm (ne_of_none ep nD)
      have hDc : D ≠ c := Ne.symm (ne_of_none ec nD)
      refine lc_range (lo := 0) (n := m) (Pv := fun i Hc => ∃ L : List Nat, L.length = i ∧ Lets L ∧ Hc D = some (.lst ((signs1 L).map V.str)) ∧ PenAt Hc p c (n + i) ∧ KeepP p H Hc) ⟨[], rfl, (fun c hc => by cases hc), upd_same, pen_upd hP hDp hDc, fun y o hy e => by rw [upd_ne (ne_of_none e nD)]; exact e⟩ ?_ ?_
      · rintro i Hc hi ⟨L, hl, hL, eD, hP', kp⟩
        refine ⟨rfl, _, rfl, p, c, _, n + i, rfl, hP', by omega, by rw [e_some]; decide, by decide +kernel, fun j ch H2 hj hP2 hk => ?_⟩
        refine ⟨_, by rw [hk D hDp]; exact eD, ?_, L ++ [ch], by rw [List.length_append, hl]; rfl, ?_, ?_, ?_, ?_⟩
        · show (((signs1 L).map V.str).length) < sizeLine
          rw [List.length_map, signs1, List.length_map, hl]
          exact Nat.lt_of_lt_of_le (by omega : i < 61) (by decide)
        · intro x hx
          rcases List.mem_append.mp hx with hx | hx
          · exact hL x hx
          · rw [List.mem_singleton.mp hx]
            rw [e_some] at hj
            have := List.mem_of_getElem? hj
            revert this
            simp only [List.mem_cons, List.mem_nil_iff, or_false]
            rintro (h | h | h | h | h) <;> subst h <;> exact isL_iff.mpr (by omega)
        · rw [upd_same, signs1, signs1, List.map_append, List.map_append]
          rfl
        · exact pen_upd hP2 hDp hDc
        · intro y o hy e
          have hyD : y ≠ D := ne_of_none e nD
          rw [upd_ne hyD, hk y hy]
          exact kp y o hy e
      · rintro Hc ⟨L, hl, hL, eD, hP', kp⟩
        refine ⟨_, D, signs1 L, rfl, rfl, .inl (SqL.of eD), ?_, ?_⟩
        · rw [signs_len, show ("" : Str).length = 0 from by decide +kernel]
          omega
        · rw [join_signs]
          exact ⟨L, hl, hL, rfl, hP', kp⟩
    rintro _ H1 ⟨L, hl, hL, rfl, hP', kp⟩
    refine ⟨_, rfl, L, rfl, hL, by omega, fun H' t s' nt et => q L t H' hl hL et (pen_sm hP' s') (kp.trans (KeepP.of_same s'))⟩
theorem ok_ph {f fL : Addr} {fd dL : FuncData} {k : Nat} (F : Fun K "_law_phased" "_law_phased" sPh f fd) (FL : Fun K "_law_letters" "_law_letters" sLett fL dL) (bL : Binds K dL ["_law_string", "_law_size"] []) (gL : mg "_law_letters" = some (.ref fL)) (B : Bl mg) : FnOk P w K mg base CX0 (k + 2) f fd ["_law_string", "_law_phase", "_law_size"] spPh := by
  have GL : FnOk P w K mg base CX0 (k + 1) fL dL ["_law_string", "_law_size"] spLett := ok_lett FL B
  refine F.ok scPh (fun vs H Q E h => ?_) (fun cdv A outer s H vs Q E hr h => ?_)
  · obtain ⟨t, L, z, p, rfl, _⟩ := h
    rfl
  · obtain ⟨t, L, z, p, rfl, hp, et, hL, hl, q⟩ := h
    refine ⟨_, pss_one (ps_ret (pe_op op_add_str (pe_ix ix_list (pe_lst (pa_cons pe_str (pa_cons pe_str (pa_cons pe_str (pa_cons pe_str pa_nil))))) (pv 1) (fun _ _ => rfl)) (pe_call GL hr (by rfl) gL FL.kp bL .nil pass0 (pa_cons (pv 0) (pa_cons (pv 2) pa_nil))))), ?_⟩
    refine ⟨by show 4 ≤ sizeLine; decide, fun r nr => ⟨_, rfl, r, _, _, .str (mS (headL p)), rfl, rfl, SqL.of upd_same, ?_, ?_⟩⟩
    · rw [show ("" : Str) = mS [] from e_no, show ("i" : Str) = mS [105] from e_i, show ("-" : Str) = mS [45] from e_minus, e_mi]
      refine atI_nat ?_
      have := head_at hp
      match p, hp with
      | 0, _ => rfl
      | 1, _ => rfl
      | 2, _ => rfl
      | 3, _ => rfl
    · have hh : (headL p).length ≤ 2 := by
        match p, hp with
        | 0, _ => decide
        | 1, _ => decide
        | 2, _ => decide
        | 3, _ => decide
      refine ⟨_, rfl, _, rfl, t, L, z, rfl, same_new nr _ _ et, hL, hl, _, _, rfl, rfl, ?_, ?_⟩
      · rw [mS_len, mS_len]
        exact Nat.le_trans (by omega : _ ≤ 62) (by decide)
      · rw [mS_app]
        exact q _ (same_new nr)
theorem ok_told {f fL fW fO fI fE C : Addr} {fd dL dW dO : FuncData} (F : Fun K "_law_told" "_law_told" sTold f fd) (FL : Fun K "_law_letters" "_law_letters" sLett fL dL) (bL : Binds K dL ["_law_string", "_law_size"] []) (gL : mg "_law_letters" = some (.ref fL))
    (FW : Fun K "_law_weight" "_law_weight" sWt fW dW) (bW : Binds K dW ["_law_string"] []) (gW : mg "_law_weight" = some (.ref fW)) (FO : Fun K "_law_ones" "_law_ones" sOnes fO dO) (bO : Binds K dO ["_law_number"] []) (gO : mg "_law_ones" = some (.ref fO))
    (N : PCl K mg C fI fE) (B : Bl mg) : FnOk P w K mg base CX0 3 f fd ["_law_pauli", "_law_string", "_law_phase", "_law_size"] (spTold C) := by
  have GL : FnOk P w K mg base CX0 2 fL dL ["_law_string", "_law_size"] spLett := ok_lett FL B
  have GW : FnOk P w K mg base CX0 2 fW dW ["_law_string"] spWt := ok_wt FW FO bO gO B
  refine F.ok scTold (fun vs H Q E h => ?_) (fun cdv A outer s H vs Q E hr h => ?_)
  · obtain ⟨a, t, L, z, p, rfl, _⟩ := h
    rfl
  · obtain ⟨a, t, L, z, p, rfl, hP, et, hL, hl, q⟩ := h
    refine ⟨_, C8.pss_cut (ps_if (pw_or (pt_not (pt_val (pe_callB call_isi (by rfl) B.isi PyProof.Rows.boot_isinstance (pa_cons (pv 0) (pa_cons (pe_glob (v := .ref C) (by rfl) N.g rfl) pa_nil)))))
        (pw_or (pt_cmpR op_ne (pe_fld (pv 0) rfl) (pe_call GL hr (by rfl) gL FL.kp bL .nil pass0 (pa_cons (pv 1) (pa_cons (pv 3) pa_nil))) (nomark _)) (pw_or1 (pt_cmpR op_ne (pe_fld (pv 0) rfl) (pv 2) (nomark _))))).pt (pss_one (ps_ret pe_bl)) pss_nil)
      (pss_one (ps_ret (pe_and (pe_cmpR op_eq (pe_fld (pv 0) rfl) (pv 3) (nomark _)) (pe_and (pe_cmpR op_eq (pe_fld (pv 0) rfl) (pe_call GW hr (by rfl) gW FW.kp bW .nil pass0 (pa_cons (pv 1) pa_nil)) (nomark _))
        (pe_one (pe_not (pe_callB call_isi (by rfl) B.isi PyProof.Rows.boot_isinstance (pa_cons (pe_fld (pv 0) rfl) (pa_cons (pe_bltn (v := .ty "bool") (by rfl) B.bool bootB rfl) pa_nil))))))))), ?_⟩
    have ty := hP.ty N
    obtain ⟨dx, fs, e, l1, l2, l3, l4, _⟩ := hP
    refine ⟨fun σ' H' => σ' = [some (.ref a), some (.ref t), some (.int (p : Int)), some (.int (L.length : Int))] ∧ H' = H, ?_, ?_⟩
    · refine ⟨_, rfl, _, _, _, _, true, rfl, .own C, ty, N.kC, _, rfl, iteF ?_⟩
      refine ⟨_, rfl, a, C, dx, fs, _, rfl, e, N.cl, N.nL, l1, _, rfl, _, rfl, t, L, z, rfl, et, hL, hl, rfl, _, rfl, ?_⟩
      rw [decide_eq_true rfl]
      refine iteF ⟨_, rfl, a, C, dx, fs, _, rfl, e, N.cl, N.nP, l2, _, rfl, rfl, _, rfl, ?_⟩
      rw [decide_eq_true rfl]
      exact iteF ⟨rfl, rfl⟩
    rintro _ H1 ⟨rfl, rfl⟩
    refine ⟨_, rfl, a, C, dx, fs, _, rfl, e, N.cl, N.nS, l3, _, rfl, rfl, _, rfl, ?_⟩
    rw [decide_eq_true rfl]
    refine iteT ⟨_, rfl, a, C, dx, fs, _, rfl, e, N.cl, N.nW, l4, _, rfl, t, L, z, rfl, et, hL, hl, rfl, _, rfl, ?_⟩
    have ew : ((L.length : Int) - (L.count 73 : Int)) = ((wt L : Nat) : Int) := by
      have := List.count_le_length (a := 73) (l := L)
      unfold wt
      omega
    rw [ew, decide_eq_true rfl]
    exact iteT ⟨_, rfl, a, C, dx, fs, _, rfl, e, N.cl, N.nP, l2, _, _, _, _, false, rfl, .ty "bool", .base (.int _), kit_ty (by decide +kernel), _, rfl, q⟩
end
end KQ

namespace KQ
open PySem PySem.Spec PyProof.Rows L2
theorem xor_two (a b i j : Nat) (hi : i < 2) (hj : j < 2) : (2 * a + i) ^^^ (2 * b + j) = 2 * (a ^^^ b) + (i ^^^ j) := by
  have h1 : ((2 * a + i) ^^^ (2 * b + j)) / 2 = a ^^^ b := by
    rw [Nat.xor_div_two, show (2 * a + i) / 2 = a from by omega, show (2 * b + j) / 2 = b from by omega]
  have h2 : ((2 * a + i) ^^^ (2 * b + j)) % 2 = i ^^^ j := by
    have := Nat.xor_mod_two_pow (a := 2 * a + i) (b := 2 * b + j) (n := 1)
    rw [Nat.pow_one] at this
    rw [this, show (2 * a + i) % 2 = i from by omega, show (2 * b + j) % 2 = j from by omega]
  omega
theorem or_sub_and : ∀ (n m : Nat), (n ||| m) = (n ^^^ m) + (n &&& m) := by
  intro n
  induction n using Nat.strongRecOn with
  | ind n ih =>
    intro m
    by_cases h : n = 0
    · subst h
      rw [Nat.zero_or, Nat.zero_xor, Nat.zero_and]
      rfl
    · have e : n = 2 * (n / 2) + n % 2 := by omega
      have e2 : m = 2 * (m / 2) + m % 2 := by omega
      have k := ih (n / 2) (by omega) (m / 2)
      have l1 : n % 2 < 2 := Nat.mod_lt _ (by decide)
      have l2 : m % 2 < 2 := Nat.mod_lt _ (by decide)
      rw [e, e2, or_two _ _ _ _ l1 l2, xor_two _ _ _ _ l1 l2, and_two _ _ _ _ l1 l2, k]
      have hb : ∀ i j : Nat, i < 2 → j < 2 → (i ||| j) = (i ^^^ j) + (i &&& j) := by
        intro i j hi hj
        match i, j, hi, hj with
        | 0, 0, _, _ => rfl
        | 0, 1, _, _ => rfl
        | 1, 0, _, _ => rfl
        | 1, 1, _, _ => rfl
      rw [hb _ _ l1 l2]
      omega
theorem bxor (a b : Nat) : Builtin.bitXor (a : Int) (b : Int) = ((a ^^^ b : Nat) : Int) := by
  unfold Builtin.bitXor
  rw [bor, band, or_sub_and]
  omega
theorem pc_le : ∀ (k n : Nat), n < 2 ^ k → pc n ≤ k
  | 0, n, h => by
    have : n = 0 := by simpa using h
    subst this
    rw [pc_zero]
    exact Nat.le_refl _
  | k + 1, n, h => by
    have e : n = 2 * (n / 2) + n % 2 := by omega
    have l1 : n % 2 < 2 := Nat.mod_lt _ (by decide)
    rw [Nat.pow_succ] at h
    have := pc_le k (n / 2) (by omega)
    rw [e, pc_two _ _ l1]
    omega
def crossN (L M : List Nat) : Nat := (bv lx L &&& bv lz M) ^^^ (bv lz L &&& bv lx M)
theorem cross_par : ∀ {L M : List Nat}, L.length = M.length → (∀ c ∈ L, isL c = true) → (∀ c ∈ M, isL c = true) → pc (crossN L M) % 2 = prodP L M % 2
  | [], [], _, _, _ => by
    show pc ((0 &&& 0) ^^^ (0 &&& 0)) % 2 = 0 % 2
    rw [show ((0 &&& 0) ^^^ (0 &&& 0) : Nat) = 0 from rfl, pc_zero]
  | c :: L, d :: M, h, hL, hM => by
    have ih := cross_par (L := L) (M := M) (by simpa using h) (fun x hx => hL x (List.mem_cons_of_mem _ hx)) (fun x hx => hM x (List.mem_cons_of_mem _ hx))
    have h1 := isL_iff.mp (hL c List.mem_cons_self)
    have h2 := isL_iff.mp (hM d List.mem_cons_self)
    show pc (((lx c + 2 * bv lx L) &&& (lz d + 2 * bv lz M)) ^^^ ((lz c + 2 * bv lz L) &&& (lx d + 2 * bv lx M))) % 2 = (pw c d + prodP L M) % 2
    have key : ((lx c &&& lz d) ^^^ (lz c &&& lx d)) < 2 ∧ (lx c &&& lz d) < 2 ∧ (lz c &&& lx d) < 2 ∧ ((lx c &&& lz d) ^^^ (lz c &&& lx d)) = pw c d % 2 := by
      rcases h1 with rfl | rfl | rfl | rfl <;> rcases h2 with rfl | rfl | rfl | rfl <;> decide
    rw [Nat.add_comm (lx c), Nat.add_comm (lz d), Nat.add_comm (lz c), Nat.add_comm (lx d), and_two _ _ _ _ (lx_lt c) (lz_lt d), and_two _ _ _ _ (lz_lt c) (lx_lt d), xor_two _ _ _ _ key.2.1 key.2.2.1, pc_two _ _ key.1]
    have z : pc ((bv lx L &&& bv lz M) ^^^ (bv lz L &&& bv lx M)) % 2 = prodP L M % 2 := ih
    have := key.2.2.2
    omega
theorem cross_lt {L M : List Nat} (hl : L.length ≤ 60) (hm : M.length ≤ 60) : crossN L M < 2 ^ 60 := by
  have up : ∀ {f : Nat → Nat}, (∀ c, f c < 2) → ∀ {L : List Nat}, L.length ≤ 60 → bv f L < 2 ^ 60 := fun hf L h => Nat.lt_of_lt_of_le (bv_lt hf L) (Nat.pow_le_pow_right (by decide) h)
  unfold crossN
  exact Nat.xor_lt_two_pow (Nat.and_lt_two_pow _ (up lz_lt hm)) (Nat.and_lt_two_pow _ (up lx_lt hm))
theorem scCross : FnScope ["_law_one", "_law_two"] ["_law_one", "_law_two"] (defScope sCross) := ⟨rfl, rfl, rfl, by decide +kernel, rfl, by decide +kernel, by decide +kernel⟩
def spCross : Sp := fun vs H Q _ => ∃ (t u : Addr) (L M : List Nat) (z z' : V), vs = [.ref t, .ref u] ∧ H t = some (.tup [.int (bv lx L : Nat), .int (bv lz L : Nat), z]) ∧ H u = some (.tup [.int (bv lx M : Nat), .int (bv lz M : Nat), z']) ∧ L.length = M.length ∧ L.length ≤ 60 ∧ Lets L ∧ Lets M ∧ Q (.int ((prodP L M % 2 : Nat) : Int)) H
section
variable {P : Program} {w : World} {K : PySem.W.Frag} {mg : Str → Option Value} {base : Heap}
theorem ok_cross {f fO : Addr} {fd dO : FuncData} {k : Nat} (F : Fun K "_law_crosses" "_law_crosses" sCross f fd) (FO : Fun K "_law_ones" "_law_ones" sOnes fO dO) (bO : Binds K dO ["_law_number"] []) (gO : mg "_law_ones" = some (.ref fO)) (B : Bl mg) : FnOk P w K mg base CX0 (k + 2) f fd ["_law_one", "_law_two"] spCross := by
  have GO : FnOk P w K mg base CX0 (k + 1) fO dO ["_law_number"] spOnes := ok_ones FO B
  refine F.ok scCross (fun vs H Q E h => ?_) (fun cdv A outer s H vs Q E hr h => ?_)
  · obtain ⟨t, u, L, M, z, z', rfl, _⟩ := h
    rfl
  · obtain ⟨t, u, L, M, z, z', rfl, et, eu, eq, hl, hL, hM, q⟩ := h
    refine ⟨_, pss_one (ps_ret (pe_op op_mod (pe_callTy call_int1 (by rfl) B.int bootI (pa_cons (pe_call GO hr (by rfl) gO FO.kp bO .nil pass0 (pa_cons (pe_op op_xor (pe_op op_and (pe_ix ix_tup (pv 0) pe_int (fun _ _ => rfl)) (pe_ix ix_tup (pv 1) pe_int (fun _ _ => rfl))) (pe_op op_and (pe_ix ix_tup (pv 0) pe_int (fun _ _ => rfl)) (pe_ix ix_tup (pv 1) pe_int (fun _ _ => rfl)))) pa_nil)) pa_nil)) pe_int)), ?_⟩
    have sq : SqT K H t [.int (bv lx L : Nat), .int (bv lz L : Nat), z] := .inl (.inl et)
    have sq' : SqT K H u [.int (bv lx M : Nat), .int (bv lz M : Nat), z'] := .inl (.inl eu)
    have j0 : ∀ a b c : V, atI [a, b, c] 0 = some a := fun _ _ _ => at_of (j := 0) rfl rfl
    have j1 : ∀ a b c : V, atI [a, b, c] 1 = some b := fun _ _ _ => at_of (j := 1) rfl rfl
    have le := pc_le 60 _ (cross_lt hl (by omega : M.length ≤ 60))
    refine ⟨_, rfl, t, _, _, _, rfl, rfl, sq, j0 _ _ _, _, rfl, u, _, _, _, rfl, rfl, sq', j1 _ _ _, _, _, rfl, rfl, _, rfl, t, _, _, _, rfl, rfl, sq, j1 _ _ _, _, rfl, u, _, _, _, rfl, rfl, sq', j0 _ _ _, _, _, rfl, rfl, _, _, rfl, rfl, crossN L M, ?_, by omega, .inl ⟨_, rfl, _, _, rfl, rfl, by show (0 : Int) < 2; decide, ?_⟩⟩
    · show [V.int (Builtin.bitXor (Builtin.bitAnd ((bv lx L : Nat) : Int) ((bv lz M : Nat) : Int)) (Builtin.bitAnd ((bv lz L : Nat) : Int) ((bv lx M : Nat) : Int)))] = _
      rw [band, band, bxor]
      rfl
    · have e : ((pc (crossN L M) : Nat) : Int) % 2 = ((prodP L M % 2 : Nat) : Int) := by
        have := cross_par eq hL hM
        omega
      show Q (V.int (((pc (crossN L M) : Nat) : Int) % 2)) H
      rw [e]
      exact q
end
end KQ

namespace KQ
open PySem PySem.Spec PyProof.Rows L2 LamX
/-! ### what a call refuses: strings of unlike sizes -/
theorem scWhy : FnScope ["_law_call", "_law_found", "e"] ["_law_call"] (defScope sWhy) := ⟨rfl, rfl, rfl, by decide +kernel, rfl, by decide +kernel, by decide +kernel⟩
def TTu (C : Addr) : (XK → Hp → VK → Prop) → Hp → VK → Prop := fun tl H Q => ∀ p0, H p0 = none →
  tl (fun cls d H' => ∃ (dd : Addr) (v : V), cls = .ref C ∧ d = some dd ∧ H' dd = some (.xd [("what", v)]) ∧ ∀ p, H' p = none → Q (.ref p) (upd H' p (.tup [.str "unlike", v]))) (upd H p0 (.tup [.str "none"])) (fun _ H' => ∃ v, (some (some (V.ref p0)) : Option (Option V)) = some (some v) ∧ Q v H')
/-- what the clauses ask of the class Unlike at CU -/
structure FiveU (K : PySem.W.Frag) (mg : Str → Option Value) (CT cN CU cA cM : Addr) : Prop where
  gT : mg "BadText" = some (.ref CT)
  gN : mg "BadNumber" = some (.ref cN)
  gU : mg "Unlike" = some (.ref CU)
  gA : mg "Anticommute" = some (.ref cA)
  gM : mg "MinusOne" = some (.ref cM)
  n0 : PySem.W.findIn K (.ref CU) "line" = some none
  n1 : PySem.W.findIn K (.ref CU) "column" = some none
  n2 : PySem.W.findIn K (.ref CU) "what" = some none
  n3 : PySem.W.findIn K (.ref CU) "number" = some none
  n4 : PySem.W.findIn K (.ref CU) "one" = some none
  n5 : PySem.W.findIn K (.ref CU) "other" = some none
  n6 : PySem.W.findIn K (.ref CU) "indices" = some none
  XF : XfC K CU
  exT : PySem.W.exmOne K (.ref CU) (.ref CT) = some false
  exN : PySem.W.exmOne K (.ref CU) (.ref cN) = some false
  exU : PySem.W.exmOne K (.ref CU) (.ref CU) = some true
theorem why_gives {X : Cx} {CT g cN CU cA cM : Addr} {cdg : Value} {q : Str} (V5 : FiveU X.K X.mg CT cN CU cA cM) : GivesTo X ["_law_call", "_law_found", "e"] "_law_why" (defScope sWhy) g cdg (defBody sWhy) "_law_call" q (TTu CU) := by
  intro f c' s H Q tl act hc h
  refine ⟨_, pss_cons (ps_set (i := 1) scWhy.nd rfl (.inl rfl) (pe_tup (pa_cons pe_str pa_nil))) (pss_cons (ps_try_list (X := (cxOf C8.CX0 X.prog X.w X.K X.mg X.base ["_law_call", "_law_found", "e"] "_law_why" (defScope sWhy) g cdg X.A X.stack s H C8.E0).nox) (k := 2) (nm := "e")
      (tb := fun W D σ H => ∃ Ech : XK, (∀ cls d σ' H', σ'.length = 3 → Ech cls d H' → W cls d σ' H') ∧ σ[0]? = some (some (.ref f)) ∧ H c' = some (CodeO c' q) ∧ tl Ech H (fun _ H' => D.nx σ H'))
      rfl rfl scWhy.nd rfl rfl LamX.takes0 (fun W pn xe tk _ => ?_)
      (.next (cl := .ref CT) ⟨rfl, by decide, .inl V5.gT⟩ (fun a oe cls d pn hz hf => pss_one (ps_set (i := 1) scWhy.nd rfl (.inl rfl) (pe_tup (pa_cons pe_str (pa_cons (pe_xf V5.XF V5.n0 hz hf (pv 2)) (pa_cons (pe_xf V5.XF V5.n1 hz hf (pv 2)) pa_nil))))))
      (.next (cl := .ref cN) ⟨rfl, by decide, .inl V5.gN⟩ (fun a oe cls d pn hz hf => pss_one (ps_set (i := 1) scWhy.nd rfl (.inl rfl) (pe_tup (pa_cons pe_str (pa_cons (pe_xf V5.XF V5.n2 hz hf (pv 2)) (pa_cons (pe_xf V5.XF V5.n3 hz hf (pv 2)) pa_nil))))))
      (.next (cl := .ref CU) ⟨rfl, by decide, .inl V5.gU⟩ (fun a oe cls d pn hz hf => pss_one (ps_set (i := 1) scWhy.nd rfl (.inl rfl) (pe_tup (pa_cons pe_str (pa_cons (pe_xf V5.XF V5.n2 hz hf (pv 2)) pa_nil)))))
      (.next (cl := .ref cA) ⟨rfl, by decide, .inl V5.gA⟩ (fun a oe cls d pn hz hf => pss_one (ps_set (i := 1) scWhy.nd rfl (.inl rfl) (pe_tup (pa_cons pe_str (pa_cons (pe_xf V5.XF V5.n4 hz hf (pv 2)) (pa_cons (pe_xf V5.XF V5.n5 hz hf (pv 2)) pa_nil))))))
      (.next (cl := .ref cM) ⟨rfl, by decide, .inl V5.gM⟩ (fun a oe cls d pn hz hf => pss_one (ps_set (i := 1) scWhy.nd rfl (.inl rfl) (pe_tup (pa_cons pe_str (pa_cons (pe_xf V5.XF V5.n6 hz hf (pv 2)) pa_nil)))))
      .done))))))
    (pss_one (ps_ret (pv 1)))), ?_⟩
  · refine ⟨fun pins s' σ H' D I h' => ?_⟩
    obtain ⟨Ech, hW, h1, h2, h3⟩ := h'
    have tk' : Takes ((cxOf C8.CX0 X.prog X.w X.K X.mg X.base ["_law_call", "_law_found", "e"] "_law_why" (defScope sWhy) g cdg X.A X.stack s H C8.E0).tr pn xe) (fun cls d σ H => σ.length = 3 → W cls d σ H) :=
      fun u s' ⟨a, B, sI, pins, σ, H, cls, d, e, I, nb, up, sky, na, os, ag, w⟩ => tk u s' ⟨a, B, sI, pins, σ, H, cls, d, e, I, nb, up, sky, na, os, ag, w I.len⟩
    have hp := fun p1 p2 => act (fun cls d σ H => σ.length = 3 → W cls d σ H) pn xe Ech p1 p2 tk' (fun cls d σ' H' h hl => hW cls d σ' H' hl h)
    exact (pss_one (ps_expr (hp _ _))).run pins s' σ H' D I ⟨h1, h2, h3⟩
  · refine ⟨by show 1 ≤ sizeLine; decide, fun p0 np => ?_⟩
    have hc0 : c' ≠ p0 := ne_of_none hc np
    refine ⟨fun cls d H' => ∃ (dd : Addr) (v : V), cls = .ref CU ∧ d = some dd ∧ H' dd = some (.xd [("what", v)]) ∧ ∀ p, H' p = none → Q (.ref p) (upd H' p (.tup [.str "unlike", v])), fun cls d σ' H' hl hE => ?_, rfl, (upd_ne hc0).trans hc, ?_⟩
    · obtain ⟨dd, v, rfl, rfl, hd, hq⟩ := hE
      refine ⟨false, V5.exT, (fun z => nomatch z), fun _ => ⟨false, V5.exN, (fun z => nomatch z), fun _ => ⟨true, V5.exU, fun _ a na => ?_, fun z => nomatch z⟩⟩⟩
      have h2 : (σ'.set 2 (some (V.ref a)))[2]? = some (some (V.ref a)) := by
        rw [List.getElem?_set_self (by omega)]
      refine ⟨_, h2, rfl, rfl, dd, _, v, rfl, hd, rfl, by show 2 ≤ sizeLine; decide, fun p np => ?_⟩
      refine ⟨_, ?_, hq p np⟩
      rw [List.getElem?_set_ne (by decide), List.getElem?_set_self (by rw [List.length_set]; omega)]
    · exact h p0 np
end KQ

namespace KQ
open PySem PySem.Spec PyProof.Rows L2
/-! ### products of strings: bits, brackets, both orders, squares -/
theorem four {Pr : Nat → Prop} (h1 : Pr 73) (h2 : Pr 88) (h3 : Pr 89) (h4 : Pr 90) {c : Nat} (h : isL c = true) : Pr c := by
  rcases isL_iff.mp h with rfl | rfl | rfl | rfl <;> assumption
theorem lx_pl {c d : Nat} (hc : isL c = true) (hd : isL d = true) : lx (pl c d) = lx c ^^^ lx d := by
  rcases isL_iff.mp hc with rfl | rfl | rfl | rfl <;> rcases isL_iff.mp hd with rfl | rfl | rfl | rfl <;> decide
theorem lz_pl {c d : Nat} (hc : isL c = true) (hd : isL d = true) : lz (pl c d) = lz c ^^^ lz d := by
  rcases isL_iff.mp hc with rfl | rfl | rfl | rfl <;> rcases isL_iff.mp hd with rfl | rfl | rfl | rfl <;> decide
theorem bv_prod {f : Nat → Nat} (hf : ∀ c, f c < 2) (hp : ∀ {c d : Nat}, isL c = true → isL d = true → f (pl c d) = f c ^^^ f d) : ∀ {L M : List Nat}, L.length = M.length → (∀ c ∈ L, isL c = true) → (∀ c ∈ M, isL c = true) → bv f (prodL L M) = bv f L ^^^ bv f M
  | [], [], _, _, _ => by
    show (0 : Nat) = 0 ^^^ 0
    decide
  | c :: L, d :: M, h, hL, hM => by
    have ih := bv_prod hf hp (L := L) (M := M) (by simpa using h) (fun x hx => hL x (List.mem_cons_of_mem _ hx)) (fun x hx => hM x (List.mem_cons_of_mem _ hx))
    show f (pl c d) + 2 * bv f (prodL L M) = (f c + 2 * bv f L) ^^^ (f d + 2 * bv f M)
    rw [Nat.add_comm (f c), Nat.add_comm (f d), xor_two _ _ _ _ (hf c) (hf d), hp (hL c List.mem_cons_self) (hM d List.mem_cons_self), ih, Nat.add_comm]
theorem pl_comm {c d : Nat} (hc : isL c = true) (hd : isL d = true) : pl c d = pl d c := by
  rcases isL_iff.mp hc with rfl | rfl | rfl | rfl <;> rcases isL_iff.mp hd with rfl | rfl | rfl | rfl <;> decide
theorem pw_both {c d : Nat} (hc : isL c = true) (hd : isL d = true) : (pw c d + pw d c) % 4 = 0 := by
  rcases isL_iff.mp hc with rfl | rfl | rfl | rfl <;> rcases isL_iff.mp hd with rfl | rfl | rfl | rfl <;> decide
theorem pl_assoc {c d e : Nat} (hc : isL c = true) (hd : isL d = true) (he : isL e = true) : pl (pl c d) e = pl c (pl d e) := by
  rcases isL_iff.mp hc with rfl | rfl | rfl | rfl <;> rcases isL_iff.mp hd with rfl | rfl | rfl | rfl <;> rcases isL_iff.mp he with rfl | rfl | rfl | rfl <;> decide
theorem pw_assoc {c d e : Nat} (hc : isL c = true) (hd : isL d = true) (he : isL e = true) : (pw c d + pw (pl c d) e) % 4 = (pw d e + pw c (pl d e)) % 4 := by
  rcases isL_iff.mp hc with rfl | rfl | rfl | rfl <;> rcases isL_iff.mp hd with rfl | rfl | rfl | rfl <;> rcases isL_iff.mp he with rfl | rfl | rfl | rfl <;> decide
theorem prodL_comm : ∀ {L M : List Nat}, L.length = M.length → (∀ c ∈ L, isL c = true) → (∀ c ∈ M, isL c = true) → prodL L M = prodL M L
  | [], [], _, _, _ => rfl
  | c :: L, d :: M, h, hL, hM => by
    show pl c d :: prodL L M = pl d c :: prodL M L
    rw [pl_comm (hL c List.mem_cons_self) (hM d List.mem_cons_self), prodL_comm (by simpa using h) (fun x hx => hL x (List.mem_cons_of_mem _ hx)) (fun x hx => hM x (List.mem_cons_of_mem _ hx))]
theorem prodP_both : ∀ {L M : List Nat}, L.length = M.length → (∀ c ∈ L, isL c = true) → (∀ c ∈ M, isL c = true) → (prodP L M + prodP M L) % 4 = 0
  | [], [], _, _, _ => rfl
  | c :: L, d :: M, h, hL, hM => by
    have ih := prodP_both (L := L) (M := M) (by simpa using h) (fun x hx => hL x (List.mem_cons_of_mem _ hx)) (fun x hx => hM x (List.mem_cons_of_mem _ hx))
    have := pw_both (hL c List.mem_cons_self) (hM d List.mem_cons_self)
    show (pw c d + prodP L M + (pw d c + prodP M L)) % 4 = 0
    omega
theorem prodL_assoc : ∀ {L M N : List Nat}, L.length = M.length → M.length = N.length → (∀ c ∈ L, isL c = true) → (∀ c ∈ M, isL c = true) → (∀ c ∈ N, isL c = true) → prodL (prodL L M) N = prodL L (prodL M N)
  | [], [], [], _, _, _, _, _ => rfl
  | c :: L, d :: M, e :: N, h, h', hL, hM, hN => by
    show pl (pl c d) e :: prodL (prodL L M) N = pl c (pl d e) :: prodL L (prodL M N)
    rw [pl_assoc (hL c List.mem_cons_self) (hM d List.mem_cons_self) (hN e List.mem_cons_self), prodL_assoc (by simpa using h) (by simpa using h') (fun x hx => hL x (List.mem_cons_of_mem _ hx)) (fun x hx => hM x (List.mem_cons_of_mem _ hx)) (fun x hx => hN x (List.mem_cons_of_mem _ hx))]
theorem prodP_assoc : ∀ {L M N : List Nat}, L.length = M.length → M.length = N.length → (∀ c ∈ L, isL c = true) → (∀ c ∈ M, isL c = true) → (∀ c ∈ N, isL c = true) → (prodP L M + prodP (prodL L M) N) % 4 = (prodP M N + prodP L (prodL M N)) % 4
  | [], [], [], _, _, _, _, _ => rfl
  | c :: L, d :: M, e :: N, h, h', hL, hM, hN => by
    have ih := prodP_assoc (L := L) (M := M) (N := N) (by simpa using h) (by simpa using h') (fun x hx => hL x (List.mem_cons_of_mem _ hx)) (fun x hx => hM x (List.mem_cons_of_mem _ hx)) (fun x hx => hN x (List.mem_cons_of_mem _ hx))
    have := pw_assoc (hL c List.mem_cons_self) (hM d List.mem_cons_self) (hN e List.mem_cons_self)
    show (pw c d + prodP L M + (pw (pl c d) e + prodP (prodL L M) N)) % 4 = (pw d e + prodP M N + (pw c (pl d e) + prodP L (prodL M N))) % 4
    omega
theorem square : ∀ {L : List Nat}, (∀ c ∈ L, isL c = true) → prodL L L = List.replicate L.length 73 ∧ prodP L L = 0
  | [], _ => ⟨rfl, rfl⟩
  | c :: L, h => by
    obtain ⟨h1, h2⟩ := square (L := L) fun x hx => h x (List.mem_cons_of_mem _ hx)
    have hc : pl c c = 73 ∧ pw c c = 0 := by
      rcases isL_iff.mp (h c List.mem_cons_self) with rfl | rfl | rfl | rfl <;> decide
    refine ⟨?_, ?_⟩
    · show pl c c :: prodL L L = 73 :: List.replicate L.length 73
      rw [hc.1, h1]
    · show pw c c + prodP L L = 0
      rw [hc.2, h2]
end KQ

namespace KQ
open PySem PySem.Spec PyProof.Rows L2
/-! ### max of a list of whole numbers -/
theorem ints_are : ∀ {ns : List Int} {us : List Value}, Vals (ns.map V.int) us → IntsAre us ns
  | [], _, .nil => .nil
  | n :: ns, _, .cons r t => by
    obtain ⟨k, rfl⟩ := r
    exact .cons n k (ints_are t)
theorem call_maxInts {X : Cx} (calm : X.calm = true) : CallR X (.builtin "max") (fun xs H Q => ∃ (p : Addr) (ns : List Int), xs = [.ref p] ∧ SqL X.K H p (ns.map V.int) ∧ ns ≠ [] ∧ ∀ M, M ∈ ns → (∀ a ∈ ns, a ≤ M) → Q (.int M) H) := by
  intro pins s σ H xs us Q I r want
  obtain ⟨p, ns, rfl, hs, h0, q⟩ := want
  obtain ⟨its, rv, hl, _⟩ := I.list hs
  rw [Vals.ref1 r]
  have ia := ints_are rv
  obtain ⟨ys, ey⟩ := ia.allInts.items
  have nums : numsOf its.toArray.toList = ns := by rw [show its.toArray.toList = its from rfl, ia.numsOf]
  rw [ey, nums_intItems] at nums
  have hl' := hl.isList
  rw [ey] at hl'
  have hsz : 0 < ys.size := by
    have h1 := congrArg List.length nums
    rw [List.length_map, Array.length_toList] at h1
    have := List.length_pos_iff.mpr h0
    omega
  refine max_intList (I.ok.hd calm) hl' hsz fun v h' tk hv hk => ?_
  obtain ⟨t, rfl⟩ := intItems_at hv
  obtain ⟨h1, h2⟩ := argBest_gt (numAt ys) (ys.size - 1)
  refine ⟨.int _, H, I.kept hk, ⟨t, rfl⟩, q _ ?_ fun a ha => ?_⟩
  · rw [← nums, numAt_eq]
    exact getD_mem (by rw [List.length_map, Array.length_toList]; omega)
  · rw [← nums] at ha
    obtain ⟨j, hj, rfl⟩ := mem_getD ha
    rw [List.length_map, Array.length_toList] at hj
    rw [← numAt_eq]
    exact h2 j (by omega)
end KQ

namespace KQ
open PySem PySem.Spec PyProof.Rows L2
/-! ### the law's own product -/
theorem bits_ge {n m : Nat} (h : n ≤ m) : n < 2 ^ Builtin.Int.intBits (m : Int) := by
  unfold Builtin.Int.intBits
  by_cases z : m = 0
  · subst z
    have : n = 0 := by omega
    subst this
    decide
  · rw [if_neg (by simpa using z), Int.natAbs_natCast]
    exact Nat.lt_of_le_of_lt h Nat.lt_log2_self
theorem pw_II : pw 73 73 = 0 := by decide
theorem no_bits : ∀ {L : List Nat}, (∀ c ∈ L, isL c = true) → bv lx L = 0 → bv lz L = 0 → ∀ M : List Nat, (∀ c ∈ M, isL c = true) → prodP L M = 0
  | [], _, _, _, M, _ => by
    cases M <;> rfl
  | c :: L, hL, h1, h2, [], _ => rfl
  | c :: L, hL, h1, h2, d :: M, hM => by
    have h1' : lx c + 2 * bv lx L = 0 := h1
    have h2' : lz c + 2 * bv lz L = 0 := h2
    have hc : c = 73 := by
      rcases isL_iff.mp (hL c List.mem_cons_self) with rfl | rfl | rfl | rfl
      · rfl
      · have : lx 88 = 1 := by decide
        omega
      · have : lx 89 = 1 := by decide
        omega
      · have : lz 90 = 1 := by decide
        omega
    subst hc
    have ih := no_bits (L := L) (fun x hx => hL x (List.mem_cons_of_mem _ hx)) (by omega) (by omega) M (fun x hx => hM x (List.mem_cons_of_mem _ hx))
    show pw 73 d + prodP L M = 0
    have : pw 73 d = 0 := by unfold pw; rw [if_pos (.inl rfl)]
    omega
theorem prodP_cut : ∀ (K : Nat) {L M : List Nat}, L.length = M.length → (∀ c ∈ L, isL c = true) → (∀ c ∈ M, isL c = true) → bv lx L < 2 ^ K → bv lz L < 2 ^ K → prodP (L.take K) (M.take K) = prodP L M
  | 0, L, M, _, hL, hM, h1, h2 => by
    rw [List.take_zero, List.take_zero, no_bits hL (by simpa using h1) (by simpa using h2) M hM]
    rfl
  | K + 1, [], [], _, _, _, _, _ => rfl
  | K + 1, c :: L, d :: M, h, hL, hM, h1, h2 => by
    have h1' : lx c + 2 * bv lx L < 2 ^ (K + 1) := h1
    have h2' : lz c + 2 * bv lz L < 2 ^ (K + 1) := h2
    rw [Nat.pow_succ] at h1' h2'
    show pw c d + prodP (L.take K) (M.take K) = pw c d + prodP L M
    rw [prodP_cut K (by simpa using h) (fun x hx => hL x (List.mem_cons_of_mem _ hx)) (fun x hx => hM x (List.mem_cons_of_mem _ hx)) (by omega) (by omega)]
/-- the letter at k, I behind the end -/
def letAt (L : List Nat) (k : Nat) : Nat := (L[k]?).getD 73
theorem letAt_isL {L : List Nat} (hL : ∀ c ∈ L, isL c = true) (k : Nat) : isL (letAt L k) = true := by
  unfold letAt
  cases e : L[k]? with
  | none => exact isL_iff.mpr (.inl rfl)
  | some c => exact hL c (List.mem_of_getElem? e)
theorem bit_at {f : Nat → Nat} (hf : ∀ c, f c < 2) (h73 : f 73 = 0) (L : List Nat) (k : Nat) : ((bv f L : Nat) : Int) / 2 ^ ((0 : Int) + (k : Nat)).toNat % 2 = ((f (letAt L k) : Nat) : Int) := by
  unfold letAt
  cases e : L[k]? with
  | some c => exact shr_bit hf e
  | none =>
    have hk : L.length ≤ k := List.getElem?_eq_none_iff.mp e
    have lt : bv f L < 2 ^ k := Nat.lt_of_lt_of_le (bv_lt hf L) (Nat.pow_le_pow_right (by decide) hk)
    rw [Int.zero_add, Int.toNat_natCast]
    show _ = ((f 73 : Nat) : Int)
    rw [h73]
    have z : bv f L / 2 ^ k = 0 := Nat.div_eq_of_lt lt
    have : (((bv f L / 2 ^ k % 2 : Nat)) : Int) = ((0 : Nat) : Int) := by rw [z]
    rw [← this]
    push_cast
    rfl
theorem prodP_step {L M : List Nat} (h : L.length = M.length) (k : Nat) : prodP (L.take (k + 1)) (M.take (k + 1)) = prodP (L.take k) (M.take k) + pw (letAt L k) (letAt M k) := by
  unfold letAt
  by_cases hk : k < L.length
  · have e1 : L.take (k + 1) = L.take k ++ [L[k]] := by
      rw [List.take_succ, List.getElem?_eq_getElem hk]
      rfl
    have e2 : M.take (k + 1) = M.take k ++ [M[k]'(by omega)] := by
      rw [List.take_succ, List.getElem?_eq_getElem (by omega : k < M.length)]
      rfl
    rw [e1, e2, prodP_app (by rw [List.length_take, List.length_take]; omega), List.getElem?_eq_getElem hk, List.getElem?_eq_getElem (by omega : k < M.length)]
    rfl
  · rw [List.take_of_length_le (by omega), List.take_of_length_le (by omega), List.take_of_length_le (by omega), List.take_of_length_le (by omega), List.getElem?_eq_none (by omega), List.getElem?_eq_none (by omega)]
    show _ = _ + pw 73 73
    rw [pw_II]
    rfl
def powT : List (Key × V) := [(.inr "XY", .int 1), (.inr "YZ", .int 1), (.inr "ZX", .int 1), (.inr "YX", .int 3), (.inr "ZY", .int 3), (.inr "XZ", .int 3)]
theorem pow_at {c d : Nat} (hc : isL c = true) (hd : isL d = true) : (valV powT (.inr (mS [c, d]))).getD (.int 0) = .int ((pw c d : Nat) : Int) := by
  rcases isL_iff.mp hc with rfl | rfl | rfl | rfl <;> rcases isL_iff.mp hd with rfl | rfl | rfl | rfl <;> decide +kernel
theorem mPow : mergeK [] powT = powT := by decide +kernel
theorem scLT : FnScope ["_law_one", "_law_two", "_law_x", "_law_z", "_law_power", "_law_k", "_law_first", "_law_second"] ["_law_one", "_law_two"] (defScope sLTimes) := ⟨rfl, rfl, rfl, by decide +kernel, rfl, by decide +kernel, by decide +kernel⟩
def spLT : Sp := fun vs H Q _ => ∃ (t u : Addr) (L M : List Nat), vs = [.ref t, .ref u] ∧ H t = some (.tup [.int (bv lx L : Nat), .int (bv lz L : Nat), .int 0]) ∧ H u = some (.tup [.int (bv lx M : Nat), .int (bv lz M : Nat), .int 0]) ∧ L.length = M.length ∧ L.length ≤ 60 ∧ Lets L ∧ Lets M ∧
  ∀ H' j r, Same H H' → H' j = some (.tup [.int (bv lx (prodL L M) : Nat), .int (bv lz (prodL L M) : Nat)]) → H' r = some (.tup [.ref j, .int ((prodP L M % 4 : Nat) : Int)]) → Q (.ref r) H'
section
variable {P : Program} {w : World} {K : PySem.W.Frag} {mg : Str → Option Value} {base : Heap}
theorem ok_lt {f : Addr} {fd : FuncData} {k : Nat} (F : Fun K "_law_times" "_law_times" sLTimes f fd) (B : Bl mg) (mm : mg "max" = none) : FnOk P w K mg base CX0 (k + 1) f fd ["_law_one", "_law_two"] spLT := by
  refine F.ok scLT (fun vs H Q E h => ?_) (fun cdv A outer s H vs Q E hr h => ?_)
  · obtain ⟨t, u, L, M, rfl, _⟩ := h
    rfl
  · obtain ⟨t, u, L, M, rfl, et, eu, eq, hl, hL, hM, q⟩ := h
    have hu := hu_of hr
    refine ⟨_, C8.pss_cut (ps_par3 (i := 2) (j := 3) (l := 4) rfl scLT.nd rfl rfl rfl (by decide) (by decide) (by decide) rfl rfl rfl (pa_cons (pe_op op_xor (pe_ix ix_tup (pv 0) pe_int (fun _ _ => rfl)) (pe_ix ix_tup (pv 1) pe_int (fun _ _ => rfl))) (pa_cons (pe_op op_xor (pe_ix ix_tup (pv 0) pe_int (fun _ _ => rfl)) (pe_ix ix_tup (pv 1) pe_int (fun _ _ => rfl))) (pa_cons (pe_op op_mul pe_int (pe_op op_add (pe_ix ix_tup (pv 0) pe_int (fun _ _ => rfl)) (pe_ix ix_tup (pv 1) pe_int (fun _ _ => rfl)))) pa_nil))) rfl)
      (C8.pss_cut (ps_for PassesOwn.never rfl (pi_range1 (by rfl) B.range (pa_cons (pe_bits (pe_callB (call_maxInts rfl) (by rfl) mm (by decide +kernel) (pa_cons (pe_lst (pa_cons (pe_ix ix_tup (pv 0) pe_int (fun _ _ => rfl)) (pa_cons (pe_ix ix_tup (pv 0) pe_int (fun _ _ => rfl)) (pa_cons (pe_ix ix_tup (pv 1) pe_int (fun _ _ => rfl)) (pa_cons (pe_ix ix_tup (pv 1) pe_int (fun _ _ => rfl)) (pa_cons pe_int pa_nil)))))) pa_nil))) pa_nil)) (pg_name (i := 5) scLT.nd rfl (.inl rfl))
        (C8.pss_cut (ps_set (i := 6) scLT.nd rfl (.inl rfl) (pe_ix ix_str pe_str (pe_op op_add (pe_op op_mod (pe_callTy call_int1 (by rfl) B.int bootI (pa_cons (pe_op op_shr (pe_ix ix_tup (pv 0) pe_int (fun _ _ => rfl)) (pv 5)) pa_nil)) pe_int) (pe_op op_mul pe_int (pe_op op_mod (pe_callTy call_int1 (by rfl) B.int bootI (pa_cons (pe_op op_shr (pe_ix ix_tup (pv 0) pe_int (fun _ _ => rfl)) (pv 5)) pa_nil)) pe_int))) (fun _ _ => rfl)))
        (C8.pss_cut (ps_set (i := 7) scLT.nd rfl (.inl rfl) (pe_ix ix_str pe_str (pe_op op_add (pe_op op_mod (pe_callTy call_int1 (by rfl) B.int bootI (pa_cons (pe_op op_shr (pe_ix ix_tup (pv 1) pe_int (fun _ _ => rfl)) (pv 5)) pa_nil)) pe_int) (pe_op op_mul pe_int (pe_op op_mod (pe_callTy call_int1 (by rfl) B.int bootI (pa_cons (pe_op op_shr (pe_ix ix_tup (pv 1) pe_int (fun _ _ => rfl)) (pv 5)) pa_nil)) pe_int))) (fun _ _ => rfl)))
        (pss_one (ps_set (i := 4) scLT.nd rfl (.inl rfl) (pe_op op_add (pv 4) (pe_dget2 hu (pe_disp (pps_cons pe_str pe_int (pps_cons pe_str pe_int (pps_cons pe_str pe_int (pps_cons pe_str pe_int (pps_cons pe_str pe_int (pps_cons pe_str pe_int pps_nil)))))) (by rfl) (by rfl) (fun z => by cases z) (by decide)) (pe_op op_add_str (pv 6) (pv 7)) pe_int ⟨by rfl, by rfl, by rfl, by rfl⟩)))))))
      (pss_one (ps_ret (pe_tup (pa_cons (pe_tup (pa_cons (pv 2) (pa_cons (pv 3) pa_nil))) (pa_cons (pe_op op_mod (pe_callTy call_int1 (by rfl) B.int bootI (pa_cons (pv 4) pa_nil)) pe_int) pa_nil)))))), ?_⟩
    have j0 : ∀ a b c : V, atI [a, b, c] 0 = some a := fun _ _ _ => at_of (j := 0) rfl rfl
    have j1 : ∀ a b c : V, atI [a, b, c] 1 = some b := fun _ _ _ => at_of (j := 1) rfl rfl
    have j2 : ∀ a b c : V, atI [a, b, c] 2 = some c := fun _ _ _ => at_of (j := 2) rfl rfl
    have sq : SqT K H t [.int (bv lx L : Nat), .int (bv lz L : Nat), .int 0] := .inl (.inl et)
    have sq' : SqT K H u [.int (bv lx M : Nat), .int (bv lz M : Nat), .int 0] := .inl (.inl eu)
    refine ⟨fun σ' H' => σ' = [some (.ref t), some (.ref u), some (.int (bv lx (prodL L M) : Nat)), some (.int (bv lz (prodL L M) : Nat)), some (.int 0), none, none, none] ∧ H' = H, ?_, ?_⟩
    · refine ⟨_, rfl, t, _, _, _, rfl, rfl, sq, j0 _ _ _, _, rfl, u, _, _, _, rfl, rfl, sq', j0 _ _ _, _, _, rfl, rfl, _, rfl, t, _, _, _, rfl, rfl, sq, j1 _ _ _, _, rfl, u, _, _, _, rfl, rfl, sq', j1 _ _ _, _, _, rfl, rfl, ?_⟩
      refine ⟨_, rfl, t, _, _, _, rfl, rfl, sq, j2 _ _ _, _, rfl, u, _, _, _, rfl, rfl, sq', j2 _ _ _, _, _, rfl, rfl, _, _, rfl, rfl, .inl ⟨by decide, by decide⟩, _, _, _, rfl, ?_, rfl⟩
      show [_, _, some (V.int (Builtin.bitXor ((bv lx L : Nat) : Int) ((bv lx M : Nat) : Int))), some (V.int (Builtin.bitXor ((bv lz L : Nat) : Int) ((bv lz M : Nat) : Int))), some (V.int 0), _, _, _] = _
      rw [bxor, bxor, bv_prod lx_lt lx_pl eq hL hM, bv_prod lz_lt lz_pl eq hL hM]
    rintro _ H1 ⟨rfl, rfl⟩
    refine ⟨fun σ' H' => ∃ s5 s6 s7 : Option V, σ' = [some (.ref t), some (.ref u), some (.int (bv lx (prodL L M) : Nat)), some (.int (bv lz (prodL L M) : Nat)), some (.int ((prodP L M : Nat) : Int)), s5, s6, s7] ∧ Same H1 H', ?_, ?_⟩
    · refine ⟨_, rfl, t, _, _, _, rfl, rfl, sq, j0 _ _ _, _, rfl, t, _, _, _, rfl, rfl, sq, j1 _ _ _, _, rfl, u, _, _, _, rfl, rfl, sq', j0 _ _ _, _, rfl, u, _, _, _, rfl, rfl, sq', j1 _ _ _, by show 5 ≤ sizeLine; decide, fun r nr => ?_⟩
      refine ⟨r, [(bv lx L : Nat), (bv lz L : Nat), (bv lx M : Nat), (bv lz M : Nat), 1], rfl, SqL.of upd_same, by simp, fun Mx hm hle => ?_⟩
      have g1 := hle ((bv lx L : Nat) : Int) (by simp)
      have g2 := hle ((bv lz L : Nat) : Int) (by simp)
      have g5 := hle 1 (by simp)
      obtain ⟨mx, rfl⟩ : ∃ mx : Nat, Mx = (mx : Int) := ⟨Mx.toNat, by omega⟩
      have up : ∀ {f : Nat → Nat}, (∀ c, f c < 2) → ∀ {L : List Nat}, L.length ≤ 60 → bv f L < 2 ^ 60 := fun hf L h => Nat.lt_of_lt_of_le (bv_lt hf L) (Nat.pow_le_pow_right (by decide) h)
      have u1 := up lx_lt hl
      have u2 := up lz_lt hl
      have u3 := up lx_lt (by omega : M.length ≤ 60)
      have u4 := up lz_lt (by omega : M.length ≤ 60)
      have hmx : mx < 2 ^ 61 := by
        simp only [List.mem_cons, List.mem_nil_iff, or_false] at hm
        omega
      have hb : Builtin.Int.intBits (mx : Int) ≤ 61 := by
        unfold Builtin.Int.intBits
        rw [if_neg (by simp; omega), Int.natAbs_natCast]
        exact PySem.Flt.log2_lt_of (by decide) hmx
      have k1 := bits_ge (by omega : bv lx L ≤ mx)
      have k2 := bits_ge (by omega : bv lz L ≤ mx)
      refine ⟨_, rfl, _, rfl, by omega, by omega, for_range (n := Builtin.Int.intBits (mx : Int)) (fun i σ' H' => ∃ s5 s6 s7 : Option V, σ' = [some (.ref t), some (.ref u), some (.int (bv lx (prodL L M) : Nat)), some (.int (bv lz (prodL L M) : Nat)), some (.int ((prodP (L.take i) (M.take i) : Nat) : Int)), s5, s6, s7] ∧ Same H1 H')
        ⟨none, none, none, by rw [List.take_zero, List.take_zero]; rfl, same_new nr⟩ ?_ ?_⟩
      · rintro i _ H2 hi ⟨s5, s6, s7, rfl, s2⟩
        have sqa : SqT K H2 t [.int (bv lx L : Nat), .int (bv lz L : Nat), .int 0] := .inl (.inl (s2 _ _ et))
        have sqb : SqT K H2 u [.int (bv lx M : Nat), .int (bv lz M : Nat), .int 0] := .inl (.inl (s2 _ _ eu))
        refine ⟨fun σ' H' => σ' = [some (.ref t), some (.ref u), some (.int (bv lx (prodL L M) : Nat)), some (.int (bv lz (prodL L M) : Nat)), some (.int ((prodP (L.take i) (M.take i) : Nat) : Int)), some (.int (0 + (i : Nat))), some (.str (mS [letAt L i])), s7] ∧ H' = H2, ?_, ?_⟩
        · refine ⟨_, rfl, t, _, _, _, rfl, rfl, sqa, j0 _ _ _, _, rfl, _, _, rfl, rfl, by show (0 : Int) ≤ 0 + (i : Int); omega, .inl ⟨_, rfl, _, _, rfl, rfl, by show (0 : Int) < 2; decide, ?_⟩⟩
          refine ⟨_, rfl, t, _, _, _, rfl, rfl, sqa, j1 _ _ _, _, rfl, _, _, rfl, rfl, by show (0 : Int) ≤ 0 + (i : Int); omega, .inl ⟨_, rfl, _, _, rfl, rfl, by show (0 : Int) < 2; decide, _, _, rfl, rfl, .inl ⟨by decide, by decide⟩, ?_⟩⟩
          refine ⟨_, _, rfl, rfl, _, _, letAt L i, rfl, rfl, by show (4 : Nat) ≤ sizeLine; decide, ?_, ?_⟩
          · show atI _ (((bv lx L : Nat) : Int) / 2 ^ ((0 : Int) + (i : Nat)).toNat % 2 + 2 * (((bv lz L : Nat) : Int) / 2 ^ ((0 : Int) + (i : Nat)).toNat % 2)) = _
            rw [bit_at lx_lt (by decide) L i, bit_at lz_lt (by decide) L i, e_IXZY]
            have e2 : ((lx (letAt L i) : Nat) : Int) + 2 * ((lz (letAt L i) : Nat) : Int) = ((lx (letAt L i) + 2 * lz (letAt L i) : Nat) : Int) := by omega
            rw [e2]
            exact atI_nat (letter_back (letAt_isL hL i))
          · exact ⟨rfl, rfl⟩
        rintro _ H3 ⟨rfl, rfl⟩
        refine ⟨fun σ' H' => σ' = [some (.ref t), some (.ref u), some (.int (bv lx (prodL L M) : Nat)), some (.int (bv lz (prodL L M) : Nat)), some (.int ((prodP (L.take i) (M.take i) : Nat) : Int)), some (.int (0 + (i : Nat))), some (.str (mS [letAt L i])), some (.str (mS [letAt M i]))] ∧ H' = H3, ?_, ?_⟩
        · refine ⟨_, rfl, u, _, _, _, rfl, rfl, sqb, j0 _ _ _, _, rfl, _, _, rfl, rfl, by show (0 : Int) ≤ 0 + (i : Int); omega, .inl ⟨_, rfl, _, _, rfl, rfl, by show (0 : Int) < 2; decide, ?_⟩⟩
          refine ⟨_, rfl, u, _, _, _, rfl, rfl, sqb, j1 _ _ _, _, rfl, _, _, rfl, rfl, by show (0 : Int) ≤ 0 + (i : Int); omega, .inl ⟨_, rfl, _, _, rfl, rfl, by show (0 : Int) < 2; decide, _, _, rfl, rfl, .inl ⟨by decide, by decide⟩, ?_⟩⟩
          refine ⟨_, _, rfl, rfl, _, _, letAt M i, rfl, rfl, by show (4 : Nat) ≤ sizeLine; decide, ?_, ?_⟩
          · show atI _ (((bv lx M : Nat) : Int) / 2 ^ ((0 : Int) + (i : Nat)).toNat % 2 + 2 * (((bv lz M : Nat) : Int) / 2 ^ ((0 : Int) + (i : Nat)).toNat % 2)) = _
            rw [bit_at lx_lt (by decide) M i, bit_at lz_lt (by decide) M i, e_IXZY]
            have e2 : ((lx (letAt M i) : Nat) : Int) + 2 * ((lz (letAt M i) : Nat) : Int) = ((lx (letAt M i) + 2 * lz (letAt M i) : Nat) : Int) := by omega
            rw [e2]
            exact atI_nat (letter_back (letAt_isL hM i))
          · exact ⟨rfl, rfl⟩
        rintro _ H4 ⟨rfl, rfl⟩
        refine ⟨_, rfl, fun d nd => ⟨upd_same, powT, rfl, by show 6 ≤ 15; decide, d, rfl, .inl ⟨_, .inl upd_same⟩, _, rfl, _, rfl, _, _, rfl, rfl, by show 1 + 1 ≤ sizeLine; decide, _, DGet.k (k := Sum.inr (mS [letAt L i] ++ mS [letAt M i])) upd_same, ?_⟩⟩
        have key : (valV (mergeK [] powT) (Sum.inr (mS [letAt L i] ++ mS [letAt M i]))).getD (V.int 0) = .int ((pw (letAt L i) (letAt M i) : Nat) : Int) := by
          rw [mPow, mS_app]
          exact pow_at (letAt_isL hL i) (letAt_isL hM i)
        show rI0 (fun i j => V.int (i + j)) _ ((valV (mergeK [] powT) (Sum.inr (mS [letAt L i] ++ mS [letAt M i]))).getD (V.int 0)) _ _
        rw [key]
        refine ⟨_, _, rfl, rfl, some (.int (0 + (i : Nat))), some (.str (mS [letAt L i])), some (.str (mS [letAt M i])), ?_, ?_⟩
        · rw [prodP_step eq i]
          have z : ∀ x y : Nat, ((x : Int) + (y : Int)) = ((x + y : Nat) : Int) := fun x y => by omega
          show [_, _, _, _, some (V.int (((prodP (L.take i) (M.take i) : Nat) : Int) + ((pw (letAt L i) (letAt M i) : Nat) : Int))), _, _, _] = _
          rw [z]
        · intro b o e
          have hb : b ≠ d := ne_of_none (s2 _ _ e) nd
          rw [upd_ne hb, upd_ne hb]
          exact s2 _ _ e
      · rintro _ H2 ⟨s5, s6, s7, rfl, s2⟩
        rw [prodP_cut _ eq hL hM k1 k2]
        exact ⟨s5, s6, s7, rfl, s2⟩
    rintro _ H2 ⟨s5, s6, s7, rfl, s2⟩
    refine ⟨_, rfl, _, rfl, by show 2 ≤ sizeLine; decide, fun j nj => ⟨_, rfl, .inl ⟨_, rfl, _, _, rfl, rfl, by show (0 : Int) < 4; decide, by show 2 ≤ sizeLine; decide, fun r nr => ?_⟩⟩⟩
    refine q _ j r ((s2.trans (same_new nj)).trans (same_new nr)) (same_new nr _ _ upd_same) ?_
    rw [upd_same]
    congr 4
end
end KQ

namespace KQ
open PySem PySem.Spec PyProof.Rows L2
theorem scDue : FnScope ["_law_one", "_law_two", "_law_key", "_law_power"] ["_law_one", "_law_two"] (defScope sDue) := ⟨rfl, rfl, rfl, by decide +kernel, rfl, by decide +kernel, by decide +kernel⟩
def spDue : Sp := fun vs H Q _ => ∃ (a b t u : Addr) (L M : List Nat) (p p' : Nat), vs = [.ref a, .ref b] ∧ H a = some (.tup [.ref t, .int (p : Int)]) ∧ H b = some (.tup [.ref u, .int (p' : Int)]) ∧
  H t = some (.tup [.int (bv lx L : Nat), .int (bv lz L : Nat), .int 0]) ∧ H u = some (.tup [.int (bv lx M : Nat), .int (bv lz M : Nat), .int 0]) ∧ L.length = M.length ∧ L.length ≤ 60 ∧ Lets L ∧ Lets M ∧
  ∀ H' j r, Same H H' → H' j = some (.tup [.int (bv lx (prodL L M) : Nat), .int (bv lz (prodL L M) : Nat), .int 0]) → H' r = some (.tup [.ref j, .int (((p + p' + prodP L M) % 4 : Nat) : Int)]) → Q (.ref r) H'
section
variable {P : Program} {w : World} {K : PySem.W.Frag} {mg : Str → Option Value} {base : Heap}
theorem ok_due {f fT : Addr} {fd dT : FuncData} {k : Nat} (F : Fun K "_law_due" "_law_due" sDue f fd) (FT : Fun K "_law_times" "_law_times" sLTimes fT dT) (bT : Binds K dT ["_law_one", "_law_two"] []) (gT : mg "_law_times" = some (.ref fT)) (B : Bl mg) (mm : mg "max" = none) : FnOk P w K mg base CX0 (k + 2) f fd ["_law_one", "_law_two"] spDue := by
  have GT : FnOk P w K mg base CX0 (k + 1) fT dT ["_law_one", "_law_two"] spLT := ok_lt FT B mm
  refine F.ok scDue (fun vs H Q E h => ?_) (fun cdv A outer s H vs Q E hr h => ?_)
  · obtain ⟨a, b, t, u, L, M, p, p', rfl, _⟩ := h
    rfl
  · obtain ⟨a, b, t, u, L, M, p, p', rfl, ea, eb, et, eu, eq, hl, hL, hM, q⟩ := h
    refine ⟨_, C8.pss_cut (ps_asg (pe_call GT hr (by rfl) gT FT.kp bT .nil pass0 (pa_cons (pe_ix ix_tup (pv 0) pe_int (fun _ _ => rfl)) (pa_cons (pe_ix ix_tup (pv 1) pe_int (fun _ _ => rfl)) pa_nil))) (pg_tup rfl (pgs_cons (pg_name (i := 2) scDue.nd rfl (.inl rfl)) (pgs_cons (pg_name (i := 3) scDue.nd rfl (.inl rfl)) pgs_nil))))
      (pss_one (ps_ret (pe_tup (pa_cons (pe_tup (pa_cons (pe_ix ix_tup (pv 2) pe_int (fun _ _ => rfl)) (pa_cons (pe_ix ix_tup (pv 2) pe_int (fun _ _ => rfl)) (pa_cons pe_int pa_nil))))
        (pa_cons (pe_op op_mod (pe_callTy call_int1 (by rfl) B.int bootI (pa_cons (pe_op op_add (pe_op op_add (pv 3) (pe_ix ix_tup (pv 0) pe_int (fun _ _ => rfl))) (pe_ix ix_tup (pv 1) pe_int (fun _ _ => rfl))) pa_nil)) pe_int) pa_nil))))), ?_⟩
    have i0 : ∀ x y : V, atI [x, y] 0 = some x := fun _ _ => at_of (j := 0) rfl rfl
    have i1 : ∀ x y : V, atI [x, y] 1 = some y := fun _ _ => at_of (j := 1) rfl rfl
    refine ⟨fun σ' H' => ∃ j, σ' = [some (.ref a), some (.ref b), some (.ref j), some (.int ((prodP L M % 4 : Nat) : Int))] ∧ Same H H' ∧ H' j = some (.tup [.int (bv lx (prodL L M) : Nat), .int (bv lz (prodL L M) : Nat)]), ?_, ?_⟩
    · refine ⟨_, rfl, a, _, _, _, rfl, rfl, .inl (.inl ea), i0 _ _, _, rfl, b, _, _, _, rfl, rfl, .inl (.inl eb), i0 _ _, t, u, L, M, rfl, et, eu, eq, hl, hL, hM, fun H1 j r s1 ej er => ?_⟩
      exact ⟨r, _, rfl, .inl (.inl er), rfl, _, _, rfl, _, _, rfl, rfl, j, rfl, s1, ej⟩
    rintro _ H1 ⟨j, rfl, s1, ej⟩
    refine ⟨_, rfl, j, _, _, _, rfl, rfl, .inl (.inl ej), i0 _ _, _, rfl, j, _, _, _, rfl, rfl, .inl (.inl ej), i1 _ _, by show 3 ≤ sizeLine; decide, fun y ny => ?_⟩
    have s2 := same_new (o := HO.tup [.int (bv lx (prodL L M) : Nat), .int (bv lz (prodL L M) : Nat), .int 0]) ny
    refine ⟨_, rfl, _, rfl, a, _, _, _, rfl, rfl, .inl (.inl (s2 _ _ (s1 _ _ ea))), i1 _ _, _, _, rfl, rfl, _, rfl, b, _, _, _, rfl, rfl, .inl (.inl (s2 _ _ (s1 _ _ eb))), i1 _ _, _, _, rfl, rfl, .inl ⟨_, rfl, _, _, rfl, rfl, by show (0 : Int) < 4; decide, by show 2 ≤ sizeLine; decide, fun r nr => ?_⟩⟩
    refine q _ y r ((s1.trans s2).trans (same_new nr)) (same_new nr _ _ upd_same) ?_
    rw [upd_same]
    have e : (((prodP L M % 4 : Nat) : Int) + (p : Int) + (p' : Int)) % 4 = (((p + p' + prodP L M) % 4 : Nat) : Int) := by omega
    show some (HO.tup [V.ref y, V.int ((((prodP L M % 4 : Nat) : Int) + (p : Int) + (p' : Int)) % 4)]) = _
    rw [e]
end
end KQ

namespace KQ
open PySem PySem.Spec PyProof.Rows L2
/-! ### text * n, n at least 1 -/
theorem fold_rep (c : Nat) : ∀ (n : Nat) (a : Array Nat), (List.replicate n (#[c] : Array Nat)).foldl (· ++ ·) a = a ++ (List.replicate n c).toArray
  | 0, a => by simp
  | n + 1, a => by
    rw [List.replicate_succ, List.foldl_cons, fold_rep c n, List.replicate_succ]
    apply Array.ext'
    simp
/-- one sign, n times -/
theorem op_mul_sign {X : Cx} : OpR X (binaryOp .Mult) (fun x y H Q => ∃ c n : Nat, x = .str ⟨#[c]⟩ ∧ y = .int (n : Int) ∧ 0 < n ∧ n ≤ 10000 ∧ Q (.str ⟨(List.replicate n c).toArray⟩) H) := by
  intro pins s σ H x y v u Q I rx ry want
  obtain ⟨c, n, rfl, rfl, h0, hn, q⟩ := want
  obtain ⟨t, rfl⟩ := rx
  obtain ⟨t', rfl⟩ := ry
  have n1 : ¬ (n : Int) < 1 := by omega
  have len1 : (⟨#[c]⟩ : Str).length = 1 := rfl
  refine PySem.P.mul_str ?_ (fun _ _ => ?_) (fun _ _ => ?_) ?_
  · rw [decide_eq_false (by omega : ¬ (n : Int) < -(2 ^ 63)), decide_eq_false (by omega : ¬ (n : Int) ≥ 2 ^ 63)]
    rfl
  · rw [len1]
    intro z
    have h1 : (1 : Int) ≤ (2 ^ 63 - 1) / (n : Int) := (Int.le_ediv_iff_mul_le (by omega)).mpr (by omega)
    have z' : (2 ^ 63 - 1) / (n : Int) < 1 := z
    omega
  · rw [len1, Nat.one_mul, Int.toNat_natCast]
    show decide (n > 2 ^ 24) = false
    exact decide_eq_false (by omega)
  · rw [if_neg n1]
    by_cases e : n = 1
    · subst e
      rw [if_pos (show (((1 : Nat) : Int) == 1 || (⟨#[c]⟩ : Str).length == 0) = true from rfl)]
      exact ⟨.str ⟨#[c]⟩, H, I, ⟨t, rfl⟩, q⟩
    · have ne : ((n : Int) == 1 || (⟨#[c]⟩ : Str).length == 0) = false := by
        have h1 : ((n : Int) == 1) = false := beq_eq_false_iff_ne.mpr (by omega)
        rw [h1]
        rfl
      rw [ne]
      rw [if_neg Bool.false_ne_true, Int.toNat_natCast]
      have key : (List.replicate n (⟨#[c]⟩ : Str).cps).foldl (· ++ ·) #[] = (List.replicate n c).toArray := by
        rw [fold_rep]
        simp
      rw [key]
      refine ⟨?_, ⟨.str ⟨(List.replicate n c).toArray⟩, H, I.tok _, ⟨_, rfl⟩, q⟩⟩
      show (List.replicate n c).toArray.size ≤ sizeLine
      rw [List.size_toArray, List.length_replicate]
      exact Nat.le_trans hn (by decide)
end KQ

namespace KQ
open PySem PySem.Spec PyProof.Rows L2
/-! ### lists of things, one by one -/
def AllAt {β : Type} (P : V → β → Prop) : List V → List β → Prop
  | [], [] => True
  | v :: vs, x :: xs => P v x ∧ AllAt P vs xs
  | _, _ => False
theorem AllAt.mono {β : Type} {P P' : V → β → Prop} (h : ∀ v x, P v x → P' v x) : ∀ {vs : List V} {xs : List β}, AllAt P vs xs → AllAt P' vs xs
  | [], [], _ => trivial
  | _ :: _, _ :: _, a => ⟨h _ _ a.1, AllAt.mono h a.2⟩
  | [], _ :: _, a => a
  | _ :: _, [], a => a
theorem AllAt.app {β : Type} {P : V → β → Prop} {v : V} {x : β} (h : P v x) : ∀ {vs : List V} {xs : List β}, AllAt P vs xs → AllAt P (vs ++ [v]) (xs ++ [x])
  | [], [], _ => ⟨h, trivial⟩
  | _ :: _, _ :: _, a => ⟨a.1, AllAt.app h a.2⟩
  | [], _ :: _, a => a.elim
  | _ :: _, [], a => a.elim
theorem AllAt.len {β : Type} {P : V → β → Prop} : ∀ {vs : List V} {xs : List β}, AllAt P vs xs → vs.length = xs.length
  | [], [], _ => rfl
  | _ :: _, _ :: _, a => congrArg (· + 1) (AllAt.len a.2)
  | [], _ :: _, a => a.elim
  | _ :: _, [], a => a.elim
theorem AllAt.get {β : Type} {P : V → β → Prop} : ∀ {vs : List V} {xs : List β}, AllAt P vs xs → ∀ {j : Nat} {v : V}, vs[j]? = some v → ∃ x, xs[j]? = some x ∧ P v x
  | [], [], _, j, v, e => by simp at e
  | a :: _, x :: _, h, 0, v, e => by
    have e' : a = v := by simpa using e
    subst e'
    exact ⟨x, rfl, h.1⟩
  | _ :: _, _ :: _, h, j + 1, v, e => by
    obtain ⟨x, e1, e2⟩ := AllAt.get h.2 (j := j) (v := v) (by simpa using e)
    exact ⟨x, by simpa using e1, e2⟩
  | [], _ :: _, a, _, _, _ => a.elim
  | _ :: _, [], a, _, _, _ => a.elim
theorem AllAt.at {β : Type} {P : V → β → Prop} {vs : List V} {xs : List β} (h : AllAt P vs xs) {j : Nat} {x : β} (e : xs[j]? = some x) : ∃ v, vs[j]? = some v ∧ P v x := by
  have hj : j < vs.length := by
    rw [h.len]
    exact (List.getElem?_eq_some_iff.mp e).1
  obtain ⟨y, e1, e2⟩ := h.get (List.getElem?_eq_getElem hj)
  rw [e] at e1
  cases e1
  exact ⟨_, List.getElem?_eq_getElem hj, e2⟩
/-- tuples and instances are as they were -/
def Fix (o : HO) : Prop := (∃ xs, o = .tup xs) ∨ ∃ C d fs, o = .ins C d fs
def KeepT (H H' : Hp) : Prop := ∀ b o, H b = some o → Fix o → H' b = some o
theorem KeepT.refl (H : Hp) : KeepT H H := fun _ _ e _ => e
theorem KeepT.trans {H H1 H2 : Hp} (a : KeepT H H1) (b : KeepT H1 H2) : KeepT H H2 := fun c o e f => b c o (a c o e f) f
theorem KeepT.same {H H' : Hp} (s : Same H H') : KeepT H H' := fun b o e _ => s b o e
theorem KeepT.pen {H H' : Hp} {p c : Addr} {n : Nat} (h : PenAt H p c n) (k : KeepP p H H') : KeepT H H' := fun b o e f => k b o (pen_off h e (by
  rcases f with ⟨xs, rfl⟩ | ⟨C, d, fs, rfl⟩
  · intro kv z; cases z
  · intro kv z; cases z)) e
theorem KeepT.lst {H : Hp} {D : Addr} {xs : List V} {o : HO} (h : H D = some (.lst xs)) : KeepT H (upd H D o) := fun b u e f => by
  have hb : b ≠ D := by
    rintro rfl
    rw [h] at e
    cases e
    rcases f with ⟨xs, z⟩ | ⟨C, d, fs, z⟩ <;> cases z
  rw [upd_ne hb]
  exact e
/-- a row: a string and a phase -/
def RowAt (H : Hp) (m : Nat) (v : V) (x : List Nat × Nat) : Prop := ∃ r t, v = .ref r ∧ H r = some (.tup [.ref t, .int (x.2 : Nat)]) ∧ H t = some (.tup [.int (bv lx x.1 : Nat), .int (bv lz x.1 : Nat), .int 0]) ∧ x.1.length = m ∧ Lets x.1 ∧ x.2 < 4
theorem RowAt.keep {H H' : Hp} {m : Nat} {v : V} {x : List Nat × Nat} (k : KeepT H H') (h : RowAt H m v x) : RowAt H' m v x := by
  obtain ⟨r, t, rfl, e1, e2, rest⟩ := h
  exact ⟨r, t, rfl, k _ _ e1 (.inl ⟨_, rfl⟩), k _ _ e2 (.inl ⟨_, rfl⟩), rest⟩
def ObjAt (C : Addr) (H : Hp) (v : V) (x : List Nat × Nat) : Prop := ∃ o, v = .ref o ∧ PauliAt C H o x.1 x.2
theorem PauliAt.keepT {C : Addr} {H H' : Hp} {a : Addr} {R : List Nat} {q : Nat} (k : KeepT H H') (h : PauliAt C H a R q) : PauliAt C H' a R q := by
  obtain ⟨dx, fs, e, r⟩ := h
  exact ⟨dx, fs, k _ _ e (.inr ⟨_, _, _, rfl⟩), r⟩
theorem ObjAt.keep {C : Addr} {H H' : Hp} {v : V} {x : List Nat × Nat} (k : KeepT H H') (h : ObjAt C H v x) : ObjAt C H' v x := by
  obtain ⟨o, rfl, p⟩ := h
  exact ⟨o, rfl, p.keepT k⟩
theorem at0 {xs : List V} {i : Nat} {v : V} (h : xs[i]? = some v) : atI xs (0 + (i : Nat)) = some v := by
  rw [Int.zero_add]
  exact atI_nat h
theorem bv_rep {f : Nat → Nat} (h : f 73 = 0) : ∀ n : Nat, bv f (List.replicate n 73) = 0
  | 0 => rfl
  | n + 1 => by
    show f 73 + 2 * bv f (List.replicate n 73) = 0
    rw [h, bv_rep h n]
theorem lets_rep (n : Nat) : Lets (List.replicate n 73) := fun c hc => by
  rw [List.eq_of_mem_replicate hc]
  exact isL_iff.mpr (.inl rfl)
theorem eqv3 (x y z : Str) : PyData.eqv (.list [.str x, .str y, .str z]) (.list [.str x, .str y, .str z]) = true := by
  show ((x == x) && ((y == y) && ((z == z) && true))) = true
  simp
theorem eqvT (x y : Str) : PyData.eqv (.tuple [.str x, .str y]) (.tuple [.str x, .str y]) = true := by
  show ((x == x) && ((y == y) && true)) = true
  simp
theorem ok_mS {L : List Nat} (h : ∀ c ∈ L, c < 1114112) : PyData.strOk (mS L) = true := by
  show (L.toArray).all (fun c => decide (c < 1114112)) = true
  rw [← Array.all_toList, List.all_eq_true]
  intro c hc
  exact decide_eq_true (h c hc)
theorem ok_text' {q : Nat} (hq : q < 4) {L : List Nat} (hL : Lets L) : PyData.strOk (mS (headL q ++ L)) = true := by
  refine ok_mS fun c hc => ?_
  rcases List.mem_append.mp hc with h | h
  · have : ∀ c ∈ headL q, c < 1114112 := by
      match q, hq with
      | 0, _ => decide
      | 1, _ => decide
      | 2, _ => decide
      | 3, _ => decide
    exact this c h
  · have := isL_iff.mp (hL c h)
    omega
theorem shl3 {x y z : Str} (hx : PyData.strOk x = true) (hy : PyData.strOk y = true) (hz : PyData.strOk z = true) : SeqAt.shaped (.list [.str x, .str y, .str z]) = true := by
  simp [SeqAt.shaped, PyData.canLay0, PyData.canLayAll0, PyData.depth, PyData.depthAll, hx, hy, hz]
theorem sht2 : SeqAt.shaped (.tuple [.str ("unlike" : Str), .str ("size" : Str)]) = true := by decide +kernel
theorem three {β : Type} {xs : List β} (h : xs.length = 3) : ∃ a b c, xs = [a, b, c] := by
  match xs, h with
  | [a, b, c], _ => exact ⟨a, b, c, rfl⟩
end KQ

namespace KQ
open PySem PySem.Spec PyProof.Rows L2 LamX
/-! ### the law -/
theorem scLaw : FnScope ["_law_script", "_law_pen_here", "_law_lap", "_law_size", "_law_rows", "_law_string", "_law_phase", "_law_i", "_law_j", "_law_told_here", "_law_whole", "_law_square", "_law_made", "_law_wide", "_law_k", "_law_one"] ["_law_script"] (defScope sLaw) := ⟨rfl, rfl, rfl, by decide +kernel, rfl, by decide +kernel, by decide +kernel⟩
/-- all that the program's top has left -/
structure Top (K : PySem.W.Frag) (w : World) (mg : Str → Option Value) (C CT CU fI fE fB fU fTi fCm hA pA cN cA cM fC fTx fLP fPn fDr fPk fOn fCr fLt fLe fOt fWt fSo fWy fPh fTo fDu : Addr) (dI dE dB dU dTi dCm dC dTx dLP dPn dDr dPk dOn dCr dLt dLe dOt dWt dSo dWy dPh dTo dDu : FuncData) : Prop where
  B : Bl mg
  mz : mg "zip" = none
  mm : mg "max" = none
  T : BT K mg CT fB dB
  U : BU K mg CU fU dU
  N : PCl K mg C fI fE
  hd : Hd4 K mg hA
  Pr : Prods K w mg pA
  V : FiveU K mg CT cN CU cA cM
  FI : Fun K "__init__" "Pauli.__init__" sInit fI dI
  bI : Binds K dI ["self", "text"] []
  FE : Fun K "__eq__" "Pauli.__eq__" sEq fE dE
  bE : Binds K dE ["self", "other"] []
  FTi : Fun K "times" "Pauli.times" sTimes fTi dTi
  bTi : Binds K dTi ["self", "q"] []
  mTi : Meth K C "times" fTi
  FCm : Fun K "commutes" "Pauli.commutes" sCommutes fCm dCm
  bCm : Binds K dCm ["self", "q"] []
  mCm : Meth K C "commutes" fCm
  FC : Fun K "_cut_text" "_cut_text" sCut fC dC
  bC : Binds K dC ["text"] []
  gC : mg "_cut_text" = some (.ref fC)
  FTx : Fun K "pauli_text" "pauli_text" sText fTx dTx
  bTx : Binds K dTx ["p"] []
  gTx : mg "pauli_text" = some (.ref fTx)
  FLP : Fun K "_letter_pairs" "_letter_pairs" sPairs fLP dLP
  bLP : Binds K dLP ["one", "other"] []
  gLP : mg "_letter_pairs" = some (.ref fLP)
  FPn : Fun K "_law_pen" "_law_pen" sPen fPn dPn
  bPn : Binds K dPn ["_law_script"] []
  gPn : mg "_law_pen" = some (.ref fPn)
  FDr : Fun K "_law_draw" "_law_draw" sDraw fDr dDr
  bDr : Binds K dDr ["_law_pen_here", "_law_many"] []
  gDr : mg "_law_draw" = some (.ref fDr)
  FPk : Fun K "_law_pick" "_law_pick" sPick fPk dPk
  bPk : Binds K dPk ["_law_pen_here", "_law_some"] []
  gPk : mg "_law_pick" = some (.ref fPk)
  FOn : Fun K "_law_ones" "_law_ones" sOnes fOn dOn
  bOn : Binds K dOn ["_law_number"] []
  gOn : mg "_law_ones" = some (.ref fOn)
  FCr : Fun K "_law_crosses" "_law_crosses" sCross fCr dCr
  bCr : Binds K dCr ["_law_one", "_law_two"] []
  gCr : mg "_law_crosses" = some (.ref fCr)
  FLt : Fun K "_law_times" "_law_times" sLTimes fLt dLt
  bLt : Binds K dLt ["_law_one", "_law_two"] []
  gLt : mg "_law_times" = some (.ref fLt)
  FLe : Fun K "_law_letters" "_law_letters" sLett fLe dLe
  bLe : Binds K dLe ["_law_string", "_law_size"] []
  gLe : mg "_law_letters" = some (.ref fLe)
  FOt : Fun K "_law_of_text" "_law_of_text" sOfT fOt dOt
  bOt : Binds K dOt ["_law_text"] []
  gOt : mg "_law_of_text" = some (.ref fOt)
  FWt : Fun K "_law_weight" "_law_weight" sWt fWt dWt
  bWt : Binds K dWt ["_law_string"] []
  gWt : mg "_law_weight" = some (.ref fWt)
  FSo : Fun K "_law_some_string" "_law_some_string" sSome fSo dSo
  bSo : Binds K dSo ["_law_pen_here", "_law_size"] []
  gSo : mg "_law_some_string" = some (.ref fSo)
  FWy : Fun K "_law_why" "_law_why" sWhy fWy dWy
  bWy : Binds K dWy ["_law_call"] []
  gWy : mg "_law_why" = some (.ref fWy)
  FPh : Fun K "_law_phased" "_law_phased" sPh fPh dPh
  bPh : Binds K dPh ["_law_string", "_law_phase", "_law_size"] []
  gPh : mg "_law_phased" = some (.ref fPh)
  FTo : Fun K "_law_told" "_law_told" sTold fTo dTo
  bTo : Binds K dTo ["_law_pauli", "_law_string", "_law_phase", "_law_size"] []
  gTo : mg "_law_told" = some (.ref fTo)
  FDu : Fun K "_law_due" "_law_due" sDue fDu dDu
  bDu : Binds K dDu ["_law_one", "_law_two"] []
  gDu : mg "_law_due" = some (.ref fDu)
def spLawT (K : PySem.W.Frag) (P : Addr) : Sp := fun vs H Q _ => ∃ (a : Addr) (ns : List Int), vs = [.ref a] ∧ SqL K H a (ns.map V.int) ∧ ns.length ≤ 63 ∧ H P = some (.tbl #[]) ∧ ∀ H', Q (.bl true) H'
/-- as Fun.ok, the code object told -/
theorem ok_code {P : Program} {w : World} {K : PySem.W.Frag} {mg : Str → Option Value} {base : Heap} {x qual : Str} {st : Stmt} {f c : Addr} {N ps : List Str} {k : Nat} {sp : Sp} {oc : Value} {od an : Option Addr} {osl : Array (Option Value)} {kV doc pm ct : Value}
    (lk : K.lookup f = some ⟨oc, od, .func (PySem.W.fnOf x qual (defArgs st) (defBody st) (defScope st) .none kV doc pm an (.ref c) ct), osl⟩) (hcd : PySem.W.codeIn K (.ref c) qual = true) (S : FnScope N ps (defScope st)) (len : ∀ vs H Q E, sp vs H Q E → vs.length = ps.length)
    (body : ∀ (A : Around) (outer : List Env) (s : Shared) (H : Hp) (vs : List V) (Q : VK) (E : XK), Room k (A.deeper (envOfC qual (defScope st) s.heap.objs.size f (.ref c))) → sp vs H Q E →
      ∃ t, PSs (cxOf CX0 P w K mg base N qual (defScope st) f (.ref c) A outer s H E).nox (defBody st) t ∧ t { nx := fun _ H' => Q .non H', rt := Q } (L2.start N vs) H) :
    FnOk P w K mg base CX0 (k + 1) f (PySem.W.fnOf x qual (defArgs st) (defBody st) (defScope st) .none kV doc pm an (.ref c) ct) ps sp := by
  refine fn_of lk hcd S len fun A outer s H vs Q E hr want => ?_
  obtain ⟨t, fits, rd⟩ := body A outer s H vs Q E hr want
  exact ⟨t, fits.nox, rd⟩
/-! ### beside the pen -/
def Sx (TT : List (Addr × Str)) (p c : Addr) (N : Nat) (H : Hp) : Prop := ∃ n, n ≤ N ∧ PenAt H p c n ∧ Tabs TT H
theorem codeO_ne {c : Addr} {q : Str} : ∀ kv, CodeO c q ≠ .dK kv := by
  intro kv z
  unfold CodeO at z
  cases z
theorem codeO_nl {c : Addr} {q : Str} : ∀ kv, CodeO c q ≠ .lst kv := by
  intro kv z
  unfold CodeO at z
  cases z
theorem tabs_keepP {TT : List (Addr × Str)} {H H' : Hp} {p c : Addr} {n : Nat} (hP : PenAt H p c n) (t : Tabs TT H) (k : KeepP p H H') : Tabs TT H' := by
  intro q hq
  obtain ⟨ps, h1, h2, h3⟩ := t q hq
  refine ⟨ps, k _ _ (pen_off hP h1 (by intro kv z; cases z)) h1, h2, fun pos cv hc => ?_⟩
  obtain ⟨c, e1, e2⟩ := h3 pos cv hc
  exact ⟨c, e1, k _ _ (pen_off hP e2 codeO_ne) e2⟩
theorem tabs_lst {TT : List (Addr × Str)} {H : Hp} {D : Addr} {xs : List V} {o : HO} (t : Tabs TT H) (e : H D = some (.lst xs)) : Tabs TT (upd H D o) := by
  intro q hq
  obtain ⟨ps, h1, h2, h3⟩ := t q hq
  refine ⟨ps, (upd_ne (ne_of h1 e (by intro z; cases z))).trans h1, h2, fun pos cv hc => ?_⟩
  obtain ⟨c, e1, e2⟩ := h3 pos cv hc
  exact ⟨c, e1, (upd_ne (ne_of e2 e (codeO_nl _))).trans e2⟩
theorem pen_ext {H H' : Hp} {p c : Addr} {n : Nat} (h : PenAt H p c n) (x : ExtN H H') : PenAt H' p c n := by
  obtain ⟨ns, a, d, f, e1, e2, r⟩ := h
  exact ⟨ns, a, d, f, x _ _ e1 (fun ps z => by cases z), x _ _ e2 (fun ps z => by cases z), r⟩
theorem Sx.same {TT : List (Addr × Str)} {p c : Addr} {N : Nat} {H H' : Hp} (h : Sx TT p c N H) (s : Same H H') : Sx TT p c N H' := by
  obtain ⟨n, hn, hP, t⟩ := h
  exact ⟨n, hn, pen_sm hP s, Tabs.ext t s⟩
theorem Sx.mono {TT : List (Addr × Str)} {p c : Addr} {N M : Nat} {H : Hp} (h : Sx TT p c N H) (le : N ≤ M) : Sx TT p c M H := by
  obtain ⟨n, hn, r⟩ := h
  exact ⟨n, Nat.le_trans hn le, r⟩
theorem sx_step {TT : List (Addr × Str)} {p c : Addr} {n n' N' : Nat} {H H' : Hp} (hP : PenAt H p c n) (t : Tabs TT H) (hP' : PenAt H' p c n') (k : KeepP p H H') (le : n' ≤ N') : Sx TT p c N' H' := ⟨n', le, hP', tabs_keepP hP t k⟩
theorem Sx.ext {TT : List (Addr × Str)} {p c : Addr} {N : Nat} {H H' : Hp} (h : Sx TT p c N H) (x : ExtN H H') (t : Tabs TT H') : Sx TT p c N H' := by
  obtain ⟨n, hn, hP, _⟩ := h
  exact ⟨n, hn, pen_ext hP x, t⟩
theorem Sx.lst {TT : List (Addr × Str)} {p c : Addr} {N : Nat} {H : Hp} {D : Addr} {xs : List V} {o : HO} (h : Sx TT p c N H) (e : H D = some (.lst xs)) (hc : D ≠ c) : Sx TT p c N (upd H D o) := by
  obtain ⟨n, hn, hP, t⟩ := h
  exact ⟨n, hn, pen_upd hP (pen_off hP e (by intro kv z; cases z)) hc, tabs_lst t e⟩
/-- three rows and their objects -/
def Bun (C : Addr) (TT : List (Addr × Str)) (p c : Addr) (N m : Nat) (ra ma : Addr) (vs os : List V) (Ls : List (List Nat × Nat)) (H : Hp) : Prop :=
  Sx TT p c N H ∧ H ra = some (.lst vs) ∧ AllAt (RowAt H m) vs Ls ∧ H ma = some (.lst os) ∧ AllAt (ObjAt C H) os Ls
section
variable {C : Addr} {TT : List (Addr × Str)} {p c : Addr} {N M m : Nat} {ra ma : Addr} {vs os : List V} {Ls : List (List Nat × Nat)} {H H' : Hp}
theorem Bun.same (h : Bun C TT p c N m ra ma vs os Ls H) (s : Same H H') : Bun C TT p c N m ra ma vs os Ls H' := by
  obtain ⟨x, e1, a1, e2, a2⟩ := h
  exact ⟨x.same s, s _ _ e1, a1.mono fun _ _ h => h.keep (KeepT.same s), s _ _ e2, a2.mono fun _ _ h => h.keep (KeepT.same s)⟩
theorem Bun.ext (h : Bun C TT p c N m ra ma vs os Ls H) (s : ExtN H H') (t : Tabs TT H') : Bun C TT p c N m ra ma vs os Ls H' := by
  obtain ⟨x, e1, a1, e2, a2⟩ := h
  have k : KeepT H H' := fun b o e f => s b o e (by
    rcases f with ⟨xs, rfl⟩ | ⟨C, d, fs, rfl⟩
    · intro kv z; cases z
    · intro kv z; cases z)
  exact ⟨x.ext s t, s _ _ e1 (fun ps z => by cases z), a1.mono fun _ _ h => h.keep k, s _ _ e2 (fun ps z => by cases z), a2.mono fun _ _ h => h.keep k⟩
end
def tx (x : List Nat × Nat) : V := .str (mS (headL x.2 ++ x.1))
theorem take_snoc {β : Type} {xs : List β} {i : Nat} {x : β} (h : xs[i]? = some x) : xs.take (i + 1) = xs.take i ++ [x] := by
  rw [List.take_succ, h]
  rfl
theorem ob_ne {a b : Nat} (h : (a + b) % 4 = 0) {x y : Nat} : decide ((x + y + a) % 4 = (y + x + b) % 4) = decide (a % 2 = 0) := by
  by_cases z : a % 2 = 0
  · rw [decide_eq_true z, decide_eq_true (by omega)]
  · rw [decide_eq_false z, decide_eq_false (by omega)]
section
variable {P : Program} {w : World} {K : PySem.W.Frag} {mg : Str → Option Value} {base : Heap}
theorem ok_law {f c tP C CT CU fI fE fB fU fTi fCm hA pA cN cA cM fC fTx fLP fPn fDr fPk fOn fCr fLt fLe fOt fWt fSo fWy fPh fTo fDu : Addr} {dI dE dB dU dTi dCm dC dTx dLP dPn dDr dPk dOn dCr dLt dLe dOt dWt dSo dWy dPh dTo dDu : FuncData} {oc : Value} {od an : Option Addr} {osl : Array (Option Value)} {kV doc pm ct : Value}
    (lk : K.lookup f = some ⟨oc, od, .func (PySem.W.fnOf "law" "law" (defArgs sLaw) (defBody sLaw) (defScope sLaw) .none kV doc pm an (.ref c) ct), osl⟩) (hcd : PySem.W.codeIn K (.ref c) "law" = true) (TB : TabB base mg c tP)
    (T : Top K w mg C CT CU fI fE fB fU fTi fCm hA pA cN cA cM fC fTx fLP fPn fDr fPk fOn fCr fLt fLe fOt fWt fSo fWy fPh fTo fDu dI dE dB dU dTi dCm dC dTx dLP dPn dDr dPk dOn dCr dLt dLe dOt dWt dSo dWy dPh dTo dDu) : FnOk P w K mg base CX0 9 f (PySem.W.fnOf "law" "law" (defArgs sLaw) (defBody sLaw) (defScope sLaw) .none kV doc pm an (.ref c) ct) ["_law_script"] (spLawT K tP) := by
  have GI : FnOk P w K mg base (L2.CX P w) 4 fI dI ["self", "text"] (spInit C CT) := ok_init T.FI T.N T.FC T.bC T.gC T.T T.hd T.B
  have GE : FnOk P w K mg base CX0 1 fE dE ["self", "other"] (spEqP C) := ok_eq T.FE T.N T.B
  have GTi : FnOk P w K mg base (L2.CX P w) 6 fTi dTi ["self", "q"] (spTimes C CU) := ok_times T.FTi T.N T.U T.mz T.Pr T.FLP T.bLP T.gLP T.FI T.bI T.FC T.bC T.gC T.T T.hd T.B
  have GCm : FnOk P w K mg base (L2.CX P w) 4 fCm dCm ["self", "q"] (spCommutes C CU) := ok_commutes T.FCm T.N T.U T.mz T.Pr T.FLP T.bLP T.gLP
  have GTx : FnOk P w K mg base CX0 1 fTx dTx ["p"] (spText C) := ok_text T.FTx T.N T.hd
  have GPn : FnOk P w K mg base CX0 1 fPn dPn ["_law_script"] (spPen K) := ok_pen T.FPn T.B.int T.B.list
  have GDr : FnOk P w K mg base CX0 1 fDr dDr ["_law_pen_here", "_law_many"] spDraw := ok_draw T.FDr T.B.int T.B.len
  have GPk : FnOk P w K mg base CX0 2 fPk dPk ["_law_pen_here", "_law_some"] (spPick K) := ok_pick T.FPk T.FDr T.bDr T.gDr T.B.int T.B.len
  have GSo : FnOk P w K mg base CX0 3 fSo dSo ["_law_pen_here", "_law_size"] spSome := ok_some T.FSo T.FDr T.bDr T.gDr T.FPk T.bPk T.gPk T.FOt T.bOt T.gOt T.B
  have GPh : FnOk P w K mg base CX0 2 fPh dPh ["_law_string", "_law_phase", "_law_size"] spPh := ok_ph T.FPh T.FLe T.bLe T.gLe T.B
  have GTo : FnOk P w K mg base CX0 3 fTo dTo ["_law_pauli", "_law_string", "_law_phase", "_law_size"] (spTold C) := ok_told T.FTo T.FLe T.bLe T.gLe T.FWt T.bWt T.gWt T.FOn T.bOn T.gOn T.N T.B
  have GCr : FnOk P w K mg base CX0 2 fCr dCr ["_law_one", "_law_two"] spCross := ok_cross T.FCr T.FOn T.bOn T.gOn T.B
  have GDu : FnOk P w K mg base CX0 3 fDu dDu ["_law_one", "_law_two"] spDue := ok_due T.FDu T.FLt T.bLt T.gLt T.B T.mm
  obtain ⟨ocW, odW, kVW, dcW, pmW, anW, cdvW, ctW, oslW, eW, lkW, hcW⟩ := T.FWy.ex
  have bW' := T.bWy
  rw [eW] at bW' lkW
  refine ok_code lk hcd scLaw (fun vs H Q E h => ?_) (fun A outer s H vs Q E hr h => ?_)
  · obtain ⟨a, ns, rfl, _⟩ := h
    rfl
  · obtain ⟨a, ns, rfl, hS, hlen, hTP, q⟩ := h
    have r1 : Room 1 _ := hr.mono (by decide)
    have r2 : Room 2 _ := hr.mono (by decide)
    have r3 : Room 3 _ := hr.mono (by decide)
    have r4 : Room 4 _ := hr.mono (by decide)
    have r5 : Room 5 _ := hr.mono (by decide)
    have r6 : Room 6 _ := hr.mono (by decide)
    have hu : (A.deeper (envOfC "law" (defScope sLaw) s.heap.objs.size f (.ref c))).units + 64 < cLine := hr.units
    let TT : List (Addr × Str) := [(tP, (envOfC "law" (defScope sLaw) s.heap.objs.size f (.ref c)).qual ++ "<lambda>")]
    refine ⟨_, (C8.pss_cut (ps_set (i := 1) scLaw.nd rfl (.inr rfl) (pe_call GPn r1 (by rfl) T.gPn T.FPn.kp T.bPn .nil pass0 (pa_cons (pv 0) pa_nil)))
      (C8.pss_cut (ps_for PassesOwn.never rfl (pi_range1 (by rfl) T.B.range (pa_cons pe_int pa_nil)) (pg_name (i := 2) scLaw.nd rfl (Or.inl rfl))
        (C8.pss_cut (ps_set (i := 3) scLaw.nd rfl (.inr rfl) (pe_op op_add pe_int (pe_call GDr r1 (by rfl) T.gDr T.FDr.kp T.bDr .nil pass0 (pa_cons (pv 1) (pa_cons (pe_call GPk r2 (by rfl) T.gPk T.FPk.kp T.bPk .nil pass0 (pa_cons (pv 1) (pa_cons (pe_lst (pa_cons pe_int (pa_cons pe_int pa_nil))) pa_nil))) pa_nil)))))
        (C8.pss_cut (ps_setLc (i := 4) (own := [("_law_k", 14)]) (g := gName 14) (by rfl) scLaw.nd rfl rfl (sw_true rfl rfl rfl (by decide +kernel)) (pi_range1 (by rfl) T.B.range (pa_cons pe_int pa_nil)) (blkOk_by (own := [("_law_k", 14)]) (N := ["_law_script", "_law_pen_here", "_law_lap", "_law_size", "_law_rows", "_law_string", "_law_phase", "_law_i", "_law_j", "_law_told_here", "_law_whole", "_law_square", "_law_made", "_law_wide", "_law_k", "_law_one"]) (sc := defScope sLaw) (by decide +kernel)) (fun _ _ _ _ _ => pg_name (i := 14) scLaw.nd rfl (Or.inl rfl)) (fun _ _ _ _ _ => pts_nil) (fun _ _ _ _ _ => (pe_tup (pa_cons (pe_call GSo r3 (by rfl) T.gSo T.FSo.kp T.bSo .nil pass0 (pa_cons (pv 1) (pa_cons (pv 3) pa_nil))) (pa_cons (pe_call GDr r1 (by rfl) T.gDr T.FDr.kp T.bDr .nil pass0 (pa_cons (pv 1) (pa_cons pe_int pa_nil))) pa_nil)))))
        (C8.pss_cut (ps_set (i := 12) scLaw.nd rfl (.inr rfl) (pe_lc (own := [("_law_string", 5), ("_law_phase", 6)]) (g := gTup K 2 (gCons (gName 5) (gCons (gName 6) gNil))) (by rfl) scLaw.nd (pi_list (pv 4)) (blkOk_by (own := [("_law_string", 5), ("_law_phase", 6)]) (N := ["_law_script", "_law_pen_here", "_law_lap", "_law_size", "_law_rows", "_law_string", "_law_phase", "_law_i", "_law_j", "_law_told_here", "_law_whole", "_law_square", "_law_made", "_law_wide", "_law_k", "_law_one"]) (sc := defScope sLaw) (by decide +kernel)) (fun _ _ _ _ _ => pg_tup rfl (pgs_cons (pg_name (i := 5) scLaw.nd rfl (Or.inl rfl)) (pgs_cons (pg_name (i := 6) scLaw.nd rfl (Or.inl rfl)) pgs_nil))) (fun _ _ _ _ _ => pts_nil) (fun _ _ _ _ _ => (pe_make T.N.mkf GI r5 (by rfl) T.N.g T.bI .nil passL (pa_cons (pe_call GPh r2 (by rfl) T.gPh T.FPh.kp T.bPh .nil pass0 (pa_cons (pv 5) (pa_cons (pv 6) (pa_cons (pv 3) pa_nil)))) pa_nil)))))
        (C8.pss_cut (ps_for PassesOwn.never rfl (pi_range1 (by rfl) T.B.range (pa_cons pe_int pa_nil)) (pg_name (i := 7) scLaw.nd rfl (Or.inl rfl))
          (pss_one (ps_for PassesOwn.never rfl (pi_range1 (by rfl) T.B.range (pa_cons pe_int pa_nil)) (pg_name (i := 8) scLaw.nd rfl (Or.inl rfl))
            (C8.pss_cut (ps_asg (pe_call GDu r3 (by rfl) T.gDu T.FDu.kp T.bDu .nil pass0 (pa_cons (pe_ix ix_list (pv 4) (pv 7) (fun _ _ => rfl)) (pa_cons (pe_ix ix_list (pv 4) (pv 8) (fun _ _ => rfl)) pa_nil))) (pg_tup rfl (pgs_cons (pg_name (i := 5) scLaw.nd rfl (Or.inl rfl)) (pgs_cons (pg_name (i := 6) scLaw.nd rfl (Or.inl rfl)) pgs_nil))))
            (C8.pss_cut (ps_if (pt_not (pt_val (pe_call GTo r3 (by rfl) T.gTo T.FTo.kp T.bTo .nil pass0 (pa_cons (pe_meth (pe_ix ix_list (pv 12) (pv 7) (fun _ _ => rfl)) T.N.cl T.mTi GTi r6 T.bTi .nil passL (pa_cons (pe_ix ix_list (pv 12) (pv 8) (fun _ _ => rfl)) pa_nil)) (pa_cons (pv 5) (pa_cons (pv 6) (pa_cons (pv 3) pa_nil))))))) (pss_one (ps_ret pe_bl)) pss_nil)
            (C8.pss_cut (ps_set (i := 9) scLaw.nd rfl (.inl rfl) (pe_meth (pe_ix ix_list (pv 12) (pv 7) (fun _ _ => rfl)) T.N.cl T.mCm GCm r4 T.bCm .nil passL (pa_cons (pe_ix ix_list (pv 12) (pv 8) (fun _ _ => rfl)) pa_nil)))
            (C8.pss_cut (ps_if (pw_or (pt_not (pt_val (pe_callB call_isi (by rfl) T.B.isi PyProof.Rows.boot_isinstance (pa_cons (pv 9) (pa_cons (pe_bltn (v := .ty "bool") (by rfl) T.B.bool bootB rfl) pa_nil))))) (pw_or1 (pt_cmpR op_eq (pv 9) (pe_callTy call_bool1 (by rfl) T.B.bool bootB (pa_cons (pe_call GCr r2 (by rfl) T.gCr T.FCr.kp T.bCr .nil pass0 (pa_cons (pe_ix ix_tup (pe_ix ix_list (pv 4) (pv 7) (fun _ _ => rfl)) pe_int (fun _ _ => rfl)) (pa_cons (pe_ix ix_tup (pe_ix ix_list (pv 4) (pv 8) (fun _ _ => rfl)) pe_int (fun _ _ => rfl)) pa_nil))) pa_nil)) (nomark _)))).pt (pss_one (ps_ret pe_bl)) pss_nil)
            (pss_one (ps_if (pt_cmpR op_ne (pv 9) (pe_cmpR (op_own GE r1 T.N.eq T.N.ef T.N.en T.bE pass0) (pe_meth (pe_ix ix_list (pv 12) (pv 7) (fun _ _ => rfl)) T.N.cl T.mTi GTi r6 T.bTi .nil passL (pa_cons (pe_ix ix_list (pv 12) (pv 8) (fun _ _ => rfl)) pa_nil)) (pe_meth (pe_ix ix_list (pv 12) (pv 8) (fun _ _ => rfl)) T.N.cl T.mTi GTi r6 T.bTi .nil passL (pa_cons (pe_ix ix_list (pv 12) (pv 7) (fun _ _ => rfl)) pa_nil)) (nomark _)) (nomark _)) (pss_one (ps_ret pe_bl)) pss_nil)))))))))
        (C8.pss_cut (ps_set (i := 10) scLaw.nd rfl (.inl rfl) (pe_meth (pe_meth (pe_ix ix_list (pv 12) pe_int (fun _ _ => rfl)) T.N.cl T.mTi GTi r6 T.bTi .nil passL (pa_cons (pe_ix ix_list (pv 12) pe_int (fun _ _ => rfl)) pa_nil)) T.N.cl T.mTi GTi r6 T.bTi .nil passL (pa_cons (pe_ix ix_list (pv 12) pe_int (fun _ _ => rfl)) pa_nil)))
        (C8.pss_cut (ps_if (pt_not (pt_cmpR (op_own GE r1 T.N.eq T.N.ef T.N.en T.bE pass0) (pv 10) (pe_meth (pe_ix ix_list (pv 12) pe_int (fun _ _ => rfl)) T.N.cl T.mTi GTi r6 T.bTi .nil passL (pa_cons (pe_meth (pe_ix ix_list (pv 12) pe_int (fun _ _ => rfl)) T.N.cl T.mTi GTi r6 T.bTi .nil passL (pa_cons (pe_ix ix_list (pv 12) pe_int (fun _ _ => rfl)) pa_nil)) pa_nil)) (nomark _))) (pss_one (ps_ret pe_bl)) pss_nil)
        (C8.pss_cut (ps_set (i := 11) scLaw.nd rfl (.inl rfl) (pe_meth (pe_ix ix_list (pv 12) pe_int (fun _ _ => rfl)) T.N.cl T.mTi GTi r6 T.bTi .nil passL (pa_cons (pe_ix ix_list (pv 12) pe_int (fun _ _ => rfl)) pa_nil)))
        (C8.pss_cut (ps_if (pt_not (pt_val (pe_call GTo r3 (by rfl) T.gTo T.FTo.kp T.bTo .nil pass0 (pa_cons (pv 11) (pa_cons (pe_tup (pa_cons pe_int (pa_cons pe_int (pa_cons pe_int pa_nil)))) (pa_cons (pe_op op_mod (pe_callTy call_int1 (by rfl) T.B.int bootI (pa_cons (pe_op op_mul pe_int (pe_ix ix_tup (pe_ix ix_list (pv 4) pe_int (fun _ _ => rfl)) pe_int (fun _ _ => rfl))) pa_nil)) pe_int) (pa_cons (pv 3) pa_nil))))))) (pss_one (ps_ret pe_bl)) pss_nil)
        (C8.pss_cut (ps_if (pt_cmpR (op_neD hu) (pe_lc (own := [("_law_one", 15)]) (g := gName 15) (by rfl) scLaw.nd (pi_list (pv 12)) (blkOk_by (own := [("_law_one", 15)]) (N := ["_law_script", "_law_pen_here", "_law_lap", "_law_size", "_law_rows", "_law_string", "_law_phase", "_law_i", "_law_j", "_law_told_here", "_law_whole", "_law_square", "_law_made", "_law_wide", "_law_k", "_law_one"]) (sc := defScope sLaw) (by decide +kernel)) (fun _ _ _ _ _ => pg_name (i := 15) scLaw.nd rfl (Or.inl rfl)) (fun _ _ _ _ _ => pts_nil) (fun _ _ _ _ _ => (pe_call GTx r1 (by rfl) T.gTx T.FTx.kp T.bTx .nil pass0 (pa_cons (pv 15) pa_nil)))) (pe_lc (own := [("_law_string", 5), ("_law_phase", 6)]) (g := gTup K 2 (gCons (gName 5) (gCons (gName 6) gNil))) (by rfl) scLaw.nd (pi_list (pv 4)) (blkOk_by (own := [("_law_string", 5), ("_law_phase", 6)]) (N := ["_law_script", "_law_pen_here", "_law_lap", "_law_size", "_law_rows", "_law_string", "_law_phase", "_law_i", "_law_j", "_law_told_here", "_law_whole", "_law_square", "_law_made", "_law_wide", "_law_k", "_law_one"]) (sc := defScope sLaw) (by decide +kernel)) (fun _ _ _ _ _ => pg_tup rfl (pgs_cons (pg_name (i := 5) scLaw.nd rfl (Or.inl rfl)) (pgs_cons (pg_name (i := 6) scLaw.nd rfl (Or.inl rfl)) pgs_nil))) (fun _ _ _ _ _ => pts_nil) (fun _ _ _ _ _ => (pe_call GPh r2 (by rfl) T.gPh T.FPh.kp T.bPh .nil pass0 (pa_cons (pv 5) (pa_cons (pv 6) (pa_cons (pv 3) pa_nil)))))) (nomark _)) (pss_one (ps_ret pe_bl)) pss_nil)
        (C8.pss_cut (ps_set (i := 13) scLaw.nd rfl (.inr rfl) (pe_make T.N.mkf GI r5 (by rfl) T.N.g T.bI .nil passL (pa_cons (pe_op op_mul_sign pe_str (pe_op op_add (pe_op op_add (pv 3) pe_int) (pe_call GDr r1 (by rfl) T.gDr T.FDr.kp T.bDr .nil pass0 (pa_cons (pv 1) (pa_cons pe_int pa_nil))))) pa_nil)))
        (C8.pss_cut (ps_if (pt_cmpR (op_neD hu) (pe_lamcall (T := TT) (TT := TTu CU) (Ng := ["_law_call", "_law_found", "e"]) (by rfl) T.gWy T.FWy.kp lkW hcW bW' scWhy rfl (.inl rfl) (why_gives T.V) TB rfl (List.mem_singleton.mpr rfl) (fun p hp _ => by rw [List.mem_singleton.mp hp]; rfl) hr (lamS_by (sc := defScope sLaw) (by decide +kernel)) rfl (fun _ _ _ _ _ => rfl) (fun A2 o2 s2 H2 E2 f2 c2 hr2 => (pe_meth (pe_ix (r := rIxL K) ix_list (pv 12) pe_int (fun _ _ => rfl)) T.N.cl T.mTi GTi hr2 T.bTi .nil (passes_call (takes_of rfl rfl rfl rfl) (fun _ _ _ _ h => h)) (pa_cons (pv 13) pa_nil)))) (pe_tup (pa_cons pe_str (pa_cons pe_str pa_nil))) (nomark _)) (pss_one (ps_ret pe_bl)) pss_nil)
        (pss_one (ps_if (pt_cmpR (op_neD hu) (pe_lamcall (T := TT) (TT := TTu CU) (Ng := ["_law_call", "_law_found", "e"]) (by rfl) T.gWy T.FWy.kp lkW hcW bW' scWhy rfl (.inl rfl) (why_gives T.V) TB rfl (List.mem_singleton.mpr rfl) (fun p hp _ => by rw [List.mem_singleton.mp hp]; rfl) hr (lamS_by (sc := defScope sLaw) (by decide +kernel)) rfl (fun _ _ _ _ _ => rfl) (fun A2 o2 s2 H2 E2 f2 c2 hr2 => (pe_meth (pv 13) T.N.cl T.mCm GCm (hr2.mono (by decide)) T.bCm .nil (passes_call (takes_of rfl rfl rfl rfl) (fun _ _ _ _ h => h)) (pa_cons (pe_ix (r := rIxL K) ix_list (pv 12) pe_int (fun _ _ => rfl)) pa_nil)))) (pe_tup (pa_cons pe_str (pa_cons pe_str pa_nil))) (nomark _)) (pss_one (ps_ret pe_bl)) pss_nil))))))))))))))
      (pss_one (ps_ret pe_bl)))), ?_⟩
    refine ⟨fun σ' H' => ∃ p pc : Addr, σ' = [some (.ref a), some (.ref p), none, none, none, none, none, none, none, none, none, none, none, none, none, none] ∧ Sx TT p pc 0 H', ?_, ?_⟩
    · refine ⟨_, rfl, a, ns, rfl, hS, hlen, fun H' p pc sm np nc hP => ⟨p, pc, rfl, 0, Nat.le_refl _, hP, fun q hq => ?_⟩⟩
      rw [List.mem_singleton.mp hq]
      exact TabS.nil (sm _ _ hTP)
    rintro _ H1 ⟨p, pc, rfl, x1⟩
    clear hTP hS
    refine ⟨fun σ' H' => True, ?_, fun _ H' _ => q H'⟩
    refine ⟨4, rfl, by decide, by decide, for_range (n := 4) (fun i σ' H' => ∃ (s2 s3 s4 s5 s6 s7 s8 s9 s10 s11 s12 s13 s14 s15 : Option V), σ' = [some (.ref a), some (.ref p), s2, s3, s4, s5, s6, s7, s8, s9, s10, s11, s12, s13, s14, s15] ∧ Sx TT p pc (100 * i) H')
        ⟨_, _, _, _, _, _, _, _, _, _, _, _, _, _, rfl, x1⟩ ?_ (fun _ _ _ => trivial)⟩
    rintro i _ H2 hi ⟨s2, s3, s4, s5, s6, s7, s8, s9, s10, s11, s12, s13, s14, s15, rfl, x2⟩
    clear x1
    -- the size
    refine ⟨fun σ' H' => ∃ m : Nat, 1 ≤ m ∧ m ≤ 22 ∧ σ' = [some (.ref a), some (.ref p), some (.int (0 + (i : Nat))), some (.int (m : Int)), s4, s5, s6, s7, s8, s9, s10, s11, s12, s13, s14, s15] ∧ Sx TT p pc (100 * i + 2) H', ?_, ?_⟩
    · obtain ⟨n, hn, hP, tb⟩ := x2
      refine ⟨_, rfl, _, rfl, by show 2 ≤ sizeLine; decide, fun r nr => ⟨p, pc, r, n, _, rfl, pen_sm hP (same_new nr), by omega, .inl (SqL.of upd_same), by simp, by show 2 ≤ 1000; decide, fun j v H3 hj hP3 hk3 => ?_⟩⟩
      obtain ⟨b, rfl, hb⟩ : ∃ b : Int, v = .int b ∧ (b = 3 ∨ b = 22) := by
        have := List.mem_of_getElem? hj
        simp only [List.mem_cons, List.mem_nil_iff, or_false] at this
        rcases this with h | h
        · exact ⟨3, h, .inl rfl⟩
        · exact ⟨22, h, .inr rfl⟩
      refine ⟨p, pc, n + 1, b, rfl, hP3, by omega, by omega, Nat.lt_of_le_of_lt (by omega : b.natAbs ≤ 22) (by decide), fun y H4 y0 y1 hP4 hk4 => ⟨_, _, rfl, rfl, (1 + y).toNat, by omega, by omega, ?_, ?_⟩⟩
      · have e : (((1 + y).toNat : Nat) : Int) = 1 + y := by omega
        rw [e]
        rfl
      · have t3 := tabs_keepP (pen_sm hP (same_new nr)) (Tabs.ext tb (same_new nr)) (KeepP.of_eq hk3)
        exact sx_step hP3 t3 hP4 (KeepP.of_eq hk4) (by omega)
    rintro _ H3 ⟨m, m1, m2, rfl, x3⟩
    clear x2
    -- three rows
    refine ⟨fun σ' H' => ∃ (ra : Addr) (vs : List V) (Ls : List (List Nat × Nat)), Ls.length = 3 ∧ σ' = [some (.ref a), some (.ref p), some (.int (0 + (i : Nat))), some (.int (m : Int)), some (.ref ra), s5, s6, s7, s8, s9, s10, s11, s12, s13, s14, s15] ∧ H' ra = some (.lst vs) ∧ AllAt (RowAt H' m) vs Ls ∧ Sx TT p pc (100 * i + 71) H', ?_, ?_⟩
    · refine ⟨3, rfl, by decide, by decide, fun D nD => ?_⟩
      have hDc : D ≠ pc := by
        obtain ⟨n, hn, hP, tb⟩ := x3
        obtain ⟨_, o, e⟩ := pen_get hP
        exact Ne.symm (ne_of_none e nD)
      refine lc_range (lo := 0) (n := 3) (Pv := fun k Hc => ∃ (vs : List V) (Ls : List (List Nat × Nat)), Ls.length = k ∧ Hc D = some (.lst vs) ∧ vs.length = k ∧ AllAt (RowAt Hc m) vs Ls ∧ Sx TT p pc (100 * i + 2 + 23 * k) Hc)
        ⟨[], [], rfl, upd_same, rfl, trivial, x3.same (same_new nD)⟩ ?_ ?_
      · rintro k Hc hk ⟨vs, Ls, hl, eD, hv, aa, n, hn, hP, tb⟩
        refine ⟨rfl, _, rfl, _, rfl, p, pc, n, m, rfl, hP, by omega, by omega, fun L t H4 lL hL et hP4 k4 => ?_⟩
        refine ⟨_, rfl, p, pc, n + m, 4, rfl, hP4, by omega, by decide, by decide, fun y H5 y0 y1 hP5 hk5 => ⟨by show 2 ≤ sizeLine; decide, fun r nr => ?_⟩⟩
        have hDp : D ≠ p := pen_off hP eD (by intro kv z; cases z)
        have eD5 : H5 D = some (.lst vs) := (hk5 D hDp).trans (k4 _ _ hDp eD)
        have hrD : D ≠ r := ne_of_none eD5 nr
        have eD6 := fun o : HO => (upd_ne (H := H5) (o := o) hrD).trans eD5
        have kt : ∀ o o', KeepT Hc (upd (upd H5 r o) D o') := fun o o' => (((KeepT.pen hP k4).trans (KeepT.pen hP4 (KeepP.of_eq hk5))).trans (KeepT.same (same_new nr))).trans (KeepT.lst (eD6 o))
        have k45 : KeepT H4 H5 := KeepT.pen hP4 (KeepP.of_eq hk5)
        have ey : ((y.toNat : Nat) : Int) = y := by omega
        refine ⟨vs, eD6 _, ?_, vs ++ [.ref r], Ls ++ [(L, y.toNat)], by rw [List.length_append, hl]; rfl, upd_same, by rw [List.length_append, hv]; rfl, ?_, ?_⟩
        · rw [hv]
          exact Nat.lt_of_lt_of_le (by omega : k < 3) (by decide)
        · refine AllAt.app ?_ (aa.mono fun _ _ h => h.keep (kt _ _))
          have e1 : (upd (upd H5 r (.tup [.ref t, .int y])) D (.lst (vs ++ [.ref r]))) r = some (.tup [.ref t, .int y]) := (upd_ne hrD.symm).trans upd_same
          have e2 := k45 _ _ et (.inl ⟨_, rfl⟩)
          have e3 := ((KeepT.same (same_new (o := .tup [.ref t, .int y]) nr)).trans (KeepT.lst (o := .lst (vs ++ [.ref r])) (eD6 _))) _ _ e2 (.inl ⟨_, rfl⟩)
          refine ⟨r, t, rfl, ?_, e3, lL, hL, by show y.toNat < 4; omega⟩
          rw [e1]
          show some (HO.tup [V.ref t, V.int y]) = some (HO.tup [V.ref t, V.int ((y.toNat : Nat) : Int)])
          rw [ey]
        · have x5 : Sx TT p pc (100 * i + 2 + 23 * (k + 1)) H5 := sx_step hP4 (tabs_keepP hP tb k4) hP5 (KeepP.of_eq hk5) (by omega)
          exact (x5.same (same_new nr)).lst (eD6 _) hDc
      · rintro Hc ⟨vs, Ls, hl, eD, hv, aa, x⟩
        exact ⟨D, vs, Ls, hl, rfl, eD, aa, x.mono (by omega)⟩
    rintro _ H4 ⟨ra, vs, Ls, hl3, rfl, eR, aa, x4⟩
    clear x3
    -- their objects
    refine ⟨fun σ' H' => ∃ (ma : Addr) (os : List V), σ' = [some (.ref a), some (.ref p), some (.int (0 + (i : Nat))), some (.int (m : Int)), some (.ref ra), s5, s6, s7, s8, s9, s10, s11, some (.ref ma), s13, s14, s15] ∧ Bun C TT p pc (100 * i + 71) m ra ma vs os Ls H', ?_, ?_⟩
    · refine ⟨_, rfl, ra, rfl, ⟨_, SqL.of eR⟩, fun D nD => ?_⟩
      refine lc_list (K := K) (a := ra) (xs := vs) (Pv := fun k Hc => ∃ os, Hc D = some (.lst os) ∧ AllAt (ObjAt C Hc) os (Ls.take k) ∧ Same H4 Hc ∧ k ≤ 3) ⟨[], upd_same, by rw [List.take_zero]; exact trivial, same_new nD, by decide⟩ (fun k Hc _ ⟨_, _, _, sc, _⟩ => SqL.of (sc _ _ eR)) ?_ ?_
      · rintro k v Hc hk ⟨os, eD, oo, sc, h3⟩
        obtain ⟨x, hx, r, t, rfl, er, et, lx', hL, hq⟩ := aa.get hk
        have hk3 : k < 3 := by
          have := (List.getElem?_eq_some_iff.mp hx).1
          omega
        have h0 : x.1 ≠ [] := fun z => by rw [z] at lx'; simp at lx'; omega
        obtain ⟨u1, u2, u3⟩ := own_read hL h0 hq
        have hh := headL_le hq
        refine ⟨r, _, rfl, .inl (.inl (sc _ _ er)), rfl, _, _, rfl, _, _, rfl, rfl, rfl, ?_⟩
        refine ⟨_, rfl, _, rfl, _, rfl, t, x.1, 0, x.2, by rw [lx']; rfl, hq, sc _ _ et, hL, by omega, fun H10 s10 => ?_⟩
        refine fun x' dx nx nd ne => ⟨x', dx, _, rfl, upd_same, .inl ⟨headL x.2 ++ x.1, rfl, by rw [List.length_append]; omega, .inl ⟨u3, fun H' PX kp => ⟨rfl, ?_⟩⟩⟩⟩
        rw [u1, u2] at PX
        have ms := made_same nx nd kp
        have eD' := (s10.trans ms) _ _ eD
        refine ⟨os, eD', ?_, os ++ [.ref x'], upd_same, ?_, ?_, hk3⟩
        · rw [oo.len, List.length_take]
          exact Nat.lt_of_lt_of_le (by omega : _ < 4) (by decide)
        · rw [take_snoc hx]
          exact AllAt.app ⟨x', rfl, PX.keepT (KeepT.lst eD')⟩ (oo.mono fun _ _ h => h.keep ((KeepT.same (s10.trans ms)).trans (KeepT.lst eD')))
        · intro b o e
          rw [upd_ne (ne_of_none e nD)]
          exact ms _ _ (s10 _ _ (sc _ _ e))
      · rintro Hc ⟨os, eD, oo, sc, _⟩
        rw [List.take_of_length_le (by rw [aa.len]; exact Nat.le_refl _)] at oo
        exact ⟨D, os, rfl, x4.same sc, sc _ _ eR, aa.mono fun _ _ h => h.keep (KeepT.same sc), eD, oo⟩
    rintro _ H5 ⟨ma, os, rfl, bu⟩
    clear x4 eR aa
    -- each with each
    refine ⟨fun σ' H' => ∃ s5 s6 s7 s8 s9 : Option V, σ' = [some (.ref a), some (.ref p), some (.int (0 + (i : Nat))), some (.int (m : Int)), some (.ref ra), s5, s6, s7, s8, s9, s10, s11, some (.ref ma), s13, s14, s15] ∧ Bun C TT p pc (100 * i + 71) m ra ma vs os Ls H', ?_, ?_⟩
    · refine ⟨3, rfl, by decide, by decide, for_range (n := 3) (fun i1 σ' H' => ∃ s5 s6 s7 s8 s9 : Option V, σ' = [some (.ref a), some (.ref p), some (.int (0 + (i : Nat))), some (.int (m : Int)), some (.ref ra), s5, s6, s7, s8, s9, s10, s11, some (.ref ma), s13, s14, s15] ∧ Bun C TT p pc (100 * i + 71) m ra ma vs os Ls H') ⟨_, _, _, _, _, rfl, bu⟩ ?_ (fun _ _ z => z)⟩
      clear bu
      rintro i1 _ H6 hi1 ⟨s5, s6, s7, s8, s9, rfl, bu⟩
      refine ⟨3, rfl, by decide, by decide, for_range (n := 3) (fun j1 σ' H' => ∃ s5 s6 s8 s9 : Option V, σ' = [some (.ref a), some (.ref p), some (.int (0 + (i : Nat))), some (.int (m : Int)), some (.ref ra), s5, s6, some (.int (0 + (i1 : Nat))), s8, s9, s10, s11, some (.ref ma), s13, s14, s15] ∧ Bun C TT p pc (100 * i + 71) m ra ma vs os Ls H') ⟨_, _, _, _, rfl, bu⟩ ?_ (fun _ _ ⟨_, _, _, _, e, b⟩ => ⟨_, _, _, _, _, e, b⟩)⟩
      clear bu
      rintro j1 _ H7 hj1 ⟨s5, s6, s8, s9, rfl, bu⟩
      have ei : Ls[i1]? = some (Ls[i1]'(by omega)) := List.getElem?_eq_getElem (by omega)
      have ej : Ls[j1]? = some (Ls[j1]'(by omega)) := List.getElem?_eq_getElem (by omega)
      generalize Ls[i1]'(by omega) = xi at ei
      generalize Ls[j1]'(by omega) = xj at ej
      obtain ⟨Li, qi⟩ := xi
      obtain ⟨Lj, qj⟩ := xj
      -- the product that is due
      obtain ⟨ux, eR, aa, em, oo⟩ := id bu
      obtain ⟨vi, hvi, ri, ti, rfl, eri, eti, lli, hLi, hqi⟩ := aa.at ei
      obtain ⟨vj, hvj, rj, tj, rfl, erj, etj, llj, hLj, hqj⟩ := aa.at ej
      obtain ⟨wi, hwi, oi, rfl, Pi⟩ := oo.at ei
      obtain ⟨wj, hwj, oj, rfl, Pj⟩ := oo.at ej
      dsimp only at lli llj hLi hLj hqi hqj eri erj eti etj Pi Pj
      have eq : Li.length = Lj.length := by omega
      have h0i : Li ≠ [] := fun z => by rw [z] at lli; simp at lli; omega
      have h0j : Lj ≠ [] := fun z => by rw [z] at llj; simp at llj; omega
      have lp := prodL_len eq
      refine ⟨fun σ' H' => ∃ jj : Addr, σ' = [some (.ref a), some (.ref p), some (.int (0 + (i : Nat))), some (.int (m : Int)), some (.ref ra), some (.ref jj), some (.int (((qi + qj + prodP Li Lj) % 4 : Nat) : Int)), some (.int (0 + (i1 : Nat))), some (.int (0 + (j1 : Nat))), s9, s10, s11, some (.ref ma), s13, s14, s15] ∧ H' jj = some (.tup [.int (bv lx (prodL Li Lj) : Nat), .int (bv lz (prodL Li Lj) : Nat), .int 0]) ∧ Same H7 H', ?_, ?_⟩
      · refine ⟨_, rfl, _, rfl, ra, _, _, .ref ri, rfl, rfl, SqL.of eR, at0 hvi, _, rfl, _, rfl, ra, _, _, .ref rj, rfl, rfl, SqL.of eR, at0 hvj, ri, rj, ti, tj, Li, Lj, qi, qj, rfl, eri, erj, eti, etj, eq, by omega, hLi, hLj, fun H' jj r s1 ej' er' => ?_⟩
        exact ⟨r, _, rfl, .inl (.inl er'), rfl, _, _, rfl, _, _, rfl, rfl, jj, rfl, ej', s1⟩
      rintro _ H8 ⟨jj, rfl, ejj, s8'⟩
      have bu8 := bu.same s8'
      have Pi8 := Pi.keepT (KeepT.same s8')
      have Pj8 := Pj.keepT (KeepT.same s8')
      have em8 := s8' _ _ em
      clear eti etj eri erj Pi Pj em eR aa oo bu ux
      obtain ⟨dxi, fsi, ei8, _, _, _, _, kti, kci⟩ := id Pi8
      obtain ⟨dxj, fsj, ej8, _, _, _, _, ktj, kcj⟩ := id Pj8
      -- it is told so
      refine ⟨fun σ' H' => σ' = [some (.ref a), some (.ref p), some (.int (0 + (i : Nat))), some (.int (m : Int)), some (.ref ra), some (.ref jj), some (.int (((qi + qj + prodP Li Lj) % 4 : Nat) : Int)), some (.int (0 + (i1 : Nat))), some (.int (0 + (j1 : Nat))), s9, s10, s11, some (.ref ma), s13, s14, s15] ∧ Same H8 H', ?_, ?_⟩
      · refine ⟨_, rfl, _, rfl, ma, _, _, .ref oi, rfl, rfl, SqL.of em8, at0 hwi, oi, dxi, fsi, rfl, ei8, kti, _, rfl, _, rfl, ma, _, _, .ref oj, rfl, rfl, SqL.of em8, at0 hwj, oi, oj, Li, Lj, qi, qj, rfl, Pi8, Pj8, h0i, by omega, hLi, hLj, .inl ⟨eq, fun H9 x s9' PX => ?_⟩⟩
        refine ⟨_, rfl, _, rfl, _, rfl, x, jj, prodL Li Lj, 0, (qi + qj + prodP Li Lj) % 4, by rw [lp, lli]; rfl, PX, s9' _ _ ejj, prodL_lets Li Lj, by omega, _, rfl, iteF ⟨rfl, s9'⟩⟩
      rintro _ H9 ⟨rfl, s9'⟩
      have bu9 := bu8.same s9'
      have Pi9 := Pi8.keepT (KeepT.same s9')
      have Pj9 := Pj8.keepT (KeepT.same s9')
      have em9 := s9' _ _ em8
      have ei9 := s9' _ _ ei8
      have ej9 := s9' _ _ ej8
      clear bu8 Pi8 Pj8 em8 ei8 ej8 ejj
      -- whether they commute
      refine ⟨fun σ' H' => σ' = [some (.ref a), some (.ref p), some (.int (0 + (i : Nat))), some (.int (m : Int)), some (.ref ra), some (.ref jj), some (.int (((qi + qj + prodP Li Lj) % 4 : Nat) : Int)), some (.int (0 + (i1 : Nat))), some (.int (0 + (j1 : Nat))), some (.bl (decide (prodP Li Lj % 2 = 0))), s10, s11, some (.ref ma), s13, s14, s15] ∧ Same H9 H', ?_, ?_⟩
      · exact ⟨_, rfl, _, rfl, ma, _, _, .ref oi, rfl, rfl, SqL.of em9, at0 hwi, oi, dxi, fsi, rfl, ei9, kci, _, rfl, _, rfl, ma, _, _, .ref oj, rfl, rfl, SqL.of em9, at0 hwj, oi, oj, Li, Lj, qi, qj, rfl, Pi9, Pj9, by omega, hLi, hLj, .inl ⟨eq, fun H10 s10' => ⟨rfl, s10'⟩⟩⟩
      rintro _ H10 ⟨rfl, s10'⟩
      have bu10 := bu9.same s10'
      have Pi10 := Pi9.keepT (KeepT.same s10')
      have Pj10 := Pj9.keepT (KeepT.same s10')
      have em10 := s10' _ _ em9
      have ei10 := s10' _ _ ei9
      have ej10 := s10' _ _ ej9
      clear bu9 Pi9 Pj9 em9 ei9 ej9
      -- as the law's own sum says
      refine ⟨fun σ' H' => σ' = [some (.ref a), some (.ref p), some (.int (0 + (i : Nat))), some (.int (m : Int)), some (.ref ra), some (.ref jj), some (.int (((qi + qj + prodP Li Lj) % 4 : Nat) : Int)), some (.int (0 + (i1 : Nat))), some (.int (0 + (j1 : Nat))), some (.bl (decide (prodP Li Lj % 2 = 0))), s10, s11, some (.ref ma), s13, s14, s15] ∧ H' = H10, ?_, ?_⟩
      · refine ⟨_, rfl, _, _, _, _, true, rfl, .ty "bool", .base (.bl _), kit_ty (by decide +kernel), _, rfl, iteF ?_⟩
        obtain ⟨ux, eR, aa, em, oo⟩ := id bu10
        obtain ⟨vi, hvi, ri, ti, rfl, eri, eti, _⟩ := aa.at ei
        obtain ⟨vj, hvj, rj, tj, rfl, erj, etj, _⟩ := aa.at ej
        dsimp only at eri erj eti etj
        refine ⟨_, rfl, _, rfl, _, rfl, ra, _, _, .ref ri, rfl, rfl, SqL.of eR, at0 hvi, ri, _, _, .ref ti, rfl, rfl, .inl (.inl eri), at_of (j := 0) rfl rfl, _, rfl, _, rfl, ra, _, _, .ref rj, rfl, rfl, SqL.of eR, at0 hvj, rj, _, _, .ref tj, rfl, rfl, .inl (.inl erj), at_of (j := 0) rfl rfl, ti, tj, Li, Lj, _, _, rfl, eti, etj, eq, by omega, hLi, hLj, .inl ⟨_, rfl, rfl, _, rfl, ?_⟩⟩
        have eb : decide (V.bl (decide (prodP Li Lj % 2 = 0)) = V.bl (((prodP Li Lj % 2 : Nat) : Int) != 0)) = false := by
          refine decide_eq_false fun z => ?_
          have z' := V.bl.inj z
          by_cases y : prodP Li Lj % 2 = 0
          · rw [decide_eq_true y, y] at z'
            exact absurd z' (by decide)
          · rw [decide_eq_false y, show prodP Li Lj % 2 = 1 by omega] at z'
            exact absurd z' (by decide)
        rw [eb]
        exact iteF ⟨rfl, rfl⟩
      rintro _ _ ⟨rfl, rfl⟩
      -- as both products say
      refine ⟨_, rfl, _, rfl, _, rfl, ma, _, _, .ref oi, rfl, rfl, SqL.of em10, at0 hwi, oi, dxi, fsi, rfl, ei10, kti, _, rfl, _, rfl, ma, _, _, .ref oj, rfl, rfl, SqL.of em10, at0 hwj, oi, oj, Li, Lj, qi, qj, rfl, Pi10, Pj10, h0i, by omega, hLi, hLj, .inl ⟨eq, fun H11 x s11 PX => ?_⟩⟩
      refine ⟨_, rfl, _, rfl, ma, _, _, .ref oj, rfl, rfl, SqL.of (s11 _ _ em10), at0 hwj, oj, dxj, fsj, rfl, s11 _ _ ej10, ktj, _, rfl, _, rfl, ma, _, _, .ref oi, rfl, rfl, SqL.of (s11 _ _ em10), at0 hwi, oj, oi, Lj, Li, qj, qi, rfl, Pj10.keepT (KeepT.same s11), Pi10.keepT (KeepT.same s11), h0j, by omega, hLj, hLi, .inl ⟨eq.symm, fun H12 y s12 PY => ?_⟩⟩
      have PX' := PX.keepT (KeepT.same s12)
      obtain ⟨dx, fs, ex, _⟩ := id PX'
      obtain ⟨dy, gs, ey, _⟩ := id PY
      refine ⟨x, dx, fs, rfl, ex, .inl ⟨y, dy, gs, rfl, ey⟩, x, .ref y, _, _, rfl, PX', .inl ⟨y, _, _, rfl, PY, ⟨_, rfl⟩, rfl, _, rfl, ?_⟩⟩
      rw [prodL_comm eq hLi hLj, decide_eq_true (rfl : prodL Lj Li = prodL Lj Li), Bool.true_and, ob_ne (prodP_both eq hLi hLj), decide_eq_true rfl]
      exact iteF ⟨_, _, _, _, rfl, (bu10.same s11).same s12⟩
    clear bu s5 s6 s7 s8 s9
    rintro _ H6 ⟨s5, s6, s7, s8, s9, rfl, bu⟩
    -- three together
    obtain ⟨x0, x1, x2, rfl⟩ := three hl3
    obtain ⟨L0, q0⟩ := x0
    obtain ⟨L1, q1⟩ := x1
    obtain ⟨L2', q2⟩ := x2
    obtain ⟨ux, eR, aa, em, oo⟩ := id bu
    obtain ⟨v0, hv0, rr0, tt0, rfl, er0, et0, ll0, hL0, hq0⟩ := aa.at (j := 0) rfl
    obtain ⟨v1, hv1, rr1, tt1, rfl, er1, et1, ll1, hL1, hq1⟩ := aa.at (j := 1) rfl
    obtain ⟨v2, hv2, rr2, tt2, rfl, er2, et2, ll2, hL2, hq2⟩ := aa.at (j := 2) rfl
    obtain ⟨w0, hw0, o0, rfl, P0⟩ := oo.at (j := 0) rfl
    obtain ⟨w1, hw1, o1, rfl, P1⟩ := oo.at (j := 1) rfl
    obtain ⟨w2, hw2, o2, rfl, P2⟩ := oo.at (j := 2) rfl
    dsimp only at ll0 ll1 ll2 hL0 hL1 hL2 hq0 hq1 hq2 P0 P1 P2 er0 er1 er2 et0 et1 et2
    obtain ⟨dx0, fs0, e0, _, _, _, _, kt0, kc0⟩ := id P0
    obtain ⟨dx1, fs1, e1, _, _, _, _, kt1, kc1⟩ := id P1
    obtain ⟨dx2, fs2, e2, _, _, _, _, kt2, kc2⟩ := id P2
    have q01 : L0.length = L1.length := by omega
    have q12 : L1.length = L2'.length := by omega
    have h0 : L0 ≠ [] := fun z => by rw [z] at ll0; simp at ll0; omega
    have h1 : L1 ≠ [] := fun z => by rw [z] at ll1; simp at ll1; omega
    have p01 := prodL_len q01
    have p12 := prodL_len q12
    have n01 : prodL L0 L1 ≠ [] := fun z => by rw [z] at p01; simp at p01; omega
    refine ⟨fun σ' H' => ∃ wh : Addr, σ' = [some (.ref a), some (.ref p), some (.int (0 + (i : Nat))), some (.int (m : Int)), some (.ref ra), s5, s6, s7, s8, s9, some (.ref wh), s11, some (.ref ma), s13, s14, s15] ∧ Same H6 H' ∧ PauliAt C H' wh (prodL (prodL L0 L1) L2') (((q0 + q1 + prodP L0 L1) % 4 + q2 + prodP (prodL L0 L1) L2') % 4), ?_, ?_⟩
    · refine ⟨_, rfl, ma, _, _, .ref o0, rfl, rfl, SqL.of em, at_of (j := 0) rfl hw0, o0, dx0, fs0, rfl, e0, kt0, _, rfl, ma, _, _, .ref o1, rfl, rfl, SqL.of em, at_of (j := 1) rfl hw1, o0, o1, L0, L1, q0, q1, rfl, P0, P1, h0, by omega, hL0, hL1, .inl ⟨q01, fun H7 x s7' PX => ?_⟩⟩
      obtain ⟨dxx, fsx, ex, _, _, _, _, ktx, _⟩ := id PX
      exact ⟨x, dxx, fsx, rfl, ex, ktx, _, rfl, ma, _, _, .ref o2, rfl, rfl, SqL.of (s7' _ _ em), at_of (j := 2) rfl hw2, x, o2, prodL L0 L1, L2', _, q2, rfl, PX, P2.keepT (KeepT.same s7'), n01, by omega, prodL_lets L0 L1, hL2, .inl ⟨by omega, fun H8 y s8' PY => ⟨y, rfl, s7'.trans s8', PY⟩⟩⟩
    rintro _ H7 ⟨wh, rfl, s7', PW⟩
    have bu7 := bu.same s7'
    have em7 := s7' _ _ em
    have P07 := P0.keepT (KeepT.same s7')
    have P17 := P1.keepT (KeepT.same s7')
    have P27 := P2.keepT (KeepT.same s7')
    have e07 := s7' _ _ e0
    have e17 := s7' _ _ e1
    clear bu P0 P1 P2 e0 e1 e2 em ux eR aa oo er0 er1 er2 et0 et1 et2
    -- the same with the other brackets
    refine ⟨fun σ' H' => σ' = [some (.ref a), some (.ref p), some (.int (0 + (i : Nat))), some (.int (m : Int)), some (.ref ra), s5, s6, s7, s8, s9, some (.ref wh), s11, some (.ref ma), s13, s14, s15] ∧ Same H7 H', ?_, ?_⟩
    · refine ⟨_, rfl, _, rfl, ma, _, _, .ref o0, rfl, rfl, SqL.of em7, at_of (j := 0) rfl hw0, o0, dx0, fs0, rfl, e07, kt0, _, rfl, ma, _, _, .ref o1, rfl, rfl, SqL.of em7, at_of (j := 1) rfl hw1, o1, dx1, fs1, rfl, e17, kt1, _, rfl, ma, _, _, .ref o2, rfl, rfl, SqL.of em7, at_of (j := 2) rfl hw2, o1, o2, L1, L2', q1, q2, rfl, P17, P27, h1, by omega, hL1, hL2, .inl ⟨q12, fun H8 y s8' PY => ?_⟩⟩
      refine ⟨o0, y, L0, prodL L1 L2', q0, _, rfl, P07.keepT (KeepT.same s8'), PY, h0, by omega, hL0, prodL_lets L1 L2', .inl ⟨by omega, fun H9 z s9' PZ => ?_⟩⟩
      have PW' := PW.keepT (KeepT.same (s8'.trans s9'))
      obtain ⟨dw, gw, ew, _⟩ := id PW'
      obtain ⟨dz, gz, ez, _⟩ := id PZ
      refine ⟨wh, dw, gw, rfl, ew, .inl ⟨z, dz, gz, rfl, ez⟩, wh, .ref z, _, _, rfl, PW', .inl ⟨z, _, _, rfl, PZ, ⟨_, rfl⟩, _, rfl, ?_⟩⟩
      have ea := prodP_assoc q01 q12 hL0 hL1 hL2
      have ew : ((q0 + q1 + prodP L0 L1) % 4 + q2 + prodP (prodL L0 L1) L2') % 4 = (q0 + (q1 + q2 + prodP L1 L2') % 4 + prodP L0 (prodL L1 L2')) % 4 := by omega
      rw [prodL_assoc q01 q12 hL0 hL1 hL2, decide_eq_true rfl, decide_eq_true ew]
      exact iteF ⟨rfl, s8'.trans s9'⟩
    rintro _ H8 ⟨rfl, s8'⟩
    have bu8 := bu7.same s8'
    have em8 := s8' _ _ em7
    have P08 := P07.keepT (KeepT.same s8')
    have e08 := s8' _ _ e07
    clear bu7 P07 P17 P27 e07 e17 em7 PW
    -- the square
    refine ⟨fun σ' H' => ∃ sq : Addr, σ' = [some (.ref a), some (.ref p), some (.int (0 + (i : Nat))), some (.int (m : Int)), some (.ref ra), s5, s6, s7, s8, s9, some (.ref wh), some (.ref sq), some (.ref ma), s13, s14, s15] ∧ Same H8 H' ∧ PauliAt C H' sq (List.replicate m 73) ((q0 + q0) % 4), ?_, ?_⟩
    · refine ⟨_, rfl, ma, _, _, .ref o0, rfl, rfl, SqL.of em8, at_of (j := 0) rfl hw0, o0, dx0, fs0, rfl, e08, kt0, _, rfl, ma, _, _, .ref o0, rfl, rfl, SqL.of em8, at_of (j := 0) rfl hw0, o0, o0, L0, L0, q0, q0, rfl, P08, P08, h0, by omega, hL0, hL0, .inl ⟨rfl, fun H9 x s9' PX => ?_⟩⟩
      rw [(square hL0).1, (square hL0).2, ll0] at PX
      exact ⟨x, rfl, s9', PX⟩
    rintro _ H9 ⟨sq, rfl, s9', PS⟩
    have bu9 := bu8.same s9'
    clear bu8 em8 P08 e08
    refine ⟨fun σ' H' => σ' = [some (.ref a), some (.ref p), some (.int (0 + (i : Nat))), some (.int (m : Int)), some (.ref ra), s5, s6, s7, s8, s9, some (.ref wh), some (.ref sq), some (.ref ma), s13, s14, s15] ∧ Same H9 H', ?_, ?_⟩
    · obtain ⟨ux, eR, aa, em, oo⟩ := id bu9
      obtain ⟨v0', hv0', r0', t0', rfl, er0, et0, _⟩ := aa.at (j := 0) rfl
      dsimp only at er0 et0
      refine ⟨_, rfl, by show 3 ≤ sizeLine; decide, fun y ny => ?_⟩
      have sy := same_new (o := HO.tup [V.int 0, V.int 0, V.int 0]) ny
      refine ⟨_, rfl, ra, _, _, .ref r0', rfl, rfl, SqL.of (sy _ _ eR), at_of (j := 0) rfl hv0', r0', _, _, .int (q0 : Nat), rfl, rfl, .inl (.inl (sy _ _ er0)), at_of (j := 1) rfl rfl, _, _, rfl, rfl, .inl ⟨by decide, by decide⟩, .inl ⟨_, rfl, _, _, rfl, rfl, by show (0 : Int) < 4; decide, _, rfl, ?_⟩⟩
      refine ⟨sq, y, List.replicate m 73, 0, (q0 + q0) % 4, ?_, PS.keepT (KeepT.same sy), ?_, lets_rep m, by rw [List.length_replicate]; omega, _, rfl, iteF ⟨rfl, sy⟩⟩
      · have z : (2 * (q0 : Int)) % 4 = (((q0 + q0) % 4 : Nat) : Int) := by omega
        rw [List.length_replicate]
        show [V.ref sq, V.ref y, V.int ((2 * (q0 : Int)) % 4), V.int (m : Int)] = _
        rw [z]
      · rw [bv_rep (f := lx) (by decide), bv_rep (f := lz) (by decide)]
        exact upd_same
    rintro _ H10 ⟨rfl, s10'⟩
    have bu10 := bu9.same s10'
    clear bu9 PS
    -- the texts
    refine ⟨fun σ' H' => σ' = [some (.ref a), some (.ref p), some (.int (0 + (i : Nat))), some (.int (m : Int)), some (.ref ra), s5, s6, s7, s8, s9, some (.ref wh), some (.ref sq), some (.ref ma), s13, s14, s15] ∧ Same H10 H', ?_, ?_⟩
    · obtain ⟨ux, eR, aa, em, oo⟩ := id bu10
      refine ⟨_, rfl, ma, rfl, ⟨_, SqL.of em⟩, fun D nD => ?_⟩
      refine lc_list (K := K) (a := ma) (xs := os) (Pv := fun k Hc => Hc D = some (.lst (([(L0, q0), (L1, q1), (L2', q2)].take k).map tx)) ∧ Same H10 Hc) ⟨upd_same, same_new nD⟩ (fun k Hc _ ⟨_, sc⟩ => SqL.of (sc _ _ em)) ?_ ?_
      · rintro k v Hc hk ⟨eD, sc⟩
        obtain ⟨x, hx, o, rfl, PX⟩ := oo.get hk
        obtain ⟨v', _, _, _, _, _, _, lx', hL, hq⟩ := aa.at hx
        have hk3 : k < 3 := (List.getElem?_eq_some_iff.mp hx).1
        refine ⟨rfl, _, rfl, o, x.1, x.2, rfl, PX.keepT (KeepT.same sc), hq, by omega, _, eD, ?_, ?_, ?_⟩
        · rw [List.length_map, List.length_take]
          exact Nat.lt_of_lt_of_le (by omega : _ < 4) (by decide)
        · rw [upd_same, take_snoc hx, List.map_append]
          rfl
        · intro b o e
          rw [upd_ne (ne_of_none e nD)]
          exact sc _ _ e
      · rintro Hc ⟨eD, sc⟩
        have lv : vs.length = 3 := aa.len
        have lo : os.length = 3 := oo.len
        rw [lo] at eD
        refine ⟨_, rfl, ra, rfl, ⟨_, SqL.of (sc _ _ eR)⟩, fun D' nD' => ?_⟩
        refine lc_list (K := K) (a := ra) (xs := vs) (Pv := fun k Hd => Hd D' = some (.lst (([(L0, q0), (L1, q1), (L2', q2)].take k).map tx)) ∧ Same Hc Hd) ⟨upd_same, same_new nD'⟩ (fun k Hd _ ⟨_, sd⟩ => SqL.of (sd _ _ (sc _ _ eR))) ?_ ?_
        · rintro k v Hd hk ⟨eD', sd⟩
          obtain ⟨x, hx, r, t, rfl, er, et, lx', hL, hq⟩ := aa.get hk
          have hk3 : k < 3 := (List.getElem?_eq_some_iff.mp hx).1
          refine ⟨r, _, rfl, .inl (.inl (sd _ _ (sc _ _ er))), rfl, _, _, rfl, _, _, rfl, rfl, rfl, ?_⟩
          refine ⟨_, rfl, _, rfl, _, rfl, t, x.1, 0, x.2, by rw [lx']; rfl, hq, sd _ _ (sc _ _ et), hL, by omega, fun H10 s10 => ?_⟩
          refine ⟨_, s10 _ _ eD', ?_, ?_, ?_⟩
          · rw [List.length_map, List.length_take]
            exact Nat.lt_of_lt_of_le (by omega : _ < 4) (by decide)
          · rw [upd_same, take_snoc hx, List.map_append]
            rfl
          · intro b o e
            rw [upd_ne (ne_of_none e nD')]
            exact s10 _ _ (sd _ _ e)
        · rintro Hd ⟨eD', sd⟩
          rw [lv] at eD'
          have k0 := ok_text' hq0 hL0
          have k1 := ok_text' hq1 hL1
          have k2 := ok_text' hq2 hL2
          refine ⟨_, _, .lst (SqL.of (sd _ _ eD)) (.cons (.str _) (.cons (.str _) (.cons (.str _) .nil))), .lst (SqL.of eD') (.cons (.str _) (.cons (.str _) (.cons (.str _) .nil))), shl3 k0 k1 k2, shl3 k0 k1 k2, _, rfl, ?_⟩
          rw [eqv3]
          exact iteF ⟨rfl, sc.trans sd⟩
    rintro _ H11 ⟨rfl, s11'⟩
    have bu11 := bu10.same s11'
    clear bu10
    -- a longer one
    refine ⟨fun σ' H' => ∃ (wd : Addr) (n : Nat), n ≠ m ∧ n ≤ 40 ∧ n ≠ 0 ∧ σ' = [some (.ref a), some (.ref p), some (.int (0 + (i : Nat))), some (.int (m : Int)), some (.ref ra), s5, s6, s7, s8, s9, some (.ref wh), some (.ref sq), some (.ref ma), some (.ref wd), s14, s15] ∧ PauliAt C H' wd (List.replicate n 73) 0 ∧ Bun C TT p pc (100 * i + 72) m ra ma vs os [(L0, q0), (L1, q1), (L2', q2)] H', ?_, ?_⟩
    · obtain ⟨⟨n, hn, hP, tb⟩, eR, aa, em, oo⟩ := id bu11
      refine ⟨_, rfl, _, _, rfl, rfl, _, rfl, p, pc, n, 2, rfl, hP, by omega, by decide, by decide, fun y H12 y0 y1 hP12 hk12 => ⟨_, _, rfl, rfl, 73, m + 1 + y.toNat, by rw [e_I], ?_, by omega, by omega, ?_⟩⟩
      · have e : (m : Int) + 1 + y = ((m + 1 + y.toNat : Nat) : Int) := by omega
        show V.int ((m : Int) + 1 + y) = _
        rw [e]
      have hn0 : List.replicate (m + 1 + y.toNat) 73 ≠ [] := fun z => by
        have := congrArg List.length z
        rw [List.length_replicate] at this
        simp at this
      obtain ⟨u1, u2, u3⟩ := own_read (lets_rep (m + 1 + y.toNat)) hn0 (by decide : 0 < 4)
      refine fun x dx nx nd ne => ⟨x, dx, _, rfl, upd_same, .inl ⟨List.replicate (m + 1 + y.toNat) 73, rfl, by rw [List.length_replicate]; omega, .inl ⟨u3, fun H' PX kp => ⟨rfl, ?_⟩⟩⟩⟩
      have u1' : rest (List.replicate (m + 1 + y.toNat) 73) = List.replicate (m + 1 + y.toNat) 73 := u1
      have u2' : ph (List.replicate (m + 1 + y.toNat) 73) = 0 := u2
      rw [u1', u2'] at PX
      have ms := made_same nx nd kp
      have x12 : Sx TT p pc (100 * i + 72) H12 := sx_step hP tb hP12 (KeepP.of_eq hk12) (by omega)
      have kt12 : KeepT H11 H12 := KeepT.pen hP (KeepP.of_eq hk12)
      have b12 : Bun C TT p pc (100 * i + 72) m ra ma vs os [(L0, q0), (L1, q1), (L2', q2)] H12 := ⟨x12, (hk12 _ (pen_off hP eR (by intro kv z; cases z))).trans eR, aa.mono fun _ _ h => h.keep kt12, (hk12 _ (pen_off hP em (by intro kv z; cases z))).trans em, oo.mono fun _ _ h => h.keep kt12⟩
      exact ⟨x, m + 1 + y.toNat, by omega, by omega, by omega, rfl, PX, b12.same ms⟩
    rintro _ H12 ⟨wd, n, nm, n40, n0, rfl, PD, bu12⟩
    clear bu11
    have hnr : List.replicate n 73 ≠ [] := fun z => by
      have := congrArg List.length z
      rw [List.length_replicate] at this
      exact n0 this
    have hnl : L0.length ≠ (List.replicate n 73).length := by rw [List.length_replicate]; omega
    -- refused, times
    refine ⟨fun σ' H' => σ' = [some (.ref a), some (.ref p), some (.int (0 + (i : Nat))), some (.int (m : Int)), some (.ref ra), s5, s6, s7, s8, s9, some (.ref wh), some (.ref sq), some (.ref ma), some (.ref wd), s14, s15] ∧ PauliAt C H' wd (List.replicate n 73) 0 ∧ Bun C TT p pc (100 * i + 72) m ra ma vs os [(L0, q0), (L1, q1), (L2', q2)] H', ?_, ?_⟩
    · obtain ⟨⟨nn, hn, hP, tb⟩, _⟩ := id bu12
      refine ⟨tb, fun H1 x1 tb1 pz npz => ?_⟩
      have bz := (bu12.ext x1 tb1).same (same_new (o := HO.tup [V.str "none"]) npz)
      have kz : KeepT H12 (upd H1 pz (.tup [.str "none"])) := KeepT.trans (fun b o e f => x1 b o e (by
        rcases f with ⟨xs, rfl⟩ | ⟨C, d, fs, rfl⟩
        · intro kv z; cases z
        · intro kv z; cases z)) (KeepT.same (same_new npz))
      obtain ⟨ux, eR, aa, em, oo⟩ := id bz
      obtain ⟨w0', hw0', o0', rfl, P0⟩ := oo.at (j := 0) rfl
      dsimp only at P0
      obtain ⟨dx0', fs0', e0', _, _, _, _, kt0', kc0'⟩ := id P0
      refine ⟨_, rfl, ma, _, _, .ref o0', rfl, rfl, SqL.of em, at_of (j := 0) rfl hw0', o0', dx0', fs0', rfl, e0', kt0', _, rfl, o0', wd, L0, List.replicate n 73, q0, 0, rfl, P0, PD.keepT kz, h0, by omega, hL0, lets_rep n, .inr ⟨hnl, fun d H2 s2' ed => ⟨d, .str "size", rfl, rfl, ed, fun pp npp => ?_⟩⟩⟩
      refine ⟨by show 2 ≤ sizeLine; decide, fun r nr => ⟨_, _, .tup (.inl (.inl (same_new nr _ _ upd_same))) (.cons (.str _) (.cons (.str _) .nil)), .tup (.inl (.inl upd_same)) (.cons (.str _) (.cons (.str _) .nil)), sht2, sht2, _, rfl, ?_⟩⟩
      rw [eqvT]
      have sz := (s2'.trans (same_new (o := HO.tup [V.str "unlike", V.str "size"]) npp)).trans (same_new (o := HO.tup [V.str "unlike", V.str "size"]) nr)
      exact iteF ⟨rfl, (PD.keepT kz).keepT (KeepT.same sz), bz.same sz⟩
    clear bu12 PD
    rintro _ H13 ⟨rfl, PD, bu13⟩
    -- refused, commutes
    · obtain ⟨⟨nn, hn, hP, tb⟩, _⟩ := id bu13
      refine ⟨tb, fun H1 x1 tb1 pz npz => ?_⟩
      have bz := (bu13.ext x1 tb1).same (same_new (o := HO.tup [V.str "none"]) npz)
      have kz : KeepT H13 (upd H1 pz (.tup [.str "none"])) := KeepT.trans (fun b o e f => x1 b o e (by
        rcases f with ⟨xs, rfl⟩ | ⟨C, d, fs, rfl⟩
        · intro kv z; cases z
        · intro kv z; cases z)) (KeepT.same (same_new npz))
      obtain ⟨ux, eR, aa, em, oo⟩ := id bz
      obtain ⟨w0', hw0', o0', rfl, P0⟩ := oo.at (j := 0) rfl
      dsimp only at P0
      have PDz := PD.keepT kz
      obtain ⟨dx0', fs0', e0', _, _, _, _, kt0', kc0'⟩ := id PDz
      refine ⟨_, rfl, wd, dx0', fs0', rfl, e0', kc0', _, rfl, ma, _, _, .ref o0', rfl, rfl, SqL.of em, at_of (j := 0) rfl hw0', wd, o0', List.replicate n 73, L0, 0, q0, rfl, PDz, P0, by rw [List.length_replicate]; omega, lets_rep n, hL0, .inr ⟨hnl.symm, fun d H2 s2' ed => ⟨d, .str "size", rfl, rfl, ed, fun pp npp => ?_⟩⟩⟩
      refine ⟨by show 2 ≤ sizeLine; decide, fun r nr => ⟨_, _, .tup (.inl (.inl (same_new nr _ _ upd_same))) (.cons (.str _) (.cons (.str _) .nil)), .tup (.inl (.inl upd_same)) (.cons (.str _) (.cons (.str _) .nil)), sht2, sht2, _, rfl, ?_⟩⟩
      rw [eqvT]
      have sz := (s2'.trans (same_new (o := HO.tup [V.str "unlike", V.str "size"]) npp)).trans (same_new (o := HO.tup [V.str "unlike", V.str "size"]) nr)
      exact iteF ⟨_, _, _, _, _, _, _, _, _, _, _, _, _, _, rfl, ((bz.same sz).1).mono (by omega)⟩
end
end KQ

namespace KQ
open PySem PySem.Spec PyProof.Rows L2 LamX

/-! ### what the top has written -/
/-- an own exception class straight over the class at cK, which is straight over ValueError -/
structure KC (K : PySem.W.Frag) (cK C : Addr) : Prop where
  l : ∃ nm q N bs sn sub ab col dd k0 k1 k2 k3 k5, K.lookup C = some (excClassObj nm q C N bs [.ref cK, .type "ValueError", .type "Exception", .type "BaseException", .type "object"] true sn sub ab col dd k0 k1 k2 k3 k5 "ValueError.__new__")
  sa : PySem.W.findIn K (Value.ref C) "__setattr__" = some (some (.builtin "object.__setattr__"))
  ty : PySem.W.typeIn K (.ref C) = some (.type "type")
  kp : PySem.W.keepIn K (Value.ref C) = true
  hg : PySem.W.findIn K (.ref C) "__getattribute__" = some (some (.builtin "BaseException.__getattribute__"))
  hk : PySem.W.findIn K (.ref C) "__getattr__" = some none
  ha : PySem.W.findIn K (Value.ref C) "__class__" = some (some (.builtin "object.__class__"))
theorem KC.of {K : PySem.W.Frag} {cK C N : Addr} {nm q : Str} {bs : List Value} {sn : List Str} {sub : List Value} {ab : Bool} {col : Option Bool} {dd : Option Addr} {k0 k1 k2 k3 k5 : Option Value}
    (l : K.lookup C = some (excClassObj nm q C N bs [.ref cK, .type "ValueError", .type "Exception", .type "BaseException", .type "object"] true sn sub ab col dd k0 k1 k2 k3 k5 "ValueError.__new__"))
    (sa : PySem.W.findIn K (.ref C) "__setattr__" = some (some (.builtin "object.__setattr__"))) (ty : PySem.W.typeIn K (.ref C) = some (.type "type")) (kp : PySem.W.keepIn K (.ref C) = true)
    (hg : PySem.W.findIn K (.ref C) "__getattribute__" = some (some (.builtin "BaseException.__getattribute__"))) (hk : PySem.W.findIn K (.ref C) "__getattr__" = some none)
    (ha : PySem.W.findIn K (.ref C) "__class__" = some (some (.builtin "object.__class__"))) : KC K cK C := ⟨⟨_, _, _, _, _, _, _, _, _, _, _, _, _, _, l⟩, sa, ty, kp, hg, hk, ha⟩
theorem fun_ex {K : PySem.W.Frag} {x qual : Str} {st : Stmt} {f : Addr} {oc : Value} {od an : Option Addr} {osl : Array (Option Value)} {kV doc pm cdv ct : Value} (l : K.lookup f = some ⟨oc, od, .func (PySem.W.fnOf x qual (defArgs st) (defBody st) (defScope st) .none kV doc pm an cdv ct), osl⟩)
    (c : PySem.W.codeIn K cdv qual = true) (k : PySem.W.keepIn K (.ref f) = true) : ∃ d, Fun K x qual st f d := ⟨_, L2.fun_mk l c k⟩
theorem KC.cls {K : PySem.W.Frag} {cK C : Addr} (h : KC K cK C) : ∃ cd, PySem.W.clsIn K C = some cd ∧ cd.mro = [.ref C, .ref cK, .type "ValueError", .type "Exception", .type "BaseException", .type "object"] ∧ cd.hasDict = true := by
  obtain ⟨nm, q, N, bs, sn, sub, ab, col, dd, k0, k1, k2, k3, k5, hl⟩ := h.l
  refine ⟨_, by unfold PySem.W.clsIn; rw [hl] <;> rfl, rfl, rfl⟩
theorem KC.mro {K : PySem.W.Frag} {cK C : Addr} (h : KC K cK C) (b : Value) : PySem.W.mroIn K C b = some ([Value.ref C, .ref cK, .type "ValueError", .type "Exception", .type "BaseException", .type "object"].contains b) := by
  obtain ⟨cd, e, m, _⟩ := h.cls
  unfold PySem.W.mroIn
  rw [e, Option.bind_some, m]
  rfl
theorem KC.exC {K : PySem.W.Frag} {cK C : Addr} (h : KC K cK C) : PySem.W.subIn K (.ref C) (.type "BaseException") = some true := by
  show PySem.W.mroIn K C _ = _
  rw [h.mro]
  rfl
theorem KC.ox {K : PySem.W.Frag} {cK C : Addr} (h : KC K cK C) : OexC K C := by
  obtain ⟨nm, q, N, bs, sn, sub, ab, col, dd, k0, k1, k2, k3, k5, hl⟩ := h.l
  exact ⟨⟨nm, q, N, bs, _, sn, sub, ab, col, dd, k0, k1, k2, k3, k5, hl, rfl⟩, h.sa, h.exC, h.ty, h.kp⟩

theorem KC.hd {K : PySem.W.Frag} {cK C : Addr} (h : KC K cK C) : PySem.W.hasDictIn K C = true := by
  obtain ⟨cd, e, _, d⟩ := h.cls
  show (PySem.W.clsIn K C).any _ = true
  rw [e]
  exact d
theorem KC.xf {K : PySem.W.Frag} {cK C : Addr} (h : KC K cK C) : XfC K C := ⟨h.hg, h.hk, h.exC, h.hd⟩
theorem KC.ex {K : PySem.W.Frag} {cK C : Addr} (h : KC K cK C) : PySem.W.exmOne K (.ref C) (.ref C) = some true := by
  refine PySem.W.exm_ref h.exC h.hd h.ty ?_
  show PySem.W.mroIn K C _ = _
  rw [h.mro, List.contains_cons, beq_self_eq_true, Bool.true_or]


theorem hd_ex {K : PySem.W.Frag} {A : Addr} {t0 t1 t2 t3 : Tok} {n : Nat} {sl : Array (Option Value)} (l : K.lookup A = some ⟨.type "tuple", none, .seq #[.str "" t0, .str "i" t1, .str "-" t2, .str "-i" t3] n, sl⟩) : ∃ t0 t1 t2 t3 n sl, K.lookup A = some ⟨.type "tuple", none, .seq #[.str "" t0, .str "i" t1, .str "-" t2, .str "-i" t3] n, sl⟩ := ⟨_, _, _, _, _, _, l⟩

theorem prod_one {K : PySem.W.Frag} {w : World} {A q : Addr} {es : Array DictEntry} {n m : Nat} {x y : Str} {i : Int} {c d : Nat} {t0 t1 : Tok} {sl : Array (Option Value)} (hl : K.lookup A = some ⟨.type "dict", none, .dict es n, #[]⟩) (hk : PySem.W.KeysLit w.params es.toList)
    (hx : x = mS [c, d]) (e : PySem.W.nsIn K A x = some (some (.ref q))) (hy : y = mS [pl c d]) (hi : i = ((pw c d : Nat) : Int)) (l : K.lookup q = some ⟨.type "tuple", none, .seq #[.str y t0, .int i t1] m, sl⟩) :
    ∃ q, KDct K w A (mS [c, d]) (.ref q) ∧ ∀ H, SqT K H q [.str (mS [pl c d]), .int (pw c d : Nat)] := by
  subst hx hy hi
  exact ⟨q, ⟨es, n, _, hl, hk, e, rfl⟩, fun H => .inr ⟨_, _, m, l, rfl, rfl, by show 2 ≤ sizeLine; decide, .cons ⟨t0, rfl⟩ (.cons ⟨t1, rfl⟩ .nil)⟩⟩

theorem all_mk {l : PySem.W.OpenLaw} {w : World} {K : PySem.W.Frag} {h : Heap} {mg : Str → Option Value} {fa : Addr} {CX : CXT} (eCX : CX = CX0) (X : K.In h) (G : h.Ns mainGlobals mg) (hfa : mg "law" = some (.ref fa)) {ts : List Addr} (hTs : ∀ R ∈ ts, h.get? R = some (PySem.W.tabObj #[]))
    {cK C CT fI fE fB fU fTi fCm hA pA cN cU cA cM fC fTx fLP fPn fDr fPk fOn fCr fLt fLe fOt fWt fSo fWy fPh fTo fDu fLa c tP : Addr} {es : Array DictEntry} {pn : Nat} {qII qIX qIY qIZ qXI qXX qXY qXZ qYI qYX qYY qYZ qZI qZX qZY qZZ : Addr} {tII uII tIX uIX tIY uIY tIZ uIZ tXI uXI tXX uXX tXY uXY tXZ uXZ tYI uYI tYX uYX tYY uYY tYZ uYZ tZI uZI tZX uZX tZY uZY tZZ uZZ : Tok} {nII nIX nIY nIZ nXI nXX nXY nXZ nYI nYX nYY nYZ nZI nZX nZY nZZ : Nat} {sII sIX sIY sIZ sXI sXX sXY sXZ sYI sYX sYY sYZ sZI sZX sZY sZZ : Array (Option Value)} {oc ec kV doc pm ct : Value} {od an dc : Option Addr} {osl sc : Array (Option Value)} {vc : Array Value}
    (aK : PySem.W.nsIn K mainGlobals "KeptError" = some (some (.ref cK)))
    (aT : PySem.W.nsIn K mainGlobals "BadText" = some (some (.ref CT)))
    (aP : PySem.W.nsIn K mainGlobals "Pauli" = some (some (.ref C)))
    (aH : PySem.W.nsIn K mainGlobals "HEADS" = some (some (.ref hA)))
    (aN : PySem.W.nsIn K mainGlobals "BadNumber" = some (some (.ref cN)))
    (aU : PySem.W.nsIn K mainGlobals "Unlike" = some (some (.ref cU)))
    (aA : PySem.W.nsIn K mainGlobals "Anticommute" = some (some (.ref cA)))
    (aM : PySem.W.nsIn K mainGlobals "MinusOne" = some (some (.ref cM)))
    (kc : KC K cK CT)
    (kcU : KC K cK cU)
    (icT : PySem.W.findIn K (.ref CT) "__init__" = some (some (.ref fB)))
    (tiT : PySem.W.typeIn K (.ref fB) = some (.type "function"))
    (nt0 : PySem.W.findIn K (.ref CT) "line" = some none)
    (nt1 : PySem.W.findIn K (.ref CT) "column" = some none)
    (nu0 : PySem.W.findIn K (.ref cU) "line" = some none)
    (nu1 : PySem.W.findIn K (.ref cU) "column" = some none)
    (nu2 : PySem.W.findIn K (.ref cU) "what" = some none)
    (nu3 : PySem.W.findIn K (.ref cU) "number" = some none)
    (nu4 : PySem.W.findIn K (.ref cU) "one" = some none)
    (nu5 : PySem.W.findIn K (.ref cU) "other" = some none)
    (nu6 : PySem.W.findIn K (.ref cU) "indices" = some none)
    (icU : PySem.W.findIn K (.ref cU) "__init__" = some (some (.ref fU)))
    (tiU : PySem.W.typeIn K (.ref fU) = some (.type "function"))
    (FU : ∃ d, Fun K "__init__" "Unlike.__init__" sInitU fU d)
    (exT : PySem.W.exmOne K (.ref cU) (.ref CT) = some false)
    (exN : PySem.W.exmOne K (.ref cU) (.ref cN) = some false)
    (FB : ∃ d, Fun K "__init__" "BadText.__init__" sInitT fB d)
    (pgP : PySem.W.plainGet K C Str.empty = true)
    (hdi : PySem.W.hasDictIn K C = true)
    (po : PySem.W.plainOver K C = true)
    (saP : PySem.W.findIn K (.ref C) "__setattr__" = some (some (.builtin "object.__setattr__")))
    (np0 : PySem.W.findIn K (.ref C) "letters" = some none)
    (np1 : PySem.W.findIn K (.ref C) "phase" = some none)
    (np2 : PySem.W.findIn K (.ref C) "size" = some none)
    (np3 : PySem.W.findIn K (.ref C) "weight" = some none)
    (mkC : PySem.W.makesIn K C = true)
    (icP : PySem.W.findIn K (.ref C) "__init__" = some (some (.ref fI)))
    (ifP : PySem.W.isFn K (.ref fI) = true)
    (kpP : PySem.W.keepIn K (.ref C) = true)
    (haP : PySem.W.findIn K (.ref C) "__class__" = some (some (.builtin "object.__class__")))
    (hnP : PySem.W.specialIn K (.builtin "object.__class__") "__get__" = some (some (.builtin "getset_descriptor.__get__")))
    (htP : PySem.W.takesIn K (.builtin "object.__class__") = some true)
    (hmP : PySem.W.mroIn K C (.type "object") = some true)
    (kCP : PySem.W.kitOne K (.ref C) (.ref C) = some true)
    (kSP : PySem.W.kitOne K (.type "str") (.ref C) = some false)
    (eqP : PySem.W.findIn K (.ref C) "__eq__" = some (some (.ref fE)))
    (efP : PySem.W.isFn K (.ref fE) = true)
    (enP : PySem.W.notFirst K C (.type "str") = true)
    (hl : ∃ t0 t1 t2 t3 n sl, K.lookup hA = some ⟨.type "tuple", none, .seq #[.str "" t0, .str "i" t1, .str "-" t2, .str "-i" t3] n, sl⟩)
    (FI : ∃ d, Fun K "__init__" "Pauli.__init__" sInit fI d)
    (tiP : PySem.W.findIn K (.ref C) "times" = some (some (.ref fTi)))
    (tfP : PySem.W.isFn K (.ref fTi) = true)
    (tkP : PySem.W.keepIn K (.ref fTi) = true)
    (FTi : ∃ d, Fun K "times" "Pauli.times" sTimes fTi d)
    (cmP : PySem.W.findIn K (.ref C) "commutes" = some (some (.ref fCm)))
    (cfP : PySem.W.isFn K (.ref fCm) = true)
    (ckP : PySem.W.keepIn K (.ref fCm) = true)
    (FCm : ∃ d, Fun K "commutes" "Pauli.commutes" sCommutes fCm d)
    (aPr : PySem.W.nsIn K mainGlobals "PRODUCTS" = some (some (.ref pA)))
    (pl : K.lookup pA = some ⟨.type "dict", none, .dict es pn, #[]⟩)
    (pk : PySem.W.KeysLit w.params es.toList)
    (paII : PySem.W.nsIn K pA "II" = some (some (.ref qII)))
    (ptII : K.lookup qII = some ⟨.type "tuple", none, .seq #[.str "I" tII, .int 0 uII] nII, sII⟩)
    (paIX : PySem.W.nsIn K pA "IX" = some (some (.ref qIX)))
    (ptIX : K.lookup qIX = some ⟨.type "tuple", none, .seq #[.str "X" tIX, .int 0 uIX] nIX, sIX⟩)
    (paIY : PySem.W.nsIn K pA "IY" = some (some (.ref qIY)))
    (ptIY : K.lookup qIY = some ⟨.type "tuple", none, .seq #[.str "Y" tIY, .int 0 uIY] nIY, sIY⟩)
    (paIZ : PySem.W.nsIn K pA "IZ" = some (some (.ref qIZ)))
    (ptIZ : K.lookup qIZ = some ⟨.type "tuple", none, .seq #[.str "Z" tIZ, .int 0 uIZ] nIZ, sIZ⟩)
    (paXI : PySem.W.nsIn K pA "XI" = some (some (.ref qXI)))
    (ptXI : K.lookup qXI = some ⟨.type "tuple", none, .seq #[.str "X" tXI, .int 0 uXI] nXI, sXI⟩)
    (paXX : PySem.W.nsIn K pA "XX" = some (some (.ref qXX)))
    (ptXX : K.lookup qXX = some ⟨.type "tuple", none, .seq #[.str "I" tXX, .int 0 uXX] nXX, sXX⟩)
    (paXY : PySem.W.nsIn K pA "XY" = some (some (.ref qXY)))
    (ptXY : K.lookup qXY = some ⟨.type "tuple", none, .seq #[.str "Z" tXY, .int 1 uXY] nXY, sXY⟩)
    (paXZ : PySem.W.nsIn K pA "XZ" = some (some (.ref qXZ)))
    (ptXZ : K.lookup qXZ = some ⟨.type "tuple", none, .seq #[.str "Y" tXZ, .int 3 uXZ] nXZ, sXZ⟩)
    (paYI : PySem.W.nsIn K pA "YI" = some (some (.ref qYI)))
    (ptYI : K.lookup qYI = some ⟨.type "tuple", none, .seq #[.str "Y" tYI, .int 0 uYI] nYI, sYI⟩)
    (paYX : PySem.W.nsIn K pA "YX" = some (some (.ref qYX)))
    (ptYX : K.lookup qYX = some ⟨.type "tuple", none, .seq #[.str "Z" tYX, .int 3 uYX] nYX, sYX⟩)
    (paYY : PySem.W.nsIn K pA "YY" = some (some (.ref qYY)))
    (ptYY : K.lookup qYY = some ⟨.type "tuple", none, .seq #[.str "I" tYY, .int 0 uYY] nYY, sYY⟩)
    (paYZ : PySem.W.nsIn K pA "YZ" = some (some (.ref qYZ)))
    (ptYZ : K.lookup qYZ = some ⟨.type "tuple", none, .seq #[.str "X" tYZ, .int 1 uYZ] nYZ, sYZ⟩)
    (paZI : PySem.W.nsIn K pA "ZI" = some (some (.ref qZI)))
    (ptZI : K.lookup qZI = some ⟨.type "tuple", none, .seq #[.str "Z" tZI, .int 0 uZI] nZI, sZI⟩)
    (paZX : PySem.W.nsIn K pA "ZX" = some (some (.ref qZX)))
    (ptZX : K.lookup qZX = some ⟨.type "tuple", none, .seq #[.str "Y" tZX, .int 1 uZX] nZX, sZX⟩)
    (paZY : PySem.W.nsIn K pA "ZY" = some (some (.ref qZY)))
    (ptZY : K.lookup qZY = some ⟨.type "tuple", none, .seq #[.str "X" tZY, .int 3 uZY] nZY, sZY⟩)
    (paZZ : PySem.W.nsIn K pA "ZZ" = some (some (.ref qZZ)))
    (ptZZ : K.lookup qZZ = some ⟨.type "tuple", none, .seq #[.str "I" tZZ, .int 0 uZZ] nZZ, sZZ⟩)
    (FE : ∃ d, Fun K "__eq__" "Pauli.__eq__" sEq fE d)
    (gC : PySem.W.nsIn K mainGlobals "_cut_text" = some (some (.ref fC)))
    (FC : ∃ d, Fun K "_cut_text" "_cut_text" sCut fC d)
    (gTx : PySem.W.nsIn K mainGlobals "pauli_text" = some (some (.ref fTx)))
    (FTx : ∃ d, Fun K "pauli_text" "pauli_text" sText fTx d)
    (gLP : PySem.W.nsIn K mainGlobals "_letter_pairs" = some (some (.ref fLP)))
    (FLP : ∃ d, Fun K "_letter_pairs" "_letter_pairs" sPairs fLP d)
    (gPn : PySem.W.nsIn K mainGlobals "_law_pen" = some (some (.ref fPn)))
    (FPn : ∃ d, Fun K "_law_pen" "_law_pen" sPen fPn d)
    (gDr : PySem.W.nsIn K mainGlobals "_law_draw" = some (some (.ref fDr)))
    (FDr : ∃ d, Fun K "_law_draw" "_law_draw" sDraw fDr d)
    (gPk : PySem.W.nsIn K mainGlobals "_law_pick" = some (some (.ref fPk)))
    (FPk : ∃ d, Fun K "_law_pick" "_law_pick" sPick fPk d)
    (gOn : PySem.W.nsIn K mainGlobals "_law_ones" = some (some (.ref fOn)))
    (FOn : ∃ d, Fun K "_law_ones" "_law_ones" sOnes fOn d)
    (gCr : PySem.W.nsIn K mainGlobals "_law_crosses" = some (some (.ref fCr)))
    (FCr : ∃ d, Fun K "_law_crosses" "_law_crosses" sCross fCr d)
    (gLt : PySem.W.nsIn K mainGlobals "_law_times" = some (some (.ref fLt)))
    (FLt : ∃ d, Fun K "_law_times" "_law_times" sLTimes fLt d)
    (gLe : PySem.W.nsIn K mainGlobals "_law_letters" = some (some (.ref fLe)))
    (FLe : ∃ d, Fun K "_law_letters" "_law_letters" sLett fLe d)
    (gOt : PySem.W.nsIn K mainGlobals "_law_of_text" = some (some (.ref fOt)))
    (FOt : ∃ d, Fun K "_law_of_text" "_law_of_text" sOfT fOt d)
    (gWt : PySem.W.nsIn K mainGlobals "_law_weight" = some (some (.ref fWt)))
    (FWt : ∃ d, Fun K "_law_weight" "_law_weight" sWt fWt d)
    (gSo : PySem.W.nsIn K mainGlobals "_law_some_string" = some (some (.ref fSo)))
    (FSo : ∃ d, Fun K "_law_some_string" "_law_some_string" sSome fSo d)
    (gWy : PySem.W.nsIn K mainGlobals "_law_why" = some (some (.ref fWy)))
    (FWy : ∃ d, Fun K "_law_why" "_law_why" sWhy fWy d)
    (gPh : PySem.W.nsIn K mainGlobals "_law_phased" = some (some (.ref fPh)))
    (FPh : ∃ d, Fun K "_law_phased" "_law_phased" sPh fPh d)
    (gTo : PySem.W.nsIn K mainGlobals "_law_told" = some (some (.ref fTo)))
    (FTo : ∃ d, Fun K "_law_told" "_law_told" sTold fTo d)
    (gDu : PySem.W.nsIn K mainGlobals "_law_due" = some (some (.ref fDu)))
    (FDu : ∃ d, Fun K "_law_due" "_law_due" sDue fDu d)
    (z_isinstance : PySem.W.nsIn K mainGlobals "isinstance" = some none)
    (z_int : PySem.W.nsIn K mainGlobals "int" = some none)
    (z_bool : PySem.W.nsIn K mainGlobals "bool" = some none)
    (z_str : PySem.W.nsIn K mainGlobals "str" = some none)
    (z_len : PySem.W.nsIn K mainGlobals "len" = some none)
    (z_range : PySem.W.nsIn K mainGlobals "range" = some none)
    (z_list : PySem.W.nsIn K mainGlobals "list" = some none)
    (z_zip : PySem.W.nsIn K mainGlobals "zip" = some none)
    (z_max : PySem.W.nsIn K mainGlobals "max" = some none)
    (gLa : PySem.W.nsIn K mainGlobals "law" = some (some (.ref fLa)))
    (lk : K.lookup fLa = some ⟨oc, od, .func (PySem.W.fnOf "law" "law" (defArgs sLaw) (defBody sLaw) (defScope sLaw) .none kV doc pm an (.ref c) ct), osl⟩)
    (hcd : PySem.W.codeIn K (.ref c) "law" = true)
    (lc : K.lookup c = some ⟨ec, dc, .fields vc, sc⟩)
    (h11 : vc[11]? = some (.ref tP))
    (nP : K.lookup tP = none)
    (hb : PySem.W.codeHdIn K c tP = true)
    (mem : tP ∈ ts) :
    LawAtS l w K CX 9 63 "_law_script" mg fa h := by
  subst eCX
  have e := hfa.symm.trans (PySem.W.mg_of X G gLa)
  cases e
  obtain ⟨dB, FB⟩ := FB
  have bB := FB.binds (ps := ["self", "line", "column"]) fun _ _ _ _ _ _ us hl => match us, hl with | [_, _, _], _ => rfl
  obtain ⟨dI, FI⟩ := FI
  have bI := FI.binds (ps := ["self", "text"]) fun _ _ _ _ _ _ us hl => match us, hl with | [_, _], _ => rfl
  obtain ⟨dU, FU⟩ := FU
  have bU := FU.binds (ps := ["self", "what"]) fun _ _ _ _ _ _ us hl => match us, hl with | [_, _], _ => rfl
  obtain ⟨dTi, FTi⟩ := FTi
  have bTi := FTi.binds (ps := ["self", "q"]) fun _ _ _ _ _ _ us hl => match us, hl with | [_, _], _ => rfl
  obtain ⟨dCm, FCm⟩ := FCm
  have bCm := FCm.binds (ps := ["self", "q"]) fun _ _ _ _ _ _ us hl => match us, hl with | [_, _], _ => rfl
  obtain ⟨dE, FE⟩ := FE
  have bE := FE.binds (ps := ["self", "other"]) fun _ _ _ _ _ _ us hl => match us, hl with | [_, _], _ => rfl
  obtain ⟨dC, FC⟩ := FC
  have bC := FC.binds (ps := ["text"]) fun _ _ _ _ _ _ us hl => match us, hl with | [_], _ => rfl
  obtain ⟨dTx, FTx⟩ := FTx
  have bTx := FTx.binds (ps := ["p"]) fun _ _ _ _ _ _ us hl => match us, hl with | [_], _ => rfl
  obtain ⟨dLP, FLP⟩ := FLP
  have bLP := FLP.binds (ps := ["one", "other"]) fun _ _ _ _ _ _ us hl => match us, hl with | [_, _], _ => rfl
  obtain ⟨dPn, FPn⟩ := FPn
  have bPn := FPn.binds (ps := ["_law_script"]) fun _ _ _ _ _ _ us hl => match us, hl with | [_], _ => rfl
  obtain ⟨dDr, FDr⟩ := FDr
  have bDr := FDr.binds (ps := ["_law_pen_here", "_law_many"]) fun _ _ _ _ _ _ us hl => match us, hl with | [_, _], _ => rfl
  obtain ⟨dPk, FPk⟩ := FPk
  have bPk := FPk.binds (ps := ["_law_pen_here", "_law_some"]) fun _ _ _ _ _ _ us hl => match us, hl with | [_, _], _ => rfl
  obtain ⟨dOn, FOn⟩ := FOn
  have bOn := FOn.binds (ps := ["_law_number"]) fun _ _ _ _ _ _ us hl => match us, hl with | [_], _ => rfl
  obtain ⟨dCr, FCr⟩ := FCr
  have bCr := FCr.binds (ps := ["_law_one", "_law_two"]) fun _ _ _ _ _ _ us hl => match us, hl with | [_, _], _ => rfl
  obtain ⟨dLt, FLt⟩ := FLt
  have bLt := FLt.binds (ps := ["_law_one", "_law_two"]) fun _ _ _ _ _ _ us hl => match us, hl with | [_, _], _ => rfl
  obtain ⟨dLe, FLe⟩ := FLe
  have bLe := FLe.binds (ps := ["_law_string", "_law_size"]) fun _ _ _ _ _ _ us hl => match us, hl with | [_, _], _ => rfl
  obtain ⟨dOt, FOt⟩ := FOt
  have bOt := FOt.binds (ps := ["_law_text"]) fun _ _ _ _ _ _ us hl => match us, hl with | [_], _ => rfl
  obtain ⟨dWt, FWt⟩ := FWt
  have bWt := FWt.binds (ps := ["_law_string"]) fun _ _ _ _ _ _ us hl => match us, hl with | [_], _ => rfl
  obtain ⟨dSo, FSo⟩ := FSo
  have bSo := FSo.binds (ps := ["_law_pen_here", "_law_size"]) fun _ _ _ _ _ _ us hl => match us, hl with | [_, _], _ => rfl
  obtain ⟨dWy, FWy⟩ := FWy
  have bWy := FWy.binds (ps := ["_law_call"]) fun _ _ _ _ _ _ us hl => match us, hl with | [_], _ => rfl
  obtain ⟨dPh, FPh⟩ := FPh
  have bPh := FPh.binds (ps := ["_law_string", "_law_phase", "_law_size"]) fun _ _ _ _ _ _ us hl => match us, hl with | [_, _, _], _ => rfl
  obtain ⟨dTo, FTo⟩ := FTo
  have bTo := FTo.binds (ps := ["_law_pauli", "_law_string", "_law_phase", "_law_size"]) fun _ _ _ _ _ _ us hl => match us, hl with | [_, _, _, _], _ => rfl
  obtain ⟨dDu, FDu⟩ := FDu
  have bDu := FDu.binds (ps := ["_law_one", "_law_two"]) fun _ _ _ _ _ _ us hl => match us, hl with | [_, _], _ => rfl
  have B : Bl mg := ⟨PySem.W.mg_none_of X G z_isinstance, PySem.W.mg_none_of X G z_int, PySem.W.mg_none_of X G z_bool, PySem.W.mg_none_of X G z_str, PySem.W.mg_none_of X G z_len, PySem.W.mg_none_of X G z_range, PySem.W.mg_none_of X G z_list⟩
  have TT : BT K mg CT fB dB := ⟨kc.ox, icT, tiT, nt0, nt1, PySem.W.mg_of X G aT, FB, bB⟩
  have N : PCl K mg C fI fE := ⟨⟨pgP, hdi, po, saP⟩, np0, np1, np2, np3, ⟨mkC, icP, ifP, kpP⟩, haP, hnP, htP, hmP, kCP, kSP, eqP, efP, enP, PySem.W.mg_of X G aP⟩
  have hd : Hd4 K mg hA := ⟨hl, PySem.W.mg_of X G aH⟩
  have U : BU K mg cU fU dU := ⟨kcU.ox, icU, tiU, nu2, PySem.W.mg_of X G aU, FU, bU⟩
  have V : FiveU K mg CT cN cU cA cM := ⟨PySem.W.mg_of X G aT, PySem.W.mg_of X G aN, PySem.W.mg_of X G aU, PySem.W.mg_of X G aA, PySem.W.mg_of X G aM, nu0, nu1, nu2, nu3, nu4, nu5, nu6, kcU.xf, exT, exN, kcU.ex⟩
  have Pr : Prods K w mg pA := by
    refine ⟨PySem.W.mg_of X G aPr, fun c d hc hd => ?_⟩
    rcases isL_iff.mp hc with rfl | rfl | rfl | rfl <;> rcases isL_iff.mp hd with rfl | rfl | rfl | rfl
    · exact prod_one pl pk (by decide +kernel) paII (by decide +kernel) (by decide +kernel) ptII
    · exact prod_one pl pk (by decide +kernel) paIX (by decide +kernel) (by decide +kernel) ptIX
    · exact prod_one pl pk (by decide +kernel) paIY (by decide +kernel) (by decide +kernel) ptIY
    · exact prod_one pl pk (by decide +kernel) paIZ (by decide +kernel) (by decide +kernel) ptIZ
    · exact prod_one pl pk (by decide +kernel) paXI (by decide +kernel) (by decide +kernel) ptXI
    · exact prod_one pl pk (by decide +kernel) paXX (by decide +kernel) (by decide +kernel) ptXX
    · exact prod_one pl pk (by decide +kernel) paXY (by decide +kernel) (by decide +kernel) ptXY
    · exact prod_one pl pk (by decide +kernel) paXZ (by decide +kernel) (by decide +kernel) ptXZ
    · exact prod_one pl pk (by decide +kernel) paYI (by decide +kernel) (by decide +kernel) ptYI
    · exact prod_one pl pk (by decide +kernel) paYX (by decide +kernel) (by decide +kernel) ptYX
    · exact prod_one pl pk (by decide +kernel) paYY (by decide +kernel) (by decide +kernel) ptYY
    · exact prod_one pl pk (by decide +kernel) paYZ (by decide +kernel) (by decide +kernel) ptYZ
    · exact prod_one pl pk (by decide +kernel) paZI (by decide +kernel) (by decide +kernel) ptZI
    · exact prod_one pl pk (by decide +kernel) paZX (by decide +kernel) (by decide +kernel) ptZX
    · exact prod_one pl pk (by decide +kernel) paZY (by decide +kernel) (by decide +kernel) ptZY
    · exact prod_one pl pk (by decide +kernel) paZZ (by decide +kernel) (by decide +kernel) ptZZ
  have T : Top K w mg C CT cU fI fE fB fU fTi fCm hA pA cN cA cM fC fTx fLP fPn fDr fPk fOn fCr fLt fLe fOt fWt fSo fWy fPh fTo fDu dI dE dB dU dTi dCm dC dTx dLP dPn dDr dPk dOn dCr dLt dLe dOt dWt dSo dWy dPh dTo dDu := ⟨B, PySem.W.mg_none_of X G z_zip, PySem.W.mg_none_of X G z_max, TT, U, N, hd, Pr, V, FI, bI, FE, bE, FTi, bTi, ⟨tiP, tfP, tkP⟩, FCm, bCm, ⟨cmP, cfP, ckP⟩, FC, bC, PySem.W.mg_of X G gC, FTx, bTx, PySem.W.mg_of X G gTx, FLP, bLP, PySem.W.mg_of X G gLP, FPn, bPn, PySem.W.mg_of X G gPn, FDr, bDr, PySem.W.mg_of X G gDr, FPk, bPk, PySem.W.mg_of X G gPk, FOn, bOn, PySem.W.mg_of X G gOn, FCr, bCr, PySem.W.mg_of X G gCr, FLt, bLt, PySem.W.mg_of X G gLt, FLe, bLe, PySem.W.mg_of X G gLe, FOt, bOt, PySem.W.mg_of X G gOt, FWt, bWt, PySem.W.mg_of X G gWt, FSo, bSo, PySem.W.mg_of X G gSo, FWy, bWy, PySem.W.mg_of X G gWy, FPh, bPh, PySem.W.mg_of X G gPh, FTo, bTo, PySem.W.mg_of X G gTo, FDu, bDu, PySem.W.mg_of X G gDu⟩
  refine ⟨PySem.W.fnOf "law" "law" (defArgs sLaw) (defBody sLaw) (defScope sLaw) .none kV doc pm an (.ref c) ct, [(c, tP)], spLawT K tP, fun p hp => ?_, fun p hp => ?_, fun p hp => ?_, fun s v => .of_eq rfl, ?_, ?_⟩
  · rw [List.mem_singleton.mp hp]
    exact hTs tP mem
  · rw [List.mem_singleton.mp hp]
    exact nP
  · rw [List.mem_singleton.mp hp]
    exact PySem.W.codeHd_of_K X hb
  · intro H a ns hl _ hT hS
    exact ⟨a, ns, rfl, hS, hl, hT (c, tP) (List.mem_singleton.mpr rfl), fun _ => rfl⟩
  · intro base _ _ TB
    exact ok_law lk hcd (TB (c, tP) (List.mem_singleton.mpr rfl)) T
theorem walk {l : PySem.W.OpenLaw} {q : Program} {loose : List Str} {XP : (Str → Option Value) → Heap → Prop} {YP : World → Heap → Prop} {d : DefRec} {K : Params → PySem.W.Frag} (hn : l.most = some 63) (hdf : d.params.defaults = [])
    (ts : List Addr) (hY : ∀ (w : World) (h : Heap), YP w h → (K w.params).In h) (hT : ∀ (w : World) (h : Heap), YP w h → ∀ R ∈ ts, h.get? R = some (PySem.W.tabObj #[]))
    (F : ∀ (w : World) (mg : Str → Option Value) (fa : Addr) (h : Heap), (K w.params).In h → h.Ns mainGlobals mg → mg d.name = some (.ref fa) → (∀ R ∈ ts, h.get? R = some (PySem.W.tabObj #[])) → LawAtS l w (K w.params) CX0 9 63 "_law_script" mg fa h) :
    PySem.W.WalkO q loose XP YP l.row.toRowW d [] (fun f vs => PySem.call f vs) :=
  walk_ofTs (n := 63) (k := 9) (x := "_law_script") (CX := fun _ => CX0) hn (by decide) hdf ⟨rfl, by decide, by decide⟩ hY (fun w mg fa h Y X G e => F w mg fa h X G e (hT w h Y)) (fun _ _ _ _ _ z => z)
end KQ
open PySem PySem.W PyProof.Rows
set_option maxRecDepth 100000 in
set_option maxHeartbeats 0 in
theorem PySem.Challenge.cw_keptqubits_k08_whole_products_of_strings_holds : PySem.Challenge.rw_keptqubits_k08_whole_products_of_strings.Holds := by
  w_on; o_law; k_head; (case hw => w_witness2)
  k_fill
  refine KQ.walk (l := PySem.Challenge.rw_keptqubits_k08_whole_products_of_strings) rfl rfl _ (fun w h Y => PySem.W.km_in_of Y) (fun w h Y => PySem.W.km_tabs_of Y) ?F
  case F =>
    intro w mg fa h KX G hmg own
    refine' KQ.all_mk rfl KX G hmg own ?zq_aK ?zq_aT ?zq_aP ?zq_aH ?zq_aN ?zq_aU ?zq_aA ?zq_aM ?zq_kc ?zq_kcU ?zq_icT ?zq_tiT ?zq_nt0 ?zq_nt1 ?zq_nu0 ?zq_nu1 ?zq_nu2 ?zq_nu3 ?zq_nu4 ?zq_nu5 ?zq_nu6 ?zq_icU ?zq_tiU ?zq_FU ?zq_exT ?zq_exN ?zq_FB ?zq_pgP ?zq_hdi ?zq_po ?zq_saP ?zq_np0 ?zq_np1 ?zq_np2 ?zq_np3 ?zq_mkC ?zq_icP ?zq_ifP ?zq_kpP ?zq_haP ?zq_hnP ?zq_htP ?zq_hmP ?zq_kCP ?zq_kSP ?zq_eqP ?zq_efP ?zq_enP ?zq_hl ?zq_FI ?zq_tiP ?zq_tfP ?zq_tkP ?zq_FTi ?zq_cmP ?zq_cfP ?zq_ckP ?zq_FCm ?zq_aPr ?zq_pl ?zq_pk ?zq_paII ?zq_ptII ?zq_paIX ?zq_ptIX ?zq_paIY ?zq_ptIY ?zq_paIZ ?zq_ptIZ ?zq_paXI ?zq_ptXI ?zq_paXX ?zq_ptXX ?zq_paXY ?zq_ptXY ?zq_paXZ ?zq_ptXZ ?zq_paYI ?zq_ptYI ?zq_paYX ?zq_ptYX ?zq_paYY ?zq_ptYY ?zq_paYZ ?zq_ptYZ ?zq_paZI ?zq_ptZI ?zq_paZX ?zq_ptZX ?zq_paZY ?zq_ptZY ?zq_paZZ ?zq_ptZZ ?zq_FE ?zq_gC ?zq_FC ?zq_gTx ?zq_FTx ?zq_gLP ?zq_FLP ?zq_gPn ?zq_FPn ?zq_gDr ?zq_FDr ?zq_gPk ?zq_FPk ?zq_gOn ?zq_FOn ?zq_gCr ?zq_FCr ?zq_gLt ?zq_FLt ?zq_gLe ?zq_FLe ?zq_gOt ?zq_FOt ?zq_gWt ?zq_FWt ?zq_gSo ?zq_FSo ?zq_gWy ?zq_FWy ?zq_gPh ?zq_FPh ?zq_gTo ?zq_FTo ?zq_gDu ?zq_FDu ?zq_z_isinstance ?zq_z_int ?zq_z_bool ?zq_z_str ?zq_z_len ?zq_z_range ?zq_z_list ?zq_z_zip ?zq_z_max ?zq_gLa ?zq_lk ?zq_hcd ?zq_lc ?zq_h11 ?zq_nP ?zq_hb ?zq_mem
    (case zq_aK => k_is)
    (case zq_aT => k_is)
    (case zq_aP => k_is)
    (case zq_aH => k_is)
    (case zq_aN => k_is)
    (case zq_aU => k_is)
    (case zq_aA => k_is)
    (case zq_aM => k_is)
    (case zq_kc => refine' KQ.KC.of ?l ?sa ?ty ?kp ?hg ?hk ?ha; (case l => k_is); (case sa => k_is); (case ty => k_is); (case kp => k_is); (case hg => k_is); (case hk => k_is); (case ha => k_is))
    (case zq_kcU => refine' KQ.KC.of ?l ?sa ?ty ?kp ?hg ?hk ?ha; (case l => k_is); (case sa => k_is); (case ty => k_is); (case kp => k_is); (case hg => k_is); (case hk => k_is); (case ha => k_is))
    (case zq_icT => k_is)
    (case zq_tiT => k_is)
    (case zq_nt0 => k_is)
    (case zq_nt1 => k_is)
    (case zq_nu0 => k_is)
    (case zq_nu1 => k_is)
    (case zq_nu2 => k_is)
    (case zq_nu3 => k_is)
    (case zq_nu4 => k_is)
    (case zq_nu5 => k_is)
    (case zq_nu6 => k_is)
    (case zq_icU => k_is)
    (case zq_tiU => k_is)
    (case zq_FU => refine' KQ.fun_ex ?l ?c ?k; (case l => k_is); (case c => k_is); (case k => k_is))
    (case zq_exT => first | k_is | kernel_rfl | decide +kernel)
    (case zq_exN => first | k_is | kernel_rfl | decide +kernel)
    (case zq_FB => refine' KQ.fun_ex ?l ?c ?k; (case l => k_is); (case c => k_is); (case k => k_is))
    (case zq_pgP => k_is)
    (case zq_hdi => k_is)
    (case zq_po => k_is)
    (case zq_saP => k_is)
    (case zq_np0 => k_is)
    (case zq_np1 => k_is)
    (case zq_np2 => k_is)
    (case zq_np3 => k_is)
    (case zq_mkC => k_is)
    (case zq_icP => k_is)
    (case zq_ifP => first | k_is | kernel_rfl | decide +kernel)
    (case zq_kpP => k_is)
    (case zq_haP => k_is)
    (case zq_hnP => first | k_is | kernel_rfl | decide +kernel)
    (case zq_htP => first | k_is | kernel_rfl | decide +kernel)
    (case zq_hmP => first | k_is | kernel_rfl | decide +kernel)
    (case zq_kCP => first | k_is | kernel_rfl | decide +kernel)
    (case zq_kSP => first | k_is | kernel_rfl | decide +kernel)
    (case zq_eqP => k_is)
    (case zq_efP => first | k_is | kernel_rfl | decide +kernel)
    (case zq_enP => first | k_is | kernel_rfl | decide +kernel)
    (case zq_hl => refine' KQ.hd_ex ?l; (case l => k_is))
    (case zq_FI => refine' KQ.fun_ex ?l ?c ?k; (case l => k_is); (case c => k_is); (case k => k_is))
    (case zq_tiP => k_is)
    (case zq_tfP => first | k_is | kernel_rfl | decide +kernel)
    (case zq_tkP => k_is)
    (case zq_FTi => refine' KQ.fun_ex ?l ?c ?k; (case l => k_is); (case c => k_is); (case k => k_is))
    (case zq_cmP => k_is)
    (case zq_cfP => first | k_is | kernel_rfl | decide +kernel)
    (case zq_ckP => k_is)
    (case zq_FCm => refine' KQ.fun_ex ?l ?c ?k; (case l => k_is); (case c => k_is); (case k => k_is))
    (case zq_aPr => k_is)
    (case zq_pl => k_is)
    (case zq_pk => first | k_is | exact ⟨⟨_, _, rfl, rfl⟩, ⟨_, _, rfl, rfl⟩, ⟨_, _, rfl, rfl⟩, ⟨_, _, rfl, rfl⟩, ⟨_, _, rfl, rfl⟩, ⟨_, _, rfl, rfl⟩, ⟨_, _, rfl, rfl⟩, ⟨_, _, rfl, rfl⟩, ⟨_, _, rfl, rfl⟩, ⟨_, _, rfl, rfl⟩, ⟨_, _, rfl, rfl⟩, ⟨_, _, rfl, rfl⟩, ⟨_, _, rfl, rfl⟩, ⟨_, _, rfl, rfl⟩, ⟨_, _, rfl, rfl⟩, ⟨_, _, rfl, rfl⟩, trivial⟩)
    (case zq_paII => k_is)
    (case zq_ptII => k_is)
    (case zq_paIX => k_is)
    (case zq_ptIX => k_is)
    (case zq_paIY => k_is)
    (case zq_ptIY => k_is)
    (case zq_paIZ => k_is)
    (case zq_ptIZ => k_is)
    (case zq_paXI => k_is)
    (case zq_ptXI => k_is)
    (case zq_paXX => k_is)
    (case zq_ptXX => k_is)
    (case zq_paXY => k_is)
    (case zq_ptXY => k_is)
    (case zq_paXZ => k_is)
    (case zq_ptXZ => k_is)
    (case zq_paYI => k_is)
    (case zq_ptYI => k_is)
    (case zq_paYX => k_is)
    (case zq_ptYX => k_is)
    (case zq_paYY => k_is)
    (case zq_ptYY => k_is)
    (case zq_paYZ => k_is)
    (case zq_ptYZ => k_is)
    (case zq_paZI => k_is)
    (case zq_ptZI => k_is)
    (case zq_paZX => k_is)
    (case zq_ptZX => k_is)
    (case zq_paZY => k_is)
    (case zq_ptZY => k_is)
    (case zq_paZZ => k_is)
    (case zq_ptZZ => k_is)
    (case zq_FE => refine' KQ.fun_ex ?l ?c ?k; (case l => k_is); (case c => k_is); (case k => k_is))
    (case zq_gC => k_is)
    (case zq_FC => refine' KQ.fun_ex ?l ?c ?k; (case l => k_is); (case c => k_is); (case k => k_is))
    (case zq_gTx => k_is)
    (case zq_FTx => refine' KQ.fun_ex ?l ?c ?k; (case l => k_is); (case c => k_is); (case k => k_is))
    (case zq_gLP => k_is)
    (case zq_FLP => refine' KQ.fun_ex ?l ?c ?k; (case l => k_is); (case c => k_is); (case k => k_is))
    (case zq_gPn => k_is)
    (case zq_FPn => refine' KQ.fun_ex ?l ?c ?k; (case l => k_is); (case c => k_is); (case k => k_is))
    (case zq_gDr => k_is)
    (case zq_FDr => refine' KQ.fun_ex ?l ?c ?k; (case l => k_is); (case c => k_is); (case k => k_is))
    (case zq_gPk => k_is)
    (case zq_FPk => refine' KQ.fun_ex ?l ?c ?k; (case l => k_is); (case c => k_is); (case k => k_is))
    (case zq_gOn => k_is)
    (case zq_FOn => refine' KQ.fun_ex ?l ?c ?k; (case l => k_is); (case c => k_is); (case k => k_is))
    (case zq_gCr => k_is)
    (case zq_FCr => refine' KQ.fun_ex ?l ?c ?k; (case l => k_is); (case c => k_is); (case k => k_is))
    (case zq_gLt => k_is)
    (case zq_FLt => refine' KQ.fun_ex ?l ?c ?k; (case l => k_is); (case c => k_is); (case k => k_is))
    (case zq_gLe => k_is)
    (case zq_FLe => refine' KQ.fun_ex ?l ?c ?k; (case l => k_is); (case c => k_is); (case k => k_is))
    (case zq_gOt => k_is)
    (case zq_FOt => refine' KQ.fun_ex ?l ?c ?k; (case l => k_is); (case c => k_is); (case k => k_is))
    (case zq_gWt => k_is)
    (case zq_FWt => refine' KQ.fun_ex ?l ?c ?k; (case l => k_is); (case c => k_is); (case k => k_is))
    (case zq_gSo => k_is)
    (case zq_FSo => refine' KQ.fun_ex ?l ?c ?k; (case l => k_is); (case c => k_is); (case k => k_is))
    (case zq_gWy => k_is)
    (case zq_FWy => refine' KQ.fun_ex ?l ?c ?k; (case l => k_is); (case c => k_is); (case k => k_is))
    (case zq_gPh => k_is)
    (case zq_FPh => refine' KQ.fun_ex ?l ?c ?k; (case l => k_is); (case c => k_is); (case k => k_is))
    (case zq_gTo => k_is)
    (case zq_FTo => refine' KQ.fun_ex ?l ?c ?k; (case l => k_is); (case c => k_is); (case k => k_is))
    (case zq_gDu => k_is)
    (case zq_FDu => refine' KQ.fun_ex ?l ?c ?k; (case l => k_is); (case c => k_is); (case k => k_is))
    (case zq_z_isinstance => k_is)
    (case zq_z_int => k_is)
    (case zq_z_bool => k_is)
    (case zq_z_str => k_is)
    (case zq_z_len => k_is)
    (case zq_z_range => k_is)
    (case zq_z_list => k_is)
    (case zq_z_zip => k_is)
    (case zq_z_max => k_is)
    (case zq_gLa => k_is)
    (case zq_lk => k_is)
    (case zq_hcd => k_is)
    (case zq_lc => k_is)
    (case zq_h11 => rfl)
    (case zq_nP => kernel_rfl)
    (case zq_hb => kernel_rfl)
    (case zq_mem => simp)
