import PyProof.Rows.All
import Wide.All
import OpenK.AllK
import Wide.FinOn
import HandS.ForMost
import HandS.Wide
import HandS.Codes
import HandS.Base
import HandS.Call
import HandS.List
import HandS.Text
import HandS.StrMore
import PyProof.Rows.StrStrike
import PyProof.Rows.StrCountLaw
import HandS.OwnEq
import HandS.Exc
import HandS.TryMany
import HandS.Strs
import HandS.Replace
import HandS.ReplaceLit
import HandS.Comp
import HandS.IsInst
import HandS.ExcInit
import HandS.ExcField
import HandS.WordsExc
import HandS.Style
import HandS.DeepEq
import HandS.CallLocal
import HandS.Lambda
import HandS.EndOwn
import HandS.Walk
import HandS.ExcIs
import PyProof.ListStr
import HandS.Translate
import HandS.IntHex
import HandS.Dict
import HandS.FStr
import HandS.Iter
import HandS.WideBits
import HandS.AnyAll
import HandS.Conv
import HandS.RevRange
import HandS.SortKw
import PyProof.FString3
import PyProof.Rows.StrIntSpec
import PyProof.Rows.StrRev
import PyProof.StrBlock2
import PyProof.ZipIter
import PyProof.Draws
import PyProof.EnumMake
import PyProof.StrOps2
import HandS.TupAny
import PySem.Challenge.RW_keptqubits_k11_whole_strings_that_make_n
set_option Elab.async false
set_option linter.all false
set_option maxRecDepth 100000
set_option maxHeartbeats 4000000
namespace KQ
open PySem PySem.Spec PyProof.Rows L2
/-! ### the text -/
def topS (i : Nat) : Stmt := PySem.Challenge.pw_keptqubits_k11_whole_strings_that_make_n.main.body.getD i (.Pass ⟨0, 0, 0, 0⟩)
abbrev sPen : Stmt := topS 40
abbrev sDraw : Stmt := topS 41
abbrev sPick : Stmt := topS 42
theorem scPen : FnScope ["_law_script", "_law_fold", "_law_cell"] ["_law_script"] (defScope sPen) := ⟨rfl, rfl, rfl, by decide +kernel, rfl, by decide +kernel, by decide +kernel⟩
theorem scDraw : FnScope ["_law_pen_here", "_law_many", "_law_cell", "_law_digit", "_law_mixed"] ["_law_pen_here", "_law_many"] (defScope sDraw) := ⟨rfl, rfl, rfl, by decide +kernel, rfl, by decide +kernel, by decide +kernel⟩
theorem scPick : FnScope ["_law_pen_here", "_law_some"] ["_law_pen_here", "_law_some"] (defScope sPick) := ⟨rfl, rfl, rfl, by decide +kernel, rfl, by decide +kernel, by decide +kernel⟩
/-! ### the pen -/
theorem k12 : ¬ ("cells" : Str) = "at" := by decide +kernel
theorem k13 : ¬ ("cells" : Str) = "digits" := by decide +kernel
theorem k14 : ¬ ("cells" : Str) = "count" := by decide +kernel
theorem k15 : ¬ ("cells" : Str) = "fold" := by decide +kernel
theorem k21 : ¬ ("at" : Str) = "cells" := by decide +kernel
theorem k23 : ¬ ("at" : Str) = "digits" := by decide +kernel
theorem k24 : ¬ ("at" : Str) = "count" := by decide +kernel
theorem k25 : ¬ ("at" : Str) = "fold" := by decide +kernel
theorem k31 : ¬ ("digits" : Str) = "cells" := by decide +kernel
theorem k32 : ¬ ("digits" : Str) = "at" := by decide +kernel
theorem k34 : ¬ ("digits" : Str) = "count" := by decide +kernel
theorem k35 : ¬ ("digits" : Str) = "fold" := by decide +kernel
theorem k41 : ¬ ("count" : Str) = "cells" := by decide +kernel
theorem k42 : ¬ ("count" : Str) = "at" := by decide +kernel
theorem k43 : ¬ ("count" : Str) = "digits" := by decide +kernel
theorem k45 : ¬ ("count" : Str) = "fold" := by decide +kernel
theorem k51 : ¬ ("fold" : Str) = "cells" := by decide +kernel
theorem k52 : ¬ ("fold" : Str) = "at" := by decide +kernel
theorem k53 : ¬ ("fold" : Str) = "digits" := by decide +kernel
theorem k54 : ¬ ("fold" : Str) = "count" := by decide +kernel
def kvsP (c : Addr) (a d n f : Int) : List (Key × V) := [(.inr "cells", .ref c), (.inr "at", .int a), (.inr "digits", .int d), (.inr "count", .int n), (.inr "fold", .int f)]
section
variable (c : Addr) (a d n f z : Int)
theorem vCells : valV (kvsP c a d n f) (.inr "cells" : Key) = some (.ref c) := by simp [kvsP, valV, List.find?]
theorem vAt : valV (kvsP c a d n f) (.inr "at" : Key) = some (.int a) := by simp [kvsP, valV, List.find?, k12]
theorem vDigits : valV (kvsP c a d n f) (.inr "digits" : Key) = some (.int d) := by simp [kvsP, valV, List.find?, k13, k23]
theorem vCount : valV (kvsP c a d n f) (.inr "count" : Key) = some (.int n) := by simp [kvsP, valV, List.find?, k14, k24, k34]
theorem vFold : valV (kvsP c a d n f) (.inr "fold" : Key) = some (.int f) := by simp [kvsP, valV, List.find?, k15, k25, k35, k45]
theorem pAt : putK (kvsP c a d n f) (.inr "at" : Key) (.int z) = kvsP c z d n f := by simp [kvsP, putK, k12, k32, k42, k52]
theorem pDigits : putK (kvsP c a d n f) (.inr "digits" : Key) (.int z) = kvsP c a z n f := by simp [kvsP, putK, k13, k23, k43, k53]
theorem pCount : putK (kvsP c a d n f) (.inr "count" : Key) (.int z) = kvsP c a d z f := by simp [kvsP, putK, k14, k24, k34, k54]
theorem pFold : putK (kvsP c a d n f) (.inr "fold" : Key) (.int z) = kvsP c a d n z := by simp [kvsP, putK, k15, k25, k35, k45]
theorem mPen : mergeK [] [((.inr "cells" : Key), V.ref c), (.inr "at", .int a), (.inr "digits", .int d), (.inr "count", .int n), (.inr "fold", .int f)] = kvsP c a d n f := by
  simp [mergeK, kvsP, putK, k12, k13, k14, k15, k23, k24, k25, k34, k35, k45]
end
theorem getS {H : Hp} {a : Addr} {kvs : List (Key × V)} {x : Str} {v : V} (e : H a = some (.dK kvs)) (h : valV kvs (.inr x : Key) = some v) : DGet H a (.str x) (some v) := .inl ⟨kvs, .inr x, .inl e, rfl, h.symm⟩
theorem putS {H : Hp} {a : Addr} {kvs kvs' : List (Key × V)} {x : Str} {v : V} (e : H a = some (.dK kvs)) (hl : kvs.length < sizeLine) (h : putK kvs (.inr x : Key) v = kvs') : DPut H a (.str x) v (upd H a (.dK kvs')) := .inl ⟨kvs, .inr x, e, rfl, hl, by rw [h]⟩
theorem lenP {c : Addr} {a d n f : Int} : (kvsP c a d n f).length < sizeLine := small1000 (by show 5 ≤ 1000; decide)
/-- a pen stands at p, its cells at c, n draws so far -/
def PenAt (H : Hp) (p c : Addr) (n : Nat) : Prop := ∃ (ns : List Int) (a d f : Int), H p = some (.dK (kvsP c a d n f)) ∧ H c = some (.lst (ns.map V.int)) ∧ ns.length ≤ 63 ∧ 0 ≤ a ∧ 0 ≤ d ∧ 0 ≤ f ∧ f < 2147483587
theorem PenAt.ne {H : Hp} {p c : Addr} {n : Nat} (h : PenAt H p c n) : p ≠ c := by
  obtain ⟨ns, a, d, f, hp, hc, _⟩ := h
  exact ne_of hp hc (by intro z; cases z)
theorem PenAt.same {H H' : Hp} {p c : Addr} {n : Nat} (h : PenAt H p c n) (hp : H' p = H p) (hc : H' c = H c) : PenAt H' p c n := by
  obtain ⟨ns, a, d, f, e1, e2, r⟩ := h
  exact ⟨ns, a, d, f, hp.trans e1, hc.trans e2, r⟩
theorem PenAt.some {H : Hp} {p c : Addr} {n : Nat} (h : PenAt H p c n) : (∃ o, H p = some o) ∧ ∃ o, H c = some o := by
  obtain ⟨ns, a, d, f, e1, e2, r⟩ := h
  exact ⟨⟨_, e1⟩, ⟨_, e2⟩⟩
theorem PenAt.ext {H H' : Hp} {p c : Addr} {n : Nat} (h : PenAt H p c n) (s : Same H H') : PenAt H' p c n := by
  obtain ⟨⟨o, e1⟩, o', e2⟩ := h.some
  exact h.same ((s _ _ e1).trans e1.symm) ((s _ _ e2).trans e2.symm)
theorem sqL_pen {K : PySem.W.Frag} {H H' : Hp} {p y : Addr} {xs : List V} {kv : List (Key × V)} (hk : ∀ b, b ≠ p → H' b = H b) (hp : H p = some (.dK kv)) (h : SqL K H y xs) : SqL K H' y xs := by
  rcases h with (h | ⟨ob, h⟩) | h
  · exact .inl (.inl ((hk y (ne_of h hp (by intro z; cases z))).trans h))
  · exact .inl (.inr ⟨ob, (hk y (ne_of h hp (by intro z; cases z))).trans h⟩)
  · exact .inr h
theorem sqT_pen {K : PySem.W.Frag} {H H' : Hp} {p y : Addr} {xs : List V} {kv : List (Key × V)} (hk : ∀ b, b ≠ p → H' b = H b) (hp : H p = some (.dK kv)) (h : SqT K H y xs) : SqT K H' y xs := by
  rcases h with (h | ⟨ob, h⟩) | h
  · exact .inl (.inl ((hk y (ne_of h hp (by intro z; cases z))).trans h))
  · exact .inl (.inr ⟨ob, (hk y (ne_of h hp (by intro z; cases z))).trans h⟩)
  · exact .inr h
theorem ix_or {X : Cx} {r1 r2 : R2} (h1 : IxR X r1) (h2 : IxR X r2) : IxR X (fun x y H Q => r1 x y H Q ∨ r2 x y H Q) := by
  intro val sl pins st σ G x y v u Q J rx ry h hs
  rcases h with h | h
  · exact h1 val sl pins st σ G x y v u Q J rx ry h hs
  · exact h2 val sl pins st σ G x y v u Q J rx ry h hs
def spPen (K : PySem.W.Frag) : Sp := fun vs H Q _ => ∃ (a : Addr) (ns : List Int), vs = [.ref a] ∧ SqL K H a (ns.map V.int) ∧ ns.length ≤ 63 ∧
  ∀ H' p c, Same H H' → H p = none → H c = none → PenAt H' p c 0 → Q (.ref p) H'
def spDraw : Sp := fun vs H Q _ => ∃ (p c : Addr) (n : Nat) (m : Int), vs = [.ref p, .int m] ∧ PenAt H p c n ∧ n < 1000000 ∧ 0 < m ∧ m.natAbs < 2 ^ 200 ∧
  ∀ (r : Int) H', 0 ≤ r → r < m → PenAt H' p c (n + 1) → (∀ b, b ≠ p → H' b = H b) → Q (.int r) H'
def spPick (K : PySem.W.Frag) : Sp := fun vs H Q _ => ∃ (p c q : Addr) (n : Nat) (xs : List V), vs = [.ref p, .ref q] ∧ PenAt H p c n ∧ n < 1000000 ∧ (SqL K H q xs ∨ SqT K H q xs) ∧ xs ≠ [] ∧ xs.length ≤ 1000 ∧
  ∀ (i : Nat) (v : V) H', xs[i]? = some v → PenAt H' p c (n + 1) → (∀ b, b ≠ p → H' b = H b) → Q v H'
section
variable {P : Program} {w : World} {K : PySem.W.Frag} {mg : Str → Option Value} {base : Heap}
theorem ok_pen {f : Addr} {fd : FuncData} {k : Nat} (F : Fun K "_law_pen" "_law_pen" sPen f fd) (mi : mg "int" = none) (ml : mg "list" = none) : FnOk P w K mg base CX0 (k + 1) f fd ["_law_script"] (spPen K) := by
  refine F.ok scPen (fun vs H Q E h => ?_) (fun cdv A outer s H vs Q E hr h => ?_)
  · obtain ⟨a, ns, rfl, _⟩ := h
    rfl
  · obtain ⟨a, ns, rfl, hS, hlen, q⟩ := h
    refine ⟨_, pss_cons (ps_set (i := 1) scPen.nd rfl (.inl rfl) pe_int)
      (pss_cons (ps_for PassesOwn.never rfl (pi_list (pv 0)) (pg_name (i := 2) scPen.nd rfl (.inl rfl))
        (pss_one (ps_set (i := 1) scPen.nd rfl (.inl rfl) (pe_op op_mod (pe_callTy call_int1 (by rfl) mi (by decide +kernel) (pa_cons (pe_op op_add (pe_op op_mul (pv 1) pe_int) (pv 2)) pa_nil)) pe_int))))
      (pss_one (ps_ret (pe_disp (pps_cons pe_str (pe_callTy call_list_of (by rfl) ml (by decide +kernel) (pa_cons (pv 0) pa_nil)) (pps_cons pe_str pe_int (pps_cons pe_str pe_int (pps_cons pe_str pe_int (pps_cons pe_str (pv 1) pps_nil))))) (by rfl) (by rfl) (fun z => by cases z) (by decide))))), ?_⟩
    refine ⟨_, rfl, a, rfl, ⟨_, hS⟩, for_list (K := K) (a := a) (xs := ns.map V.int) (fun i σ H2 => ∃ (g : Int) (v : Option V), σ = [some (.ref a), some (.int g), v] ∧ H2 = H ∧ 0 ≤ g ∧ g < 1000000007)
      ⟨0, none, rfl, rfl, by decide, by decide⟩ (fun i σ H2 _ ⟨_, _, _, e, _⟩ => by rw [e]; exact hS) ?_ ?_⟩
    · rintro i y σ H2 hi ⟨g, v, rfl, rfl, h0, h1⟩
      obtain ⟨z, rfl⟩ : ∃ z, y = V.int z := by
        rw [List.getElem?_map] at hi
        cases e : ns[i]? with
        | none => rw [e] at hi; cases hi
        | some z => rw [e] at hi; exact ⟨z, (Option.some.inj hi).symm⟩
      refine ⟨_, rfl, _, _, rfl, rfl, .inr ⟨by decide, by decide⟩, _, rfl, _, _, rfl, rfl, .inl ⟨_, rfl, _, _, rfl, rfl, (by show (0 : Int) < 1000000007; decide), ?_⟩⟩
      exact ⟨_, _, rfl, rfl, Int.emod_nonneg _ (by decide), Int.emod_lt_of_pos _ (by decide)⟩
    · rintro σ H2 ⟨g, v, rfl, rfl, h0, h1⟩
      intro p np
      refine ⟨.ref a, rfl, a, ns.map V.int, rfl, .inl ?_, fun c nc => ?_⟩
      · exact Same.seq (H := H2) (fun b o e => by rw [upd_ne (ne_of_none e np)]; exact e) hS
      have ncp : c ≠ p := fun e => by rw [e, upd_same] at nc; cases nc
      have nc2 : H2 c = none := by rw [upd_ne ncp] at nc; exact nc
      refine ⟨_, rfl, ?_⟩
      refine ⟨by rw [upd_ne ncp.symm, upd_same], [((.inr "cells" : Key), V.ref c), (.inr "at", .int 0), (.inr "digits", .int 0), (.inr "count", .int 0), (.inr "fold", .int g)], rfl, (by show 5 ≤ 15; decide), ?_⟩
      rw [mPen]
      refine q _ p c (fun b o e => ?_) np nc2 ⟨ns, 0, 0, g, upd_same, ?_, hlen, by decide, by decide, h0, by omega⟩
      · rw [upd_ne (ne_of_none e np), upd_ne (ne_of_none e nc2), upd_ne (ne_of_none e np)]
        exact e
      · rw [upd_ne ncp, upd_same]
theorem ok_draw {f : Addr} {fd : FuncData} {k : Nat} (F : Fun K "_law_draw" "_law_draw" sDraw f fd) (mi : mg "int" = none) (ml : mg "len" = none) : FnOk P w K mg base CX0 (k + 1) f fd ["_law_pen_here", "_law_many"] spDraw := by
  refine F.ok scDraw (fun vs H Q E h => ?_) (fun cdv A outer s H vs Q E hr h => ?_)
  · obtain ⟨p, c, n, m, rfl, _⟩ := h
    rfl
  · obtain ⟨p, c, n, m, rfl, hP, hn, hm, hm9, q⟩ := h
    have hu := hu_of hr
    have hpc := hP.ne
    obtain ⟨ns, a0, d0, f0, hp, hc, hlen, ha, hd, hf0, hf1⟩ := hP
    refine ⟨_, pss_cons (ps_dput hu (pv 0) pe_str (pe_op op_add (pe_dget hu (pv 0) pe_str (fun _ _ => rfl)) pe_int) rfl)
      (C8.pss_cut (ps_if (pw_and (pt_cmpR op_eq (pe_dget hu (pv 0) pe_str (fun _ _ => rfl)) pe_int (nomark _))
            (pw_and1 (pt_cmpR op_lt (pe_dget hu (pv 0) pe_str (fun _ _ => rfl)) (pe_callB call_len_seq (by rfl) ml PySem.boot_len (pa_cons (pe_dget hu (pv 0) pe_str (fun _ _ => rfl)) pa_nil)) (nomark _)))).pt
          (pss_cons (ps_set (i := 2) scDraw.nd rfl (.inl rfl) (pe_ix ix_list (pe_dget hu (pv 0) pe_str (fun _ _ => rfl)) (pe_dget hu (pv 0) pe_str (fun _ _ => rfl)) (fun _ _ => rfl)))
          (pss_cons (ps_dput hu (pv 0) pe_str (pe_op op_add (pe_dget hu (pv 0) pe_str (fun _ _ => rfl)) pe_int) rfl)
          (pss_one (ps_if (pt_cmpR op_ge (pv 2) (pe_op op_pow pe_int pe_int) (nomark _))
            (pss_one (ps_dput hu (pv 0) pe_str (pe_op op_sub (pv 2) (pe_op op_pow pe_int pe_int)) rfl))
            (pss_one (ps_dput hu (pv 0) pe_str (pe_op op_mod (pe_callTy call_int1 (by rfl) mi (by decide +kernel) (pa_cons (pe_op op_add (pe_op op_mul (pe_dget hu (pv 0) pe_str (fun _ _ => rfl)) pe_int) (pv 2)) pa_nil)) pe_int) rfl))))))
          pss_nil)
      (pss_cons (ps_if (pt_cmpR op_gt (pe_dget hu (pv 0) pe_str (fun _ _ => rfl)) pe_int (nomark _))
          (pss_cons (ps_set (i := 3) scDraw.nd rfl (.inl rfl) (pe_op op_mod (pe_callTy call_int1 (by rfl) mi (by decide +kernel) (pa_cons (pe_dget hu (pv 0) pe_str (fun _ _ => rfl)) pa_nil)) (pv 1)))
          (pss_cons (ps_dput hu (pv 0) pe_str (pe_op op_fdivW (pe_dget hu (pv 0) pe_str (fun _ _ => rfl)) (pv 1)) rfl)
          (pss_one (ps_ret (pv 3)))))
          pss_nil)
      (pss_cons (ps_set (i := 4) scDraw.nd rfl (.inl rfl) (pe_op op_add (pe_op op_add (pe_dget hu (pv 0) pe_str (fun _ _ => rfl)) (pe_op op_mul (pe_dget hu (pv 0) pe_str (fun _ _ => rfl)) pe_int)) pe_int))
      (pss_one (ps_ret (pe_op op_mod (pe_op op_fdivW (pe_callTy call_int1 (by rfl) mi (by decide +kernel) (pa_cons (pe_op op_mod (pe_op op_pow (pv 4) pe_int) pe_int) pa_nil)) pe_int) (pv 1))))))), ?_⟩
    -- count
    refine ⟨_, rfl, p, _, rfl, getS hp (vCount ..), _, _, rfl, rfl, _, rfl, p, _, rfl, putS hp lenP (pCount ..), ?_⟩
    have up : ∀ {o : HO}, (upd H p o) p = some o := fun {o} => upd_same
    have uc : ∀ {o : HO}, (upd H p o) c = some (.lst (ns.map V.int)) := fun {o} => by rw [upd_ne hpc.symm]; exact hc
    -- the cell
    refine ⟨fun σ' H' => ∃ (a d g : Int) (v2 : Option V), σ' = [some (.ref p), some (.int m), v2, none, none] ∧ H' = upd H p (.dK (kvsP c a d ((n : Int) + 1) g)) ∧ 0 ≤ a ∧ 0 ≤ d ∧ 0 ≤ g ∧ g < 2147483587, ?_, ?_⟩
    · refine ⟨_, rfl, p, _, rfl, getS up (vDigits ..), rfl, _, rfl, ite2 (fun e1 => ?_) (fun e1 => ?_)⟩
      · refine ⟨_, rfl, p, _, rfl, getS up (vAt ..), _, rfl, p, _, rfl, getS up (vCells ..), c, _, rfl, .inl (SqL.of uc), _, _, rfl, rfl, _, rfl, ite2 (fun e2 => ?_) (fun e2 => ?_)⟩
        · have e2' : a0 < (ns.length : Int) := by
            have z := of_decide_eq_true e2
            rw [List.length_map] at z
            exact z
          have hat : (ns.map V.int)[a0.toNat]? = some (V.int (ns[a0.toNat]'(by omega))) := by
            rw [List.getElem?_map, List.getElem?_eq_getElem (by omega)]
            rfl
          refine ⟨_, rfl, p, _, rfl, getS up (vCells ..), _, rfl, p, _, rfl, getS up (vAt ..), c, _, _, _, rfl, rfl, SqL.of uc, at_of (by omega) hat, ?_⟩
          refine ⟨_, rfl, p, _, rfl, getS up (vAt ..), _, _, rfl, rfl, _, rfl, p, _, rfl, putS up lenP (pAt ..), ?_⟩
          rw [upd_upd]
          refine ⟨_, rfl, _, _, rfl, rfl, ⟨by decide, by decide, by decide⟩, _, _, rfl, rfl, _, rfl, ite2 (fun e3 => ?_) (fun e3 => ?_)⟩
          · refine ⟨_, rfl, _, _, rfl, rfl, ⟨by decide, by decide, by decide⟩, _, _, rfl, rfl, _, rfl, p, _, rfl, putS up lenP (pDigits ..), ?_⟩
            rw [upd_upd]
            have e3' := of_decide_eq_true e3
            exact ⟨_, _, _, _, rfl, rfl, by omega, by omega, hf0, hf1⟩
          · refine ⟨_, rfl, p, _, rfl, getS up (vFold ..), _, _, rfl, rfl, .inr ⟨by decide, by decide⟩, _, rfl, _, _, rfl, rfl, .inl ⟨_, rfl, _, _, rfl, rfl, (by show (0 : Int) < 2147483587; decide), _, rfl, p, _, rfl, putS up lenP (pFold ..), ?_⟩⟩
            rw [upd_upd]
            exact ⟨_, _, _, _, rfl, rfl, by omega, hd, Int.emod_nonneg _ (by decide), Int.emod_lt_of_pos _ (by decide)⟩
        · exact ⟨_, _, _, _, rfl, rfl, ha, hd, hf0, hf1⟩
      · refine iteF ?_
        exact ⟨_, _, _, _, rfl, rfl, ha, hd, hf0, hf1⟩
    · rintro σ' H' ⟨a, d, g, v2, rfl, rfl, ha', hd', hg0, hg1⟩
      have fin : ∀ (r a d g : Int), 0 ≤ r → r < m → 0 ≤ a → 0 ≤ d → 0 ≤ g → g < 2147483587 → Q (.int r) (upd H p (.dK (kvsP c a d ((n : Int) + 1) g))) := fun r a d g r0 r1 a0 d0 g0 g1 =>
        q r _ r0 r1 ⟨ns, a, d, g, up, uc, hlen, a0, d0, g0, g1⟩ fun b hb => upd_ne hb
      refine ⟨_, rfl, p, _, rfl, getS up (vDigits ..), _, _, rfl, rfl, _, rfl, ite2 (fun e1 => ?_) (fun e1 => ?_)⟩
      · refine ⟨_, rfl, p, _, rfl, getS up (vDigits ..), .inl ⟨_, rfl, _, rfl, _, _, rfl, rfl, hm, ?_⟩⟩
        refine ⟨_, rfl, p, _, rfl, getS up (vDigits ..), _, rfl, _, _, rfl, rfl, wide_div hm hm9 (by decide) (by decide), _, rfl, p, _, rfl, putS up lenP (pDigits ..), ?_⟩
        rw [upd_upd]
        refine ⟨_, rfl, ?_⟩
        exact fin _ _ _ _ (Int.emod_nonneg _ (by omega)) (Int.emod_lt_of_pos _ hm) ha' (Int.ediv_nonneg hd' (by omega)) hg0 hg1
      · refine ⟨_, rfl, p, _, rfl, getS up (vFold ..), _, rfl, p, _, rfl, getS up (vCount ..), _, _, rfl, rfl, .inr ⟨by decide, by decide⟩, _, _, rfl, rfl, _, _, rfl, rfl, ?_⟩
        refine ⟨_, rfl, _, _, rfl, rfl, ⟨by decide, by decide, ?_⟩, _, _, rfl, rfl, (by show (0 : Int) < 2305843009213693951; decide), .inl ⟨_, rfl, _, _, rfl, rfl, wide_div (b := 200) (by decide) (by decide) (by decide) (by decide), _, rfl, _, _, rfl, rfl, hm, ?_⟩⟩
        · omega
        · exact fin _ _ _ _ (Int.emod_nonneg _ (by omega)) (Int.emod_lt_of_pos _ hm) ha' hd' hg0 hg1
theorem ok_pick {f fD : Addr} {fd fdD : FuncData} {k : Nat} (F : Fun K "_law_pick" "_law_pick" sPick f fd) (FD : Fun K "_law_draw" "_law_draw" sDraw fD fdD) (bD : Binds K fdD ["_law_pen_here", "_law_many"] []) (gD : mg "_law_draw" = some (.ref fD)) (mi : mg "int" = none) (ml : mg "len" = none) :
    FnOk P w K mg base CX0 (k + 2) f fd ["_law_pen_here", "_law_some"] (spPick K) := by
  have GD : FnOk P w K mg base CX0 (k + 1) fD fdD ["_law_pen_here", "_law_many"] spDraw := ok_draw FD mi ml
  refine F.ok scPick (fun vs H Q E h => ?_) (fun cdv A outer s H vs Q E hr h => ?_)
  · obtain ⟨p, c, y, n, xs, rfl, _⟩ := h
    rfl
  · obtain ⟨p, c, y, n, xs, rfl, hP, hn, hS, h0, hl, q⟩ := h
    refine ⟨_, pss_one (ps_ret (pe_ix (ix_or ix_list ix_tup) (pv 1) (pe_call GD hr (by rfl) gD FD.kp bD .nil pass0 (pa_cons (pv 0) (pa_cons (pe_callB call_len_seq (by rfl) ml PySem.boot_len (pa_cons (pv 1) pa_nil)) pa_nil))) (fun _ _ => rfl))), ?_⟩
    have hpos : 0 < xs.length := List.length_pos_iff.mpr h0
    refine ⟨_, rfl, _, rfl, _, rfl, y, xs, rfl, hS, p, c, n, _, rfl, hP, hn, by omega, ?_, fun r H' r0 r1 hP' hk => ?_⟩
    · have e : (xs.length : Int).natAbs = xs.length := by omega
      rw [e]
      exact Nat.lt_of_le_of_lt hl (by decide)
    · obtain ⟨j, rfl⟩ : ∃ j : Nat, r = (j : Int) := ⟨r.toNat, by omega⟩
      have hj : j < xs.length := by omega
      have hx : xs[j]? = some xs[j] := List.getElem?_eq_getElem hj
      obtain ⟨ns, a0, d0, f0, ep, _⟩ := hP
      rcases hS with hS | hS
      · exact .inl ⟨y, xs, _, _, rfl, rfl, sqL_pen hk ep hS, atI_nat hx, q j _ H' hx hP' hk⟩
      · exact .inr ⟨y, xs, _, _, rfl, rfl, sqT_pen hk ep hS, atI_nat hx, q j _ H' hx hP' hk⟩
end
end KQ

namespace KQ
open PySem PySem.Spec PyProof.Rows L2
/-! ### texts as lists of signs -/
abbrev mS (L : List Nat) : Str := ⟨L.toArray⟩
theorem mS_len (L : List Nat) : (mS L).length = L.length := by simp [Str.length]
theorem mS_inj {L M : List Nat} (h : mS L = mS M) : L = M := by
  have := congrArg (fun x : Str => x.cps.toList) h
  simpa using this
theorem mS_app (L M : List Nat) : mS L ++ mS M = mS (L ++ M) := by
  show Str.mk (L.toArray ++ M.toArray) = _
  simp
theorem mS_eta (x : Str) : x = mS x.cps.toList := by
  show x = Str.mk x.cps.toList.toArray
  simp
theorem mS_of {x : Str} {L : List Nat} (h : x.cps.toList = L) : x = mS L := by rw [mS_eta x, h]
theorem mS_cut (L : List Nat) (lo hi : Option Int) : cutS (mS L) lo hi = mS ((L.drop (HT.sIx L.length 0 lo)).take (HT.sIx L.length L.length hi - HT.sIx L.length 0 lo)) := by
  unfold cutS
  rw [mS_len]
theorem cut_from (L : List Nat) (k : Nat) : cutS (mS L) (some (k : Int)) none = mS (L.drop k) := by
  rw [mS_cut, HT.sIx_nat, HT.sIx_none]
  by_cases h : k ≤ L.length
  · rw [Nat.min_eq_left h, List.take_of_length_le (by simp)]
  · rw [Nat.min_eq_right (by omega), List.drop_of_length_le (Nat.le_refl _), List.drop_of_length_le (by omega)]
    simp
theorem cut_to (L : List Nat) (k : Nat) : cutS (mS L) none (some (k : Int)) = mS (L.take k) := by
  rw [mS_cut, HT.sIx_nat, HT.sIx_none, List.drop_zero, Nat.sub_zero]
  by_cases h : k ≤ L.length
  · rw [Nat.min_eq_left h]
  · rw [Nat.min_eq_right (by omega), List.take_of_length_le (Nat.le_refl _), List.take_of_length_le (by omega)]
theorem cut_mid (L : List Nat) (k : Nat) : cutS (mS L) (some (k : Int)) (some ((k : Int) + 1)) = mS (L.drop k |>.take 1) := by
  have e : ((k : Int) + 1) = ((k + 1 : Nat) : Int) := by omega
  rw [e, mS_cut, HT.sIx_nat, HT.sIx_nat]
  by_cases h : k + 1 ≤ L.length
  · rw [Nat.min_eq_left h, Nat.min_eq_left (by omega)]
    congr 2
    omega
  · rw [Nat.min_eq_right (by omega), Nat.min_eq_right (by omega), List.drop_of_length_le (Nat.le_refl _), List.drop_of_length_le (by omega)]
    simp
theorem sw_one (L : List Nat) (c : Nat) : Txt.startswith (mS L) ⟨#[c]⟩ = decide (L.head? = some c) := by
  cases L with
  | nil => rfl
  | cons a L =>
    unfold Txt.startswith Builtin.Str.subAt
    show (decide (0 + 1 ≤ (mS (a :: L)).length) && ((a :: L).toArray.extract 0 (0 + 1) == #[c])) = _
    rw [mS_len]
    by_cases h : a = c
    · subst h
      simp
    · have : ¬ (some a = some c) := fun e => h (Option.some.inj e)
      simp [h]
theorem drop_take {p : Nat → Bool} (L : List Nat) : L.drop (L.takeWhile p).length = L.dropWhile p := by
  have h := List.takeWhile_append_dropWhile (p := p) (l := L)
  have h2 : (L.takeWhile p ++ L.dropWhile p).drop (L.takeWhile p).length = L.dropWhile p := List.drop_left
  rw [h] at h2
  exact h2
theorem lstrip_eq (L S : List Nat) : Txt.lstripChars (mS L) (mS S) = mS (L.dropWhile S.toArray.contains) := by
  have key : Builtin.Str.strSub (mS L) (L.takeWhile S.toArray.contains).length L.length = mS (L.dropWhile S.toArray.contains) := by
    refine mS_of ?_
    rw [PySem.StrLaws.strSub_toList]
    show ((L.drop _).take _) = _
    rw [drop_take, List.take_of_length_le]
    have h := congrArg List.length (List.takeWhile_append_dropWhile (p := S.toArray.contains) (l := L))
    rw [List.length_append] at h
    omega
  unfold Txt.lstripChars Txt.stripBy
  split
  · rename_i h
    have h0 : (L.takeWhile S.toArray.contains).length = 0 := by
      exact eq_of_beq ((Bool.and_eq_true _ _).mp h).1
    rw [← drop_take, h0, List.drop_zero]
  · show Builtin.Str.strSub (mS L) _ (mS L).length = _
    rw [mS_len]
    exact key
theorem strike (L : List Nat) (c : Nat) : Txt.replace (mS L) ⟨#[c]⟩ ⟨#[]⟩ = mS (L.filter (· != c)) := mS_of (by rw [replace_strikes])
/-! ### the letters and their bits -/
def isL (c : Nat) : Bool := (#[73, 88, 89, 90] : Array Nat).contains c
theorem isL_iff {c : Nat} : isL c = true ↔ c = 73 ∨ c = 88 ∨ c = 89 ∨ c = 90 := by
  unfold isL
  simp
def lx (c : Nat) : Nat := if c = 88 ∨ c = 89 then 1 else 0
def lz (c : Nat) : Nat := if c = 90 ∨ c = 89 then 1 else 0
def bv (f : Nat → Nat) : List Nat → Nat
  | [] => 0
  | c :: L => f c + 2 * bv f L
theorem bv_app (f : Nat → Nat) : ∀ (L : List Nat) (c : Nat), bv f (L ++ [c]) = bv f L + 2 ^ L.length * f c
  | [], c => by simp [bv]
  | a :: L, c => by
    show f a + 2 * bv f (L ++ [c]) = f a + 2 * bv f L + 2 ^ (L.length + 1) * f c
    rw [bv_app f L c, Nat.pow_succ, Nat.mul_add, Nat.add_assoc, Nat.mul_comm (2 ^ L.length) 2, Nat.mul_assoc]
theorem bv_take (f : Nat → Nat) {L : List Nat} {k c : Nat} (h : L[k]? = some c) : bv f (L.take (k + 1)) = bv f (L.take k) + 2 ^ k * f c := by
  have hk : k < L.length := by
    rcases Nat.lt_or_ge k L.length with h' | h'
    · exact h'
    · rw [List.getElem?_eq_none h'] at h; cases h
  have e : L.take (k + 1) = L.take k ++ [c] := by
    rw [List.take_succ, h]
    rfl
  rw [e, bv_app, List.length_take, Nat.min_eq_left (by omega)]
theorem bv_bit {f : Nat → Nat} (hf : ∀ c, f c < 2) : ∀ {L : List Nat} {k c : Nat}, L[k]? = some c → bv f L / 2 ^ k % 2 = f c
  | [], k, c, h => by simp at h
  | a :: L, 0, c, h => by
    have e : a = c := by simpa using h
    subst e
    have := hf a
    show (f a + 2 * bv f L) / 2 ^ 0 % 2 = f a
    rw [Nat.pow_zero, Nat.div_one]
    omega
  | a :: L, k + 1, c, h => by
    have h' : L[k]? = some c := by simpa using h
    have := hf a
    show (f a + 2 * bv f L) / 2 ^ (k + 1) % 2 = f c
    rw [Nat.pow_succ, Nat.mul_comm (2 ^ k) 2, ← Nat.div_div_eq_div_mul, show (f a + 2 * bv f L) / 2 = bv f L from by omega]
    exact bv_bit hf h'
theorem bv_lt {f : Nat → Nat} (hf : ∀ c, f c < 2) : ∀ L : List Nat, bv f L < 2 ^ L.length
  | [] => Nat.one_pos
  | a :: L => by
    have := bv_lt hf L
    have := hf a
    show f a + 2 * bv f L < 2 ^ (L.length + 1)
    rw [Nat.pow_succ]
    omega
theorem lx_lt (c : Nat) : lx c < 2 := by unfold lx; split <;> omega
theorem lz_lt (c : Nat) : lz c < 2 := by unfold lz; split <;> omega
theorem letter_back {c : Nat} (h : isL c = true) : ([73, 88, 90, 89] : List Nat)[lx c + 2 * lz c]? = some c := by
  rcases isL_iff.mp h with rfl | rfl | rfl | rfl <;> decide
/-! ### counting ones -/
def pc (n : Nat) : Nat := if h : n = 0 then 0 else n % 2 + pc (n / 2)
termination_by n
decreasing_by omega
theorem pc_zero : pc 0 = 0 := by unfold pc; rfl
theorem pc_two (m b : Nat) (hb : b < 2) : pc (2 * m + b) = b + pc m := by
  by_cases h : 2 * m + b = 0
  · have h1 : m = 0 := by omega
    have h2 : b = 0 := by omega
    subst h1 h2
    rw [pc_zero]
  · rw [pc, dif_neg h, show (2 * m + b) % 2 = b from by omega, show (2 * m + b) / 2 = m from by omega]
theorem and_two (a b i j : Nat) (hi : i < 2) (hj : j < 2) : (2 * a + i) &&& (2 * b + j) = 2 * (a &&& b) + (i &&& j) := by
  have h1 : ((2 * a + i) &&& (2 * b + j)) / 2 = a &&& b := by
    rw [Nat.and_div_two, show (2 * a + i) / 2 = a from by omega, show (2 * b + j) / 2 = b from by omega]
  have h2 : ((2 * a + i) &&& (2 * b + j)) % 2 = i &&& j := by
    have := Nat.and_mod_two_pow (a := 2 * a + i) (b := 2 * b + j) (n := 1)
    rw [Nat.pow_one] at this
    rw [this, show (2 * a + i) % 2 = i from by omega, show (2 * b + j) % 2 = j from by omega]
  omega
theorem or_two (a b i j : Nat) (hi : i < 2) (hj : j < 2) : (2 * a + i) ||| (2 * b + j) = 2 * (a ||| b) + (i ||| j) := by
  have h1 : ((2 * a + i) ||| (2 * b + j)) / 2 = a ||| b := by
    rw [Nat.or_div_two, show (2 * a + i) / 2 = a from by omega, show (2 * b + j) / 2 = b from by omega]
  have h2 : ((2 * a + i) ||| (2 * b + j)) % 2 = i ||| j := by
    have := Nat.or_mod_two_pow (a := 2 * a + i) (b := 2 * b + j) (n := 1)
    rw [Nat.pow_one] at this
    rw [this, show (2 * a + i) % 2 = i from by omega, show (2 * b + j) % 2 = j from by omega]
  omega
theorem pc_step : ∀ (n : Nat), 0 < n → pc (n &&& (n - 1)) + 1 = pc n := by
  intro n
  induction n using Nat.strongRecOn with
  | ind n ih =>
    intro hn
    by_cases h : n % 2 = 1
    · have e : n = 2 * (n / 2) + 1 := by omega
      have e2 : n - 1 = 2 * (n / 2) + 0 := by omega
      have e3 : n &&& (n - 1) = 2 * (n / 2) + 0 := by
        rw [e2]
        conv => lhs; lhs; rw [e]
        rw [and_two _ _ _ _ (by decide) (by decide), Nat.and_self]
        rfl
      rw [e3, pc_two _ _ (by decide)]
      conv => rhs; rw [e]
      rw [pc_two _ _ (by decide)]
      omega
    · have e : n = 2 * (n / 2) + 0 := by omega
      have e2 : n - 1 = 2 * (n / 2 - 1) + 1 := by omega
      have e3 : n &&& (n - 1) = 2 * (n / 2 &&& (n / 2 - 1)) + 0 := by
        rw [e2]
        conv => lhs; lhs; rw [e]
        rw [and_two _ _ _ _ (by decide) (by decide)]
        rfl
      have := ih (n / 2) (by omega) (by omega)
      rw [e3, pc_two _ _ (by decide)]
      conv => rhs; rw [e]
      rw [pc_two _ _ (by decide)]
      omega
def wt (L : List Nat) : Nat := L.length - L.count 73
theorem pc_or : ∀ {L : List Nat}, (∀ c ∈ L, isL c = true) → pc (bv lx L ||| bv lz L) + L.count 73 = L.length
  | [], _ => by
    show pc (0 ||| 0) + 0 = 0
    rw [show (0 ||| 0 : Nat) = 0 from rfl, pc_zero]
  | c :: L, h => by
    have ih := pc_or fun d hd => h d (List.mem_cons_of_mem _ hd)
    show pc ((lx c + 2 * bv lx L) ||| (lz c + 2 * bv lz L)) + (c :: L).count 73 = L.length + 1
    rw [Nat.add_comm (lx c), Nat.add_comm (lz c), or_two _ _ _ _ (lx_lt c) (lz_lt c), List.count_cons]
    have hc := isL_iff.mp (h c List.mem_cons_self)
    have two : (lx c ||| lz c) < 2 ∧ (lx c ||| lz c) + (if c == 73 then 1 else 0) = 1 := by
      rcases hc with rfl | rfl | rfl | rfl <;> decide
    rw [pc_two _ _ two.1]
    omega
theorem pc_wt {L : List Nat} (h : ∀ c ∈ L, isL c = true) : pc (bv lx L ||| bv lz L) = wt L := by
  have := pc_or h
  unfold wt
  omega
/-! ### a text's parts -/
def st1 (B : List Nat) : Nat := if B.head? = some 43 ∨ B.head? = some 45 then 1 else 0
def start (B : List Nat) : Nat := st1 B + (if (B.drop (st1 B)).head? = some 105 then 1 else 0)
def rest (B : List Nat) : List Nat := B.drop (start B)
def fine (B : List Nat) : Prop := (rest B).dropWhile isL = [] ∧ rest B ≠ []
instance (B : List Nat) : Decidable (fine B) := inferInstanceAs (Decidable (_ ∧ _))
def col (B : List Nat) : Nat := if fine B then 0 else B.length - ((rest B).dropWhile isL).length + 1
def ph (B : List Nat) : Nat := (if B.head? = some 45 then 2 else 0) + (if (B.drop (st1 B)).head? = some 105 then 1 else 0)
def headL : Nat → List Nat
  | 0 => []
  | 1 => [105]
  | 2 => [45]
  | _ => [45, 105]
theorem ph_lt (B : List Nat) : ph B < 4 := by
  unfold ph
  split <;> split <;> omega
theorem head_of (B : List Nat) : (B.take (start B)).filter (· != 43) = headL (ph B) := by
  cases B with
  | nil => rfl
  | cons a B =>
    unfold start ph
    by_cases h1 : a = 43
    · subst h1
      have e : st1 (43 :: B) = 1 := rfl
      rw [e]
      cases B with
      | nil => rfl
      | cons b B =>
        by_cases h2 : b = 105
        · subst h2
          rfl
        · have e2 : ((43 :: b :: B).drop 1).head? ≠ some 105 := fun z => h2 (Option.some.inj z)
          rw [if_neg e2, if_neg (by simp : ¬ ((43 :: b :: B).head? = some 45))]
          rfl
    · by_cases h3 : a = 45
      · subst h3
        have e : st1 (45 :: B) = 1 := rfl
        rw [e]
        cases B with
        | nil => rfl
        | cons b B =>
          by_cases h2 : b = 105
          · subst h2
            rfl
          · have e2 : ((45 :: b :: B).drop 1).head? ≠ some 105 := fun z => h2 (Option.some.inj z)
            rw [if_neg e2]
            rfl
      · have e : st1 (a :: B) = 0 := by
          unfold st1
          rw [if_neg]
          rintro (z | z)
          · exact h1 (Option.some.inj z)
          · exact h3 (Option.some.inj z)
        have e3 : ¬ ((a :: B).head? = some 45) := fun z => h3 (Option.some.inj z)
        rw [e, if_neg e3]
        by_cases h2 : a = 105
        · subst h2
          rfl
        · have e2 : ¬ (((a :: B).drop 0).head? = some 105) := fun z => h2 (Option.some.inj z)
          rw [if_neg e2]
          rfl
theorem start_le (B : List Nat) : start B ≤ B.length := by
  unfold start
  cases B with
  | nil => decide
  | cons a B =>
    have h1 : st1 (a :: B) ≤ 1 := by unfold st1; split <;> omega
    split
    · rename_i h
      have : st1 (a :: B) < (a :: B).length := by
        rcases Nat.lt_or_ge (st1 (a :: B)) (a :: B).length with z | z
        · exact z
        · rw [List.drop_of_length_le z] at h
          cases h
      omega
    · show _ ≤ B.length + 1
      omega
theorem dw_all : ∀ {L : List Nat}, (∀ c ∈ L, isL c = true) → L.dropWhile isL = []
  | [], _ => rfl
  | c :: L, h => by
    rw [List.dropWhile_cons_of_pos (h c List.mem_cons_self)]
    exact dw_all fun d hd => h d (List.mem_cons_of_mem _ hd)
/-- a head before letters -/
theorem read_head {L : List Nat} (hL : ∀ c ∈ L, isL c = true) (h0 : L ≠ []) (i : Nat) (T : List Nat) (p : Nat) (hT : ([([], 0), ([43], 0), ([45], 2), ([105], 1), ([43, 105], 1), ([45, 105], 3)] : List (List Nat × Nat))[i]? = some (T, p)) :
    rest (T ++ L) = L ∧ ph (T ++ L) = p ∧ fine (T ++ L) := by
  have hd : ∃ a M, L = a :: M ∧ a ≠ 43 ∧ a ≠ 45 ∧ a ≠ 105 := by
    cases L with
    | nil => exact absurd rfl h0
    | cons a M =>
      refine ⟨a, M, rfl, ?_, ?_, ?_⟩ <;> rintro rfl <;> have := isL_iff.mp (hL _ List.mem_cons_self) <;> omega
  obtain ⟨a, M, rfl, n1, n2, n3⟩ := hd
  have dw : (a :: M).dropWhile isL = [] := by
    exact dw_all hL
  have go : ∀ T p, start (T ++ (a :: M)) = T.length → ph (T ++ (a :: M)) = p → rest (T ++ (a :: M)) = a :: M ∧ ph (T ++ (a :: M)) = p ∧ fine (T ++ (a :: M)) := by
    intro T p hs hp
    have hr : rest (T ++ (a :: M)) = a :: M := by
      unfold rest
      rw [hs]
      exact List.drop_left
    refine ⟨hr, hp, ?_⟩
    unfold fine
    rw [hr]
    exact ⟨dw, by simp⟩
  have s1 : ∀ x : Nat, x ≠ 43 → x ≠ 45 → ∀ M, st1 (x :: M) = 0 := by
    intro x h1 h2 M
    unfold st1
    rw [if_neg]
    rintro (z | z)
    · exact h1 (Option.some.inj z)
    · exact h2 (Option.some.inj z)
  have no : ∀ M : List Nat, ¬ ((a :: M).head? = some 105) := fun M z => n3 (Option.some.inj z)
  match i, hT with
  | 0, e =>
    cases e
    refine go [] 0 ?_ ?_
    · show st1 (a :: M) + (if ((a :: M).drop (st1 (a :: M))).head? = some 105 then 1 else 0) = 0
      rw [s1 a n1 n2, List.drop_zero, if_neg (no M)]
    · have n4 : ¬ ((a :: M).head? = some 45) := fun z => n2 (Option.some.inj z)
      show (if (a :: M).head? = some 45 then 2 else 0) + (if ((a :: M).drop (st1 (a :: M))).head? = some 105 then 1 else 0) = 0
      rw [s1 a n1 n2, if_neg n4, List.drop_zero, if_neg (no M)]
  | 1, e =>
    cases e
    refine go [43] 0 ?_ ?_
    · show 1 + (if (a :: M).head? = some 105 then 1 else 0) = 1
      rw [if_neg (no M)]
    · show 0 + (if (a :: M).head? = some 105 then 1 else 0) = 0
      rw [if_neg (no M)]
  | 2, e =>
    cases e
    refine go [45] 2 ?_ ?_
    · show 1 + (if (a :: M).head? = some 105 then 1 else 0) = 1
      rw [if_neg (no M)]
    · show 2 + (if (a :: M).head? = some 105 then 1 else 0) = 2
      rw [if_neg (no M)]
  | 3, e =>
    cases e
    exact go [105] 1 rfl rfl
  | 4, e =>
    cases e
    exact go [43, 105] 1 rfl rfl
  | 5, e =>
    cases e
    exact go [45, 105] 3 rfl rfl
theorem col_zero {B : List Nat} : col B = 0 ↔ fine B := by
  unfold col
  split
  · exact ⟨fun _ => by assumption, fun _ => rfl⟩
  · exact ⟨fun z => by omega, fun z => absurd z (by assumption)⟩
theorem len_split (B : List Nat) : B.length = start B + ((rest B).takeWhile isL).length + ((rest B).dropWhile isL).length := by
  have h := congrArg List.length (List.takeWhile_append_dropWhile (p := isL) (l := rest B))
  rw [List.length_append] at h
  have h2 : (rest B).length = B.length - start B := List.length_drop
  have := start_le B
  omega
end KQ

namespace KQ
open PySem PySem.Spec PyProof.Rows L2
/-! ### == by an __eq__ of the class's own, whatever it answers -/
/-- the right side: of the same class, or a text -/
def Beside (C : Addr) (H : Hp) (y : V) : Prop := (∃ b dy gs, y = .ref b ∧ H b = some (.ins C dy gs)) ∨ ∃ z : Str, y = .str z
def rOwn (C : Addr) (sp : Sp) (E : XK) : R2 := fun x y H Q => ∃ a dx fs, x = .ref a ∧ H a = some (.ins C dx fs) ∧ Beside C H y ∧ sp [x, y] H (fun v H' => (∃ b, v = .bl b) ∧ Q v H') E
theorem op_own {X : Cx} {n : Nat} {CX : CXT} {C f : Addr} {fd : FuncData} {ps : List Str} {sp : Sp} {E : XK} (F : FnOk X.prog X.w X.K X.mg X.base CX n f fd ps sp) (hr : Room n X.A)
    (hs : PySem.W.findIn X.K (.ref C) "__eq__" = some (some (.ref f))) (hf : PySem.W.isFn X.K (.ref f) = true) (hn : PySem.W.notFirst X.K C (.type "str") = true) (hb : Binds X.K fd ps []) (hx : Passes CX X E) :
    OpR X (compareOp .Eq) (rOwn C sp E) := by
  intro pins s σ H x y v u Q I rx ry want
  obtain ⟨a, dx, fs, rfl, ha, be, hsp⟩ := want
  cases rx
  show wpAny (model X.prog X.w) X.A (richCompare .Eq (.ref a) u) (EP X pins σ Q) X.xe s
  obtain ⟨m1, I1, _⟩ := ins_get I.hok ha
  obtain ⟨d1, I1, _⟩ := I1.look
  obtain ⟨m, hF⟩ := I.fr
  have hl := F.len _ _ _ _ hsp
  have run : wpAny (model X.prog X.w) X.A (call (.ref f) [.ref a, u]) (PySem.W.CmpBack (EP X pins σ Q)) X.xe s := by
    have r2 : Vals [V.ref a, y] [Value.ref a, u] := .cons rfl (.cons ry .nil)
    refine wpAny_call (codeAny_mono (F.run X.A X.stack s H ⟨[.ref a, u], []⟩ [.ref a, u] [.ref a, y] _ E hr I.env0 (by
      have := hb s [.ref a, u] I.kIn (by simpa using hl)
      simpa using this) r2 hsp) fun r s' hq => ?_)
    cases r with
    | error e => exact hx pins σ H s e s' I hq
    | ok fl =>
      cases fl with
      | ret w =>
        obtain ⟨z, H', I', rz, ⟨b, ez⟩, q⟩ := I.after hq
        subst ez
        cases rz
        exact ⟨.bl b, H', I', rfl, q⟩
      | next => exact False.elim hq
      | brk => exact False.elim hq
      | cont => exact False.elim hq
  rcases be with ⟨b, dy, gs, rfl, hb'⟩ | ⟨z, rfl⟩
  · cases ry
    obtain ⟨m2, I2, _⟩ := ins_get I.hok hb'
    obtain ⟨d2, I2, _⟩ := I2.look
    exact PySem.W.cmp_K (op := .Eq) (tb := .ref C) hr.units0 hF I.ok.mod.kin I1 I2.type (by simp [PySem.W.notFirst]) hs hf run
  · obtain ⟨t, rfl⟩ : ∃ t, u = .str z t := ry
    exact PySem.W.cmp_K (op := .Eq) (tb := .type "str") hr.units0 hF I.ok.mod.kin I1 (PySem.W.Looks.of_pure rfl) hn hs hf run
end KQ

namespace KQ
open PySem PySem.Spec PyProof.Rows L2
/-! ### several clauses, each with a name for the exception -/
/-- what clauses that all write the slot k wish of an exception, one behind the other -/
def wList (K : PySem.W.Frag) (k : Nat) (W0 : WX) (D : Ends) : List (Value × (Addr → Value → Option Addr → TS)) → WX
  | [] => W0
  | z :: more => wAs K z.1 k z.2 (wList K k W0 D more) D
inductive Clauses (X : Cx) (nm : Str) : List ExceptHandler → List (Value × (Addr → Value → Option Addr → TS)) → Prop
  | done : Clauses X nm [] []
  | next {x : Str} {cl : Value} {tk : Addr → Value → Option Addr → TS} {s0 : Stmt} {ss : List Stmt} {p1 p2 : Pos} {hh : List ExceptHandler} {ll : List (Value × (Addr → Value → Option Addr → TS))} (named : Names X x cl)
      (body : ∀ (r : Addr) (ob : Obj) (k : Value) (d : Option Addr) (pn : List (Addr × Obj)), Zc k d ob → (∃ vs, ob.data = .fields vs) → PSs (X.suite r ((r, ob) :: pn)) (s0 :: ss) (tk r k d)) (more : Clauses X nm hh ll) :
      Clauses X nm (.ExceptHandler (some (.Name x p1)) (some nm) (s0 :: ss) p2 :: hh) ((cl, tk) :: ll)
section
variable {X : Cx} {body : List Stmt} {h0 : ExceptHandler} {hh : List ExceptHandler} {ll : List (Value × (Addr → Value → Option Addr → TS))} {pos : Pos} {tb : WX → TS} {W0 : WX} {nm : Str} {k : Nat}
theorem ps_try_list (hst : X.stack = X.env :: X.outer) (hfr0 : X.env.frame = some X.env.locals) (nd : X.N.Nodup) (hk : X.N[k]? = some nm) (hlo : X.env.kindOf nm = some .local) (tk : Takes X W0)
    (hb : ∀ (W : WX) (pn : List (Addr × Obj)) (xe : Value → Shared → Prop), Takes (X.tr pn xe) W → PassesOwn (model X.prog X.w) X.A X.env xe → PSs (X.tr pn xe) body (tb W))
    (cs : Clauses X nm (h0 :: hh) ll) : PS X (.Try body (h0 :: hh) [] [] pos) (fun D σ H => tb (wList X.K k W0 D ll) D σ H) := by
  refine ⟨fun pins s0 σ0 H0 D I0 want => ?_⟩
  have okX := I0.ok
  have frA : X.A.frames = some (X.env :: X.outer) := by rw [okX.frames, hst]
  refine wpAny_Try_except ?_
  refine wpAny_mono ((hb (wList X.K k W0 D ll) (X.pn ++ pins) (fun ex t1 => wpAny (model X.prog X.w) X.A (noteFrame ex X.env) (fun _ t2 => wpAny (model X.prog X.w) X.A (setFlight ex none) (fun _ t3 =>
    wpAny (model X.prog X.w) X.A (handleBy ex X.env (h0 :: hh)) (SP X pins D) X.xe t3) X.xe t2) X.xe t1) (fun u s1 xx => ?_) PassesOwn.looking).run [] s0 σ0 H0 D (I0.toTry _) want) (fun fl s1 got => ?_) (fun _ _ z => z)
  · obtain ⟨a, B, sI, pins1, σ1, H1, kls, d, rfl, J1, nb, up1, sky1, na, os, ag, wish⟩ := xx
    have J : Inv X pins σ1 H1 sI := J1.ofTry okX
    show wpAny (model X.prog X.w) X.A (noteFrame (.ref a) X.env) _ _ _
    refine Sky.land Zc.steady frA hfr0 (by rw [← hst]; exact sky1) fun hp3 fly3 up3 => ?_
    have J3 : Inv X pins σ1 H1 { s1 with heap := hp3 } := J.landed nb fly3.1 (up1.trans up3) os ag
    obtain ⟨o3, vs3, e3, z3, f3⟩ := fly3.there
    have off : a ∉ frs (X.env :: X.outer) := fun hm => by
      obtain ⟨_, o', e', hnf⟩ := fly3.2.2.1.mem hm
      rw [e3] at e'
      cases e'
      exact hnf _ f3
    have nL : a ≠ X.env.locals := fun z => off (List.mem_filterMap.mpr ⟨X.env, List.mem_cons_self, by rw [hfr0, z]⟩)
    have nF : a ∉ X.fs := fun hm => by
      obtain ⟨e, he, q⟩ := List.mem_filterMap.mp hm
      exact off (List.mem_filterMap.mpr ⟨e, List.mem_cons_of_mem _ he, q⟩)
    have S3 := J3.suite e3 f3 na nL nF
    have looks : PySem.W.Looks (model X.prog X.w) hp3 (typeOf (.ref a)) kls := fun A Q E s kk q => wpAny_typeOf_ref (kk _ _ e3) (by rw [z3.1]; exact q)
    have each : ∀ {hs' : List ExceptHandler} {l' : List (Value × (Addr → Value → Option Addr → TS))}, Clauses X nm hs' l' → wList X.K k W0 D l' kls d σ1 H1 →
        wpAny (model X.prog X.w) X.A (handleBy (.ref a) X.env hs') (SP X pins D) X.xe { s1 with heap := hp3 } := by
      intro hs' l' cl
      induction cl with
      | done =>
        intro out
        refine wpAny_handleBy_nil ?_
        obtain ⟨_, _, _, ob, vs, T, oT, tt, he, hz, hd, h1, hr⟩ := id fly3
        unfold PySem.passOn
        refine wpAny_bind (wpAny_field he hd h1 ?_)
        rw [if_neg (by simp : ¬ ((Value.ref T == Value.none) = true))]
        have go : wpAny (model X.prog X.w) X.A (setFlight (.ref a) X.env.frame) (fun _ s4 => wpAny (model X.prog X.w) X.A (throw (.ref a) : Sem Flow) (SP X pins D) X.xe s4) X.xe { s1 with heap := hp3 } := by
          rw [hfr0]
          refine HandSPX.setFlight_upZ fly3 fun hp4 hh4 up4 => wpAny_throw (tk _ _ ?_)
          exact ⟨a, B, sI, pins, σ1, H1, kls, d, rfl, J, nb, (up1.trans up3).trans up4, .inr (.inr (by rw [hst]; exact hh4)), na, os, ag, out⟩
        first
          | exact wpAny_bind (wpAny_pure (wpAny_bind go))
          | exact wpAny_bind go
      | @next x cl tc s0 ss p1 p2 hs2 l2 named suite more ih =>
        intro ask
        obtain ⟨b, hb1, yes, no⟩ := ask
        refine wpAny_handleBy_cons (codeAny_handlers_test ?_) (by intro q; cases q)
        have LM := PySem.W.exm_one (M := model X.prog X.w) (J3.kIn) looks hb1
        have test : ∀ {Q E : Value → Shared → Prop}, Q cl { s1 with heap := hp3 } → wpAny (model X.prog X.w) (X.A.mark (some (.ref a))) (eval (.Name x p1) X.env) Q E { s1 with heap := hp3 } := fun {Q E} q => by
          obtain ⟨hg, nodbg, hm | ⟨hm, hv, hnn⟩⟩ := named
          · exact ld_glob (X := X.suite a ((a, o3) :: (X.pn ++ pins))) S3 hg hm q nodbg
          · exact ld_blt (X := X.suite a ((a, o3) :: (X.pn ++ pins))) S3 hg hm hv q hnn nodbg
        refine test (LM.here ?_)
        cases b with
        | false =>
          show wpAny _ X.A (handleBy (.ref a) X.env hs2) _ _ _
          exact ih (no rfl)
        | true =>
          refine codeAny_handlers_suite_as ?_
          refine HandSPX.lands_againZ fly3 fun hp4 fly4 up4 => ?_
          have J4 : Inv X pins σ1 H1 { s1 with heap := hp4 } := J.landed nb fly4.1 ((up1.trans up3).trans up4) os ag
          obtain ⟨o4, vs4, e4, z4, f4⟩ := fly4.there
          refine store_ok (X := X.suite a ((a, o4) :: (X.pn ++ pins))) (v := .ref a) (J4.suite e4 f4 na nL nF) nd hk (.inl hlo) rfl (fun s5 S5 => ?_) (.inr hlo)
          refine wpAny_mono ((suite a o4 kls d (X.pn ++ pins) z4 ⟨_, f4⟩).run [] s5 _ H1 _ S5 (yes rfl a na)) (fun fl6 s6 got6 => ?_) (fun _ _ z => False.elim z)
          have gone : ∀ {σ6 : L2.St} {H6 : Hp} {Q : Shared → Prop}, Inv (X.suite a ((a, o4) :: (X.pn ++ pins))) [] σ6 H6 s6 → (∀ s7, Inv X pins (σ6.set k none) H6 s7 → Q s7) →
              wpAny (model X.prog X.w) X.A (do bindName X.env nm .none; unbindBehindTheSuite X.env nm p2) (fun _ s7 => Q s7) X.xe s6 := fun S6 hq => gone_ok (S6.unsuite okX) nd hk hlo hq
          cases fl6 with
          | ret u =>
            obtain ⟨v6, σ6, H6, S6, r6, q6⟩ := got6
            exact gone S6 fun s7 J7 => ⟨_, _, _, J7, r6, q6⟩
          | next =>
            obtain ⟨σ6, H6, S6, q6⟩ := got6
            exact gone S6 fun s7 J7 => ⟨_, _, J7, q6⟩
          | brk =>
            obtain ⟨σ6, H6, S6, q6⟩ := got6
            exact gone S6 fun s7 J7 => ⟨_, _, J7, q6⟩
          | cont =>
            obtain ⟨σ6, H6, S6, q6⟩ := got6
            exact gone S6 fun s7 J7 => ⟨_, _, J7, q6⟩
    exact each cs wish
  · cases fl with
    | ret u =>
      obtain ⟨v, σ', H', J', r, q⟩ := got
      exact ⟨v, σ', H', J'.ofTry okX, r, q⟩
    | next =>
      obtain ⟨σ', H', J', q⟩ := got
      exact wpAny_execs_nil ⟨σ', H', J'.ofTry okX, q⟩
    | brk =>
      obtain ⟨σ', H', J', q⟩ := got
      exact ⟨σ', H', J'.ofTry okX, q⟩
    | cont =>
      obtain ⟨σ', H', J', q⟩ := got
      exact ⟨σ', H', J'.ofTry okX, q⟩
end
end KQ

namespace KQ
open PySem PySem.Spec PyProof.Rows L2
/-! ### rows of bits as numbers -/
def lw (n r : Nat) : Nat := if n.testBit r.log2 then n ^^^ r else n
def rst (T : List Nat) (n : Nat) : Nat := T.foldl lw n
def Sub (S : Nat → Prop) : Prop := S 0 ∧ ∀ x y, S x → S y → S (x ^^^ y)
def Spn (T : List Nat) (x : Nat) : Prop := ∀ S, Sub S → (∀ a ∈ T, S a) → S x
theorem spn_sub (T : List Nat) : Sub (Spn T) := ⟨fun _ h _ => h.1, fun x y hx hy S h m => h.2 x y (hx S h m) (hy S h m)⟩
theorem spn_mem {T : List Nat} {a : Nat} (h : a ∈ T) : Spn T a := fun _ _ m => m a h
theorem spn_le {T U : List Nat} {x : Nat} (h : ∀ a ∈ T, Spn U a) (hx : Spn T x) : Spn U x := hx _ (spn_sub U) h
theorem spn_iff_of {T U : List Nat} (h : ∀ a ∈ T, Spn U a) (k : ∀ a ∈ U, Spn T a) (x : Nat) : Spn T x ↔ Spn U x := ⟨spn_le h, spn_le k⟩
theorem log_of {n : Nat} (h : n ≠ 0) : 2 ^ n.log2 ≤ n ∧ n < 2 ^ (n.log2 + 1) := ⟨Nat.log2_self_le h, Nat.lt_log2_self⟩
theorem bit_top {n : Nat} (h : n ≠ 0) : n.testBit n.log2 = true := by
  obtain ⟨h1, h2⟩ := log_of h
  rw [Nat.testBit_eq_decide_div_mod_eq]
  have e : n / 2 ^ n.log2 = 1 := by
    apply Nat.div_eq_of_lt_le
    · omega
    · rw [Nat.pow_succ] at h2
      omega
  rw [e]
  rfl
theorem bit_above {n j : Nat} (h : n.log2 < j) : n.testBit j = false := by
  by_cases z : n = 0
  · subst z
    exact Nat.zero_testBit j
  · exact Nat.testBit_lt_two_pow (Nat.lt_of_lt_of_le (log_of z).2 (Nat.pow_le_pow_right (by decide) h))
theorem bit_high {n k j : Nat} (h : n < 2 ^ k) (hj : k ≤ j) : n.testBit j = false := Nat.testBit_lt_two_pow (Nat.lt_of_lt_of_le h (Nat.pow_le_pow_right (by decide) hj))
theorem log_of_bits {n t : Nat} (h : n.testBit t = true) (k : ∀ j, t < j → n.testBit j = false) : n.log2 = t := by
  have n0 : n ≠ 0 := fun z => by
    subst z
    rw [Nat.zero_testBit] at h
    cases h
  rcases Nat.lt_trichotomy n.log2 t with a | a | a
  · rw [bit_above a] at h
    cases h
  · exact a
  · have := k _ a
    rw [bit_top n0] at this
    cases this
theorem bit_lt {n m : Nat} (t : Nat) (hn : n.testBit t = false) (hm : m.testBit t = true) (h : ∀ j, t < j → n.testBit j = m.testBit j) : n < m := by
  have e : n / 2 ^ (t + 1) = m / 2 ^ (t + 1) := by
    apply Nat.eq_of_testBit_eq
    intro j
    rw [Nat.testBit_div_two_pow, Nat.testBit_div_two_pow]
    exact h _ (by omega)
  rw [Nat.testBit_eq_decide_div_mod_eq] at hn hm
  have hn' := of_decide_eq_false hn
  have hm' := of_decide_eq_true hm
  rw [Nat.pow_succ, ← Nat.div_div_eq_div_mul, ← Nat.div_div_eq_div_mul] at e
  have l : n / 2 ^ t < m / 2 ^ t := by omega
  exact Nat.lt_of_not_le fun z => absurd (Nat.div_le_div_right (c := 2 ^ t) z) (by omega)
theorem lt_iff {n r : Nat} (hr : r ≠ 0) : n ^^^ r < n ↔ n.testBit r.log2 = true := by
  have up : ∀ j, r.log2 < j → (n ^^^ r).testBit j = n.testBit j := fun j hj => by
    rw [Nat.testBit_xor, bit_above hj, Bool.xor_false]
  constructor
  · intro h
    rcases Bool.eq_false_or_eq_true (n.testBit r.log2) with e | e
    · exact e
    · have : n < n ^^^ r := by
        refine bit_lt r.log2 e ?_ fun j hj => (up j hj).symm
        rw [Nat.testBit_xor, e, bit_top hr]
        rfl
      omega
  · intro e
    refine bit_lt r.log2 ?_ e up
    rw [Nat.testBit_xor, e, bit_top hr]
    rfl
/-- min(n, n ^ r) -/
theorem min_lw {n r : Nat} (hr : r ≠ 0) : (if ((n ^^^ r : Nat) : Int) < (n : Int) then ((n ^^^ r : Nat) : Int) else (n : Int)) = ((lw n r : Nat) : Int) := by
  unfold lw
  by_cases h : n ^^^ r < n
  · rw [if_pos (by omega), if_pos ((lt_iff hr).mp h)]
  · rw [if_neg (by omega), if_neg (fun z => h ((lt_iff hr).mpr z))]
theorem lw_lin (x y r : Nat) : lw (x ^^^ y) r = lw x r ^^^ lw y r := by
  unfold lw
  rw [Nat.testBit_xor]
  rcases Bool.eq_false_or_eq_true (x.testBit r.log2) with a | a <;> rcases Bool.eq_false_or_eq_true (y.testBit r.log2) with b | b <;> rw [a, b] <;> simp
  · rw [Nat.xor_assoc x r, ← Nat.xor_assoc r y, Nat.xor_comm r y, Nat.xor_assoc y r, Nat.xor_self, Nat.xor_zero]
  · rw [Nat.xor_assoc, Nat.xor_comm y, ← Nat.xor_assoc]
  · rw [Nat.xor_assoc]
theorem rst_lin (T : List Nat) : ∀ x y, rst T (x ^^^ y) = rst T x ^^^ rst T y := by
  induction T with
  | nil => intro x y; rfl
  | cons r T ih =>
    intro x y
    show rst T (lw (x ^^^ y) r) = rst T (lw x r) ^^^ rst T (lw y r)
    rw [lw_lin, ih]
theorem lw_zero (r : Nat) : lw 0 r = 0 := by
  unfold lw
  rw [Nat.zero_testBit]
  rfl
theorem rst_zero (T : List Nat) : rst T 0 = 0 := by
  induction T with
  | nil => rfl
  | cons r T ih =>
    show rst T (lw 0 r) = 0
    rw [lw_zero, ih]
structure Ec (T : List Nat) : Prop where
  nz : ∀ r ∈ T, r ≠ 0
  pw : T.Pairwise fun a b => b.testBit a.log2 = false
theorem lw_bit {n r t : Nat} (h : r.testBit t = false) : (lw n r).testBit t = n.testBit t := by
  unfold lw
  split
  · rw [Nat.testBit_xor, h, Bool.xor_false]
  · rfl
theorem rst_bit {t : Nat} : ∀ {T : List Nat} {n : Nat}, (∀ r ∈ T, r.testBit t = false) → (rst T n).testBit t = n.testBit t
  | [], _, _ => rfl
  | r :: T, n, h => by
    show (rst T (lw n r)).testBit t = _
    rw [rst_bit fun q hq => h q (List.mem_cons_of_mem _ hq), lw_bit (h r List.mem_cons_self)]
theorem Ec.tail {r : Nat} {T : List Nat} (E : Ec (r :: T)) : Ec T := ⟨fun q hq => E.nz q (List.mem_cons_of_mem _ hq), (List.pairwise_cons.mp E.pw).2⟩
theorem lw_clear {n r : Nat} (hr : r ≠ 0) : (lw n r).testBit r.log2 = false := by
  unfold lw
  split
  · rename_i h
    rw [Nat.testBit_xor, h, bit_top hr]
    rfl
  · rename_i h
    exact Bool.eq_false_iff.mpr h
theorem rst_clear : ∀ {T : List Nat} {n : Nat}, Ec T → ∀ r ∈ T, (rst T n).testBit r.log2 = false
  | r :: T, n, E, q, hq => by
    rcases List.mem_cons.mp hq with rfl | hq
    · show (rst T (lw n q)).testBit _ = _
      rw [rst_bit (List.pairwise_cons.mp E.pw).1, lw_clear (E.nz q List.mem_cons_self)]
    · exact rst_clear (T := T) E.tail q hq
theorem lw_self {r : Nat} (hr : r ≠ 0) : lw r r = 0 := by
  unfold lw
  rw [bit_top hr, if_pos rfl, Nat.xor_self]
theorem rst_mem : ∀ {T : List Nat}, Ec T → ∀ r ∈ T, rst T r = 0
  | a :: T, E, r, hr => by
    show rst T (lw r a) = 0
    rcases List.mem_cons.mp hr with rfl | hr
    · rw [lw_self (E.nz r List.mem_cons_self), rst_zero]
    · have e : lw r a = r := by
        unfold lw
        rw [(List.pairwise_cons.mp E.pw).1 r hr]
        rfl
      rw [e]
      exact rst_mem E.tail r hr
theorem rst_spn : ∀ {T : List Nat} (n : Nat), Spn T (n ^^^ rst T n)
  | [], n => by
    show Spn [] (n ^^^ n)
    rw [Nat.xor_self]
    exact (spn_sub _).1
  | r :: T, n => by
    show Spn (r :: T) (n ^^^ rst T (lw n r))
    have h1 : Spn (r :: T) (lw n r ^^^ rst T (lw n r)) := spn_le (fun a ha => spn_mem (List.mem_cons_of_mem _ ha)) (rst_spn (T := T) (lw n r))
    have h2 : Spn (r :: T) (n ^^^ lw n r) := by
      unfold lw
      split
      · rw [← Nat.xor_assoc, Nat.xor_self, Nat.zero_xor]
        exact spn_mem List.mem_cons_self
      · rw [Nat.xor_self]
        exact (spn_sub _).1
    have h3 := (spn_sub _).2 _ _ h2 h1
    rw [Nat.xor_assoc, ← Nat.xor_assoc (lw n r) (lw n r), Nat.xor_self, Nat.zero_xor] at h3
    exact h3
theorem spn_rst {T : List Nat} (E : Ec T) (x : Nat) : Spn T x ↔ rst T x = 0 := by
  constructor
  · intro h
    exact h (fun x => rst T x = 0) ⟨rst_zero T, fun x y a b => by show rst T (x ^^^ y) = 0; rw [rst_lin, show rst T x = 0 from a, show rst T y = 0 from b]; rfl⟩ (rst_mem E)
  · intro h
    have := rst_spn (T := T) x
    rw [h, Nat.xor_zero] at this
    exact this
theorem rst_top : ∀ {T : List Nat} {n t : Nat}, (∀ r ∈ T, r.log2 ≠ t) → n.testBit t = true → (∀ j, t < j → n.testBit j = false) → (rst T n).testBit t = true
  | [], _, _, _, h, _ => h
  | r :: T, n, t, hT, h, k => by
    show (rst T (lw n r)).testBit t = true
    have ne := hT r List.mem_cons_self
    refine rst_top (fun q hq => hT q (List.mem_cons_of_mem _ hq)) ?_ ?_
    · unfold lw
      split
      · rename_i hb
        rcases Nat.lt_or_ge t r.log2 with a | a
        · rw [k _ a] at hb
          cases hb
        · rw [Nat.testBit_xor, h, bit_above (by omega)]
          rfl
      · exact h
    · intro j hj
      unfold lw
      split
      · rename_i hb
        rcases Nat.lt_or_ge t r.log2 with a | a
        · rw [k _ a] at hb
          cases hb
        · rw [Nat.testBit_xor, k j hj, bit_above (by omega)]
          rfl
      · exact k j hj
theorem top_mem {T : List Nat} (E : Ec T) {x : Nat} (h : Spn T x) (x0 : x ≠ 0) : ∃ r ∈ T, r.log2 = x.log2 := by
  refine Classical.byContradiction fun no => ?_
  have := rst_top (T := T) (n := x) (t := x.log2) (fun r hr e => no ⟨r, hr, e⟩) (bit_top x0) fun j hj => bit_above hj
  rw [(spn_rst E x).mp h, Nat.zero_testBit] at this
  cases this
theorem nodup_le {α : Type} [DecidableEq α] : ∀ {l m : List α}, l.Nodup → (∀ a ∈ l, a ∈ m) → l.length ≤ m.length
  | [], _, _, _ => Nat.zero_le _
  | a :: l, m, hn, h => by
    have ha := h a List.mem_cons_self
    have n2 := List.nodup_cons.mp hn
    have k := nodup_le (l := l) (m := m.erase a) n2.2 fun b hb => (List.mem_erase_of_ne (fun e => n2.1 (by rw [← e]; exact hb))).mpr (h b (List.mem_cons_of_mem _ hb))
    rw [List.length_erase_of_mem ha] at k
    have : 0 < m.length := List.length_pos_of_mem ha
    show l.length + 1 ≤ _
    omega
theorem Ec.tops {T : List Nat} (E : Ec T) : (T.map Nat.log2).Nodup := by
  refine List.pairwise_map.mpr ?_
  refine List.Pairwise.imp_of_mem (fun {a b} ha hb h e => ?_) E.pw
  rw [e, bit_top (E.nz b hb)] at h
  cases h
theorem Ec.nodup {T : List Nat} (E : Ec T) : T.Nodup := List.Pairwise.of_map Nat.log2 (fun _ _ h e => h (e ▸ rfl)) E.tops
theorem len_le {T U : List Nat} (E : Ec T) (F : Ec U) (h : ∀ x ∈ T, Spn U x) : T.length ≤ U.length := by
  have := nodup_le (l := T.map Nat.log2) (m := U.map Nat.log2) E.tops fun a ha => by
    obtain ⟨r, hr, rfl⟩ := List.mem_map.mp ha
    obtain ⟨q, hq, e⟩ := top_mem F (h r hr) (E.nz r hr)
    exact List.mem_map.mpr ⟨q, hq, e⟩
  rwa [List.length_map, List.length_map] at this
theorem len_eq {T U : List Nat} (E : Ec T) (F : Ec U) (h : ∀ x, Spn T x ↔ Spn U x) : T.length = U.length :=
  Nat.le_antisymm (len_le E F fun x hx => (h x).mp (spn_mem hx)) (len_le F E fun x hx => (h x).mpr (spn_mem hx))
/-- a reduced table, in any order -/
structure Red (T : List Nat) : Prop where
  nz : ∀ r ∈ T, r ≠ 0
  pw : T.Pairwise fun a b => b.testBit a.log2 = false ∧ a.testBit b.log2 = false
theorem Red.ec {T : List Nat} (R : Red T) : Ec T := ⟨R.nz, R.pw.imp fun h => h.1⟩
theorem Red.perm {T U : List Nat} (R : Red T) (p : T.Perm U) : Red U := ⟨fun r hr => R.nz r (p.mem_iff.mpr hr), (p.pairwise_iff fun h => ⟨h.2, h.1⟩).mp R.pw⟩
theorem Red.nil : Red [] := ⟨fun _ h => (by cases h), List.Pairwise.nil⟩
theorem Red.bit {T : List Nat} (R : Red T) {a b : Nat} (ha : a ∈ T) (hb : b ∈ T) (ne : a ≠ b) : b.testBit a.log2 = false := by
  have this : ∀ {x y : Nat}, List.Sublist [x, y] T → y.testBit x.log2 = false ∧ x.testBit y.log2 = false := List.pairwise_iff_forall_sublist.mp R.pw
  rcases Classical.em (List.Sublist [a, b] T) with s | s
  · exact (this s).1
  · have q : List.Sublist [b, a] T := by
      clear this
      have nd := R.ec.nodup
      clear R
      induction T with
      | nil => cases ha
      | cons c T ih =>
        rcases List.mem_cons.mp ha with e1 | ha'
        · rcases List.mem_cons.mp hb with e2 | hb'
          · exact absurd (e1.trans e2.symm) ne
          · rw [e1] at s
            exact absurd (List.Sublist.cons₂ _ (List.singleton_sublist.mpr hb')) s
        · rcases List.mem_cons.mp hb with e2 | hb'
          · rw [e2]
            exact List.Sublist.cons₂ _ (List.singleton_sublist.mpr ha')
          · exact List.Sublist.cons _ (ih ha' hb' (fun z => s (List.Sublist.cons _ z)) (List.nodup_cons.mp nd).2)
    exact (this q).2
/-- a new row put to it -/
theorem lw_log {r v : Nat} (hr : r ≠ 0) (h : v.testBit r.log2 = false) : (lw r v).log2 = r.log2 ∧ lw r v ≠ 0 := by
  have b : (lw r v).testBit r.log2 = true := by rw [lw_bit h, bit_top hr]
  refine ⟨log_of_bits b fun j hj => ?_, fun z => ?_⟩
  · unfold lw
    split
    · rename_i hb
      rcases Nat.lt_or_ge r.log2 v.log2 with a | a
      · rw [bit_above a] at hb
        cases hb
      · rw [Nat.testBit_xor, bit_above hj, bit_above (by omega)]
        rfl
    · exact bit_above hj
  · rw [z, Nat.zero_testBit] at b
    cases b
theorem Red.add {T : List Nat} {v : Nat} (R : Red T) (v0 : v ≠ 0) (h : ∀ r ∈ T, v.testBit r.log2 = false) : Red (T.map (lw · v) ++ [v]) := by
  refine ⟨fun r hr => ?_, List.pairwise_append.mpr ⟨List.pairwise_map.mpr (R.pw.imp_of_mem fun {a b} ha hb k => ?_), List.pairwise_singleton _ _, fun a ha b hb => ?_⟩⟩
  · rcases List.mem_append.mp hr with q | q
    · obtain ⟨a, ha, rfl⟩ := List.mem_map.mp q
      exact (lw_log (R.nz a ha) (h a ha)).2
    · rw [List.mem_singleton.mp q]
      exact v0
  · rw [(lw_log (R.nz a ha) (h a ha)).1, (lw_log (R.nz b hb) (h b hb)).1, lw_bit (h a ha), lw_bit (h b hb)]
    exact k
  · obtain ⟨c, hc, rfl⟩ := List.mem_map.mp ha
    rw [List.mem_singleton.mp hb, (lw_log (R.nz c hc) (h c hc)).1]
    exact ⟨h c hc, lw_clear v0⟩
theorem spn_add {T ns : List Nat} {g : Nat} (hT : ∀ x, Spn T x ↔ Spn ns x) (v0 : rst T g ≠ 0) (x : Nat) : Spn (T.map (lw · (rst T g)) ++ [rst T g]) x ↔ Spn (ns ++ [g]) x := by
  have left : ∀ a, Spn T a → Spn (ns ++ [g]) a := fun a ha => spn_le (fun b hb => spn_mem (List.mem_append_left _ hb)) ((hT a).mp ha)
  have hv : Spn (ns ++ [g]) (rst T g) := by
    have h1 := left _ (rst_spn (T := T) g)
    have h2 := (spn_sub _).2 _ _ (spn_mem (T := ns ++ [g]) (List.mem_append_right _ (List.mem_singleton_self g))) h1
    rwa [← Nat.xor_assoc, Nat.xor_self, Nat.zero_xor] at h2
  have vm : Spn (T.map (lw · (rst T g)) ++ [rst T g]) (rst T g) := spn_mem (List.mem_append_right _ (List.mem_singleton_self _))
  have old : ∀ r ∈ T, Spn (T.map (lw · (rst T g)) ++ [rst T g]) r := fun r hr => by
    have h1 : Spn (T.map (lw · (rst T g)) ++ [rst T g]) (lw r (rst T g)) := spn_mem (List.mem_append_left _ (List.mem_map.mpr ⟨r, hr, rfl⟩))
    unfold lw at h1
    split at h1
    · have := (spn_sub _).2 _ _ h1 vm
      unfold lw at this
      rwa [Nat.xor_assoc, Nat.xor_self, Nat.xor_zero] at this
    · unfold lw
      exact h1
  refine spn_iff_of (fun a ha => ?_) (fun a ha => ?_) x
  · rcases List.mem_append.mp ha with q | q
    · obtain ⟨r, hr, rfl⟩ := List.mem_map.mp q
      have hr' := left r (spn_mem hr)
      show Spn _ (lw r (rst T g))
      unfold lw
      split
      · exact (spn_sub _).2 _ _ hr' hv
      · exact hr'
    · rw [List.mem_singleton.mp q]
      exact hv
  · rcases List.mem_append.mp ha with q | q
    · exact spn_le old ((hT a).mpr (spn_mem q))
    · rw [List.mem_singleton.mp q]
      have h1 := spn_le old (rst_spn (T := T) g)
      have := (spn_sub _).2 _ _ h1 vm
      rwa [Nat.xor_assoc, Nat.xor_self, Nat.xor_zero] at this
theorem spn_skip {T ns : List Nat} {g : Nat} (E : Ec T) (hT : ∀ x, Spn T x ↔ Spn ns x) (v0 : rst T g = 0) (x : Nat) : Spn T x ↔ Spn (ns ++ [g]) x := by
  refine spn_iff_of (fun a ha => spn_le (fun b hb => spn_mem (List.mem_append_left _ hb)) ((hT a).mp (spn_mem ha))) (fun a ha => ?_) x
  rcases List.mem_append.mp ha with q | q
  · exact (hT a).mpr (spn_mem q)
  · rw [List.mem_singleton.mp q]
    exact (spn_rst E g).mpr v0
theorem spn_perm {T U : List Nat} (p : T.Perm U) (x : Nat) : Spn T x ↔ Spn U x := spn_iff_of (fun a ha => spn_mem (p.mem_iff.mp ha)) (fun a ha => spn_mem (p.mem_iff.mpr ha)) x
theorem lw_lt {n r k : Nat} (hn : n < 2 ^ k) (hr : r < 2 ^ k) : lw n r < 2 ^ k := by
  unfold lw
  split
  · exact Nat.xor_lt_two_pow hn hr
  · exact hn
theorem rst_lt : ∀ {T : List Nat} {n k : Nat}, n < 2 ^ k → (∀ r ∈ T, r < 2 ^ k) → rst T n < 2 ^ k
  | [], _, _, h, _ => h
  | r :: T, n, k, h, hT => rst_lt (T := T) (lw_lt h (hT r List.mem_cons_self)) fun q hq => hT q (List.mem_cons_of_mem _ hq)
end KQ

namespace KQ
open PySem PySem.Spec PyProof.Rows L2
/-! ### rows -/
def rowOf (W m : Nat) : List Nat := (List.range W).map fun k => (m.testBit (W - 1 - k)).toNat
theorem rowOf_len (W m : Nat) : (rowOf W m).length = W := by
  unfold rowOf
  rw [List.length_map, List.length_range]
theorem rowOf_at {W m k : Nat} (h : k < W) : (rowOf W m)[k]? = some (m.testBit (W - 1 - k)).toNat := by
  unfold rowOf
  rw [List.getElem?_map, List.getElem?_range h]
  rfl
theorem rowOf_succ (W m : Nat) : rowOf (W + 1) m = (m.testBit W).toNat :: rowOf W m := by
  unfold rowOf
  rw [List.range_succ_eq_map, List.map_cons, List.map_map]
  congr 1
  refine List.map_congr_left fun k _ => ?_
  show (m.testBit (W + 1 - 1 - (k + 1))).toNat = _
  rw [show W + 1 - 1 - (k + 1) = W - 1 - k by omega]
theorem rowOf_bit {W m b : Nat} (h : b ∈ rowOf W m) : b < 2 := by
  unfold rowOf at h
  obtain ⟨k, _, rfl⟩ := List.mem_map.mp h
  exact Bool.toNat_lt _
/-- the number of bits, the first one the highest -/
def nb (t : Nat) (bs : List Nat) : Nat := bs.foldl (fun t b => 2 * t + b) t
theorem nb_eq : ∀ (bs : List Nat) (t : Nat), nb t bs = t * 2 ^ bs.length + nb 0 bs
  | [], t => by
    show t = t * 1 + 0
    omega
  | b :: bs, t => by
    show nb (2 * t + b) bs = _ + nb (2 * 0 + b) bs
    rw [nb_eq bs, nb_eq bs (2 * 0 + b), List.length_cons, Nat.pow_succ, Nat.mul_zero, Nat.zero_add, Nat.add_mul]
    rw [show 2 * t * 2 ^ bs.length = t * (2 ^ bs.length * 2) by rw [Nat.mul_comm 2 t, Nat.mul_assoc, Nat.mul_comm 2]]
    omega
theorem nb_row : ∀ (W m : Nat), nb 0 (rowOf W m) = m % 2 ^ W
  | 0, m => by
    rw [Nat.pow_zero, Nat.mod_one]
    rfl
  | W + 1, m => by
    rw [rowOf_succ]
    show nb (2 * 0 + _) (rowOf W m) = _
    rw [nb_eq, nb_row W m, rowOf_len, Nat.mul_zero, Nat.zero_add, Nat.testBit_eq_decide_div_mod_eq, Nat.pow_succ, Nat.mod_mul]
    have : m / 2 ^ W % 2 < 2 := Nat.mod_lt _ (by decide)
    by_cases e : m / 2 ^ W % 2 = 1
    · rw [decide_eq_true e, e]
      show 1 * _ + _ = _
      omega
    · rw [decide_eq_false e, show m / 2 ^ W % 2 = 0 by omega]
      show 0 * _ + _ = _
      omega
theorem nb_lt : ∀ (bs : List Nat), (∀ b ∈ bs, b < 2) → nb 0 bs < 2 ^ bs.length
  | [], _ => by
    show 0 < 1
    decide
  | b :: bs, h => by
    show nb (2 * 0 + b) bs < _
    have h1 := nb_lt bs fun c hc => h c (List.mem_cons_of_mem _ hc)
    have h2 := h b List.mem_cons_self
    rw [nb_eq, Nat.mul_zero, Nat.zero_add, List.length_cons, Nat.pow_succ]
    have : b = 0 ∨ b = 1 := by omega
    rcases this with rfl | rfl <;> omega
theorem rowOf_mod (W m : Nat) : rowOf W (m % 2 ^ W) = rowOf W m := by
  unfold rowOf
  refine List.map_congr_left fun k hk => ?_
  have := List.mem_range.mp hk
  rw [Nat.testBit_mod_two_pow, decide_eq_true (by omega : W - 1 - k < W), Bool.true_and]
theorem row_nb : ∀ (bs : List Nat), (∀ b ∈ bs, b < 2) → rowOf bs.length (nb 0 bs) = bs
  | [], _ => rfl
  | b :: bs, h => by
    have hb := h b List.mem_cons_self
    have ht := fun c hc => h c (List.mem_cons_of_mem b hc)
    have lt := nb_lt bs ht
    have e : nb 0 (b :: bs) = b * 2 ^ bs.length + nb 0 bs := by
      show nb (2 * 0 + b) bs = _
      rw [nb_eq, Nat.mul_zero, Nat.zero_add]
    rw [List.length_cons, rowOf_succ, e]
    have e2 : rowOf bs.length (b * 2 ^ bs.length + nb 0 bs) = bs := by
      rw [← rowOf_mod, Nat.add_comm, Nat.add_mul_mod_self_right, Nat.mod_eq_of_lt lt]
      exact row_nb bs ht
    rw [e2, Nat.testBit_eq_decide_div_mod_eq, Nat.add_comm, Nat.add_mul_div_right _ _ (Nat.two_pow_pos _), Nat.div_eq_of_lt lt, Nat.zero_add]
    have : b = 0 ∨ b = 1 := by omega
    rcases this with rfl | rfl <;> rfl
theorem row_zero (W : Nat) : rowOf W 0 = List.replicate W 0 := by
  unfold rowOf
  refine List.ext_getElem (by simp) fun k h1 h2 => ?_
  simp
theorem bit_xor (a b : Bool) : a.toNat ^^^ b.toNat = (a ^^ b).toNat := by cases a <;> cases b <;> rfl
/-! ### sums over lists -/
def XS {α : Type} (l : List α) (f : α → Nat) : Nat := l.foldr (fun k t => f k ^^^ t) 0
theorem xs_lin {α : Type} (l : List α) (f g : α → Nat) : XS l (fun k => f k ^^^ g k) = XS l f ^^^ XS l g := by
  induction l with
  | nil => exact (Nat.xor_self 0).symm
  | cons a l ih =>
    show f a ^^^ g a ^^^ XS l _ = f a ^^^ XS l f ^^^ (g a ^^^ XS l g)
    rw [ih, Nat.xor_assoc, Nat.xor_assoc, ← Nat.xor_assoc (g a), Nat.xor_comm (g a), Nat.xor_assoc (XS l f)]
theorem xs_congr {α : Type} {l : List α} {f g : α → Nat} (h : ∀ a ∈ l, f a = g a) : XS l f = XS l g := by
  induction l with
  | nil => rfl
  | cons a l ih =>
    show f a ^^^ XS l f = g a ^^^ XS l g
    rw [h a List.mem_cons_self, ih fun b hb => h b (List.mem_cons_of_mem _ hb)]
theorem xs_zero {α : Type} (l : List α) : XS l (fun _ => 0) = 0 := by
  induction l with
  | nil => rfl
  | cons a l ih =>
    show 0 ^^^ XS l _ = 0
    rw [ih]
    rfl
theorem xs_filter {α : Type} (l : List α) (p : α → Bool) (f : α → Nat) : XS (l.filter p) f = XS l (fun k => if p k then f k else 0) := by
  induction l with
  | nil => rfl
  | cons a l ih =>
    rcases Bool.eq_false_or_eq_true (p a) with e | e
    · rw [List.filter_cons_of_pos e]
      show f a ^^^ XS (l.filter p) f = (if p a then f a else 0) ^^^ XS l (fun k => if p k then f k else 0)
      rw [ih, if_pos e]
    · rw [List.filter_cons_of_neg (by rw [e]; decide)]
      show XS (l.filter p) f = (if p a then f a else 0) ^^^ XS l (fun k => if p k then f k else 0)
      rw [ih, if_neg (by rw [e]; decide), Nat.zero_xor]
theorem xs_foldl {α : Type} (l : List α) (f : α → Nat) : ∀ t, l.foldl (fun t k => t ^^^ f k) t = t ^^^ XS l f := by
  induction l with
  | nil => intro t; exact (Nat.xor_zero t).symm
  | cons a l ih =>
    intro t
    show List.foldl _ (t ^^^ f a) l = t ^^^ (f a ^^^ XS l f)
    rw [ih, Nat.xor_assoc]
theorem xs_one {α : Type} [DecidableEq α] (f : α → Nat) (i : α) : ∀ {l : List α}, l.Nodup → i ∈ l → XS l (fun k => if k = i then f k else 0) = f i
  | a :: l, hn, hi => by
    show (if a = i then f a else 0) ^^^ XS l _ = f i
    have n2 := List.nodup_cons.mp hn
    by_cases e : a = i
    · subst e
      rw [if_pos rfl, xs_congr (g := fun _ => 0) (fun b hb => if_neg (fun z => n2.1 (by rw [← z]; exact hb))), xs_zero, Nat.xor_zero]
    · rw [if_neg e, xs_one f i n2.2 ((List.mem_cons.mp hi).resolve_left (Ne.symm e)), Nat.zero_xor]
theorem xs_spn {α : Type} {T : List Nat} {l : List α} {f : α → Nat} (h : ∀ a ∈ l, Spn T (f a)) : Spn T (XS l f) := by
  induction l with
  | nil => exact (spn_sub T).1
  | cons a l ih => exact (spn_sub T).2 _ _ (h a List.mem_cons_self) (ih fun b hb => h b (List.mem_cons_of_mem _ hb))
/-! ### the sum of the numbers that marks tell -/
def sx (ns : List Nat) (m : Nat) : Nat := XS (List.range ns.length) fun k => if m.testBit k then ns.getD k 0 else 0
theorem sx_lin (ns : List Nat) (a b : Nat) : sx ns (a ^^^ b) = sx ns a ^^^ sx ns b := by
  unfold sx
  rw [← xs_lin]
  refine xs_congr fun k _ => ?_
  rw [Nat.testBit_xor]
  cases a.testBit k <;> cases b.testBit k <;> simp
theorem sx_zero (ns : List Nat) : sx ns 0 = 0 := by
  unfold sx
  rw [xs_congr (g := fun _ => 0) (fun k _ => by rw [Nat.zero_testBit]; rfl), xs_zero]
theorem sx_pow {ns : List Nat} {i : Nat} (h : i < ns.length) : sx ns (2 ^ i) = ns.getD i 0 := by
  unfold sx
  rw [xs_congr (g := fun k => if k = i then ns.getD k 0 else 0) (fun k _ => ?_), xs_one _ i List.nodup_range (List.mem_range.mpr h)]
  rw [Nat.testBit_two_pow]
  by_cases e : k = i
  · rw [e, decide_eq_true rfl, if_pos rfl, if_pos rfl]
  · rw [decide_eq_false (Ne.symm e), if_neg e]
    rfl
theorem sx_spn (ns : List Nat) (m : Nat) : Spn ns (sx ns m) := by
  refine xs_spn fun k hk => ?_
  split
  · have := List.mem_range.mp hk
    rw [List.getD_eq_getElem?_getD, List.getElem?_eq_getElem this]
    exact spn_mem (List.getElem_mem _)
  · exact (spn_sub ns).1
theorem sx_told (ns : List Nat) (m : Nat) : ((List.range ns.length).filter (m.testBit ·)).foldl (fun t k => t ^^^ ns.getD k 0) 0 = sx ns m := by
  rw [xs_foldl, Nat.zero_xor, xs_filter]
  rfl
theorem spn_snoc_skip {ns : List Nat} {g x : Nat} (h : Spn ns x) : Spn (ns ++ [g]) x := spn_le (fun b hb => spn_mem (List.mem_append_left _ hb)) h
/-- marks of a shorter list -/
theorem sx_more {ns : List Nat} {m g : Nat} (h : m < 2 ^ ns.length) : sx (ns ++ [g]) m = sx ns m := by
  unfold sx XS
  rw [List.length_append, List.length_singleton, List.range_succ, List.foldr_append]
  show List.foldr _ ((if m.testBit ns.length then _ else 0) ^^^ 0) _ = _
  rw [Nat.testBit_lt_two_pow h, if_neg (by decide), Nat.xor_zero]
  refine xs_congr (l := List.range ns.length) fun k hk => ?_
  have := List.mem_range.mp hk
  rw [List.getD_eq_getElem?_getD, List.getD_eq_getElem?_getD, List.getElem?_append_left this]
/-! ### how often two rows meet -/
def par (W x y : Nat) : Nat := ((List.range W).map fun k => (x.testBit (W - 1 - k)).toNat * (y.testBit (W - 1 - k)).toNat).sum % 2
theorem sum_lin : ∀ (l : List Nat) (f g h : Nat → Nat), (∀ k, h k % 2 = (f k + g k) % 2) → (l.map h).sum % 2 = ((l.map f).sum % 2 + (l.map g).sum % 2) % 2
  | [], _, _, _, _ => rfl
  | a :: l, f, g, h, e => by
    rw [List.map_cons, List.map_cons, List.map_cons, List.sum_cons, List.sum_cons, List.sum_cons]
    have h1 := sum_lin l f g h e
    have h2 := e a
    omega
theorem par_linr (W x y z : Nat) : par W x (y ^^^ z) = (par W x y + par W x z) % 2 := by
  unfold par
  refine sum_lin _ _ _ _ fun k => ?_
  rw [Nat.testBit_xor]
  cases x.testBit (W - 1 - k) <;> cases y.testBit (W - 1 - k) <;> cases z.testBit (W - 1 - k) <;> rfl
theorem par_comm (W x y : Nat) : par W x y = par W y x := by
  unfold par
  congr 2
  refine List.map_congr_left fun k _ => ?_
  rw [Nat.mul_comm]
theorem par_sub (W x : Nat) : Sub fun y => par W x y = 0 := by
  refine ⟨?_, fun y z a b => ?_⟩
  · show par W x 0 = 0
    unfold par
    rw [List.map_congr_left (g := fun _ => 0) (fun k _ => by rw [Nat.zero_testBit]; rfl)]
    have : ∀ l : List Nat, (l.map fun _ => 0).sum = 0 := fun l => by
      induction l with
      | nil => rfl
      | cons a l ih => rw [List.map_cons, List.sum_cons, ih]
    rw [this]
  · show par W x (y ^^^ z) = 0
    rw [par_linr, show par W x y = 0 from a, show par W x z = 0 from b]
/-- all of one span meet all of another an even number of times, if their makers do -/
theorem par_spn {W : Nat} {T U : List Nat} (h : ∀ a ∈ T, ∀ b ∈ U, par W a b = 0) {x y : Nat} (hx : Spn T x) (hy : Spn U y) : par W x y = 0 := by
  have h1 : ∀ b ∈ U, par W x b = 0 := fun b hb => by
    rw [par_comm]
    exact hx _ (par_sub W b) fun a ha => by
      show par W b a = 0
      rw [par_comm]
      exact h a ha b hb
  exact hy _ (par_sub W x) h1
end KQ

namespace KQ
open PySem PySem.Spec PyProof.Rows L2
/-! ### the rows that meet all of a table -/
def kstep (p : Nat) (n r : Nat) : Nat := if r.testBit p then n ||| 2 ^ r.log2 else n
def kn (T : List Nat) (p : Nat) : Nat := T.foldl (kstep p) (2 ^ p)
theorem kfold_bit (p j : Nat) : ∀ (T : List Nat) (n : Nat), (T.foldl (kstep p) n).testBit j = (n.testBit j || T.any fun r => r.testBit p && decide (r.log2 = j))
  | [], n => (Bool.or_false _).symm
  | r :: T, n => by
    show (T.foldl (kstep p) (kstep p n r)).testBit j = _
    rw [kfold_bit p j T, List.any_cons, ← Bool.or_assoc]
    congr 1
    unfold kstep
    split
    · rename_i h
      rw [Nat.testBit_or, Nat.testBit_two_pow, h, Bool.true_and]
    · rename_i h
      rw [Bool.eq_false_iff.mpr h, Bool.false_and, Bool.or_false]
theorem kn_bit (T : List Nat) (p j : Nat) : (kn T p).testBit j = (decide (p = j) || T.any fun r => r.testBit p && decide (r.log2 = j)) := by
  unfold kn
  rw [kfold_bit, Nat.testBit_two_pow]
theorem log_lt {r W : Nat} (h0 : r ≠ 0) (h : r < 2 ^ W) : r.log2 < W := (Nat.log2_lt h0).mpr h
theorem kfold_lt {p W : Nat} : ∀ {T : List Nat} {n : Nat}, n < 2 ^ W → (∀ r ∈ T, r ≠ 0 ∧ r < 2 ^ W) → T.foldl (kstep p) n < 2 ^ W
  | [], _, h, _ => h
  | r :: T, n, h, hT => by
    refine kfold_lt (T := T) (n := kstep p n r) ?_ fun q hq => hT q (List.mem_cons_of_mem _ hq)
    unfold kstep
    split
    · obtain ⟨h0, h1⟩ := hT r List.mem_cons_self
      exact Nat.or_lt_two_pow h (Nat.pow_lt_pow_right (by decide) (log_lt h0 h1))
    · exact h
theorem kn_lt {T : List Nat} {p W : Nat} (h : p < W) (hT : ∀ r ∈ T, r ≠ 0 ∧ r < 2 ^ W) : kn T p < 2 ^ W := kfold_lt (Nat.pow_lt_pow_right (by decide) h) hT
theorem sum_ind {i : Nat} : ∀ {l : List Nat}, l.Nodup → i ∈ l → (l.map fun k => (decide (k = i)).toNat).sum = 1
  | a :: l, hn, hi => by
    rw [List.map_cons, List.sum_cons]
    have n2 := List.nodup_cons.mp hn
    by_cases e : a = i
    · subst e
      have z : ∀ m : List Nat, a ∉ m → (m.map fun k => (decide (k = a)).toNat).sum = 0 := by
        intro m
        induction m with
        | nil => intro _; rfl
        | cons b m ih =>
          intro h
          rw [List.map_cons, List.sum_cons, ih fun q => h (List.mem_cons_of_mem _ q), decide_eq_false (fun q => h (by rw [q]; exact List.mem_cons_self))]
          rfl
      rw [z l n2.1, decide_eq_true rfl]
      rfl
    · rw [sum_ind n2.2 ((List.mem_cons.mp hi).resolve_left (Ne.symm e)), decide_eq_false e]
      rfl
theorem sum_add (f g : Nat → Nat) : ∀ l : List Nat, (l.map fun k => f k + g k).sum = (l.map f).sum + (l.map g).sum
  | [] => rfl
  | a :: l => by
    rw [List.map_cons, List.map_cons, List.map_cons, List.sum_cons, List.sum_cons, List.sum_cons, sum_add f g l]
    omega
theorem sum_zero (l : List Nat) : (l.map fun _ => 0).sum = 0 := by
  induction l with
  | nil => rfl
  | cons a l ih => rw [List.map_cons, List.sum_cons, ih]
theorem sum_place {W q : Nat} (h : q < W) : ((List.range W).map fun k => (decide (W - 1 - k = q)).toNat).sum = 1 := by
  rw [List.map_congr_left (g := fun k => (decide (k = W - 1 - q)).toNat) fun k hk => ?_, sum_ind List.nodup_range (List.mem_range.mpr (by omega))]
  have := List.mem_range.mp hk
  congr 1
  exact decide_eq_decide.mpr (by omega)
theorem par_kn {T : List Nat} {W p r : Nat} (R : Red T) (hp : p < W) (hT : ∀ q ∈ T, q.log2 ≠ p) (hr : r ∈ T) (hr2 : r < 2 ^ W) : par W (kn T p) r = 0 := by
  have hl := log_lt (R.nz r hr) hr2
  have key : ∀ j, ((kn T p).testBit j).toNat * (r.testBit j).toNat = if r.testBit p then (decide (j = p)).toNat + (decide (j = r.log2)).toNat else 0 := by
    intro j
    rw [kn_bit]
    by_cases e : p = j
    · subst e
      rw [decide_eq_true (rfl : p = p), Bool.true_or, decide_eq_false (Ne.symm (hT r hr))]
      cases r.testBit p <;> rfl
    · rw [decide_eq_false e, decide_eq_false (Ne.symm e), Bool.false_or]
      by_cases e2 : j = r.log2
      · rw [decide_eq_true e2, e2, bit_top (R.nz r hr)]
        have : (T.any fun q => q.testBit p && decide (q.log2 = r.log2)) = r.testBit p := by
          rcases Bool.eq_false_or_eq_true (r.testBit p) with b | b
          · rw [b]
            exact List.any_eq_true.mpr ⟨r, hr, by rw [b, decide_eq_true rfl]; rfl⟩
          · rw [b]
            refine Bool.eq_false_iff.mpr fun z => ?_
            obtain ⟨q, hq, z⟩ := List.any_eq_true.mp z
            have z1 := (Bool.and_eq_true _ _ ▸ z).1
            have z2 := of_decide_eq_true (Bool.and_eq_true _ _ ▸ z).2
            by_cases eq : q = r
            · rw [eq, b] at z1
              cases z1
            · have := R.bit hq hr eq
              rw [z2, bit_top (R.nz r hr)] at this
              cases this
        rw [this]
        cases r.testBit p <;> rfl
      · rw [decide_eq_false e2]
        rcases Bool.eq_false_or_eq_true (r.testBit j) with b | b
        · have : (T.any fun q => q.testBit p && decide (q.log2 = j)) = false := by
            refine Bool.eq_false_iff.mpr fun z => ?_
            obtain ⟨q, hq, z⟩ := List.any_eq_true.mp z
            have z2 := of_decide_eq_true (Bool.and_eq_true _ _ ▸ z).2
            by_cases eq : q = r
            · exact e2 (by rw [← z2, eq])
            · have := R.bit hq hr eq
              rw [z2, b] at this
              cases this
          rw [this]
          cases r.testBit p <;> simp
        · rw [b]
          cases r.testBit p <;> simp
  unfold par
  rw [List.map_congr_left fun k _ => key (W - 1 - k)]
  rcases Bool.eq_false_or_eq_true (r.testBit p) with b | b
  · rw [List.map_congr_left (g := fun k => (decide (W - 1 - k = p)).toNat + (decide (W - 1 - k = r.log2)).toNat) (fun k _ => if_pos b), sum_add, sum_place hp, sum_place hl]
  · rw [List.map_congr_left (g := fun k => 0) (fun k _ => if_neg (by rw [b]; decide)), sum_zero]
/-! ### lists of which none is made by those before -/
def Indep (ns : List Nat) : Prop := ∀ i x, ns[i]? = some x → ¬ Spn (ns.take i) x
def free (T : List Nat) (W : Nat) : List Nat := (List.range W).filter fun p => !(T.map Nat.log2).contains p
theorem free_mem {T : List Nat} {W p : Nat} (h : p ∈ free T W) : p < W ∧ ∀ q ∈ T, q.log2 ≠ p := by
  obtain ⟨h1, h2⟩ := List.mem_filter.mp h
  refine ⟨List.mem_range.mp h1, fun q hq e => ?_⟩
  have : (T.map Nat.log2).contains p = true := List.contains_iff_mem.mpr (List.mem_map.mpr ⟨q, hq, e⟩)
  rw [this] at h2
  cases h2
theorem kn_indep (T : List Nat) (W : Nat) : Indep ((free T W).map (kn T)) := by
  intro i x hx hs
  rw [List.getElem?_map] at hx
  obtain ⟨p, hp, rfl⟩ := Option.map_eq_some_iff.mp hx
  have hpm := free_mem (List.mem_of_getElem? hp)
  have own : (kn T p).testBit p = true := by
    rw [kn_bit, decide_eq_true rfl]
    rfl
  have : (kn T p).testBit p = false := hs (fun x => x.testBit p = false) ⟨Nat.zero_testBit p, fun x y a b => by show (x ^^^ y).testBit p = false; rw [Nat.testBit_xor, show x.testBit p = false from a, show y.testBit p = false from b]; rfl⟩ fun a ha => by
    rw [← List.map_take] at ha
    obtain ⟨q, hq, rfl⟩ := List.mem_map.mp ha
    show (kn T q).testBit p = false
    rw [kn_bit]
    have ne : q ≠ p := by
      intro e
      subst e
      obtain ⟨j, hj, e⟩ := List.getElem_of_mem hq
      rw [List.length_take] at hj
      rw [List.getElem_take] at e
      have nd : (free T W).Nodup := List.Pairwise.filter _ List.nodup_range
      obtain ⟨hi, e2⟩ := List.getElem?_eq_some_iff.mp hp
      exact absurd (e.trans e2.symm) (List.pairwise_iff_getElem.mp nd j i (by omega) hi (by omega))
    rw [decide_eq_false ne, Bool.false_or]
    refine Bool.eq_false_iff.mpr fun z => ?_
    obtain ⟨r, hr, z⟩ := List.any_eq_true.mp z
    exact hpm.2 r hr (of_decide_eq_true (Bool.and_eq_true _ _ ▸ z).2)
  rw [own] at this
  cases this
theorem filter_two (p : Nat → Bool) : ∀ l : List Nat, (l.filter p).length + (l.filter fun a => !p a).length = l.length
  | [] => rfl
  | a :: l => by
    have ih := filter_two p l
    rcases Bool.eq_false_or_eq_true (p a) with e | e
    · rw [List.filter_cons_of_pos e, List.filter_cons_of_neg (by rw [e]; decide), List.length_cons, List.length_cons]
      omega
    · rw [List.filter_cons_of_neg (by rw [e]; decide), List.filter_cons_of_pos (by rw [e]; decide), List.length_cons, List.length_cons]
      omega
theorem free_len {T : List Nat} {W : Nat} (E : Ec T) (hT : ∀ r ∈ T, r < 2 ^ W) : (free T W).length + T.length = W := by
  have h := filter_two (fun p => (T.map Nat.log2).contains p) (List.range W)
  rw [List.length_range] at h
  have e : ((List.range W).filter fun p => (T.map Nat.log2).contains p).length = T.length := by
    rw [← List.length_map (f := Nat.log2) (as := T)]
    refine Nat.le_antisymm (nodup_le (List.Pairwise.filter _ List.nodup_range) fun a ha => List.contains_iff_mem.mp (List.mem_filter.mp ha).2) (nodup_le E.tops fun a ha => ?_)
    refine List.mem_filter.mpr ⟨?_, List.contains_iff_mem.mpr ha⟩
    obtain ⟨r, hr, rfl⟩ := List.mem_map.mp ha
    exact List.mem_range.mpr (log_lt (E.nz r hr) (hT r hr))
  unfold free
  omega
/-! ### a reduced table as rows -/
structure Tab (W : Nat) (ms : List Nat) : Prop where
  red : Red ms
  lt : ∀ m ∈ ms, m < 2 ^ W
  desc : ms.Pairwise (· > ·)
theorem Tab.piv {W : Nat} {ms : List Nat} (t : Tab W ms) : (ms.map fun m => W - 1 - m.log2).Pairwise (· < ·) := by
  refine List.pairwise_map.mpr (List.Pairwise.imp_of_mem (fun {a b} ha hb h => ?_) t.desc)
  have la := log_lt (t.red.nz a ha) (t.lt a ha)
  have lb := log_lt (t.red.nz b hb) (t.lt b hb)
  have h1 : b.log2 ≤ a.log2 := by
    rcases Nat.lt_or_ge a.log2 b.log2 with z | z
    · have q1 := (log_of (t.red.nz a ha)).2
      have q2 := (log_of (t.red.nz b hb)).1
      have : 2 ^ (a.log2 + 1) ≤ 2 ^ b.log2 := Nat.pow_le_pow_right (by decide) z
      omega
    · exact z
  have h2 : b.log2 ≠ a.log2 := fun e => by
    have := t.red.bit ha hb (fun z => by omega)
    rw [← e, bit_top (t.red.nz b hb)] at this
    cases this
  omega
theorem Tab.col {W : Nat} {ms : List Nat} (t : Tab W ms) {m : Nat} (hm : m ∈ ms) : (ms.map fun r => (r.testBit m.log2).toNat).sum = 1 := by
  rw [List.map_congr_left (g := fun r => (decide (r = m)).toNat) fun r hr => ?_]
  · exact sum_ind t.red.ec.nodup hm
  · congr 1
    by_cases e : r = m
    · rw [e, bit_top (t.red.nz m hm), decide_eq_true rfl]
    · rw [t.red.bit hm hr (Ne.symm e), decide_eq_false e]
theorem row_first {W m : Nat} (h0 : m ≠ 0) (h : m < 2 ^ W) : (rowOf W m)[W - 1 - m.log2]? = some 1 ∧ ∀ k, k < W - 1 - m.log2 → (rowOf W m)[k]? ≠ some 1 := by
  have hl := log_lt h0 h
  refine ⟨?_, fun k hk => ?_⟩
  · rw [rowOf_at (by omega), show W - 1 - (W - 1 - m.log2) = m.log2 by omega, bit_top h0]
    rfl
  · rw [rowOf_at (by omega), bit_above (by omega)]
    decide
end KQ

namespace KQ
open PySem PySem.Spec PyProof.Rows L2
/-! ### a list or a tuple walked -/
def SqLT (K : PySem.W.Frag) (H : Hp) (a : Addr) (xs : List V) : Prop := SqL K H a xs ∨ SqT K H a xs
theorem Same.seqT {K : PySem.W.Frag} {H H' : Hp} {a : Addr} {xs : List V} (e : Same H H') (h : SqT K H a xs) : SqT K H' a xs := by
  rcases h with (h | ⟨o, h⟩) | h
  · exact .inl (.inl (e _ _ h))
  · exact .inl (.inr ⟨o, by first | exact h | exact e _ _ h⟩)
  · exact .inr h
theorem SqLT.same {K : PySem.W.Frag} {H H' : Hp} {a : Addr} {xs : List V} (e : Same H H') (h : SqLT K H a xs) : SqLT K H' a xs := by
  rcases h with h | h
  · exact .inl (Same.seq e h)
  · exact .inr (Same.seqT e h)
/-- what walks xs, S holding -/
structure ItSq (J : It) (S : Hp → Prop) (xs : List V) : Prop where
  go : ∀ i H, S H → i < xs.length → J.go i H
  yld : ∀ i H x H', S H → J.yld i H x H' → H' = H ∧ xs[i]? = some x
  stop : ∀ i H, S H → xs.length ≤ i → J.stop i H
theorem itsq_list {K : PySem.W.Frag} {a : Addr} {xs : List V} : ItSq (Itl K a) (fun H => SqL K H a xs) xs :=
  ⟨fun i H s h => ⟨xs, xs[i], s, List.getElem?_eq_getElem h⟩, fun i H x H' s y => ⟨y.1, y.2 xs s⟩, fun i H s h => ⟨xs, s, h⟩⟩
theorem itsq_tup {K : PySem.W.Frag} {a : Addr} {xs : List V} : ItSq (Itt K a) (fun H => SqT K H a xs) xs :=
  ⟨fun i H s h => ⟨xs, xs[i], s, List.getElem?_eq_getElem h⟩, fun i H x H' s y => ⟨y.1, y.2 xs s⟩, fun i H s h => ⟨xs, s, h⟩⟩
def iSeq (K : PySem.W.Frag) (tl : TE) : TI := fun σ H R => tl σ H fun x H1 => ∃ a xs, x = .ref a ∧ SqLT K H1 a xs ∧ ∀ J S, ItSq J S xs → S H1 → (∀ G G', Same G G' → S G → S G') → R J H1
theorem pi_seq {X : Cx} {tg l : Expr} {tl : TE} (hl : PE X l tl) : PI X tg l (iSeq X.K tl) := by
  refine ⟨fun pins s σ H R I h => ?_⟩
  refine thn (hl.run pins s σ H _ I h) fun v s1 ⟨x, H1, I1, r1, q1⟩ => ?_
  obtain ⟨a, xs, e, hq, q⟩ := q1
  subst e
  cases r1
  rcases hq with hq | hq
  · obtain ⟨its, rv, p, hz⟩ := I1.list hq
    refine wpAny_pyIter_list p.isList (pi_one (tk := s1.toks) I1 _ (turn_list a _) ⟨_, Heap.get?_push_size _ rfl, rfl, rfl⟩ (q _ _ itsq_list hq fun G G' s h => Same.seq s h))
  · obtain ⟨its, rv, p, hz⟩ := I1.tuple hq
    refine wpAny_pyIter_tuple (show s1.heap.IsTuple a its.toArray from p) (pi_one (tk := s1.toks) I1 _ (turn_tuple a _) ⟨_, Heap.get?_push_size _ rfl, rfl, rfl⟩ (q _ _ itsq_tup hq fun G G' s h => Same.seqT s h))
/-- a comprehension over such -/
theorem lc_sq {J : It} {S : Hp → Prop} {xs : List V} (hJ : ItSq J S xs) {g : TG} {tt : TT} {te : TE} {vs : List Nat} {σ : L2.St} {H1 : Hp} {D : Addr} {Qd : Hp → Prop} (Pv : Nat → Hp → Prop) (h0 : Pv 0 (upd H1 D (.lst []))) (hl : ∀ i H, Pv i H → S H)
    (hs : ∀ i x H, xs[i]? = some x → Pv i H → g x (wipe σ vs) H fun σ2 H2 => wipe σ2 vs = wipe σ vs ∧ tt σ2 H2 fun b H3 =>
      if b = true then te σ2 H3 fun y H4 => ∃ acc, H4 D = some (.lst acc) ∧ acc.length < sizeLine ∧ Pv (i + 1) (upd H4 D (.lst (acc ++ [y]))) else Pv (i + 1) H3) (hd : ∀ H, Pv xs.length H → Qd H) :
    ∃ W : Nat → Nat → Hp → Prop, (∃ m, W 0 m (upd H1 D (.lst []))) ∧ ∀ i m H, W i m H →
      (J.stop i H ∧ Qd H) ∨ (J.go i H ∧ ∃ Nx : Hp → Prop, (∀ H', Nx H' → ∃ m', m' < m ∧ W (i + 1) m' H') ∧ ∀ x H', J.yld i H x H' → g x (wipe σ vs) H' fun σ2 H2 => wipe σ2 vs = wipe σ vs ∧ tt σ2 H2 fun b H3 =>
        if b = true then te σ2 H3 fun y H4 => ∃ acc, H4 D = some (.lst acc) ∧ acc.length < sizeLine ∧ Nx (upd H4 D (.lst (acc ++ [y]))) else Nx H3) := by
  refine ⟨fun i m H => m + i = xs.length ∧ Pv i H, ⟨xs.length, rfl, h0⟩, fun i m H ⟨e, p⟩ => ?_⟩
  rcases Nat.lt_or_ge i xs.length with lt | ge
  · refine .inr ⟨hJ.go i H (hl i H p) lt, Pv (i + 1), fun H' p' => ⟨m - 1, by omega, by omega, p'⟩, fun x H' y => ?_⟩
    obtain ⟨rfl, hx⟩ := hJ.yld i H x H' (hl i H p) y
    exact hs i x _ hx p
  · obtain rfl : i = xs.length := by omega
    exact .inl ⟨hJ.stop _ H (hl _ H p) (Nat.le_refl _), hd H p⟩
/-- .. a range from its end -/
theorem lc_down {n : Nat} {lo : Int} {g : TG} {tt : TT} {te : TE} {vs : List Nat} {σ : L2.St} {H1 : Hp} {D : Addr} {Qd : Hp → Prop} (Pv : Nat → Hp → Prop) (h0 : Pv 0 (upd H1 D (.lst [])))
    (hs : ∀ i H, i < n → Pv i H → g (.int (lo + (i : Nat) * (-1))) (wipe σ vs) H fun σ2 H2 => wipe σ2 vs = wipe σ vs ∧ tt σ2 H2 fun b H3 =>
      if b = true then te σ2 H3 fun y H4 => ∃ acc, H4 D = some (.lst acc) ∧ acc.length < sizeLine ∧ Pv (i + 1) (upd H4 D (.lst (acc ++ [y]))) else Pv (i + 1) H3) (hd : ∀ H, Pv n H → Qd H) :
    ∃ W : Nat → Nat → Hp → Prop, (∃ m, W 0 m (upd H1 D (.lst []))) ∧ ∀ i m H, W i m H →
      ((Itc lo (-1) n).stop i H ∧ Qd H) ∨ ((Itc lo (-1) n).go i H ∧ ∃ Nx : Hp → Prop, (∀ H', Nx H' → ∃ m', m' < m ∧ W (i + 1) m' H') ∧ ∀ x H', (Itc lo (-1) n).yld i H x H' → g x (wipe σ vs) H' fun σ2 H2 => wipe σ2 vs = wipe σ vs ∧ tt σ2 H2 fun b H3 =>
        if b = true then te σ2 H3 fun y H4 => ∃ acc, H4 D = some (.lst acc) ∧ acc.length < sizeLine ∧ Nx (upd H4 D (.lst (acc ++ [y]))) else Nx H3) := by
  refine ⟨fun i m H => m + i = n ∧ Pv i H, ⟨n, rfl, h0⟩, fun i m H ⟨e, p⟩ => ?_⟩
  rcases Nat.lt_or_ge i n with lt | ge
  · refine .inr ⟨lt, Pv (i + 1), fun H' p' => ⟨m - 1, by omega, by omega, p'⟩, fun x H' y => ?_⟩
    obtain ⟨rfl, rfl⟩ := y
    exact hs i _ lt p
  · obtain rfl : i = n := by omega
    exact .inl ⟨Nat.le_refl _, hd H p⟩
/-- a loop over such -/
theorem for_sq {J : It} {S : Hp → Prop} {xs : List V} (hJ : ItSq J S xs) {g : TG} {tb : TS} {D : Ends} {σ : L2.St} {H : Hp} (Pv : Nat → L2.St → Hp → Prop) (h0 : Pv 0 σ H) (hl : ∀ i σ H, Pv i σ H → S H)
    (hs : ∀ i x σ H, xs[i]? = some x → Pv i σ H → g x σ H fun σ2 H2 => tb { D with nx := Pv (i + 1), ct := Pv (i + 1), bk := D.nx } σ2 H2) (hd : ∀ σ H, Pv xs.length σ H → D.nx σ H) :
    ∃ W : Nat → Nat → L2.St → Hp → Prop, (∃ m, W 0 m σ H) ∧ ∀ i m σ H, W i m σ H →
      (J.stop i H ∧ D.nx σ H) ∨ (J.go i H ∧ ∃ N : L2.St → Hp → Prop, (∀ σ' H', N σ' H' → ∃ m', m' < m ∧ W (i + 1) m' σ' H') ∧ ∀ x H', J.yld i H x H' → g x σ H' fun σ2 H2 => tb { D with nx := N, ct := N, bk := D.nx } σ2 H2) := by
  refine ⟨fun i m σ H => m + i = xs.length ∧ Pv i σ H, ⟨xs.length, rfl, h0⟩, fun i m σ H ⟨e, p⟩ => ?_⟩
  rcases Nat.lt_or_ge i xs.length with lt | ge
  · refine .inr ⟨hJ.go i H (hl i σ H p) lt, Pv (i + 1), fun σ' H' p' => ⟨m - 1, by omega, by omega, p'⟩, fun x H' y => ?_⟩
    obtain ⟨rfl, hx⟩ := hJ.yld i H x H' (hl i σ H p) y
    exact hs i x σ _ hx p
  · obtain rfl : i = xs.length := by omega
    exact .inl ⟨hJ.stop _ H (hl _ σ H p) (Nat.le_refl _), hd σ H p⟩
/-- a filter by truth, in a block (K told) -/
def tTr (K : PySem.W.Frag) (ta : TE) : TT := fun σ H Q => ta σ H fun x H' => ∃ k, TruV K x H' k ∧ Q k H'
theorem pts_tr {X : Cx} {c : Expr} {ta : TE} (K : PySem.W.Frag) (hK : X.K = K) (ha : PE X c ta) (he : ∀ whole, isTrue c X.env whole = (do let v ← whole; standAt c.pos; holding [v] (truthy v))) : PTs X [c] (tTr K ta) := by
  subst hK
  exact pts_one (pt_truth ha he)
/-! ### a tuple whose methods are called: its object is told -/
def FzT (H : Hp) (a : Addr) (xs : List V) : Prop := ∃ o : Obj, o.dict = none ∧ o.cls = .type "tuple" ∧ H a = some (.frz o (.tup xs))
def TupIs (H : Hp) (a : Addr) (xs : List V) : Prop := H a = some (.tup xs) ∨ FzT H a xs
theorem FzT.same {H H' : Hp} {a : Addr} {xs : List V} (s : Same H H') (h : FzT H a xs) : FzT H' a xs := let ⟨o, h1, h2, h3⟩ := h; ⟨o, h1, h2, s _ _ h3⟩
theorem TupIs.same {H H' : Hp} {a : Addr} {xs : List V} (s : Same H H') (h : TupIs H a xs) : TupIs H' a xs := h.elim (fun z => .inl (s _ _ z)) fun z => .inr (z.same s)
theorem TupIs.sq {K : PySem.W.Frag} {H : Hp} {a : Addr} {xs : List V} (h : TupIs H a xs) : SqT K H a xs := h.elim (fun z => SqT.of z) fun ⟨o, _, _, z⟩ => .inl (.inr ⟨o, z⟩)
theorem TupIs.ob {H : Hp} {a : Addr} {xs : List V} (h : TupIs H a xs) : ∃ o, H a = some o ∧ ∀ ys, o ≠ .lst ys := h.elim (fun z => ⟨_, z, fun _ y => by cases y⟩) fun ⟨_, _, _, z⟩ => ⟨_, z, fun _ y => by cases y⟩
theorem TupIs.keep {H H' : Hp} {a : Addr} {xs : List V} (h : TupIs H a xs) (k : ∀ o, H a = some o → H' a = some o) : TupIs H' a xs := h.elim (fun z => .inl (k _ z)) fun ⟨o, h1, h2, z⟩ => .inr ⟨o, h1, h2, k _ z⟩
theorem TupIs.ty {K : PySem.W.Frag} {H : Hp} {a : Addr} {xs : List V} (h : TupIs H a xs) : TyX K H (.ref a) (.type "tuple") := h.elim (fun z => .base (.tup z)) fun ⟨_, _, _, z⟩ => .fTuple z
theorem call_tupF {X : Cx} : CallR X (.type "tuple") (fun xs H Q => ∃ p ys, xs = [.ref p] ∧ SqL X.K H p ys ∧ ∀ l H', H l = none → Same H H' → FzT H' l ys → Q (.ref l) H') := by
  intro pins s σ H xs us Q I r h
  obtain ⟨p, ys, rfl, hq, q⟩ := h
  obtain ⟨u, rfl, rx⟩ := vals1 r
  cases rx
  obtain ⟨its, r', pl, hz⟩ := I.list hq
  have hlen := r'.length
  refine call_tuple_list pl.isList (fun h' kp => ?_) (by simp only [List.size_toArray] <;> omega)
  have I1 : Inv X pins σ H { s with heap := h' } := I.kept (t' := s.toks) kp
  have I2 : Inv X pins σ (upd H h'.objs.size (.frz { cls := .type "tuple", data := .seq its.toArray } (.tup ys))) { s with heap := h'.push { cls := .type "tuple", data := .seq its.toArray } } :=
    I1.laid (t' := s.toks) (fun b o e => Heap.get?_push_of_some _ e) (Nat.le_refl _) ⟨Heap.get?_push_size _ rfl, hz, its, r', IsTup.new _ _⟩
  have nf := I1.hok.fresh (Nat.le_refl h'.objs.size)
  refine ⟨.ref h'.objs.size, _, I2, rfl, q _ _ nf (fun b u e => ?_) ⟨_, rfl, rfl, upd_same⟩⟩
  rw [upd_ne (ne_of_none e nf)]
  exact e
def tBMT (r : V → List V → Hp → VK → Prop) (to : TE) (t : TA) : TE := fun σ H Q => to σ H fun x H1 => (∃ a xs, x = .ref a ∧ FzT H1 a xs) ∧ t σ H1 fun xs H2 => r x xs H2 Q
theorem pe_bmT {X : Cx} {o e : Expr} {es : List Expr} {to : TE} {t : TA} {name : Str} {apos cpos : Pos} {id : String} {r : V → List V → Hp → VK → Prop} (slot : Slot "tuple" name id) (hty : typeOf (.builtin id) = pure (.type "method_descriptor")) (hm : MtR X id r) (ho : PE X o to) (ha : PA X (e :: es) t)
    (hbase : attributeBase o name X.env (eval o X.env) = eval o X.env := by rfl)
    (hfew : ((backTo cpos (starEach (e :: es) X.env)).all (fun x => !x.1) && (backToKw cpos (keywordEach [] X.env)).all (fun x => x.1.isSome)
      && decide ((e :: es).length + ([] : List Keyword).length + (if ([] : List Keyword).isEmpty then 0 else 1) < 30)) = true := by rfl)
    (hline : (apos.endLine == cpos.line) = true := by rfl) (hs : starEach (e :: es) X.env = (false, eval e X.env) :: starEach es X.env := by rfl) (hplain : (backTo cpos (starEach es X.env)).any (·.1) = false := by rfl) :
    PE X (.Call (.Attribute o name apos) (e :: es) [] cpos) (tBMT r to t) := by
  refine ⟨fun pins s σ H Q I h => ?_⟩
  refine wpAny_Call_method_late hbase hfew hline rfl (thn (ho.run pins s σ H _ I h) fun v s1 ⟨x, H1, I1, r1, ty, q1⟩ => ?_)
  obtain ⟨a, xs, rfl, ob, hd, hc, hf⟩ := ty
  have hg : s1.heap.get? a = some ob := (I1.hok a _ hf).1
  cases r1
  refine ⟨"tuple", id, PySem.F.plainAttrs_tuple, slot, hty, ⟨ob, hg, hc⟩, fun b z => ?_, ?_⟩
  · cases z
    exact ⟨ob, hg, hd⟩
  · have hA := ha.run cpos pins s1 σ H1 _ I1 q1
    rw [hs] at hA ⊢
    refine Calls.callWith_builtin (by show (false || (backTo cpos (starEach es X.env)).any (·.1)) = false; rw [hplain] <;> rfl) (Calls.evalArgs_plain ?_)
    exact thn hA fun us s2 ⟨vs, H2, I2, r2, q2⟩ => hm pins s2 σ H2 (.ref a) vs (.ref a) us Q I2 rfl r2 q2
end KQ

namespace KQ
open PySem PySem.Spec PyProof.Rows L2
/-! ### one token is out behind x = y.lstrip('..') -/
def PEk (X : Cx) (e : Expr) (t : TE) : Prop :=
  ∀ (pins : List (Addr × Obj)) (s : Shared) (σ : L2.St) (H : Hp) (Q : VK), Inv X pins σ H s → t σ H Q → wpAny (model X.prog X.w) X.A (eval e X.env) (fun v s' => 1 ≤ s'.toks ∧ EP X pins σ Q v s') X.xe s
section
variable {X : Cx} {rest : List Stmt} {u : TS} {e : Expr} {te : TE}
theorem pss_tok {i : Nat} {x : Str} {pos' pos : Pos} (he : PEk X e te) (nd : X.N.Nodup) (hi : X.N[i]? = some x) (hx : Loc X.env.scope x) (h2 : PSsT X rest u)
    (hs : swapsWith e (some (.Name x pos')) pos.line X.env = pure false := by rfl) (hf : X.fn x = true ∨ X.env.scope.names.lookup x = some .local := by first | exact .inl rfl | exact .inr rfl | assumption) :
    PSs X (.Assign [.Name x pos'] e pos :: rest) (tSeq (tAsg te (gName i)) u) := by
  refine ⟨fun pins s σ H D I want => ?_⟩
  refine wpAny_execs_cons (wpAny_Assign_Name (wpAny_mono (he pins s σ H _ I want) (fun v s1 q => ?_) fun _ _ z => z) hs)
  obtain ⟨hk, z, H1, I1, r1, q1⟩ := q
  refine wpAny_mono (PySem.wpAny_toks (store_ok (v := z) (u := v) (Q := fun _ s2 => Inv X pins (σ.set i (some z)) H1 s2) I1 nd hi hx r1 (fun _ I2 => I2) hf)) (fun _ s2 q => ?_) fun _ _ z => z.2
  exact h2 pins s2 _ H1 D (Nat.le_trans hk q.1) q.2 q1
def tStrip (to : TE) (c : Str) : TE := fun σ H Q => to σ H fun v H1 => ∃ x, v = .str x ∧ x.length ≤ sizeLine ∧ Q (.str (Txt.lstripChars x c)) H1
theorem pek_strip {o : Expr} {to : TE} {c : Str} {j : Nat} {cpos apos pos : Pos} (ho : PE X o to)
    (hst : starEach [.Constant (.str c) j cpos] X.env = [(false, eval (.Constant (.str c) j cpos) X.env)] := by rfl)
    (hbase : attributeBase o "lstrip" X.env (eval o X.env) = eval o X.env := by rfl) (hline : (apos.endLine == pos.line) = true := by rfl) :
    PEk X (.Call (.Attribute o "lstrip" apos) [.Constant (.str c) j cpos] [] pos) (tStrip to c) := by
  intro pins s σ H Q I want
  refine PySem.Call_method1 hbase hst hline (wpAny_mono (ho.run pins s σ H _ I want) (fun v s1 q => ?_) fun _ _ z => z)
  obtain ⟨v', H1, I1, r1, x, rfl, hz, q⟩ := q
  obtain ⟨tx, rfl⟩ := r1
  refine ⟨"str", _, PySem.F.plainAttrs_str, PySem.F.slot_str_lstrip, PySem.F.type_str_lstrip, typeIs_str _ _ _, (fun _ e => nomatch e), Calls.callWith_builtin rfl (Calls.evalArgs_plain (Calls.spliced_cons ?_))⟩
  refine Calls.Constant_str (Calls.spliced_nil ?_)
  refine wpAny_mono (PySem.wpAny_toks_of (n := 1) (by show 1 ≤ s1.toks + 1; omega) (PySem.SC.lstripChars (Q := EP X pins σ Q) (fun t' k => ⟨.str _, H1, I1.tok k, ⟨t', rfl⟩, q⟩) hz)) (fun _ _ z => z) fun _ _ z => z.2
/-- a written pair, one token out -/
theorem pet_tup {es : List Expr} {ta : TA} {pos : Pos} {x1} (h : PAT X es ta) : PET X (.Tuple es x1 pos) (tTup ta) := by
  intro pins s σ H Q h0 I hq
  refine wpAny_Tuple_spliced (thn (h pos pins s σ H _ h0 I hq) fun us s1 ⟨xs, H1, I1, r, z, q⟩ => ⟨by rw [← r.length]; exact z, ?_⟩)
  refine ⟨.ref s1.heap.objs.size, upd H1 s1.heap.objs.size (.tup xs), I1.laid (t' := s1.toks) (fun b u e => Heap.get?_push_of_some _ e) (Nat.le_refl _) ?_, rfl, q _ (I1.hok.fresh (Nat.le_refl _))⟩
  exact ⟨z, us, r, ⟨_, Heap.get?_push_size _ rfl, rfl, _, rfl⟩⟩
/-- list(text) -/
theorem vals_signs {x : Str} : ∀ (n : Nat) (vs : List Value), vs.length = n → (∀ (j : Nat) (v : Value), vs[j]? = some v → ∃ c u, x.cps.toList[j]? = some c ∧ v = Value.str ⟨#[c]⟩ u) → n ≤ x.cps.toList.length → Vals ((x.cps.toList.take n).map fun c => V.str ⟨#[c]⟩) vs := by
  have go : ∀ (L : List Nat) (vs : List Value), vs.length ≤ L.length → (∀ (j : Nat) (v : Value), vs[j]? = some v → ∃ c u, L[j]? = some c ∧ v = Value.str ⟨#[c]⟩ u) → Vals ((L.take vs.length).map fun c => V.str ⟨#[c]⟩) vs := by
    intro L
    induction L with
    | nil =>
      intro vs hl _
      cases vs with
      | nil => exact .nil
      | cons v vs => simp at hl
    | cons c L ih =>
      intro vs hl h
      cases vs with
      | nil => exact .nil
      | cons v vs =>
        obtain ⟨c', u, e1, e2⟩ := h 0 v rfl
        have e3 : c = c' := by simpa using e1
        subst e3
        subst e2
        refine .cons ⟨u, rfl⟩ (ih vs (by simpa using hl) fun j w hj => ?_)
        have := h (j + 1) w (by simpa using hj)
        simpa using this
  intro n vs hl h hn
  subst hl
  exact go _ vs hn h
theorem call_list_txt (calm : X.calm = true) : CallR X (.type "list") (fun xs H Q => ∃ z : Str, xs = [.str z] ∧ z.cps.toList.length ≤ sizeLine ∧ ∀ l, H l = none → Q (.ref l) (upd H l (.lst (z.cps.toList.map fun c => V.str ⟨#[c]⟩)))) := by
  intro pins s σ H xs us Q I r want
  obtain ⟨z, rfl, hz, q⟩ := want
  obtain ⟨u, rfl, rx⟩ := vals1 r
  obtain ⟨t, rfl⟩ := rx
  refine PySem.call_list_str (I.ok.hd calm) z t (fun h' tk acc c' kp e items => ?_) (by simpa using hz)
  obtain ⟨n1, n2⟩ := items
  have hv := vals_signs (x := z) z.cps.toList.length acc.toList (by rw [Array.length_toList, n1]; simp) (fun j v hj => by
    obtain ⟨c, u, e1, e2⟩ := n2 j v (by simpa using hj)
    exact ⟨c, u, by simpa using e1, e2⟩) (Nat.le_refl _)
  rw [List.take_of_length_le (Nat.le_refl _)] at hv
  refine ⟨.ref s.heap.objs.size, _, I.laid (t' := tk) kp (Nat.le_refl _) (show ObjOk X.prog X.w _ h' _ (.lst _) from ⟨by rw [List.length_map]; exact hz, acc.toList, c', hv, by simpa using e⟩), rfl, q _ (I.hok.fresh (Nat.le_refl _))⟩
end
/-! ### the program's defs -/
abbrev sPauli : Stmt := topS 17
abbrev sInit : Stmt := inClass (topS 17) 0
abbrev sEq : Stmt := inClass (topS 17) 1
abbrev sCut : Stmt := topS 18
abbrev sInitT : Stmt := inClass (topS 7) 0
theorem scInitT : FnScope ["self", "line", "column"] ["self", "line", "column"] (defScope sInitT) := ⟨rfl, rfl, rfl, by decide +kernel, rfl, by decide +kernel, by decide +kernel⟩
theorem scCut : FnScope ["text", "start", "letters", "wrong"] ["text"] (defScope sCut) := ⟨rfl, rfl, rfl, by decide +kernel, rfl, by decide +kernel, by decide +kernel⟩
theorem scInit : FnScope ["self", "text", "head", "letters"] ["self", "text"] (defScope sInit) := ⟨rfl, rfl, rfl, by decide +kernel, rfl, by decide +kernel, by decide +kernel⟩
theorem scEq : FnScope ["self", "other"] ["self", "other"] (defScope sEq) := ⟨rfl, rfl, rfl, by decide +kernel, rfl, by decide +kernel, by decide +kernel⟩
/-- built-in names -/
structure Bl (mg : Str → Option Value) : Prop where
  isi : mg "isinstance" = none
  int : mg "int" = none
  bool : mg "bool" = none
  str : mg "str" = none
  len : mg "len" = none
  range : mg "range" = none
  list : mg "list" = none
  enum : mg "enumerate" = none
  tuple : mg "tuple" = none
  min : mg "min" = none
  sorted : mg "sorted" = none
  reversed : mg "reversed" = none
/-- no text -/
def Odd (H : Hp) (v : V) : Prop := v = .non ∨ (∃ b, v = .bl b) ∨ (∃ i, v = .int i) ∨ (∃ p xs, v = .ref p ∧ H p = some (.lst xs)) ∨ (∃ p xs, v = .ref p ∧ H p = some (.tup xs)) ∨ ∃ p kv, v = .ref p ∧ H p = some (.dK kv)
theorem Odd.ty {H : Hp} {v : V} (h : Odd H v) : ∃ n : String, (∀ K, TyX K H v (.type n)) ∧ kitB n "str" = some false := by
  rcases h with h | ⟨b, h⟩ | ⟨i, h⟩ | ⟨p, xs, h, e⟩ | ⟨p, xs, h, e⟩ | ⟨p, kv, h, e⟩ <;> subst h
  · exact ⟨_, fun K => .base .non, by decide +kernel⟩
  · exact ⟨_, fun K => .base (.bl b), by decide +kernel⟩
  · exact ⟨_, fun K => .base (.int i), by decide +kernel⟩
  · exact ⟨_, fun K => .base (.lst e), by decide +kernel⟩
  · exact ⟨_, fun K => .base (.tup e), by decide +kernel⟩
  · exact ⟨_, fun K => .base (.dK e), by decide +kernel⟩
theorem Odd.same {H H' : Hp} {v : V} (s : Same H H') (h : Odd H v) : Odd H' v := by
  rcases h with h | h | h | ⟨p, xs, h, e⟩ | ⟨p, xs, h, e⟩ | ⟨p, kv, h, e⟩
  · exact .inl h
  · exact .inr (.inl h)
  · exact .inr (.inr (.inl h))
  · exact .inr (.inr (.inr (.inl ⟨p, xs, h, s _ _ e⟩)))
  · exact .inr (.inr (.inr (.inr (.inl ⟨p, xs, h, s _ _ e⟩))))
  · exact .inr (.inr (.inr (.inr (.inr ⟨p, kv, h, s _ _ e⟩))))
def xdT (l c : V) : List (Str × V) := [("column", c), ("line", l)]
/-- BadText(l, c) leaves the call -/
def Rz (C : Addr) (l c : V) (H : Hp) (E : XK) : Prop := ∀ d H', Same H H' → H' d = some (.xd (xdT l c)) → E (.ref C) (some d) H'
def spInitT (C : Addr) : Sp := fun vs H Q _ => ∃ (a : Addr) (y0 y1 : V), vs = [.ref a, y0, y1] ∧ H a = some (exo a C none) ∧
  ∀ H' d, H d = none → d ≠ a → H' a = some (exo a C (some d)) → H' d = some (exd d (xdT y0 y1)) → (∀ b o, H b = some o → b ≠ a → H' b = some o) → Q .non H'
def Telling (C : Addr) (B : List Nat) (H : Hp) (Q : VK) (E : XK) : Prop := (fine B ∧ ∀ H' p, Same H H' → H p = none → H' p = some (.tup [.str (mS (headL (ph B))), .str (mS (rest B))]) → Q (.ref p) H') ∨ (¬ fine B ∧ Rz C (.int 1) (.int (col B)) H E)
def spCut (C : Addr) : Sp := fun vs H Q E => ∃ v, vs = [v] ∧ ((∃ B : List Nat, v = .str (mS B) ∧ B.length ≤ 1000 ∧ Telling C B H Q E) ∨ (Odd H v ∧ Rz C (.int 0) (.int 0) H E))
theorem same_new {H : Hp} {r : Addr} {o : HO} (n : H r = none) : Same H (upd H r o) := fun b u e => by
  rw [upd_ne (ne_of_none e n)]
  exact e
/-- what the top has written of BadText -/
structure BT (K : PySem.W.Frag) (mg : Str → Option Value) (C fB : Addr) (dB : FuncData) : Prop where
  ox : OexC K C
  ic : PySem.W.findIn K (.ref C) "__init__" = some (some (.ref fB))
  ti : PySem.W.typeIn K (.ref fB) = some (.type "function")
  n0 : PySem.W.findIn K (.ref C) "line" = some none
  n1 : PySem.W.findIn K (.ref C) "column" = some none
  g : mg "BadText" = some (.ref C)
  F : Fun K "__init__" "BadText.__init__" sInitT fB dB
  b : Binds K dB ["self", "line", "column"] []
theorem bootS : bootBuiltins "str" = some (.type "str") := by decide +kernel
theorem bootI : bootBuiltins "int" = some (.type "int") := by decide +kernel
theorem e_plus : ("+" : Str) = ⟨#[43]⟩ := by decide +kernel
theorem e_minus : ("-" : Str) = ⟨#[45]⟩ := by decide +kernel
theorem e_i : ("i" : Str) = ⟨#[105]⟩ := by decide +kernel
theorem e_all : ("IXYZ" : Str) = mS [73, 88, 89, 90] := by decide +kernel
theorem e_no : ("" : Str) = ⟨#[]⟩ := by decide +kernel
theorem e_I : ("I" : Str) = ⟨#[73]⟩ := by decide +kernel
section
variable {P : Program} {w : World} {K : PySem.W.Frag} {mg : Str → Option Value} {base : Heap}
theorem ok_initT {f C : Addr} {fd : FuncData} {k : Nat} (F : Fun K "__init__" "BadText.__init__" sInitT f fd) (T : OexC K C) (n0 : PySem.W.findIn K (.ref C) "line" = some none) (n1 : PySem.W.findIn K (.ref C) "column" = some none) :
    FnOk P w K mg base CX0 (k + 1) f fd ["self", "line", "column"] (spInitT C) := by
  refine F.ok scInitT (fun vs H Q E h => ?_) (fun cdv A outer s H vs Q E hr h => ?_)
  · obtain ⟨a, y0, y1, rfl, _⟩ := h
    rfl
  · obtain ⟨a, y0, y1, rfl, ha, q⟩ := h
    refine ⟨_, pss_cons (ps_ost (pv 0) (pv 1) rfl) (pss_one (ps_ost (pv 0) (pv 2) rfl)), ?_⟩
    refine ⟨_, rfl, _, rfl, a, C, rfl, T, n0, .inl ⟨ha, fun dx nx dne => ?_⟩⟩
    refine ⟨_, rfl, _, rfl, a, C, rfl, T, n1, .inr ⟨dx, _, upd_same, by rw [upd_ne dne]; exact upd_same, by show _ ≤ 900; exact Nat.le_of_ble_eq_true rfl, ?_⟩⟩
    exact q _ dx nx dne (by rw [upd_ne dne.symm]; exact upd_same) upd_same (fun b o e hb => by rw [upd_ne (ne_of_none e nx), upd_ne hb, upd_ne (ne_of_none e nx)]; exact e)
theorem raise_rd {C : Addr} {y0 y1 : V} {H : Hp} {W : XK} (h : Rz C y0 y1 H W) : ∀ a, H a = none → spInitT C (.ref a :: ([y0, y1] ++ [])) (upd H a (exo a C none))
    (fun v H2 => v = .non ∧ ∃ (d : Addr) (fs : List (Str × V)), H2 a = some (exo a C (some d)) ∧ H2 d = some (exd d fs) ∧ H d = none ∧ W (.ref C) (some d) (upd (del H2 a) d (.xd fs))) (fun _ _ _ => False) := by
  intro a na
  refine ⟨a, y0, y1, rfl, upd_same, fun H' d nd dne e1 e2 kp => ⟨rfl, d, _, e1, e2, ?_, ?_⟩⟩
  · rw [upd_ne dne] at nd
    exact nd
  · have nd' : H d = none := by
      rw [upd_ne dne] at nd
      exact nd
    refine h d _ (fun b o e => ?_) upd_same
    have hba : b ≠ a := ne_of_none e na
    rw [upd_ne (ne_of_none e nd'), del_ne hba]
    exact kp b o (by rw [upd_ne hba]; exact e) hba
theorem sizeBig {n : Nat} (h : n ≤ 1000) : n ≤ sizeLine := Nat.le_trans h (by decide)
theorem ok_cut {f C fB : Addr} {fd dB : FuncData} (F : Fun K "_cut_text" "_cut_text" sCut f fd) (T : BT K mg C fB dB) (B : Bl mg) : FnOk P w K mg base (L2.CX P w) 3 f fd ["text"] (spCut C) := by
  have GB : FnOk P w K mg base CX0 1 fB dB ["self", "line", "column"] (spInitT C) := ok_initT T.F T.ox T.n0 T.n1
  refine F.okX scCut (fun vs H Q E h => ?_) (fun cdv A outer s H vs Q E hr h => ?_)
  · obtain ⟨v, rfl, _⟩ := h
    rfl
  · obtain ⟨v, rfl, h⟩ := h
    have hr1 : Room 1 _ := hr.mono (by decide)
    refine ⟨_, C8.pss_cut (ps_if (pt_not (pt_val (pe_callB call_isi (by rfl) B.isi PyProof.Rows.boot_isinstance (pa_cons (pv 0) (pa_cons (pe_bltn (v := .ty "str") (by rfl) B.str bootS rfl) pa_nil)))))
        (pss_one (ps_raise rfl (takes_of rfl rfl rfl rfl) (pmk_oex T.ox T.ic T.ti GB hr T.b .nil pass0 (by rfl) T.g (pa_cons pe_int (pa_cons pe_int pa_nil))))) pss_nil)
      (C8.pss_cut (ps_set (i := 1) scCut.nd rfl (.inl rfl) pe_int)
      (C8.pss_cut (ps_if (pw_or (pt_val (pe_bm PySem.F.plainAttrs_str PySem.F.slot_str_startswith PySem.F.type_str_startswith mt_startswith (pv 0) (pa_cons pe_str pa_nil))) (pw_or1 (pt_val (pe_bm PySem.F.plainAttrs_str PySem.F.slot_str_startswith PySem.F.type_str_startswith mt_startswith (pv 0) (pa_cons pe_str pa_nil))))).pt
        (pss_one (ps_set (i := 1) scCut.nd rfl (.inl rfl) pe_int)) pss_nil)
      (C8.pss_cut (ps_if (pt_val (pe_bm PySem.F.plainAttrs_str PySem.F.slot_str_startswith PySem.F.type_str_startswith mt_startswith (pe_slice sl_str (pv 0) (po_some (pv 1)) po_none) (pa_cons pe_str pa_nil)))
        (pss_one (ps_aug (i := 1) scCut.nd rfl (.inl rfl) pe_int ip_add)) pss_nil)
      (C8.pss_cut (ps_set (i := 2) scCut.nd rfl (.inl rfl) (pe_slice sl_str (pv 0) (po_some (pv 1)) po_none))
      (pss_tok (i := 3) (pek_strip (pv 2)) scCut.nd rfl (.inl rfl)
        (psst_cons (PST.of (ps_if (pw_or (pt_truth (pv 3) (by intro _; rfl)) (pw_or1 (pt_not (pt_truth (pv 2) (by intro _; rfl))))).pt
          (pss_one (ps_raise rfl (takes_of rfl rfl rfl rfl) (pmk_oex T.ox T.ic T.ti GB hr T.b .nil pass0 (by rfl) T.g (pa_cons pe_int (pa_cons (pe_op op_add (pe_op op_sub (pe_callB call_len_str (by rfl) B.len PySem.boot_len (pa_cons (pv 0) pa_nil)) (pe_callB call_len_str (by rfl) B.len PySem.boot_len (pa_cons (pv 3) pa_nil))) pe_int) pa_nil))))) pss_nil))
        (CwR.psst_one (CwR.pst_ret (pet_tup (pat_cons (CwR.pet_replC (pe_slice sl_str (pv 0) po_none (po_some (pv 1)))) (pat_cons (CwR.PET.of (pv 2)) pat_nil)))))))))))  , ?_⟩
    refine ⟨fun σ' H' => σ' = [some v, none, none, none] ∧ H' = H ∧ ∃ B : List Nat, v = .str (mS B) ∧ B.length ≤ 1000 ∧ Telling C B H Q E, ?_, ?_⟩
    · rcases h with ⟨B, rfl, hl, t⟩ | ⟨ho, q⟩
      · exact ⟨_, rfl, _, _, _, _, true, rfl, .ty "str", .base (.str _), kit_ty (by decide +kernel), _, rfl, iteF ⟨rfl, rfl, B, rfl, hl, t⟩⟩
      · obtain ⟨n, ty, kt⟩ := ho.ty
        refine ⟨_, rfl, v, _, _, _, false, rfl, .ty "str", ty K, kit_ty kt, _, rfl, iteT ⟨by show 2 ≤ 1000; decide, raise_rd q⟩⟩
    rintro _ H1 ⟨rfl, rfl, B, rfl, hl, t⟩
    have hz : (mS B).length ≤ sizeLine := by rw [mS_len]; exact sizeBig hl
    refine ⟨fun σ' H' => σ' = [some (.str (mS B)), some (.int 0), none, none] ∧ H' = H1, ⟨rfl, rfl⟩, ?_⟩
    rintro _ H2 ⟨rfl, rfl⟩
    refine ⟨fun σ' H' => σ' = [some (.str (mS B)), some (.int ((st1 B : Nat) : Int)), none, none] ∧ H' = H2, ?_, ?_⟩
    · have s1 := sw_one B 43
      have s2 := sw_one B 45
      rw [← e_plus] at s1
      rw [← e_minus] at s2
      refine ⟨_, rfl, rfl, _, _, rfl, rfl, _, rfl, ite2 (fun e => ?_) (fun e => ⟨_, rfl, rfl, _, _, rfl, rfl, _, rfl, ite2 (fun e2 => ?_) (fun e2 => ?_)⟩)⟩
      · have h1 : B.head? = some 43 := of_decide_eq_true (s1.symm.trans e)
        have : st1 B = 1 := if_pos (.inl h1)
        rw [this]
        exact ⟨rfl, rfl⟩
      · have h1 : B.head? = some 45 := of_decide_eq_true (s2.symm.trans e2)
        have : st1 B = 1 := if_pos (.inr h1)
        rw [this]
        exact ⟨rfl, rfl⟩
      · have h1 : ¬ B.head? = some 43 := fun z => e (s1.trans (decide_eq_true z))
        have h2 : ¬ B.head? = some 45 := fun z => e2 (s2.trans (decide_eq_true z))
        have : st1 B = 0 := if_neg (fun z => z.elim h1 h2)
        rw [this]
        exact ⟨rfl, rfl⟩
    rintro _ H3 ⟨rfl, rfl⟩
    refine ⟨fun σ' H' => σ' = [some (.str (mS B)), some (.int ((start B : Nat) : Int)), none, none] ∧ H' = H3, ?_, ?_⟩
    · have s1 := sw_one (B.drop (st1 B)) 105
      rw [← e_i, ← cut_from] at s1
      refine ⟨_, rfl, _, rfl, _, rfl, _, rfl, hz, rfl, _, _, rfl, rfl, _, rfl, ite2 (fun e => ?_) (fun e => ?_)⟩
      · have h1 : (B.drop (st1 B)).head? = some 105 := of_decide_eq_true (s1.symm.trans e)
        have : start B = st1 B + 1 := by unfold start; rw [if_pos h1]
        rw [this]
        exact ⟨_, rfl, _, _, rfl, rfl, rfl, rfl⟩
      · have h1 : ¬ (B.drop (st1 B)).head? = some 105 := fun z => e (s1.trans (decide_eq_true z))
        have : start B = st1 B := by unfold start; rw [if_neg h1]; rfl
        rw [this]
        exact ⟨rfl, rfl⟩
    rintro _ H4 ⟨rfl, rfl⟩
    refine ⟨fun σ' H' => σ' = [some (.str (mS B)), some (.int ((start B : Nat) : Int)), some (.str (mS (rest B))), none] ∧ H' = H4, ?_, ?_⟩
    · refine ⟨_, rfl, _, rfl, _, rfl, _, rfl, hz, ?_⟩
      rw [cut_from]
      exact ⟨rfl, rfl⟩
    rintro _ H5 ⟨rfl, rfl⟩
    have hzr : (mS (rest B)).length ≤ sizeLine := by
      rw [mS_len]
      refine sizeBig (Nat.le_trans ?_ hl)
      rw [show rest B = B.drop (start B) from rfl, List.length_drop]
      omega
    have hst : Txt.lstripChars (mS (rest B)) ("IXYZ" : Str) = mS ((rest B).dropWhile isL) := by
      rw [e_all, lstrip_eq]
      rfl
    refine ⟨_, rfl, _, rfl, hzr, ?_⟩
    rw [hst]
    have hw : ((rest B).dropWhile isL).length ≤ B.length := by
      have := len_split B
      omega
    have hzw : (mS ((rest B).dropWhile isL)).length ≤ sizeLine := by rw [mS_len]; exact sizeBig (Nat.le_trans hw hl)
    have no_fine : ¬ fine B → Rz C (.int 1) (.int (((mS B).length : Int) - ((mS ((rest B).dropWhile isL)).length : Int) + 1)) H5 E := by
      intro nf
      rcases t with ⟨y, _⟩ | ⟨_, q⟩
      · exact absurd y nf
      · have e : (((mS B).length : Int) - ((mS ((rest B).dropWhile isL)).length : Int) + 1) = ((col B : Nat) : Int) := by
          rw [mS_len, mS_len]
          unfold col
          rw [if_neg nf]
          omega
        rw [e]
        exact q
    refine ⟨_, rfl, _, ⟨hzw, rfl⟩, ite2 (fun e => ?_) (fun e => ⟨_, rfl, _, ⟨hzr, rfl⟩, ite2 (fun e2 => ?_) (fun e2 => ?_)⟩)⟩
    · have nf : ¬ fine B := by
        rintro ⟨z, _⟩
        rw [z] at e
        revert e
        decide
      refine ⟨_, rfl, _, rfl, hz, _, rfl, _, rfl, hzw, _, _, rfl, rfl, _, _, rfl, rfl, by show 2 ≤ 1000; decide, raise_rd (no_fine nf)⟩
    · have nf : ¬ fine B := by
        rintro ⟨_, z⟩
        have : ((mS (rest B)).length : Int) ≠ 0 := by
          rw [mS_len]
          have := List.length_pos_iff.mpr z
          omega
        rw [(bne_iff_ne).mpr this] at e2
        cases e2
      refine ⟨_, rfl, _, rfl, hz, _, rfl, _, rfl, hzw, _, _, rfl, rfl, _, _, rfl, rfl, by show 2 ≤ 1000; decide, raise_rd (no_fine nf)⟩
    · have f1 : (rest B).dropWhile isL = [] := by
        have : ¬ ((mS ((rest B).dropWhile isL)).length : Int) ≠ 0 := fun z => e ((bne_iff_ne).mpr z)
        rw [mS_len] at this
        exact List.length_eq_zero_iff.mp (by omega)
      have f2 : rest B ≠ [] := by
        intro z
        rw [z] at e2
        exact e2 rfl
      rcases t with ⟨_, q⟩ | ⟨nf, _⟩
      · refine ⟨_, rfl, _, rfl, _, rfl, _, rfl, hz, ?_⟩
        rw [cut_to]
        have l1 : (mS (B.take (start B))).length ≤ 1000 := by
          rw [mS_len, List.length_take]
          omega
        refine ⟨_, rfl, ?_, ?_⟩
        · have : ("" : Str).length = 0 := by decide +kernel
          rw [this, Nat.mul_zero]
          omega
        · rw [show ("+" : Str) = ⟨#[43]⟩ from e_plus, show ("" : Str) = ⟨#[]⟩ from e_no, strike, head_of]
          refine ⟨_, rfl, by show 2 ≤ sizeLine; decide, fun p np => ?_⟩
          exact q _ p (same_new np) np upd_same
      · exact absurd ⟨f1, f2⟩ nf
end
end KQ

namespace KQ
open PySem PySem.Spec PyProof.Rows L2
/-! ### strings as objects -/
def PauliAt (C : Addr) (H : Hp) (a : Addr) (R : List Nat) (p : Nat) : Prop := ∃ dx fs, H a = some (.ins C dx fs) ∧ fs.lookup ("letters" : Str) = some (.str (mS R)) ∧ fs.lookup ("phase" : Str) = some (.int (p : Int)) ∧
  fs.lookup ("size" : Str) = some (.int (R.length : Int)) ∧ fs.lookup ("weight" : Str) = some (.int ((R.length : Int) - (R.count 73 : Int)))
/-- the tuple of heads -/
structure Hd4 (K : PySem.W.Frag) (mg : Str → Option Value) (A : Addr) : Prop where
  l : ∃ t0 t1 t2 t3 n sl, K.lookup A = some ⟨.type "tuple", none, .seq #[.str "" t0, .str "i" t1, .str "-" t2, .str "-i" t3] n, sl⟩
  g : mg "HEADS" = some (.ref A)
theorem e_mi : ("-i" : Str) = mS [45, 105] := by decide +kernel
def headsV : List V := [mS [], mS [105], mS [45], mS [45, 105]].map V.str
theorem Hd4.sq {K : PySem.W.Frag} {mg : Str → Option Value} {A : Addr} (h : Hd4 K mg A) (H : Hp) : SqT K H A ([mS [], mS [105], mS [45], mS [45, 105]].map V.str) := by
  obtain ⟨t0, t1, t2, t3, n, sl, e⟩ := h.l
  refine .inr ⟨_, _, n, e, rfl, rfl, by show 4 ≤ sizeLine; decide, ?_⟩
  refine .cons ⟨t0, ?_⟩ (.cons ⟨t1, ?_⟩ (.cons ⟨t2, ?_⟩ (.cons ⟨t3, ?_⟩ .nil)))
  · rw [e_no]
  · rw [e_i]
  · rw [e_minus]
  · rw [e_mi]
theorem Hd4.ty {K : PySem.W.Frag} {mg : Str → Option Value} {A : Addr} (h : Hd4 K mg A) (H : Hp) : tyV K "tuple" (.ref A) H := by
  obtain ⟨t0, t1, t2, t3, n, sl, e⟩ := h.l
  exact .inr (.inl ⟨rfl, _, e, rfl, rfl⟩)
/-- what the top has written of Pauli -/
structure PCl (K : PySem.W.Frag) (mg : Str → Option Value) (C fI fE : Addr) : Prop where
  cl : Cls K C
  nL : NoAttr K C "letters"
  nP : NoAttr K C "phase"
  nS : NoAttr K C "size"
  nW : NoAttr K C "weight"
  mkf : Mk K C fI
  ha : PySem.W.findIn K (.ref C) "__class__" = some (some (.builtin "object.__class__"))
  hn : PySem.W.specialIn K (.builtin "object.__class__") "__get__" = some (some (.builtin "getset_descriptor.__get__"))
  ht : PySem.W.takesIn K (.builtin "object.__class__") = some true
  hm : PySem.W.mroIn K C (.type "object") = some true
  kC : PySem.W.kitOne K (.ref C) (.ref C) = some true
  kS : PySem.W.kitOne K (.type "str") (.ref C) = some false
  eq : PySem.W.findIn K (.ref C) "__eq__" = some (some (.ref fE))
  ef : PySem.W.isFn K (.ref fE) = true
  en : PySem.W.notFirst K C (.type "str") = true
  g : mg "Pauli" = some (.ref C)
def spInit (C CT : Addr) : Sp := fun vs H Q E => ∃ (a dx : Addr) (v : V), vs = [.ref a, v] ∧ H a = some (.ins C dx []) ∧
  ((∃ B : List Nat, v = .str (mS B) ∧ B.length ≤ 1000 ∧ ((fine B ∧ ∀ H', PauliAt C H' a (rest B) (ph B) → (∀ b o, b ≠ a → H b = some o → H' b = some o) → Q .non H') ∨ (¬ fine B ∧ Rz CT (.int 1) (.int (col B)) H E))) ∨ (Odd H v ∧ Rz CT (.int 0) (.int 0) H E))
def spEqP (C : Addr) : Sp := fun vs H Q _ => ∃ (a : Addr) (y : V) (R : List Nat) (p : Nat), vs = [.ref a, y] ∧ PauliAt C H a R p ∧
  ((∃ b R' p', y = .ref b ∧ PauliAt C H b R' p' ∧ Q (.bl (decide (R = R') && decide (p = p'))) H) ∨ ((∃ z : Str, y = .str z) ∧ Q (.bl false) H))
theorem cnt_count (c : Nat) : ∀ L : List Nat, countIn (.str ⟨#[c]⟩) (L.map fun n => PyData.str ⟨#[n]⟩) = (L.count c : Int)
  | [] => rfl
  | a :: L => by
    show (if same (.str ⟨#[a]⟩) (.str ⟨#[c]⟩) then 1 else 0) + countIn (.str ⟨#[c]⟩) (L.map fun n => PyData.str ⟨#[n]⟩) = _
    rw [cnt_count c L, List.count_cons]
    have e : same (.str ⟨#[a]⟩) (.str ⟨#[c]⟩) = (a == c) := by
      show ((⟨#[a]⟩ : Str) == ⟨#[c]⟩) = _
      by_cases h : a = c
      · subst h
        simp
      · have : (⟨#[a]⟩ : Str) ≠ ⟨#[c]⟩ := fun z => h (by injection z with z; simpa using z)
        rw [beq_eq_false_iff_ne.mpr this, beq_eq_false_iff_ne.mpr h]
    rw [e]
    by_cases h : a = c
    · subst h
      simp
      omega
    · rw [beq_eq_false_iff_ne.mpr h]
      simp
theorem head_at {p : Nat} (h : p < 4) : ([mS [], mS [105], mS [45], mS [45, 105]] : List Str)[p]? = some (mS (headL p)) := by
  match p, h with
  | 0, _ => rfl
  | 1, _ => rfl
  | 2, _ => rfl
  | 3, _ => rfl
theorem head_first {p : Nat} (h : p < 4) : ∀ m, m < p → ([mS [], mS [105], mS [45], mS [45, 105]] : List Str)[m]? ≠ some (mS (headL p)) := by
  match p, h with
  | 0, _ => exact fun m hm => by omega
  | 1, _ => 
    intro m hm
    match m, hm with
    | 0, _ => decide
  | 2, _ =>
    intro m hm
    match m, hm with
    | 0, _ => decide
    | 1, _ => decide
  | 3, _ =>
    intro m hm
    match m, hm with
    | 0, _ => decide
    | 1, _ => decide
    | 2, _ => decide
section
variable {P : Program} {w : World} {K : PySem.W.Frag} {mg : Str → Option Value} {base : Heap}
theorem ok_init {f fC C CT fE fB A : Addr} {fd dC dB : FuncData} (F : Fun K "__init__" "Pauli.__init__" sInit f fd) (N : PCl K mg C f fE) (FC : Fun K "_cut_text" "_cut_text" sCut fC dC) (bC : Binds K dC ["text"] []) (gC : mg "_cut_text" = some (.ref fC))
    (T : BT K mg CT fB dB) (hd : Hd4 K mg A) (B : Bl mg) : FnOk P w K mg base (L2.CX P w) 4 f fd ["self", "text"] (spInit C CT) := by
  have GC : FnOk P w K mg base (L2.CX P w) 3 fC dC ["text"] (spCut CT) := ok_cut FC T B
  refine F.okX scInit (fun vs H Q E h => ?_) (fun cdv A' outer s H vs Q E hr h => ?_)
  · obtain ⟨a, dx, v, rfl, _⟩ := h
    rfl
  · obtain ⟨a, dx, v, rfl, ea, h⟩ := h
    refine ⟨_, C8.pss_cut (ps_asg (pe_call GC hr (by rfl) gC FC.kp bC .nil (passes_call (takes_of rfl rfl rfl rfl) (fun _ _ _ _ h => h)) (pa_cons (pv 1) pa_nil)) (pg_tup rfl (pgs_cons (pg_name (i := 2) scInit.nd rfl (.inl rfl)) (pgs_cons (pg_name (i := 3) scInit.nd rfl (.inl rfl)) pgs_nil))))
      (pss_cons (ps_fld (pv 0) (pv 3) rfl)
      (pss_cons (ps_fld (pv 0) (pe_bm PySem.F.plainAttrs_tuple PySem.F.slot_tuple_index PySem.F.type_tuple_index mt_tup_index (pe_glob (v := .ref A) (by rfl) hd.g rfl) (pa_cons (pv 2) pa_nil)) rfl)
      (pss_cons (ps_fld (pv 0) (pe_callB call_len_str (by rfl) B.len PySem.boot_len (pa_cons (pv 3) pa_nil)) rfl)
      (pss_one (ps_fld (pv 0) (pe_op op_sub (pe_callB call_len_str (by rfl) B.len PySem.boot_len (pa_cons (pv 3) pa_nil)) (pe_bm PySem.F.plainAttrs_str PySem.F.slot_str_count PySem.F.type_str_count mt_count (pv 3) (pa_cons pe_str pa_nil))) rfl))))), ?_⟩
    refine ⟨fun σ' H' => ∃ B : List Nat, fine B ∧ B.length ≤ 1000 ∧ σ' = [some (.ref a), some v, some (.str (mS (headL (ph B)))), some (.str (mS (rest B)))] ∧ Same H H' ∧ ∀ H', PauliAt C H' a (rest B) (ph B) → (∀ b o, b ≠ a → H b = some o → H' b = some o) → Q .non H', ?_, ?_⟩
    · refine ⟨_, rfl, v, rfl, ?_⟩
      rcases h with ⟨B, rfl, hl, h⟩ | ⟨ho, q⟩
      · refine .inl ⟨B, rfl, hl, ?_⟩
        rcases h with ⟨hf, q⟩ | ⟨hf, q⟩
        · exact .inl ⟨hf, fun H' p s np ep => ⟨p, _, rfl, .inl (.inl ep), rfl, _, _, rfl, _, _, rfl, rfl, B, hf, hl, rfl, s, q⟩⟩
        · exact .inr ⟨hf, q⟩
      · exact .inr ⟨ho, q⟩
    rintro _ H1 ⟨B, hf, hl, rfl, s1, q⟩
    have ea1 := s1 _ _ ea
    have hlr : (rest B).length ≤ 1000 := by
      refine Nat.le_trans ?_ hl
      rw [show rest B = B.drop (start B) from rfl, List.length_drop]
      omega
    have hz : (mS (rest B)).length ≤ sizeLine := by rw [mS_len]; exact sizeBig hlr
    refine ⟨_, rfl, _, rfl, a, C, dx, _, rfl, ea1, N.cl, N.nL, by show 0 < 1000; decide, ?_⟩
    refine ⟨hd.ty _, _, rfl, A, _, _, _, rfl, rfl, hd.sq _, head_at (ph_lt B), head_first (ph_lt B), _, rfl, a, C, dx, _, rfl, upd_same, N.cl, N.nP, by show 1 < 1000; decide, ?_⟩
    refine ⟨_, rfl, _, rfl, hz, _, rfl, a, C, dx, _, rfl, upd_same, N.cl, N.nS, by show 2 < 1000; decide, ?_⟩
    refine ⟨_, rfl, _, rfl, hz, _, rfl, rfl, _, _, rfl, rfl, _, _, rfl, rfl, _, rfl, a, C, dx, _, rfl, upd_same, N.cl, N.nW, by show 3 < 1000; decide, ?_⟩
    refine q _ ⟨dx, _, upd_same, ?_, ?_, ?_, ?_⟩ (fun b o hb e => by rw [upd_ne hb, upd_ne hb, upd_ne hb, upd_ne hb]; exact s1 _ _ e)
    · rw [lookup_putF, if_neg (by decide +kernel), lookup_putF, if_neg (by decide +kernel), lookup_putF, if_neg (by decide +kernel), lookup_putF, if_pos rfl]
    · rw [lookup_putF, if_neg (by decide +kernel), lookup_putF, if_neg (by decide +kernel), lookup_putF, if_pos rfl]
    · rw [lookup_putF, if_neg (by decide +kernel), lookup_putF, if_pos rfl, mS_len]
    · rw [lookup_putF, if_pos rfl, mS_len, e_I]
      have : Txt.count (mS (rest B)) ⟨#[73]⟩ = ((rest B).count 73 : Int) := (PyProof.Rows.count_is _ _).trans (cnt_count 73 _)
      rw [this]
theorem PauliAt.ty {C : Addr} {fI fE : Addr} (N : PCl K mg C fI fE) {H : Hp} {a : Addr} {R : List Nat} {p : Nat} (h : PauliAt C H a R p) : TyX K H (.ref a) (.ref C) := by
  obtain ⟨dx, fs, e, _⟩ := h
  exact .base (.ins e N.cl N.ha N.hn N.ht N.hm)
theorem ok_eq {f fI C : Addr} {fd : FuncData} {k : Nat} (F : Fun K "__eq__" "Pauli.__eq__" sEq f fd) (N : PCl K mg C fI f) (B : Bl mg) : FnOk P w K mg base CX0 (k + 1) f fd ["self", "other"] (spEqP C) := by
  refine F.ok scEq (fun vs H Q E h => ?_) (fun cdv A' outer s H vs Q E hr h => ?_)
  · obtain ⟨a, y, R, p, rfl, _⟩ := h
    rfl
  · obtain ⟨a, y, R, p, rfl, hP, h⟩ := h
    refine ⟨_, pss_one (ps_ret (pe_and (pe_callB call_isi (by rfl) B.isi PyProof.Rows.boot_isinstance (pa_cons (pv 1) (pa_cons (pe_glob (v := .ref C) (by rfl) N.g rfl) pa_nil)))
      (pe_and (pe_cmpR op_eq (pe_fld (pv 0) rfl) (pe_fld (pv 1) rfl) (nomark _)) (pe_one (pe_cmpR op_eq (pe_fld (pv 0) rfl) (pe_fld (pv 1) rfl) (nomark _)))))), ?_⟩
    rcases h with ⟨b, R', p', rfl, hP', q⟩ | ⟨⟨z, rfl⟩, q⟩
    · refine ⟨_, rfl, _, _, _, _, true, rfl, .own C, hP'.ty N, N.kC, _, rfl, ?_⟩
      obtain ⟨dx, fs, e, l1, l2, _⟩ := hP
      obtain ⟨dy, gs, e', l1', l2', _⟩ := hP'
      refine ⟨_, rfl, a, C, dx, fs, _, rfl, e, N.cl, N.nL, l1, _, rfl, b, C, dy, gs, _, rfl, e', N.cl, N.nL, l1', rfl, _, rfl, ?_⟩
      by_cases hR : R = R'
      · subst hR
        rw [decide_eq_true rfl] at q ⊢
        refine ⟨_, rfl, a, C, dx, fs, _, rfl, e, N.cl, N.nP, l2, _, rfl, b, C, dy, gs, _, rfl, e', N.cl, N.nP, l2', rfl, ?_⟩
        by_cases hp : p = p'
        · subst hp
          rw [decide_eq_true rfl] at q ⊢
          exact q
        · rw [decide_eq_false hp] at q
          rw [decide_eq_false (fun z => hp (by have := V.int.inj z; omega))]
          exact q
      · rw [decide_eq_false hR] at q
        rw [decide_eq_false (fun z => hR (mS_inj (V.str.inj z)))]
        exact q
    · exact ⟨_, rfl, _, _, _, _, false, rfl, .own C, .base (.str z), N.kS, _, rfl, q⟩
end
end KQ

namespace KQ
open PySem PySem.Spec PyProof.Rows L2
/-! ### numbers: bits, sets of marks -/
theorem band (a b : Nat) : Builtin.bitAnd (a : Int) (b : Int) = ((a &&& b : Nat) : Int) := by
  unfold Builtin.bitAnd
  rw [decide_eq_true (Int.natCast_nonneg a), decide_eq_true (Int.natCast_nonneg b)]
  rfl
theorem bor (a b : Nat) : Builtin.bitOr (a : Int) (b : Int) = ((a ||| b : Nat) : Int) := by
  have n1 : ∀ n : Nat, Builtin.bitNot (n : Int) = -(n : Int) - 1 := fun n => by
    unfold Builtin.bitNot
    omega
  have n2 : ∀ n : Nat, Builtin.bitNot (-(n : Int) - 1) = (n : Int) := fun n => by
    unfold Builtin.bitNot
    omega
  unfold Builtin.bitOr
  rw [n1, n1]
  unfold Builtin.bitAnd
  rw [decide_eq_false (by omega : ¬ (0 ≤ -(a : Int) - 1)), decide_eq_false (by omega : ¬ (0 ≤ -(b : Int) - 1))]
  show Builtin.bitNot (Builtin.bitNot (((Builtin.bitNot (-(a : Int) - 1)).toNat ||| (Builtin.bitNot (-(b : Int) - 1)).toNat : Nat) : Int)) = _
  rw [n2, n2, n1, n2]
  rfl
theorem xor_two (a b i j : Nat) (hi : i < 2) (hj : j < 2) : (2 * a + i) ^^^ (2 * b + j) = 2 * (a ^^^ b) + (i ^^^ j) := by
  have h1 : ((2 * a + i) ^^^ (2 * b + j)) / 2 = a ^^^ b := by
    rw [Nat.xor_div_two, show (2 * a + i) / 2 = a from by omega, show (2 * b + j) / 2 = b from by omega]
  have h2 : ((2 * a + i) ^^^ (2 * b + j)) % 2 = i ^^^ j := by
    have := Nat.xor_mod_two_pow (a := 2 * a + i) (b := 2 * b + j) (n := 1)
    rw [Nat.pow_one] at this
    rw [this, show (2 * a + i) % 2 = i from by omega, show (2 * b + j) % 2 = j from by omega]
  omega
def md (a b : Nat) : Nat := if h : b = 0 then 0 else (if b % 2 = 1 then a else 0) ^^^ md (2 * a) (b / 2)
termination_by b
decreasing_by omega
theorem or_sub_and : ∀ (n m : Nat), (n ||| m) = (n ^^^ m) + (n &&& m) := by
  intro n
  induction n using Nat.strongRecOn with
  | ind n ih =>
    intro m
    by_cases h : n = 0
    · subst h
      rw [Nat.zero_or, Nat.zero_xor, Nat.zero_and]
      rfl
    · have e : n = 2 * (n / 2) + n % 2 := by omega
      have e2 : m = 2 * (m / 2) + m % 2 := by omega
      have k := ih (n / 2) (by omega) (m / 2)
      have l1 : n % 2 < 2 := Nat.mod_lt _ (by decide)
      have l2 : m % 2 < 2 := Nat.mod_lt _ (by decide)
      rw [e, e2, or_two _ _ _ _ l1 l2, xor_two _ _ _ _ l1 l2, and_two _ _ _ _ l1 l2, k]
      have hb : ∀ i j : Nat, i < 2 → j < 2 → (i ||| j) = (i ^^^ j) + (i &&& j) := by
        intro i j hi hj
        match i, j, hi, hj with
        | 0, 0, _, _ => rfl
        | 0, 1, _, _ => rfl
        | 1, 0, _, _ => rfl
        | 1, 1, _, _ => rfl
      rw [hb _ _ l1 l2]
      omega
theorem bxor (a b : Nat) : Builtin.bitXor (a : Int) (b : Int) = ((a ^^^ b : Nat) : Int) := by
  unfold Builtin.bitXor
  rw [bor, band, or_sub_and]
  omega
abbrev sBits : Stmt := topS 31
abbrev sComb : Stmt := topS 2
abbrev sLow : Stmt := topS 3
theorem bootT : bootBuiltins "tuple" = some (.type "tuple") := by decide +kernel
def rowV (W m : Nat) : List V := (rowOf W m).map fun b => V.int (b : Nat)
theorem rowV_len (W m : Nat) : (rowV W m).length = W := by
  unfold rowV
  rw [List.length_map, rowOf_len]
def natV (ns : List Nat) : List V := ns.map fun n => V.int (n : Nat)
theorem natV_int (ns : List Nat) : natV ns = (ns.map fun n => ((n : Nat) : Int)).map V.int := by
  unfold natV
  rw [List.map_map]
  rfl
theorem natV_at {ns : List Nat} {i : Nat} {v : V} (h : (natV ns)[i]? = some v) : ∃ n, ns[i]? = some n ∧ v = .int (n : Nat) := by
  unfold natV at h
  rw [List.getElem?_map] at h
  obtain ⟨n, hn, rfl⟩ := Option.map_eq_some_iff.mp h
  exact ⟨n, hn, rfl⟩
theorem natV_len (ns : List Nat) : (natV ns).length = ns.length := List.length_map ..
theorem take_snoc {α : Type} {l : List α} {i : Nat} {x : α} (h : l[i]? = some x) : l.take (i + 1) = l.take i ++ [x] := by
  rw [List.take_succ, h]
  rfl
theorem natV_map (T : List Nat) (f : Nat → Nat) : natV (T.map f) = T.map fun r => V.int (f r : Nat) := by
  unfold natV
  rw [List.map_map]
  rfl
theorem natV_app (T U : List Nat) : natV (T ++ U) = natV T ++ natV U := List.map_append ..
def spBits : Sp := fun vs H Q _ => ∃ m W : Nat, vs = [.int (m : Nat), .int (W : Nat)] ∧ W ≤ 100 ∧ ∀ p H', Same H H' → H p = none → FzT H' p (rowV W m) → Q (.ref p) H'
theorem scBits : FnScope ["number", "many", "place"] ["number", "many"] (defScope sBits) := ⟨rfl, rfl, rfl, by decide +kernel, rfl, by decide +kernel, by decide +kernel⟩
section
variable {P : Program} {w : World} {K : PySem.W.Frag} {mg : Str → Option Value} {base : Heap}
theorem ok_bits {f : Addr} {fd : FuncData} {k : Nat} (F : Fun K "bit_tuple" "bit_tuple" sBits f fd) (B : Bl mg) : FnOk P w K mg base CX0 (k + 1) f fd ["number", "many"] spBits := by
  refine F.ok scBits (fun vs H Q E h => ?_) (fun cdv A outer s H vs Q E hr h => ?_)
  · obtain ⟨m, W, rfl, _⟩ := h
    rfl
  · obtain ⟨m, W, rfl, hW, q⟩ := h
    refine ⟨_, pss_one (ps_ret (pe_callTy call_tupF (by rfl) B.tuple bootT (pa_cons (pe_lc (own := [("place", 2)]) (g := gName 2) (by rfl) scBits.nd (pi_revR (by rfl) B.reversed (prg_1 (by rfl) B.range (pv 1))) (blkOk_by (own := [("place", 2)]) (N := ["number", "many", "place"]) (sc := defScope sBits) (by decide +kernel))
          (fun _ _ _ _ _ => pg_name (i := 2) scBits.nd rfl (Or.inl rfl)) (fun _ _ _ _ _ => pts_nil) (fun _ _ _ _ _ => pe_op op_odd (pe_op op_shrN (pv 0) (pv 2)) pe_int)) pa_nil))), ?_⟩
    refine ⟨_, rfl, _, rfl, by omega, by omega, by omega, by omega, ?_⟩

    intro D nD
    refine lc_down (Pv := fun i Hc => Hc D = some (.lst ((rowV W m).take i)) ∧ Same H Hc) ⟨upd_same, same_new nD⟩ ?_ ?_
    · rintro i Hc hi ⟨eD, sc⟩
      have hi' : i < W := by omega
      have hb := rowOf_at (m := m) hi'
      refine ⟨rfl, _, rfl, _, rfl, (m : Int), W - 1 - i, rfl, ?_, m / 2 ^ (W - 1 - i), ?_, rfl, _, eD, ?_, ?_, ?_⟩
      · show V.int (0 + (((W : Int) - 0).toNat : Int) - 1 + (i : Nat) * (-1)) = _
        rw [show (0 : Int) + (((W : Int) - 0).toNat : Int) - 1 + (i : Nat) * (-1) = ((W - 1 - i : Nat) : Int) by omega]
      · push_cast
        rfl
      · rw [List.length_take, rowV_len]
        exact Nat.lt_of_le_of_lt (by omega : _ ≤ 100) (by decide)
      · rw [upd_same, take_snoc (x := V.int ((m / 2 ^ (W - 1 - i) % 2 : Nat) : Int))]
        unfold rowV
        rw [List.getElem?_map, hb]
        show some (V.int _) = _
        rw [Nat.testBit_eq_decide_div_mod_eq]
        have : m / 2 ^ (W - 1 - i) % 2 < 2 := Nat.mod_lt _ (by decide)
        by_cases e : m / 2 ^ (W - 1 - i) % 2 = 1
        · rw [decide_eq_true e, e]
          rfl
        · rw [decide_eq_false e, show m / 2 ^ (W - 1 - i) % 2 = 0 by omega]
          rfl
      · intro b o e
        rw [upd_ne (ne_of_none e nD)]
        exact sc _ _ e
    · rintro Hc ⟨eD, sc⟩
      rw [List.take_of_length_le (by rw [rowV_len]; omega)] at eD
      refine ⟨D, _, rfl, SqL.of eD, fun l H' nl s' fz => ?_⟩
      have nl' : H l = none := by
        cases e : H l with
        | none => rfl
        | some o => rw [sc _ _ e] at nl; cases nl
      exact q l H' (sc.trans s') nl' fz
end
/-! ### numbers with marks -/
/-- the marked rows at a list's items -/
def MkAt (H : Hp) (L : List (Addr × Nat × Nat)) : Prop := ∀ p ∈ L, H p.1 = some (.tup [.int (p.2.1 : Nat), .int (p.2.2 : Nat)])
def refV (L : List (Addr × Nat × Nat)) : List V := L.map fun p => V.ref p.1
def numL (L : List (Addr × Nat × Nat)) : List Nat := L.map fun p => p.2.1
theorem MkAt.same {H H' : Hp} {L : List (Addr × Nat × Nat)} (s : Same H H') (h : MkAt H L) : MkAt H' L := fun p hp => s _ _ (h p hp)
/-- what the marks keep -/
structure MkRel (L : List (Addr × Nat × Nat)) (n m mk : Nat) : Prop where
  lin : ∀ φ : Nat → Nat, (∀ x y, φ (x ^^^ y) = φ x ^^^ φ y) → (∀ p ∈ L, φ p.2.2 = p.2.1) → rst (numL L) n ^^^ φ mk = n ^^^ φ m
  lt : ∀ B, m < 2 ^ B → (∀ p ∈ L, p.2.2 < 2 ^ B) → mk < 2 ^ B
def spLow : Sp := fun vs H Q _ => ∃ (n m : Nat) (t : Addr) (L : List (Addr × Nat × Nat)), vs = [.int (n : Nat), .int (m : Nat), .ref t] ∧ H t = some (.lst (refV L)) ∧ MkAt H L ∧ (∀ r ∈ numL L, r ≠ 0) ∧
  ∀ mk H' p, MkRel L n m mk → Same H H' → H p = none → H' p = some (.tup [.int (rst (numL L) n : Nat), .int (mk : Nat)]) → Q (.ref p) H'
def spComb (K : PySem.W.Frag) : Sp := fun vs H Q _ => ∃ (a : Addr) (ns : List Nat) (n : Nat), vs = [.ref a, .int (n : Nat)] ∧ SqL K H a (natV ns) ∧ ns.length ≤ 100 ∧ (¬ Spn ns n → ∀ H', Same H H' → Q .non H') ∧
  (∀ mk H' p, mk < 2 ^ ns.length → sx ns mk = n → Same H H' → H p = none → H' p = some (.tup (natV ((List.range ns.length).filter (mk.testBit ·)))) → Q (.ref p) H')
theorem scLow : FnScope ["number", "marks", "table", "row", "row_marks"] ["number", "marks", "table"] (defScope sLow) := ⟨rfl, rfl, rfl, by decide +kernel, rfl, by decide +kernel, by decide +kernel⟩
theorem scComb : FnScope ["numbers", "number", "table", "index", "given", "rest", "marks"] ["numbers", "number"] (defScope sComb) := ⟨rfl, rfl, rfl, by decide +kernel, rfl, by decide +kernel, by decide +kernel⟩
theorem spn_add0 {T ns : List Nat} {g : Nat} (hT : ∀ x, Spn T x ↔ Spn ns x) (x : Nat) : Spn (T ++ [rst T g]) x ↔ Spn (ns ++ [g]) x := by
  refine spn_iff_of (fun a ha => ?_) (fun a ha => ?_) x
  · rcases List.mem_append.mp ha with q | q
    · exact spn_le (fun b hb => spn_mem (List.mem_append_left _ hb)) ((hT a).mp (spn_mem q))
    · rw [List.mem_singleton.mp q]
      have h1 : Spn (ns ++ [g]) (g ^^^ rst T g) := spn_le (fun b hb => spn_mem (List.mem_append_left _ hb)) ((hT _).mp (rst_spn (T := T) g))
      have h2 := (spn_sub _).2 _ _ (spn_mem (T := ns ++ [g]) (List.mem_append_right _ (List.mem_singleton_self g))) h1
      rwa [← Nat.xor_assoc, Nat.xor_self, Nat.zero_xor] at h2
  · rcases List.mem_append.mp ha with q | q
    · exact spn_le (fun b hb => spn_mem (List.mem_append_left _ hb)) ((hT a).mpr (spn_mem q))
    · rw [List.mem_singleton.mp q]
      have h1 : Spn (T ++ [rst T g]) (g ^^^ rst T g) := spn_le (fun b hb => spn_mem (List.mem_append_left _ hb)) (rst_spn (T := T) g)
      have := (spn_sub _).2 _ _ h1 (spn_mem (T := T ++ [rst T g]) (List.mem_append_right _ (List.mem_singleton_self _)))
      rwa [Nat.xor_assoc, Nat.xor_self, Nat.xor_zero] at this
theorem Ec.snoc {T : List Nat} {v : Nat} (E : Ec T) (v0 : v ≠ 0) (h : ∀ r ∈ T, v.testBit r.log2 = false) : Ec (T ++ [v]) := by
  refine ⟨fun r hr => ?_, List.pairwise_append.mpr ⟨E.pw, List.pairwise_singleton _ _, fun a ha b hb => ?_⟩⟩
  · rcases List.mem_append.mp hr with q | q
    · exact E.nz r q
    · rw [List.mem_singleton.mp q]
      exact v0
  · rw [List.mem_singleton.mp hb]
    exact h a ha
section
variable {P : Program} {w : World} {K : PySem.W.Frag} {mg : Str → Option Value} {base : Heap}
theorem ok_low {f : Addr} {fd : FuncData} {k : Nat} (F : Fun K "_lowered" "_lowered" sLow f fd) : FnOk P w K mg base CX0 (k + 1) f fd ["number", "marks", "table"] spLow := by
  refine F.ok scLow (fun vs H Q E h => ?_) (fun cdv A outer s H vs Q E hr h => ?_)
  · obtain ⟨n, m, t, L, rfl, _⟩ := h
    rfl
  · obtain ⟨n, m, t, L, rfl, hS, hM, hz, q⟩ := h
    refine ⟨_, C8.pss_cut (ps_for PassesOwn.never rfl (pi_list (pv 2)) (pg_tup rfl (pgs_cons (pg_name (i := 3) scLow.nd rfl (.inl rfl)) (pgs_cons (pg_name (i := 4) scLow.nd rfl (.inl rfl)) pgs_nil)))
        (pss_one (ps_if (pt_cmpR op_lt (pe_op op_xor (pv 0) (pv 3)) (pv 0) (nomark _))
          (C8.pss_cut (ps_set (i := 0) scLow.nd rfl (.inl rfl) (pe_op op_xor (pv 0) (pv 3))) (pss_one (ps_set (i := 1) scLow.nd rfl (.inl rfl) (pe_op op_xor (pv 1) (pv 4))))) pss_nil)))
      (pss_one (ps_ret (pe_tup (pa_cons (pv 0) (pa_cons (pv 1) pa_nil))))), ?_⟩
    have key : ∀ {i : Nat} {p : Addr × Nat × Nat} {mk : Nat}, L[i]? = some p → MkRel (L.take i) n m mk → MkRel (L.take (i + 1)) n m (if (rst (numL (L.take i)) n).testBit p.2.1.log2 then mk ^^^ p.2.2 else mk) ∧ rst (numL (L.take (i + 1))) n = lw (rst (numL (L.take i)) n) p.2.1 := by
      intro i p mk hp R
      have tk := take_snoc hp
      have e : rst (numL (L.take (i + 1))) n = lw (rst (numL (L.take i)) n) p.2.1 := by
        rw [tk]
        unfold numL rst
        rw [List.map_append, List.foldl_append]
        rfl
      refine ⟨⟨fun φ lin hφ => ?_, fun B hm hB => ?_⟩, e⟩
      · have h1 := R.lin φ lin fun q hq => hφ q (by rw [tk]; exact List.mem_append_left _ hq)
        have h2 := hφ p (by rw [tk]; exact List.mem_append_right _ (List.mem_singleton_self _))
        rw [e]
        unfold lw
        split
        · rw [lin, h2, Nat.xor_assoc, Nat.xor_comm (φ mk), ← Nat.xor_assoc p.2.1, Nat.xor_self, Nat.zero_xor]
          exact h1
        · exact h1
      · have h1 := R.lt B hm fun q hq => hB q (by rw [tk]; exact List.mem_append_left _ hq)
        split
        · exact Nat.xor_lt_two_pow h1 (hB p (by rw [tk]; exact List.mem_append_right _ (List.mem_singleton_self _)))
        · exact h1
    refine ⟨fun σ' H' => ∃ mk v3 v4, σ' = [some (.int (rst (numL L) n : Nat)), some (.int (mk : Nat)), some (.ref t), v3, v4] ∧ H' = H ∧ MkRel L n m mk, ?_, ?_⟩
    · refine ⟨_, rfl, t, rfl, ⟨_, SqL.of hS⟩, for_list (K := K) (a := t) (xs := refV L) (fun i σ H2 => ∃ mk v3 v4, σ = [some (.int (rst (numL (L.take i)) n : Nat)), some (.int (mk : Nat)), some (.ref t), v3, v4] ∧ H2 = H ∧ MkRel (L.take i) n m mk)
        ⟨m, none, none, rfl, rfl, ⟨fun _ _ _ => rfl, fun _ h _ => h⟩⟩ (fun i σ H2 _ ⟨_, _, _, _, e, _⟩ => by rw [e]; exact SqL.of hS) ?_ ?_⟩
      · rintro i y σ H2 hi ⟨mk, v3, v4, rfl, rfl, R⟩
        unfold refV at hi
        rw [List.getElem?_map] at hi
        obtain ⟨p, hp, rfl⟩ := Option.map_eq_some_iff.mp hi
        obtain ⟨R', e⟩ := key hp R
        have pz : p.2.1 ≠ 0 := hz _ (List.mem_map.mpr ⟨p, List.mem_of_getElem? hp, rfl⟩)
        refine ⟨_, _, rfl, .inl (.inl (hM p (List.mem_of_getElem? hp))), rfl, _, _, rfl, _, _, rfl, rfl, ?_⟩
        refine ⟨_, rfl, _, rfl, _, _, rfl, rfl, _, rfl, _, _, rfl, rfl, _, rfl, ?_⟩
        rw [bxor]
        by_cases c : rst (numL (L.take i)) n ^^^ p.2.1 < rst (numL (L.take i)) n
        · rw [decide_eq_true (by omega)]
          have c' := (lt_iff pz).mp c
          rw [if_pos c'] at R'
          refine iteT ⟨fun σ' H' => σ' = [some (.int (rst (numL (L.take i)) n ^^^ p.2.1 : Nat)), some (.int (mk : Nat)), some (.ref t), some (.int (p.2.1 : Nat)), some (.int (p.2.2 : Nat))] ∧ H' = H2, ?_, ?_⟩
          · refine ⟨_, rfl, _, rfl, _, _, rfl, rfl, ?_, rfl⟩
            show [some (V.int (Builtin.bitXor ((rst (numL (L.take i)) n : Nat) : Int) ((p.2.1 : Nat) : Int))), _, _, _, _] = _
            rw [bxor]
          rintro _ H3 ⟨rfl, rfl⟩
          refine ⟨_, rfl, _, rfl, _, _, rfl, rfl, mk ^^^ p.2.2, some (.int (p.2.1 : Nat)), some (.int (p.2.2 : Nat)), ?_, rfl, R'⟩
          show [_, some (V.int (Builtin.bitXor ((mk : Nat) : Int) ((p.2.2 : Nat) : Int))), _, _, _] = _
          rw [bxor, e]
          unfold lw
          rw [if_pos c']
        · rw [decide_eq_false (by omega)]
          have c' : ¬ (rst (numL (L.take i)) n).testBit p.2.1.log2 = true := fun z => c ((lt_iff pz).mpr z)
          rw [if_neg c'] at R'
          refine iteF ⟨mk, some (.int (p.2.1 : Nat)), some (.int (p.2.2 : Nat)), ?_, rfl, R'⟩
          rw [e]
          unfold lw
          rw [if_neg c']
          rfl
      · rintro σ H2 ⟨mk, v3, v4, rfl, rfl, R⟩
        have l : L.take (refV L).length = L := List.take_of_length_le (by unfold refV; rw [List.length_map]; exact Nat.le_refl _)
        rw [l] at R ⊢
        exact ⟨mk, v3, v4, rfl, rfl, R⟩
    rintro _ H2 ⟨mk, v3, v4, rfl, rfl, R⟩
    exact ⟨_, rfl, _, rfl, by show 2 ≤ sizeLine; decide, fun p np => q mk _ p R (same_new np) np upd_same⟩
theorem ok_comb {f fL : Addr} {fd dL : FuncData} {k : Nat} (F : Fun K "combination" "combination" sComb f fd) (FL : Fun K "_lowered" "_lowered" sLow fL dL) (bL : Binds K dL ["number", "marks", "table"] []) (gL : mg "lowered_bitnumbers" = some (.ref fL)) (B : Bl mg) :
    FnOk P w K mg base CX0 (k + 2) f fd ["numbers", "number"] (spComb K) := by
  have GL : FnOk P w K mg base CX0 (k + 1) fL dL ["number", "marks", "table"] spLow := ok_low FL
  refine F.ok scComb (fun vs H Q E h => ?_) (fun cdv A outer s H vs Q E hr h => ?_)
  · obtain ⟨a, ns, n, rfl, _⟩ := h
    rfl
  · obtain ⟨a, ns, n, rfl, hS, hlen, q0, q1⟩ := h
    refine ⟨_, C8.pss_cut (ps_set (i := 2) scComb.nd rfl (.inl rfl) (pe_lst pa_nil))
      (C8.pss_cut (ps_for PassesOwn.never rfl (pi_enum (by rfl) B.enum (pa_cons (pv 0) pa_nil)) (pg_tup rfl (pgs_cons (pg_name (i := 3) scComb.nd rfl (.inl rfl)) (pgs_cons (pg_name (i := 4) scComb.nd rfl (.inl rfl)) pgs_nil)))
        (C8.pss_cut (ps_asg (pe_call GL hr (by rfl) gL FL.kp bL .nil pass0 (pa_cons (pv 4) (pa_cons (pe_op op_oneShl pe_int (pv 3)) (pa_cons (pv 2) pa_nil)))) (pg_tup rfl (pgs_cons (pg_name (i := 5) scComb.nd rfl (.inl rfl)) (pgs_cons (pg_name (i := 6) scComb.nd rfl (.inr rfl)) pgs_nil))))
        (pss_one (ps_if (pt_truth (pv 5) (by intro _; rfl))
          (pss_one (ps_expr (pe_bm PySem.F.plainAttrs_list PySem.F.slot_list_append PySem.F.type_list_append mt_append (pv 2) (pa_cons (pe_tup (pa_cons (pv 5) (pa_cons (pv 6) pa_nil))) pa_nil)))) pss_nil))))
      (C8.pss_cut (ps_asg (pe_call GL hr (by rfl) gL FL.kp bL .nil pass0 (pa_cons (pv 1) (pa_cons pe_int (pa_cons (pv 2) pa_nil)))) (pg_tup rfl (pgs_cons (pg_name (i := 5) scComb.nd rfl (.inl rfl)) (pgs_cons (pg_name (i := 6) scComb.nd rfl (.inr rfl)) pgs_nil))))
      (C8.pss_cut (ps_if (pt_truth (pv 5) (by intro _; rfl)) (pss_one (ps_ret pe_non)) pss_nil)
      (pss_one (ps_ret (pe_callTy call_tuple_of (by rfl) B.tuple bootT (pa_cons (pe_lc (own := [("index", 3)]) (g := gName 3) (by rfl) scComb.nd (pi_range1 (by rfl) B.range (pa_cons (pe_callB call_len_seq (by rfl) B.len PySem.boot_len (pa_cons (pv 0) pa_nil)) pa_nil)) (blkOk_by (own := [("index", 3)]) (N := ["numbers", "number", "table", "index", "given", "rest", "marks"]) (sc := defScope sComb) (by decide +kernel))
          (fun _ _ _ _ _ => pg_name (i := 3) scComb.nd rfl (Or.inl rfl)) (fun _ _ _ _ _ => pts_tr K rfl (pe_op op_odd (pe_op op_shrN (pv 6) (pv 3)) pe_int) (by intro _; rfl)) (fun _ _ _ _ _ => pv 3)) pa_nil))))))), ?_⟩
    have off : ∀ {G : Hp} {t : Addr}, Same H G → G t = none → H t = none := fun {G t} sg n => by
      cases e : H t with
      | none => rfl
      | some o => rw [sg _ _ e] at n; cases n
    refine ⟨fun σ' H' => ∃ t, σ' = [some (.ref a), some (.int (n : Nat)), some (.ref t), none, none, none, none] ∧ Same H H' ∧ H t = none ∧ H' t = some (.lst []), ?_, ?_⟩
    · exact ⟨by show 0 ≤ sizeLine; decide, fun t nt => ⟨t, rfl, same_new nt, nt, upd_same⟩⟩
    rintro _ H1 ⟨t, rfl, s1, n0, e0⟩
    refine ⟨fun σ' H' => ∃ L v3 v4 v5 v6, σ' = [some (.ref a), some (.int (n : Nat)), some (.ref t), v3, v4, v5, v6] ∧ Same H H' ∧ H' t = some (.lst (refV L)) ∧ MkAt H' L ∧ Ec (numL L) ∧ (∀ x, Spn (numL L) x ↔ Spn ns x) ∧ (∀ p ∈ L, p.2.2 < 2 ^ ns.length ∧ sx ns p.2.2 = p.2.1), ?_, ?_⟩
    · refine ⟨_, rfl, a, _, rfl, Same.seq s1 hS, L2.for_it (walk_enum (K := K) (a := a) (xs := natV ns)) (fun i σ H' => ∃ L v3 v4 v5 v6, σ = [some (.ref a), some (.int (n : Nat)), some (.ref t), v3, v4, v5, v6] ∧ Same H H' ∧ H' t = some (.lst (refV L)) ∧ MkAt H' L ∧ Ec (numL L) ∧ (∀ x, Spn (numL L) x ↔ Spn (ns.take i) x) ∧ (∀ p ∈ L, p.2.2 < 2 ^ i ∧ sx (ns.take i) p.2.2 = p.2.1) ∧ L.length ≤ i)
        ⟨[], none, none, none, none, rfl, s1, e0, fun p z => (by cases z), ⟨fun _ z => (by cases z), List.Pairwise.nil⟩, fun x => Iff.rfl, fun p z => (by cases z), Nat.zero_le _⟩ (fun i σ H' _ ⟨_, _, _, _, _, _, s2, _⟩ => Same.seq s2 hS) ?_ ?_⟩
      · rintro i x _ H2 H3 hi ⟨L, v3, v4, v5, v6, rfl, s2, et, hM, hE, hsp, hmk, hl⟩ ⟨T, x1, x2, rfl, nT, rfl, g1, g2⟩
        cases Option.some.inj g1
        obtain ⟨g, hg, rfl⟩ := natV_at g2
        have tk := take_snoc hg
        have li : (ns.take i).length = i := by
          rw [List.length_take]
          have := (List.getElem?_eq_some_iff.mp hg).1
          omega
        have s3 := s2.trans (same_new (o := .tup [.int (i : Nat), .int (g : Nat)]) nT)
        have n3 : Same H2 (upd H2 T (.tup [.int (i : Nat), .int (g : Nat)])) := same_new nT
        have eT : (upd H2 T (.tup [.int (i : Nat), .int (g : Nat)])) T = some (.tup [.int (i : Nat), .int (g : Nat)]) := upd_same
        generalize upd H2 T (.tup [.int (i : Nat), .int (g : Nat)]) = H3 at s3 n3 eT ⊢
        refine ⟨T, _, rfl, .inl (.inl eT), rfl, _, _, rfl, _, _, rfl, rfl, ?_⟩
        refine ⟨fun σ' H' => ∃ mk, σ' = [some (.ref a), some (.int (n : Nat)), some (.ref t), some (.int (i : Nat)), some (.int (g : Nat)), some (.int (rst (numL L) g : Nat)), some (.int (mk : Nat))] ∧ Same H3 H' ∧ MkRel L g (2 ^ i) mk, ?_, ?_⟩
        · refine ⟨_, rfl, _, rfl, i, rfl, rfl, by have := (List.getElem?_eq_some_iff.mp hg).1; omega, _, rfl, g, 2 ^ i, t, L, ?_, n3 _ _ et, hM.same n3, hE.nz, fun mk H' p R s' _ e' => ⟨p, _, rfl, .inl (.inl e'), rfl, _, _, rfl, _, _, rfl, rfl, mk, rfl, s', R⟩⟩
          rw [show ((2 : Int) ^ i) = ((2 ^ i : Nat) : Int) by push_cast; rfl]
          rfl
        rintro _ H4 ⟨mk, rfl, s4, R⟩
        have e4 := s4 _ _ (n3 _ _ et)
        have lg : (ns.take i ++ [g]).length = i + 1 := by rw [List.length_append, li]; rfl
        have hφ : ∀ p ∈ L, sx (ns.take i ++ [g]) p.2.2 = p.2.1 := fun p hp => by
          obtain ⟨h1, h2⟩ := hmk p hp
          rw [sx_more (by rw [li]; exact h1), h2]
        have rel := R.lin (sx (ns.take i ++ [g])) (sx_lin _) hφ
        rw [sx_pow (by rw [lg]; omega), List.getD_eq_getElem?_getD, List.getElem?_append_right (by omega), li, Nat.sub_self] at rel
        have rel : rst (numL L) g ^^^ sx (ns.take i ++ [g]) mk = g ^^^ g := rel
        rw [Nat.xor_self] at rel
        have val : sx (ns.take i ++ [g]) mk = rst (numL L) g := by
          have : rst (numL L) g ^^^ (rst (numL L) g ^^^ sx (ns.take i ++ [g]) mk) = rst (numL L) g ^^^ 0 := by rw [rel]
          rwa [← Nat.xor_assoc, Nat.xor_self, Nat.zero_xor, Nat.xor_zero] at this
        have mlt : mk < 2 ^ (i + 1) := R.lt (i + 1) (Nat.pow_lt_pow_right (by decide) (Nat.lt_succ_self i)) fun p hp => Nat.lt_trans (hmk p hp).1 (Nat.pow_lt_pow_right (by decide) (Nat.lt_succ_self i))
        have more : ∀ p ∈ L, p.2.2 < 2 ^ (i + 1) ∧ sx (ns.take (i + 1)) p.2.2 = p.2.1 := fun p hp => ⟨Nat.lt_trans (hmk p hp).1 (Nat.pow_lt_pow_right (by decide) (Nat.lt_succ_self i)), by rw [tk]; exact hφ p hp⟩
        refine ⟨_, rfl, _, rfl, ?_⟩
        by_cases z : rst (numL L) g = 0
        · rw [z]
          exact iteF ⟨L, _, _, _, _, rfl, s3.trans s4, e4, (hM.same n3).same s4, hE, fun x => by rw [tk]; exact spn_skip hE hsp z x, more, by omega⟩
        · have nz : (((rst (numL L) g : Nat) : Int) != 0) = true := bne_iff_ne.mpr (by omega)
          rw [nz]
          refine iteT ⟨_, rfl, .inl ⟨rfl, _, SqL.of e4⟩, _, rfl, _, rfl, by show 2 ≤ sizeLine; decide, fun r nr => ⟨t, _, _, rfl, rfl, (upd_ne (ne_of_none e4 nr)).trans e4, ?_, ?_⟩⟩
          · unfold refV
            rw [List.length_map]
            have := (List.getElem?_eq_some_iff.mp hg).1
            exact Nat.lt_of_le_of_lt (by omega : _ ≤ 100) (by decide)
          · have tr : t ≠ r := ne_of_none e4 nr
            have keep : ∀ {b : Addr} {o o1 o2 : HO}, b ≠ t → H4 b = some o → (upd (upd H4 r o1) t o2) b = some o := fun hb e => by
              rw [upd_ne hb, upd_ne (ne_of_none e nr)]
              exact e
            have er : ∀ {o1 o2 : HO}, (upd (upd H4 r o1) t o2) r = some o1 := fun {_ _} => by rw [upd_ne (Ne.symm tr), upd_same]
            refine ⟨L ++ [(r, rst (numL L) g, mk)], _, _, _, _, rfl, ?_, ?_, ?_, ?_, ?_, ?_, ?_⟩
            · intro b o e
              exact keep (ne_of_none e n0) (s4 _ _ (s3 _ _ e))
            · rw [upd_same]
              unfold refV
              rw [List.map_append]
              rfl
            · intro p hp
              rcases List.mem_append.mp hp with h' | h'
              · have e := s4 _ _ (n3 _ _ (hM p h'))
                refine keep (fun y => ?_) e
                rw [y, e4] at e
                cases e
              · rw [List.mem_singleton.mp h']
                exact er
            · unfold numL
              rw [List.map_append]
              exact hE.snoc z (rst_clear hE)
            · intro x
              rw [tk]
              unfold numL
              rw [List.map_append]
              exact spn_add0 hsp x
            · intro p hp
              rcases List.mem_append.mp hp with h' | h'
              · exact more p h'
              · rw [List.mem_singleton.mp h', tk]
                exact ⟨mlt, val⟩
            · rw [List.length_append]
              show L.length + 1 ≤ i + 1
              omega
      · rintro σ H2 ⟨L, v3, v4, v5, v6, rfl, s2, et, hM, hE, hsp, hmk, hl⟩
        rw [natV_len] at hsp hmk
        rw [List.take_length] at hsp hmk
        exact ⟨L, v3, v4, v5, v6, rfl, s2, et, hM, hE, hsp, hmk⟩
    rintro _ H2 ⟨L, v3, v4, v5, v6, rfl, s2, et, hM, hE, hsp, hmk⟩
    refine ⟨fun σ' H' => ∃ mk, σ' = [some (.ref a), some (.int (n : Nat)), some (.ref t), v3, v4, some (.int (rst (numL L) n : Nat)), some (.int (mk : Nat))] ∧ Same H2 H' ∧ MkRel L n 0 mk, ?_, ?_⟩
    · exact ⟨_, rfl, _, rfl, n, 0, t, L, rfl, et, hM, hE.nz, fun mk H' p R s' _ e' => ⟨p, _, rfl, .inl (.inl e'), rfl, _, _, rfl, _, _, rfl, rfl, mk, rfl, s', R⟩⟩
    rintro _ H3 ⟨mk, rfl, s3, R⟩
    have rel := R.lin (sx ns) (sx_lin _) fun p hp => (hmk p hp).2
    rw [sx_zero, Nat.xor_zero] at rel
    have mlt : mk < 2 ^ ns.length := R.lt ns.length (Nat.two_pow_pos _) fun p hp => (hmk p hp).1
    refine ⟨fun σ' H' => σ' = [some (.ref a), some (.int (n : Nat)), some (.ref t), v3, v4, some (.int (rst (numL L) n : Nat)), some (.int (mk : Nat))] ∧ H' = H3 ∧ rst (numL L) n = 0, ?_, ?_⟩
    · refine ⟨_, rfl, _, rfl, ?_⟩
      by_cases z : rst (numL L) n = 0
      · rw [z]
        exact iteF ⟨rfl, rfl, rfl⟩
      · have nz : (((rst (numL L) n : Nat) : Int) != 0) = true := bne_iff_ne.mpr (by omega)
        rw [nz]
        exact iteT (q0 (fun y => z ((spn_rst hE n).mp ((hsp n).mpr y))) _ (s2.trans s3))
    rintro _ H4 ⟨rfl, rfl, z⟩
    rw [z, Nat.zero_xor] at rel
    refine ⟨_, rfl, a, _, rfl, .inl (Same.seq (s2.trans s3) hS), _, rfl, by rw [natV_len]; omega, by rw [natV_len]; omega, fun D nD => ?_⟩
    rw [natV_len, Int.toNat_natCast]
    refine lc_range (lo := 0) (n := ns.length) (Pv := fun i Hc => Hc D = some (.lst (natV ((List.range i).filter (mk.testBit ·)))) ∧ Same H4 Hc) ⟨upd_same, same_new nD⟩ ?_ ?_
    · rintro i Hc hi ⟨eD, sc⟩
      refine ⟨rfl, _, rfl, _, rfl, (mk : Int), i, rfl, ?_, mk / 2 ^ i, by push_cast; rfl, rfl, _, rfl, ?_⟩
      · show V.int (0 + (i : Nat)) = _
        rw [Int.zero_add]
      · have bit := Nat.testBit_eq_decide_div_mod_eq (x := mk) (i := i)
        have rs : List.range (i + 1) = List.range i ++ [i] := List.range_succ
        by_cases c : mk / 2 ^ i % 2 = 1
        · rw [c]
          refine iteT ⟨_, rfl, _, eD, ?_, ?_, ?_⟩
          · rw [natV_len]
            have := List.length_filter_le (mk.testBit ·) (List.range i)
            rw [List.length_range] at this
            exact Nat.lt_of_le_of_lt (by omega : _ ≤ 100) (by decide)
          · rw [upd_same, rs, List.filter_append, List.filter_cons_of_pos (by rw [bit, decide_eq_true c]), List.filter_nil, natV_app]
            show some (HO.lst (_ ++ [V.int (0 + (i : Nat))])) = _
            rw [Int.zero_add]
            rfl
          · intro b o e
            rw [upd_ne (ne_of_none e nD)]
            exact sc _ _ e
        · rw [show mk / 2 ^ i % 2 = 0 by omega]
          refine iteF ⟨?_, sc⟩
          rw [rs, List.filter_append, List.filter_cons_of_neg (by rw [bit, decide_eq_false c]; decide), List.filter_nil, List.append_nil]
          exact eD
    · rintro Hc ⟨eD, sc⟩
      refine ⟨D, _, rfl, .inl ⟨SqL.of eD, fun l nl => ?_⟩⟩
      exact q1 mk _ l mlt rel ((s2.trans s3).trans (sc.trans (same_new nl))) (off ((s2.trans s3).trans sc) nl) upd_same
end
end KQ

namespace KQ
/-! ### strings as numbers with a power of i, and their products -/
theorem pc_xor : ∀ (a b : Nat), pc (a ^^^ b) % 2 = (pc a + pc b) % 2 := by
  intro a
  induction a using Nat.strongRecOn with
  | _ a ih =>
    intro b
    by_cases h : a = 0
    · subst h
      rw [Nat.zero_xor, pc_zero, Nat.zero_add]
    · have ha : a = 2 * (a / 2) + a % 2 := by omega
      have hb : b = 2 * (b / 2) + b % 2 := by omega
      have hx : a ^^^ b = 2 * (a / 2 ^^^ b / 2) + (a % 2 ^^^ b % 2) := by
        apply Nat.eq_of_testBit_eq
        intro j
        cases j with
        | zero =>
          rw [Nat.testBit_xor, Nat.testBit_zero, Nat.testBit_zero, Nat.testBit_zero]
          rcases Nat.mod_two_eq_zero_or_one a with e | e <;> rcases Nat.mod_two_eq_zero_or_one b with e' | e' <;> rw [e, e'] <;> simp [Nat.add_mod]
        | succ j =>
          have lt : (a % 2 ^^^ b % 2) < 2 := by
            rcases Nat.mod_two_eq_zero_or_one a with e | e <;> rcases Nat.mod_two_eq_zero_or_one b with e' | e' <;> rw [e, e'] <;> decide
          rw [Nat.testBit_xor, Nat.testBit_succ, Nat.testBit_succ, Nat.testBit_succ, show (2 * (a / 2 ^^^ b / 2) + (a % 2 ^^^ b % 2)) / 2 = a / 2 ^^^ b / 2 by omega, Nat.testBit_xor]
      have i2 := ih (a / 2) (by omega) (b / 2)
      have p1 := pc_two (a / 2) (a % 2) (by omega)
      have p2 := pc_two (b / 2) (b % 2) (by omega)
      rw [← ha] at p1
      rw [← hb] at p2
      have lt : (a % 2 ^^^ b % 2) < 2 ∧ (a % 2 ^^^ b % 2) = (a % 2 + b % 2) % 2 := by
        rcases Nat.mod_two_eq_zero_or_one a with e | e <;> rcases Nat.mod_two_eq_zero_or_one b with e' | e' <;> rw [e, e'] <;> decide
      rw [hx, pc_two _ _ lt.1, p1, p2]
      omega
/-- does the second one's front meet the first one's back oddly -/
def tw (n a b : Nat) : Nat := pc (a &&& (b >>> n)) % 2
theorem tw_lt (n a b : Nat) : tw n a b < 2 := Nat.mod_lt _ (by decide)
theorem tw_xl (n a b c : Nat) : tw n (a ^^^ b) c = (tw n a c + tw n b c) % 2 := by
  unfold tw
  rw [Nat.and_xor_distrib_right, pc_xor]
  omega
theorem tw_xr (n a b c : Nat) : tw n a (b ^^^ c) = (tw n a b + tw n a c) % 2 := by
  unfold tw
  rw [Nat.shiftRight_xor_distrib, Nat.and_xor_distrib_left, pc_xor]
  omega
theorem tw_zl (n c : Nat) : tw n 0 c = 0 := by
  unfold tw
  rw [Nat.zero_and, pc_zero]
theorem tw_zr (n c : Nat) : tw n c 0 = 0 := by
  unfold tw
  rw [Nat.zero_shiftRight, Nat.and_zero, pc_zero]
abbrev Hl := Nat × Nat
def hp (n : Nat) (h g : Hl) : Hl := (h.1 ^^^ g.1, (h.2 + g.2 + 2 * tw n h.1 g.1) % 4)
def lwH (n : Nat) (h r : Hl) : Hl := if h.1 ^^^ r.1 < h.1 then hp n h r else h
def rsH (n : Nat) (T : List Hl) (h : Hl) : Hl := T.foldl (lwH n) h
theorem lwH_fst {n : Nat} {h r : Hl} (r0 : r.1 ≠ 0) : (lwH n h r).1 = lw h.1 r.1 := by
  unfold lwH lw
  by_cases c : h.1.testBit r.1.log2 = true
  · rw [if_pos ((lt_iff r0).mpr c), if_pos c]
    rfl
  · rw [if_neg (fun z => c ((lt_iff r0).mp z)), if_neg c]
theorem rsH_fst {n : Nat} : ∀ {T : List Hl} {h : Hl}, (∀ r ∈ T, r.1 ≠ 0) → (rsH n T h).1 = rst (T.map Prod.fst) h.1
  | [], _, _ => rfl
  | r :: T, h, z => by
    show (rsH n T (lwH n h r)).1 = rst (T.map Prod.fst) (lw h.1 r.1)
    rw [rsH_fst (fun q m => z q (List.mem_cons_of_mem _ m)), lwH_fst (z r (List.mem_cons_self ..))]
theorem hp_assoc (n : Nat) (a b c : Hl) : hp n (hp n a b) c = hp n a (hp n b c) := by
  unfold hp
  refine Prod.ext (Nat.xor_assoc ..) ?_
  show ((a.2 + b.2 + 2 * tw n a.1 b.1) % 4 + c.2 + 2 * tw n (a.1 ^^^ b.1) c.1) % 4 = (a.2 + (b.2 + c.2 + 2 * tw n b.1 c.1) % 4 + 2 * tw n a.1 (b.1 ^^^ c.1)) % 4
  rw [tw_xl, tw_xr]
  omega
theorem hp_zr {n : Nat} {a : Hl} (h : a.2 < 4) : hp n a (0, 0) = a := by
  unfold hp
  refine Prod.ext (Nat.xor_zero _) ?_
  show (a.2 + 0 + 2 * tw n a.1 0) % 4 = a.2
  rw [tw_zr]
  omega
theorem hp_zl {n : Nat} {a : Hl} (h : a.2 < 4) : hp n (0, 0) a = a := by
  unfold hp
  refine Prod.ext (Nat.zero_xor _) ?_
  show (0 + a.2 + 2 * tw n 0 a.1) % 4 = a.2
  rw [tw_zl]
  omega
theorem hp_lt (n : Nat) (a b : Hl) : (hp n a b).2 < 4 := Nat.mod_lt _ (by decide)
def Com (n : Nat) (a b : Hl) : Prop := tw n a.1 b.1 = tw n b.1 a.1
def Sg (n : Nat) (h : Hl) : Prop := h.2 < 4 ∧ h.2 % 2 = tw n h.1 h.1
theorem Com.symm {n : Nat} {a b : Hl} (h : Com n a b) : Com n b a := Eq.symm h
theorem Com.self (n : Nat) (a : Hl) : Com n a a := rfl
theorem hp_comm {n : Nat} {a b : Hl} (h : Com n a b) : hp n a b = hp n b a := by
  unfold hp Com at *
  refine Prod.ext (Nat.xor_comm ..) ?_
  show (a.2 + b.2 + 2 * tw n a.1 b.1) % 4 = (b.2 + a.2 + 2 * tw n b.1 a.1) % 4
  rw [h]
  omega
theorem hp_sq {n : Nat} {a : Hl} (h : Sg n a) : hp n a a = (0, 0) := by
  obtain ⟨h1, h2⟩ := h
  unfold hp
  refine Prod.ext (Nat.xor_self _) ?_
  show (a.2 + a.2 + 2 * tw n a.1 a.1) % 4 = 0
  omega
theorem com_hp {n : Nat} {a b c : Hl} (h : Com n a b) (k : Com n a c) : Com n a (hp n b c) := by
  unfold Com hp at *
  show tw n a.1 (b.1 ^^^ c.1) = tw n (b.1 ^^^ c.1) a.1
  rw [tw_xr, tw_xl, h, k]
theorem com_z (n : Nat) (a : Hl) : Com n a (0, 0) := by
  unfold Com
  show tw n a.1 0 = tw n 0 a.1
  rw [tw_zr, tw_zl]
theorem sg_z (n : Nat) : Sg n (0, 0) := ⟨by decide, by show 0 % 2 = tw n 0 0; rw [tw_zl]⟩
theorem sg_hp {n : Nat} {a b : Hl} (ha : Sg n a) (hb : Sg n b) (h : Com n a b) : Sg n (hp n a b) := by
  obtain ⟨a1, a2⟩ := ha
  obtain ⟨b1, b2⟩ := hb
  refine ⟨hp_lt .., ?_⟩
  unfold Com at h
  show (a.2 + b.2 + 2 * tw n a.1 b.1) % 4 % 2 = tw n (a.1 ^^^ b.1) (a.1 ^^^ b.1)
  rw [tw_xl, tw_xr, tw_xr]
  omega
/-! ### products of some of a list -/
/-- the product of those of the first k whose mark is set, in their order -/
def pr (n : Nat) (hs : List Hl) (m : Nat) : Nat → Hl
  | 0 => (0, 0)
  | k + 1 => if m.testBit k = true then hp n (pr n hs m k) (hs.getD k (0, 0)) else pr n hs m k
/-- signed ones that commute -/
structure CS (n : Nat) (hs : List Hl) : Prop where
  sg : ∀ a ∈ hs, Sg n a
  com : ∀ a ∈ hs, ∀ b ∈ hs, Com n a b
theorem getD_mem {hs : List Hl} {k : Nat} (h : k < hs.length) : hs.getD k (0, 0) ∈ hs := by
  rw [List.getD_eq_getElem?_getD, List.getElem?_eq_getElem h]
  exact List.getElem_mem h
theorem pr_lt (n : Nat) (hs : List Hl) (m : Nat) : ∀ k, (pr n hs m k).2 < 4
  | 0 => by show 0 < 4; decide
  | k + 1 => by
    unfold pr
    split
    · exact hp_lt ..
    · exact pr_lt n hs m k
theorem pr_com {n : Nat} {hs : List Hl} {g : Hl} (m : Nat) (h : ∀ a ∈ hs, Com n g a) : ∀ {k}, k ≤ hs.length → Com n g (pr n hs m k)
  | 0, _ => com_z n g
  | k + 1, hk => by
    unfold pr
    split
    · exact com_hp (pr_com m h (by omega)) (h _ (getD_mem hk))
    · exact pr_com m h (by omega)
theorem pr_sg {n : Nat} {hs : List Hl} (C : CS n hs) (m : Nat) : ∀ {k}, k ≤ hs.length → Sg n (pr n hs m k)
  | 0, _ => sg_z n
  | k + 1, hk => by
    unfold pr
    split
    · exact sg_hp (pr_sg C m (by omega)) (C.sg _ (getD_mem hk)) ((pr_com m (fun a ha => C.com _ (getD_mem hk) a ha) (by omega)).symm)
    · exact pr_sg C m (by omega)
theorem pr_xor {n : Nat} {hs : List Hl} (C : CS n hs) (m m' : Nat) : ∀ {k}, k ≤ hs.length → pr n hs (m ^^^ m') k = hp n (pr n hs m k) (pr n hs m' k)
  | 0, _ => by
    show ((0, 0) : Hl) = hp n (0, 0) (0, 0)
    rw [hp_zr (by decide)]
  | k + 1, hk => by
    have ih := pr_xor C m m' (k := k) (by omega)
    have g := getD_mem (hs := hs) hk
    generalize hs.getD k (0, 0) = r at g
    have c1 : Com n r (pr n hs m' k) := pr_com m' (fun a ha => C.com _ g a ha) (by omega)
    have s1 := C.sg _ g
    show (if (m ^^^ m').testBit k = true then hp n (pr n hs (m ^^^ m') k) (hs.getD k (0, 0)) else pr n hs (m ^^^ m') k) = hp n (if m.testBit k = true then hp n (pr n hs m k) (hs.getD k (0, 0)) else pr n hs m k) (if m'.testBit k = true then hp n (pr n hs m' k) (hs.getD k (0, 0)) else pr n hs m' k)
    have g' := getD_mem (hs := hs) hk
    generalize hs.getD k (0, 0) = q at g'
    have c2 : Com n q (pr n hs m' k) := pr_com m' (fun a ha => C.com _ g' a ha) (by omega)
    have s2 := C.sg _ g'
    rw [Nat.testBit_xor, ih]
    cases m.testBit k <;> cases m'.testBit k
    · rfl
    · exact hp_assoc ..
    · show hp n (hp n (pr n hs m k) (pr n hs m' k)) q = hp n (hp n (pr n hs m k) q) (pr n hs m' k)
      rw [hp_assoc, hp_assoc, hp_comm c2]
    · show hp n (pr n hs m k) (pr n hs m' k) = hp n (hp n (pr n hs m k) q) (hp n (pr n hs m' k) q)
      rw [hp_assoc, ← hp_assoc n q, hp_comm c2, hp_assoc n _ q q, hp_sq s2, hp_zr (pr_lt ..)]
theorem pr_take {n : Nat} {hs : List Hl} {g : Hl} (m : Nat) : ∀ {k}, k ≤ hs.length → pr n (hs ++ [g]) m k = pr n hs m k
  | 0, _ => rfl
  | k + 1, hk => by
    unfold pr
    rw [pr_take m (by omega), show (hs ++ [g]).getD k (0, 0) = hs.getD k (0, 0) by
      rw [List.getD_eq_getElem?_getD, List.getD_eq_getElem?_getD, List.getElem?_append_left hk]]
theorem pr_bits {n : Nat} {hs : List Hl} {m m' : Nat} : ∀ {k}, (∀ j, j < k → m.testBit j = m'.testBit j) → pr n hs m k = pr n hs m' k
  | 0, _ => rfl
  | k + 1, h => by
    unfold pr
    rw [pr_bits (k := k) (fun j hj => h j (by omega)), h k (by omega)]
theorem pr_snoc0 {n : Nat} {hs : List Hl} {g : Hl} {m : Nat} (h : m < 2 ^ hs.length) : pr n (hs ++ [g]) m (hs.length + 1) = pr n hs m hs.length := by
  show (if m.testBit hs.length = true then _ else _) = _
  rw [bit_high h (Nat.le_refl _), if_neg (by decide), pr_take m (Nat.le_refl _)]
theorem pr_snoc1 {n : Nat} {hs : List Hl} {g : Hl} {m : Nat} (h : m < 2 ^ hs.length) : pr n (hs ++ [g]) (2 ^ hs.length ^^^ m) (hs.length + 1) = hp n (pr n hs m hs.length) g := by
  show (if (2 ^ hs.length ^^^ m).testBit hs.length = true then _ else _) = _
  rw [Nat.testBit_xor, bit_high h (Nat.le_refl _), Nat.testBit_two_pow_self, if_pos (show (true ^^ false) = true from rfl), pr_take _ (Nat.le_refl _)]
  congr 1
  · refine pr_bits fun j hj => ?_
    rw [Nat.testBit_xor, Nat.testBit_two_pow_of_ne (by omega), Bool.false_xor]
  · rw [List.getD_eq_getElem?_getD, List.getElem?_append_right (Nat.le_refl _), Nat.sub_self] <;> rfl
theorem pr_zero {n : Nat} {hs : List Hl} : ∀ k, pr n hs 0 k = (0, 0)
  | 0 => rfl
  | k + 1 => by
    unfold pr
    rw [Nat.zero_testBit, if_neg (by decide), pr_zero k]
theorem xs_app {α : Type} (l : List α) (a : α) (f : α → Nat) : XS (l ++ [a]) f = XS l f ^^^ f a := by
  induction l with
  | nil =>
    show f a ^^^ 0 = 0 ^^^ f a
    rw [Nat.xor_zero, Nat.zero_xor]
  | cons b l ih =>
    show f b ^^^ XS (l ++ [a]) f = (f b ^^^ XS l f) ^^^ f a
    rw [ih, Nat.xor_assoc]
theorem pr_fst {n : Nat} {hs : List Hl} (m : Nat) : (pr n hs m hs.length).1 = sx (hs.map Prod.fst) m := by
  have go : ∀ k, (pr n hs m k).1 = XS (List.range k) fun j => if m.testBit j then (hs.map Prod.fst).getD j 0 else 0 := by
    intro k
    induction k with
    | zero => rfl
    | succ k ih =>
      rw [List.range_succ, xs_app, ← ih]
      show (if m.testBit k = true then hp n (pr n hs m k) (hs.getD k (0, 0)) else pr n hs m k).1 = _
      have e : (hs.map Prod.fst).getD k 0 = (hs.getD k (0, 0)).1 := by
        rw [List.getD_eq_getElem?_getD, List.getD_eq_getElem?_getD, List.getElem?_map]
        cases hs[k]? <;> rfl
      rw [e]
      cases m.testBit k
      · exact (Nat.xor_zero _).symm
      · rfl
  rw [go, sx, List.length_map]
/-! ### marks of single ones -/
theorem indep_sx {ns : List Nat} (I : Indep ns) {m : Nat} (h : m < 2 ^ ns.length) (z : sx ns m = 0) : m = 0 := by
  by_cases m0 : m = 0
  · exact m0
  · refine absurd ?_ (I m.log2 (ns.getD m.log2 0) ?_)
    · have ht := bit_top m0
      have hl : m.log2 < ns.length := (Nat.log2_lt m0).mpr h
      have e : m = 2 ^ m.log2 ^^^ (m ^^^ 2 ^ m.log2) := by
        rw [Nat.xor_comm m, ← Nat.xor_assoc, Nat.xor_self, Nat.zero_xor]
      have e2 : sx ns (m ^^^ 2 ^ m.log2) = ns.getD m.log2 0 := by
        rw [sx_lin, z, Nat.zero_xor, sx_pow hl]
      have lt : m ^^^ 2 ^ m.log2 < 2 ^ m.log2 := by
        apply Nat.lt_pow_two_of_testBit
        intro j hj
        rw [Nat.testBit_xor]
        by_cases e : j = m.log2
        · subst e
          rw [ht, Nat.testBit_two_pow_self]
          rfl
        · rw [bit_above (by omega), Nat.testBit_two_pow_of_ne (by omega)]
          rfl
      rw [← e2]
      have e3 : ns = ns.take m.log2 ++ ns.drop m.log2 := (List.take_append_drop ..).symm
      have go : ∀ (us vs : List Nat) (x : Nat), x < 2 ^ us.length → sx (us ++ vs) x = sx us x := by
        intro us vs
        induction vs generalizing us with
        | nil => intro x _; rw [List.append_nil]
        | cons v vs ih =>
          intro x hx
          have l2 : x < 2 ^ (us ++ [v]).length := Nat.lt_of_lt_of_le hx (Nat.pow_le_pow_right (by decide) (by rw [List.length_append]; omega))
          rw [show us ++ v :: vs = (us ++ [v]) ++ vs by simp, ih (us ++ [v]) x l2, sx_more hx]
      rw [e3, go (ns.take m.log2) (ns.drop m.log2) _ (by rw [List.length_take, Nat.min_eq_left (by omega)]; exact lt)]
      rw [List.take_left' (by rw [List.length_take, Nat.min_eq_left (by omega)])]
      exact sx_spn (ns.take m.log2) _
    · have hl : m.log2 < ns.length := (Nat.log2_lt m0).mpr h
      rw [List.getD_eq_getElem?_getD, List.getElem?_eq_getElem hl]
      rfl
theorem indep_one {ns : List Nat} (I : Indep ns) {m m' : Nat} (h : m < 2 ^ ns.length) (h' : m' < 2 ^ ns.length) (e : sx ns m = sx ns m') : m = m' := by
  have z := indep_sx I (m := m ^^^ m') (Nat.xor_lt_two_pow h h') (by rw [sx_lin, e, Nat.xor_self])
  have : m ^^^ (m ^^^ m') = m ^^^ 0 := by rw [z]
  rw [← Nat.xor_assoc, Nat.xor_self, Nat.zero_xor, Nat.xor_zero] at this
  exact this.symm
end KQ

namespace KQ
/-! ### the table of a group, row by row -/
structure TabG (n : Nat) (hs T : List Hl) : Prop where
  red : Red (T.map Prod.fst)
  spn : ∀ x, Spn (T.map Prod.fst) x ↔ Spn (hs.map Prod.fst) x
  of : ∀ r ∈ T, ∃ m, m < 2 ^ hs.length ∧ r = pr n hs m hs.length
theorem TabG.nil (n : Nat) : TabG n [] [] := ⟨Red.nil, fun _ => Iff.rfl, fun _ h => by cases h⟩
theorem TabG.nz {n : Nat} {hs T : List Hl} (t : TabG n hs T) : ∀ r ∈ T, r.1 ≠ 0 := fun r hr => t.red.nz _ (List.mem_map_of_mem hr)
theorem rsH_pr {n : Nat} {hs : List Hl} (C : CS n hs) {g : Hl} : ∀ {T : List Hl} (m : Nat), m < 2 ^ hs.length → (∀ r ∈ T, ∃ m, m < 2 ^ hs.length ∧ r = pr n hs m hs.length) →
    ∃ m', m' < 2 ^ hs.length ∧ rsH n T (hp n g (pr n hs m hs.length)) = hp n g (pr n hs m' hs.length)
  | [], m, hm, _ => ⟨m, hm, rfl⟩
  | r :: T, m, hm, h => by
    obtain ⟨m1, l1, e1⟩ := h r (List.mem_cons_self ..)
    have h' := fun q hq => h q (List.mem_cons_of_mem _ hq)
    show ∃ m', _ ∧ rsH n T (lwH n (hp n g (pr n hs m hs.length)) r) = _
    unfold lwH
    split
    · rw [hp_assoc, e1, ← pr_xor C m m1 (Nat.le_refl _)]
      exact rsH_pr C _ (Nat.xor_lt_two_pow hm l1) h'
    · exact rsH_pr C m hm h'
theorem TabG.rest {n : Nat} {hs T : List Hl} (t : TabG n hs T) (C : CS n hs) {g : Hl} (hg : g.2 < 4) : ∃ m, m < 2 ^ hs.length ∧ rsH n T g = hp n g (pr n hs m hs.length) := by
  have h := rsH_pr C (g := g) (T := T) 0 (Nat.two_pow_pos _) t.of
  rwa [pr_zero, hp_zr hg] at h
theorem CS.snoc {n : Nat} {hs : List Hl} (C : CS n hs) {g : Hl} (hg : Sg n g) (cg : ∀ a ∈ hs, Com n g a) : CS n (hs ++ [g]) := by
  refine ⟨fun a ha => ?_, fun a ha b hb => ?_⟩
  · rcases List.mem_append.mp ha with h | h
    · exact C.sg a h
    · rw [List.mem_singleton.mp h]; exact hg
  · rcases List.mem_append.mp ha with h | h <;> rcases List.mem_append.mp hb with k | k
    · exact C.com a h b k
    · rw [List.mem_singleton.mp k]; exact (cg a h).symm
    · rw [List.mem_singleton.mp h]; exact cg b k
    · rw [List.mem_singleton.mp h, List.mem_singleton.mp k]; exact Com.self n g
theorem Indep.snoc {ns : List Nat} (I : Indep ns) {g : Nat} (h : ¬ Spn ns g) : Indep (ns ++ [g]) := by
  intro i x hx
  by_cases hi : i < ns.length
  · rw [List.getElem?_append_left hi] at hx
    rw [List.take_append_of_le_length (by omega)]
    exact I i x hx
  · rw [List.getElem?_append_right (by omega)] at hx
    have e : i = ns.length := by
      cases k : i - ns.length with
      | zero => omega
      | succ j => rw [k] at hx; cases hx
    subst e
    rw [Nat.sub_self] at hx
    cases hx
    rw [List.take_left' rfl]
    exact h
theorem TabG.out {n : Nat} {hs T : List Hl} (t : TabG n hs T) {g : Hl} : (rsH n T g).1 = 0 ↔ Spn (hs.map Prod.fst) g.1 := by
  rw [rsH_fst t.nz, ← t.spn, spn_rst t.red.ec]
theorem TabG.add {n : Nat} {hs T : List Hl} (t : TabG n hs T) (C : CS n hs) {g : Hl} (hg : Sg n g) (cg : ∀ a ∈ hs, Com n g a) (v0 : (rsH n T g).1 ≠ 0) :
    TabG n (hs ++ [g]) (T.map (lwH n · (rsH n T g)) ++ [rsH n T g]) := by
  obtain ⟨m0, l0, e0⟩ := t.rest C hg.1
  have ef : (T.map (lwH n · (rsH n T g)) ++ [rsH n T g]).map Prod.fst = (T.map Prod.fst).map (lw · (rst (T.map Prod.fst) g.1)) ++ [rst (T.map Prod.fst) g.1] := by
    rw [List.map_append, List.map_map, List.map_map, ← rsH_fst t.nz]
    congr 1
    exact List.map_congr_left fun r _ => lwH_fst v0
  have v0' : rst (T.map Prod.fst) g.1 ≠ 0 := by rw [← rsH_fst t.nz]; exact v0
  have ev : rsH n T g = hp n (pr n hs m0 hs.length) g := by rw [e0, hp_comm (pr_com m0 cg (Nat.le_refl _))]
  have up : 2 ^ (hs ++ [g]).length = 2 * 2 ^ hs.length := by rw [List.length_append, List.length_singleton, Nat.pow_succ]; omega
  have top : ∀ m, m < 2 ^ hs.length → 2 ^ hs.length ^^^ m < 2 ^ (hs ++ [g]).length := fun m hm => by
    refine Nat.xor_lt_two_pow ?_ ?_
    · rw [up]; have := Nat.two_pow_pos hs.length; omega
    · rw [up]; omega
  refine ⟨?_, fun x => ?_, fun r hr => ?_⟩
  · rw [ef]
    exact t.red.add v0' fun r hr => rst_clear t.red.ec r hr
  · rw [ef, List.map_append]
    exact spn_add t.spn v0' x
  · rw [show (hs ++ [g]).length = hs.length + 1 by simp] at top ⊢
    rcases List.mem_append.mp hr with h | h
    · obtain ⟨q, hq, e⟩ := List.mem_map.mp h
      obtain ⟨m1, l1, e1⟩ := t.of q hq
      subst e
      show ∃ m, _ ∧ lwH n q (rsH n T g) = _
      unfold lwH
      split
      · refine ⟨2 ^ hs.length ^^^ (m1 ^^^ m0), top _ (Nat.xor_lt_two_pow l1 l0), ?_⟩
        rw [pr_snoc1 (Nat.xor_lt_two_pow l1 l0), ev, e1, pr_xor C m1 m0 (Nat.le_refl _), hp_assoc]
      · exact ⟨m1, by rw [Nat.pow_succ]; omega, by rw [pr_snoc0 l1]; exact e1⟩
    · rw [List.mem_singleton.mp h]
      exact ⟨2 ^ hs.length ^^^ m0, top m0 l0, by rw [pr_snoc1 l0]; exact ev⟩
/-- one that is a product of kept ones, up to its sign -/
theorem TabG.hit {n : Nat} {hs T : List Hl} (t : TabG n hs T) (C : CS n hs) {g : Hl} (hg : Sg n g) (cg : ∀ a ∈ hs, Com n g a) (v0 : (rsH n T g).1 = 0) :
    ∃ m, m < 2 ^ hs.length ∧ (pr n hs m hs.length).1 = g.1 ∧ ((rsH n T g).2 = 0 ↔ (pr n hs m hs.length).2 = g.2) := by
  obtain ⟨m0, l0, e0⟩ := t.rest C hg.1
  have e1 : (pr n hs m0 hs.length).1 = g.1 := by
    rw [e0] at v0
    have z : g.1 ^^^ (pr n hs m0 hs.length).1 = 0 := v0
    have : g.1 ^^^ (g.1 ^^^ (pr n hs m0 hs.length).1) = g.1 ^^^ 0 := by rw [z]
    rw [← Nat.xor_assoc, Nat.xor_self, Nat.zero_xor, Nat.xor_zero] at this
    exact this
  refine ⟨m0, l0, e1, ?_⟩
  rw [e0]
  show (g.2 + (pr n hs m0 hs.length).2 + 2 * tw n g.1 (pr n hs m0 hs.length).1) % 4 = 0 ↔ _
  have s2 := pr_sg C m0 (Nat.le_refl _)
  obtain ⟨s1, s2⟩ := s2
  obtain ⟨g1, g2⟩ := hg
  rw [e1] at s2 ⊢
  omega
end KQ

namespace KQ
open PySem PySem.Spec PyProof.Rows
open PySem.Builtin PySem.Builtin.Str PySem.Builtin.Int PySem.Builtin.Float
/-- the digits of n to the base 2, as a text -/
def binT (n : Nat) : Str := ⟨((Nat.toDigits 2 n).map Char.toNat).toArray⟩
theorem spec_b (name : String) : parseFormatSpec ("b" : Str).cps.toList name 62 = .ok { align := 62, type := some 98 } := by
  rw [show ("b" : Str).cps.toList = [98] from by decide +kernel]
  rfl
theorem gives_bin (n : Nat) (t u : Tok) : Gives («int.__format__» ⟨[.int (n : Int) t, .str "b" u], []⟩) (.str (binT n)) := by
  intro prog w A R s hq
  unfold Builtin.«int.__format__»
  have h1 : (("b" : Str).length == 0) = false := by decide +kernel
  have h2 : ((("b" : Str).cps.toList.drop 1).any (· ≥ 128) || (("b" : Str).cps.getD 0 0 ≥ 128 && !([60, 62, 61, 94] : List Nat).contains (("b" : Str).cps.getD 1 0))) = false := by decide +kernel
  simp only [selfAndOne, noKeywords, Int.intOfSelf, asInt?, asStr?, List.isEmpty_nil, if_true, pure_bind, bind_pure, bind_assoc, h1, h2, Bool.false_eq_true, if_false,
    show (Value.str ("b" : Str) u == Value.none) = false from rfl]
  refine wpAny_bind (wpAny_typeNameOf (T := "str") (typeIs_str _ _ _) (by decide) fun _ => ?_)
  refine wpAny_bind (PyProof.Rows.wpAny_typeNameOfCut_int ?_)
  simp only [spec_b]
  simp only [Option.getD_some]
  rw [if_pos]
  case hc => decide +kernel
  show wpAny _ _ (retStr _) _ _ _
  have made : ∀ X : Str, X = binT n → wpAny (model prog w) A.in1 (retStr X) (fun fin s' => match fin with
      | Fin.done f => R (Except.ok f) s'
      | Fin.again c' => c'.quiet = true ∧ codeAny (model prog w) A c' R s') (fun e s' => R (Except.error e) s') s := by
    rintro _ rfl
    unfold retStr
    refine wpAny_bind (wpAny_mkStr (wpAny_pure ?_) ?_)
    · exact hq.2
    · exact hq.1
  refine made _ ?_
  rw [show decide ((n : Int) < 0) = false from decide_eq_false (by omega)]
  generalize hd : List.map (fun c => (if (98 == 88) = true then Char.toUpper c else c).toNat) (Nat.toDigits 2 (n : Int).natAbs) = ds
  conv => lhs; whnf
  have h0 : ds.isEmpty = false := by
    have := tDigits_len_ge 2 n
    rw [← hd, Int.natAbs_natCast]
    cases h : Nat.toDigits 2 n with
    | nil => rw [h] at this; simp at this
    | cons _ _ => rfl
  have hp : ((-1 : Int) - ds.length).toNat = 0 := by omega
  have hb : binT n = ⟨ds.toArray⟩ := by
    unfold binT
    rw [← hd]
    rfl
  rw [hb]
  simp [h0, hp]
/-- the bits of a whole number as a text, the highest one first -/
def tFmtB (te : L2.TE) : L2.TE := fun σ H Q => te σ H fun x H1 => ∃ n : Nat, x = .int (n : Int) ∧ (binT n).length ≤ sizeLine ∧ Q (.str (binT n)) H1
theorem pe_fmtB {X : L2.Cx} {e : Expr} {te : L2.TE} {j : Nat} {p1 p2 pos : Pos} (he : L2.PE X e te) : L2.PE X (.FormattedValue e (-1) (some (.JoinedStr [.Constant (.str "b") j p1] p2)) pos) (tFmtB te) := by
  refine ⟨fun pins s σ H Q I h => ?_⟩
  refine wpAny_FormattedValue_spec (L2.thn (he.run pins s σ H _ I h) fun v s1 hv => ?_)
  obtain ⟨x, H1, I1, r1, n, rfl, hz, q⟩ := hv
  obtain ⟨t, rfl⟩ := r1
  have hs := (L2.pe_joined1 (X := X) (pos := p2) (L2.pe_str (X := X) (x := "b") (j := j) (pos := p1))).run pins s1 σ H1 (fun y H2 => y = .str "b" ∧ H2 = H1) I1 ⟨rfl, rfl⟩
  refine L2.thn hs fun r s2 hr => ?_
  obtain ⟨y, H2, I2, r2, rfl, rfl⟩ := hr
  obtain ⟨u, rfl⟩ := r2
  refine ⟨_, _, rfl, wpAny_formatField_spec (by decide +kernel) (fun s' => typeIs_int s' _ t) slot_int_format entry_int_format args_int_format (fun u => gives_bin n t u) ?_ (by decide +kernel) hz⟩
  exact ⟨.str _, H2, I2.tok _, ⟨_, rfl⟩, q⟩
/-- text[::-1] -/
def tRevT (te : L2.TE) : L2.TE := fun σ H Q => te σ H fun x H1 => ∃ L : List Nat, x = .str ⟨L.toArray⟩ ∧ L.length ≤ sizeLine ∧ Q (.str ⟨L.reverse.toArray⟩) H1
theorem rev_cps (L : List Nat) (u : Tok) : Txt.sliceBy ⟨L.toArray⟩ none none (-1, u) = ⟨L.reverse.toArray⟩ := by
  have h := step_rev_list ⟨L.toArray⟩ u
  generalize Txt.sliceBy ⟨L.toArray⟩ none none (-1, u) = z at h
  obtain ⟨⟨l⟩⟩ := z
  have h' : l = (List.range L.length).map fun k => L.toArray.getD (L.length - 1 - k) 0 := h
  subst h'
  congr 2
  apply List.ext_getElem
  · simp
  · intro i h1 h2
    simp at h1 h2
    have h3 : L.length - 1 - i < L.length := by omega
    simp [Array.getD, List.getElem_reverse, h3]
theorem pe_revT {X : L2.Cx} {e : Expr} {te : L2.TE} {k : Nat} {p1 p2 p3 pos : Pos} (he : L2.PE X e te) (ht : ∀ (x : Str) (t : Tok) r, letTemporaryGo e (.str x t) r = pure () := by intro _ _ _; with_unfolding_all rfl) :
    L2.PE X (.Subscript e (.Slice none none (some (.UnaryOp .USub (.Constant (.int 1) k p1) p2)) p3) pos) (tRevT te) := by
  refine ⟨fun pins s σ H Q I h => ?_⟩
  refine Subscript_ (L2.thn (he.run pins s σ H _ I h) fun v s1 ⟨x, H1, I1, r1, q1⟩ => ?_)
  obtain ⟨L, rfl, hz, q⟩ := q1
  obtain ⟨t, rfl⟩ := r1
  have back : L2.PO X (some (.UnaryOp .USub (.Constant (.int 1) k p1) p2)) _ := L2.po_some (L2.pe_un L2.un_neg L2.pe_int)
  refine wpAny_Slice (L2.thn (L2.po_none.run pins s1 σ H1 (fun o K => o = none ∧ K = H1) I1 ⟨rfl, rfl⟩) fun vl s2 ⟨l, H2, I2, pl, el, e2⟩ => ?_)
  subst el e2
  refine L2.thn (L2.po_none.run pins s2 σ H2 (fun o K => o = none ∧ K = H2) I2 ⟨rfl, rfl⟩) fun vu s3 ⟨u, H3, I3, pu, eu, e3⟩ => ?_
  subst eu e3
  refine L2.thn (back.run pins s3 σ H3 (fun o K => o = some (-1) ∧ K = H3) I3 ⟨1, rfl, -1, rfl, rfl, rfl⟩) fun vs s4 ⟨o, H4, I4, ps, eo, e4⟩ => ?_
  subst eo e4
  cases pl
  cases pu
  cases ps with
  | int _ tk =>
  have I5 : L2.Inv X pins σ H4 { s4 with heap := s4.heap.push { cls := .type "slice", data := .fields #[.none, .none, .int (-1) tk] } } := I4.kept (t' := s4.toks) fun b ob q => Heap.get?_push_of_some _ q
  show wpAny (model X.prog X.w) X.A (subscriptTail e (.Slice none none (some (.UnaryOp .USub (.Constant (.int 1) k p1) p2)) p3) (.str ⟨L.toArray⟩ t) (.ref s4.heap.objs.size)) _ _ _
  refine tail_of_ItemOn ⟨"str", _, F.slot_str_getitem.lookup, typeIs_str _ _ _, wpAny_getItem_str_slice (l := none) (u := none) (st := some (-1, tk)) ⟨_, Heap.get?_push_size _ rfl, rfl, rfl⟩ rfl ?_⟩ (by with_unfolding_all rfl) (ht _ _)
  rw [← rev_cps L tk] at q
  refine post_val_or_str ⟨?_, fun t' c => ⟨.str _, H4, I5.tok c, ⟨t', rfl⟩, q⟩⟩
  show (Txt.sliceBy ⟨L.toArray⟩ none none (-1, tk)).length ≤ sizeLine
  rw [rev_cps]
  show (L.reverse.toArray).size ≤ sizeLine
  rw [List.size_toArray, List.length_reverse]
  exact hz
/-- text * n -/
theorem op_mul_txt {X : L2.Cx} : L2.OpR X (binaryOp .Mult) (fun x y H Q => ∃ c n : Nat, x = .str ⟨#[c]⟩ ∧ y = .int (n : Int) ∧ n ≤ 10000 ∧ Q (.str ⟨(List.replicate n c).toArray⟩) H) := by
  intro pins s σ H x y v u Q I rx ry want
  obtain ⟨c, n, rfl, rfl, hn, q⟩ := want
  obtain ⟨t, rfl⟩ := rx
  obtain ⟨t', rfl⟩ := ry
  have key : Txt.mul (⟨#[c]⟩ : Str) (n : Int) = ⟨(List.replicate n c).toArray⟩ := by
    unfold Txt.mul
    by_cases h0 : (n : Int) < 1
    · rw [if_pos h0, show n = 0 by omega]
      rfl
    · rw [if_neg h0]
      by_cases h1 : n = 1
      · subst h1
        rfl
      · rw [if_neg (by
          rw [show (⟨#[c]⟩ : Str).length = 1 from rfl]
          simp
          omega), Int.toNat_natCast]
        have fold : ∀ (k : Nat) (a : Array Nat), (List.replicate k (#[c] : Array Nat)).foldl (· ++ ·) a = a ++ (List.replicate k c).toArray := by
          intro k
          induction k with
          | zero => intro a; simp
          | succ k ih =>
            intro a
            rw [List.replicate_succ, List.foldl_cons, ih, List.replicate_succ]
            apply Array.ext'
            simp
        show (⟨(List.replicate n (#[c] : Array Nat)).foldl (· ++ ·) #[]⟩ : Str) = _
        rw [fold]
        simp
  refine SB.mul ⟨?_, fun h1 _ => ?_, fun h1 _ => ?_⟩ fun t'' k => ?_
  · rw [decide_eq_false (by omega : ¬ (n : Int) < -(2 ^ 63)), decide_eq_false (by omega : ¬ (n : Int) ≥ 2 ^ 63)]
    rfl
  · rw [show (⟨#[c]⟩ : Str).length = 1 from rfl]
    intro z
    have h2 : (1 : Int) ≤ (2 ^ 63 - 1) / (n : Int) := (Int.le_ediv_iff_mul_le (by omega)).mpr (by omega)
    have z' : (2 ^ 63 - 1) / (n : Int) < 1 := z
    omega
  · rw [show (⟨#[c]⟩ : Str).length = 1 from rfl, Nat.one_mul, Int.toNat_natCast]
    show decide (n > 2 ^ 24) = false
    exact decide_eq_false (by omega)
  · rw [key]
    exact ⟨.str _, H, I.tok _, ⟨_, rfl⟩, q⟩
end KQ

namespace KT
open PySem PySem.Spec PyProof.Rows L2 PySem.NumText PySem.Calls
/-! ### int(text, 2) -/
def IsB (c : Nat) : Prop := c = 48 ∨ c = 49
/-- the number that a list of signs 0 and 1 tells, the highest one first -/
def binN (l : List Nat) : Nat := l.foldl (fun a c => a * 2 + (c - 48)) 0
theorem IsB.hex {c : Nat} (h : IsB c) : Hx.IsHex c := by
  unfold IsB at h
  unfold Hx.IsHex
  omega
theorem IsB.hv {c : Nat} (h : IsB c) : Hx.hv c = c - 48 := if_pos (by unfold IsB at h; omega)
theorem step_b {ds : Array Nat} {b : Bool} {c : Nat} (h : IsB c) : PySem.NumText.step 2 (ds, b) c = some (ds.push (c - 48), true) := by
  unfold PySem.NumText.step
  rw [if_neg (by rw [beq_iff_eq]; exact (Hx.hex_rng h.hex).2.2), Hx.digit_hex h.hex, h.hv]
  exact if_pos (by unfold IsB at h; omega)
theorem steps_b : ∀ (cs : List Nat) (ds : Array Nat) (b : Bool), (∀ c ∈ cs, IsB c) → cs.foldlM (PySem.NumText.step 2) (ds, b) = some (cs.foldl (fun acc c => acc.push (c - 48)) ds, b || !cs.isEmpty)
  | [], _, b, _ => by cases b <;> rfl
  | c :: cs, ds, b, h => by
    rw [List.foldlM_cons, step_b (h c (List.mem_cons_self ..))]
    show cs.foldlM (PySem.NumText.step 2) (ds.push (c - 48), true) = _
    rw [steps_b cs _ true fun d hd => h d (List.mem_cons_of_mem _ hd)]
    cases b <;> rfl
theorem digits_b {cs : List Nat} (h : ∀ c ∈ cs, IsB c) (hne : cs ≠ []) : digits? 2 cs = some (cs.foldl (fun acc c => acc.push (c - 48)) #[]) := by
  unfold digits?
  rw [steps_b cs _ _ h]
  cases cs with
  | nil => exact absurd rfl hne
  | cons c cs => rfl
theorem push_b : ∀ (cs : List Nat) (ds : Array Nat), (cs.foldl (fun acc c => acc.push (c - 48)) ds).foldl (fun acc d => acc * 2 + d) 0 = cs.foldl (fun a c => a * 2 + (c - 48)) (ds.foldl (fun acc d => acc * 2 + d) 0)
  | [], _ => rfl
  | c :: cs, ds => by
    rw [List.foldl_cons, push_b cs, List.foldl_cons]
    simp
theorem based_b {cs : List Nat} (h : ∀ c ∈ cs, IsB c) : based 2 cs = (2, false, cs) := by
  match cs, h with
  | [], _ => rfl
  | [a], h =>
    rcases h a (List.mem_cons_self ..) with rfl | rfl <;> rfl
  | a :: c :: r, h =>
    rcases h a (List.mem_cons_self ..) with rfl | rfl <;> rcases h c (List.mem_cons_of_mem _ (List.mem_cons_self ..)) with rfl | rfl <;> rfl
theorem read_b {cs : List Nat} (h : ∀ c ∈ cs, IsB c) (hne : cs ≠ []) : (int_private% "readNumeral") 0 2 cs = (int_private% "Numeral.value") ((binN cs : Nat) : Int) := by
  have hx : ∀ c ∈ cs, Hx.IsHex c := fun c hc => (h c hc).hex
  have hr : ∀ c ∈ cs.reverse, Hx.IsHex c := fun c hc => hx c (List.mem_reverse.mp hc)
  have eb := based_b h
  refine (readNumeral_eq 0 2 cs).trans ?_
  rw [Hx.dropB hx, Hx.signH hx]
  show judge 0 false (based 2 cs).1 (based 2 cs).2.1 (digits? (based 2 cs).1 (((based 2 cs).2.2.reverse.dropWhile blank).reverse)) = _
  rw [eb]
  show judge 0 false 2 false (digits? 2 ((cs.reverse.dropWhile blank).reverse)) = _
  rw [Hx.dropB hr, List.reverse_reverse, digits_b h hne]
  have z : (#[] : Array Nat).foldl (fun acc d => acc * 2 + d) 0 = 0 := by first | rfl | simp
  have e := push_b cs #[]
  rw [z] at e
  show (int_private% "Numeral.value") (((cs.foldl (fun acc c => acc.push (c - 48)) (#[] : Array Nat)).foldl (fun acc d => acc * 2 + d) 0 : Nat) : Int) = _
  rw [e] <;> rfl
theorem gives_b {x : PySem.Str} {u t : Tok} (hl : x.length ≤ 640) (h : ∀ c ∈ x.cps.toList, IsB c) (hne : x.cps.toList ≠ []) :
    Gives (Builtin.«int.__new__» ⟨[.type "int", .str x u, .int 2 t], []⟩) (.int ((binN x.cps.toList : Nat) : Int)) :=
  .of_wp fun M A E s Q hQ => by
    obtain ⟨hp, g, d, tk, os⟩ := s
    have f1 := F.conv_sub_int
    have f2 := F.madeHere_int
    have f6 : typeOf (.str x u) = pure (.type "str") := rfl
    obtain ⟨e1, e2⟩ := Hx.seen_hex fun c hc => (h c hc).hex
    have hk : Hx.Hid ((numSeenOf x).length ≤ 640 ∧ (int_private% "readNumeral") 0 2 (numSeenOf x) = (int_private% "Numeral.value") ((binN x.cps.toList : Nat) : Int) ∧ ((numSeenOf x).length == (numTextOf x).length) = true) := by
      refine ⟨?_, ?_, ?_⟩
      · rw [e2, Array.length_toList]; exact hl
      · rw [e2]; exact read_b h hne
      · rw [e1, e2]; exact beq_self_eq_true _
    clear e1 e2 hl hne h
    repeat (any_goals (first
      | assumption
      | ((with_reducible show wpAny _ _ ((int_private% "intFromText") _ _ _) _ _ _); refine Hx.wp_textB hk.out.1 hk.out.2.1 hk.out.2.2 ?_)
      | wp_step))
    all_goals first | exact ⟨_, rfl, hQ⟩ | skip
end KT
namespace KQ
open PySem PySem.Spec PyProof.Rows L2
/-- int(t, 2) -/
def rIntB : List V → Hp → VK → Prop := fun xs H Q => ∃ l : List Nat, xs = [.str (SX.S l), .int 2] ∧ l ≠ [] ∧ l.length ≤ 640 ∧ (∀ c ∈ l, KT.IsB c) ∧ Q (.int ((KT.binN l : Nat) : Int)) H
theorem call_int_b {X : Cx} : CallR X (.type "int") rIntB := by
  rintro pins s σ H xs us Q I r ⟨l, rfl, hne, hl, hx, q⟩
  obtain ⟨u, w', rfl, ⟨t1, rfl⟩, ⟨t2, rfl⟩⟩ := vals2 r
  exact callType_new F.called_int F.newNe_int (Hx.typeCall_int_2 _ _) (Hx.newCall_int_2 _ _) (fun obj => F.initArgs_range_2 obj _ _) F.entry_int_new (KT.gives_b (x := SX.S l) (by rw [SX.S_len]; exact hl) hx hne).meets
    (show (Made.int ((KT.binN l : Nat) : Int)).post _ s from ⟨rfl, ⟨.int ((KT.binN l : Nat) : Int), H, I.tok _, ⟨_, rfl⟩, q⟩⟩)
end KQ

namespace KQ
open PySem PySem.Spec PyProof.Rows L2
/-! ### numbers as texts of n signs 0 and 1 -/
def lsb (n : Nat) : List Nat := if h : n < 2 then [48 + n] else (48 + n % 2) :: lsb (n / 2)
termination_by n
decreasing_by omega
theorem lsb_small {n : Nat} (h : n < 2) : lsb n = [48 + n] := by rw [lsb, dif_pos h]
theorem lsb_big {n : Nat} (h : ¬ n < 2) : lsb n = (48 + n % 2) :: lsb (n / 2) := by rw [lsb, dif_neg h]
theorem dig_char {b : Nat} (h : b < 2) : (Nat.digitChar b).toNat = 48 + b := by
  have : b = 0 ∨ b = 1 := by omega
  rcases this with rfl | rfl <;> decide
theorem core_two : ∀ (fuel n : Nat) (ds : List Char), n < fuel → (Nat.toDigitsCore 2 fuel n ds).map Char.toNat = (lsb n).reverse ++ ds.map Char.toNat
  | 0, n, ds, h => by omega
  | fuel + 1, n, ds, h => by
    unfold Nat.toDigitsCore
    by_cases h2 : n / 2 = 0
    · simp only [h2, if_true]
      rw [lsb_small (by omega), List.map_cons, dig_char (by omega), show n % 2 = n by omega]
      rfl
    · simp only [h2, if_false]
      have e : lsb n = (48 + n % 2) :: lsb (n / 2) := lsb_big (by omega)
      rw [core_two fuel (n / 2) _ (by omega), e, List.map_cons, dig_char (by omega)]
      simp
theorem bin_eq (n : Nat) : binT n = mS (lsb n).reverse := by
  unfold binT Nat.toDigits
  rw [core_two (n + 1) n [] (by omega)]
  simp
theorem lsb_pc (n : Nat) : (lsb n).count 49 = pc n := by
  induction n using Nat.strongRecOn with
  | _ n ih =>
    by_cases h : n < 2
    · rw [lsb_small h]
      have : n = 0 ∨ n = 1 := by omega
      rcases this with rfl | rfl
      · rw [pc_zero]; decide
      · have := pc_two 0 1 (by decide)
        rw [pc_zero] at this
        rw [show pc 1 = 1 from this]
        decide
    · have e := pc_two (n / 2) (n % 2) (by omega)
      rw [show 2 * (n / 2) + n % 2 = n by omega] at e
      rw [lsb_big h, e, List.count_cons, ih (n / 2) (by omega)]
      rcases Nat.mod_two_eq_zero_or_one n with q | q <;> rw [q] <;> simp <;> omega
/-- n signs, the highest one first -/
def txB (n m : Nat) : List Nat := (rowOf n m).map (48 + ·)
theorem txB_len (n m : Nat) : (txB n m).length = n := by rw [txB, List.length_map, rowOf_len]
theorem rowOf_low (n m : Nat) : rowOf (n + 1) m = rowOf n (m / 2) ++ [m % 2] := by
  unfold rowOf
  rw [List.range_succ, List.map_append, List.map_cons, List.map_nil]
  congr 1
  · refine List.map_congr_left fun k hk => ?_
    have : k < n := List.mem_range.mp hk
    rw [show n + 1 - 1 - k = (n - 1 - k) + 1 by omega, Nat.testBit_succ]
  · rw [show n + 1 - 1 - n = 0 by omega, Nat.testBit_zero]
    rcases Nat.mod_two_eq_zero_or_one m with e | e <;> rw [e] <;> rfl
theorem txB_low (n m : Nat) : txB (n + 1) m = txB n (m / 2) ++ [48 + m % 2] := by
  unfold txB
  rw [rowOf_low, List.map_append] <;> rfl
theorem lsb_pad : ∀ (n m : Nat), m < 2 ^ (n + 1) → (lsb m).length ≤ n + 1 ∧ List.replicate (n + 1 - (lsb m).length) 48 ++ (lsb m).reverse = txB (n + 1) m
  | 0, m, h => by
    rw [lsb_small (by omega)]
    refine ⟨Nat.le_refl _, ?_⟩
    rw [txB_low, show m % 2 = m by omega] <;> rfl
  | n + 1, m, h => by
    have up : 2 ^ (n + 1 + 1) = 2 ^ (n + 1) * 2 := Nat.pow_succ ..
    by_cases h2 : m < 2
    · rw [lsb_small h2, txB_low, show m / 2 = 0 by omega, show m % 2 = m by omega]
      refine ⟨by simp, ?_⟩
      unfold txB
      rw [row_zero, List.map_replicate, List.length_singleton, Nat.add_sub_cancel] <;> rfl
    · obtain ⟨i1, i2⟩ := lsb_pad n (m / 2) (by omega)
      rw [lsb_big h2, txB_low, ← i2]
      refine ⟨by rw [List.length_cons]; omega, ?_⟩
      rw [List.length_cons, List.reverse_cons, List.append_assoc, Nat.add_sub_add_right]
theorem txB_dig (n m : Nat) : ∀ c ∈ txB n m, c = 48 ∨ c = 49 := by
  intro c hc
  obtain ⟨b, hb, rfl⟩ := List.mem_map.mp hc
  have := rowOf_bit hb
  omega
theorem zf_bin {n m : Nat} (hn : 1 ≤ n) (h : m < 2 ^ n) : Txt.zfill (binT m) (n : Int) = mS (txB n m) := by
  obtain ⟨n, rfl⟩ : ∃ k, n = k + 1 := ⟨n - 1, by omega⟩
  obtain ⟨i1, i2⟩ := lsb_pad n m h
  have e0 : ∀ c, (lsb m).reverse.head? = some c → c = 48 ∨ c = 49 := by
    intro c hc
    have : c ∈ txB (n + 1) m := by
      rw [← i2]
      exact List.mem_append_right _ (List.mem_of_mem_head? hc)
    exact txB_dig _ _ c this
  rw [bin_eq]
  unfold Txt.zfill
  by_cases hc : ((n + 1 : Nat) : Int) ≤ ((mS (lsb m).reverse).length : Int)
  · rw [if_pos hc]
    rw [mS_len, List.length_reverse] at hc
    have e : (lsb m).length = n + 1 := by omega
    rw [e, Nat.sub_self] at i2
    exact congrArg mS i2
  · rw [if_neg hc]
    have e9 : (mS (lsb m).reverse).cps[0]? = (lsb m).reverse.head? := by
      rw [List.head?_eq_getElem?]
      simp
    unfold zfilled
    rw [e9]
    have go : ∀ o : Option Nat, (∀ c, o = some c → c = 48 ∨ c = 49) → (match o with
        | some 43 | some 45 => PySem.Builtin.Str.strSub (mS (lsb m).reverse) 0 1 ++ PySem.Builtin.Str.padded (PySem.Builtin.Str.strSub (mS (lsb m).reverse) 1 (mS (lsb m).reverse).length) (((n + 1 : Nat) : Int).toNat - (mS (lsb m).reverse).length) 0 48
        | _ => PySem.Builtin.Str.padded (mS (lsb m).reverse) (((n + 1 : Nat) : Int).toNat - (mS (lsb m).reverse).length) 0 48) = mS (txB (n + 1) m) := by
      intro o ho
      have key : PySem.Builtin.Str.padded (mS (lsb m).reverse) (((n + 1 : Nat) : Int).toNat - (mS (lsb m).reverse).length) 0 48 = mS (txB (n + 1) m) := by
        rw [← i2, mS_len, List.length_reverse, Int.toNat_natCast]
        refine mS_of ?_
        unfold PySem.Builtin.Str.padded
        simp
      split
      · rename_i e; rcases ho 43 rfl with z | z <;> cases z
      · rename_i e; rcases ho 45 rfl with z | z <;> cases z
      · exact key
    exact go _ e0
/-- the number of a list of signs -/
theorem binN_nb : ∀ (bs : List Nat) (t : Nat), (bs.map (48 + ·)).foldl (fun a c => a * 2 + (c - 48)) t = nb t bs
  | [], _ => rfl
  | b :: bs, t => by
    rw [List.map_cons, List.foldl_cons, binN_nb bs]
    show nb (t * 2 + (48 + b - 48)) bs = nb (2 * t + b) bs
    congr 1
    omega
theorem binN_eq (bs : List Nat) : KT.binN (bs.map (48 + ·)) = nb 0 bs := binN_nb bs 0
/-! ### front and back of a string as one number -/
/-- the bits of x below n, the lowest one first, as a number -/
def rv (n x : Nat) : Nat := nb 0 ((List.range n).map fun k => (x.testBit k).toNat)
theorem nb_bit {bs : List Nat} (h : ∀ b ∈ bs, b < 2) {j : Nat} (hj : j < bs.length) : ((nb 0 bs).testBit (bs.length - 1 - j)).toNat = bs.getD j 0 := by
  have e := rowOf_at (W := bs.length) (m := nb 0 bs) hj
  rw [row_nb bs h] at e
  rw [List.getD_eq_getElem?_getD, e]
  rfl
theorem rv_bit (n x j : Nat) : (rv n x).testBit j = (decide (j < n) && x.testBit (n - 1 - j)) := by
  have hb : ∀ b ∈ ((List.range n).map fun k => (x.testBit k).toNat), b < 2 := fun b hb => by
    obtain ⟨k, _, rfl⟩ := List.mem_map.mp hb
    cases x.testBit k <;> decide
  have hl : ((List.range n).map fun k => (x.testBit k).toNat).length = n := by simp
  by_cases hj : j < n
  · have e := nb_bit hb (j := n - 1 - j) (by rw [hl]; omega)
    rw [hl, show n - 1 - (n - 1 - j) = j by omega, List.getD_eq_getElem?_getD, List.getElem?_map, List.getElem?_range (by omega)] at e
    rw [decide_eq_true hj, Bool.true_and]
    have e2 : ((rv n x).testBit j).toNat = (x.testBit (n - 1 - j)).toNat := e
    cases h1 : (rv n x).testBit j <;> cases h2 : x.testBit (n - 1 - j) <;> rw [h1, h2] at e2 <;> first | rfl | cases e2
  · rw [decide_eq_false hj, Bool.false_and]
    exact bit_high (k := n) (by have := nb_lt _ hb; rw [hl] at this; exact this) (by omega)
theorem rv_lt (n x : Nat) : rv n x < 2 ^ n := by
  apply Nat.lt_pow_two_of_testBit
  intro j hj
  rw [rv_bit, decide_eq_false (by omega), Bool.false_and]
theorem rv_xor (n x y : Nat) : rv n (x ^^^ y) = rv n x ^^^ rv n y := by
  apply Nat.eq_of_testBit_eq
  intro j
  rw [Nat.testBit_xor, rv_bit, rv_bit, rv_bit, Nat.testBit_xor]
  cases decide (j < n) <;> rfl
theorem rv_and (n x y : Nat) : rv n (x &&& y) = rv n x &&& rv n y := by
  apply Nat.eq_of_testBit_eq
  intro j
  rw [Nat.testBit_and, rv_bit, rv_bit, rv_bit, Nat.testBit_and]
  cases decide (j < n) <;> rfl
theorem rv_inj {n x y : Nat} (hx : x < 2 ^ n) (hy : y < 2 ^ n) (e : rv n x = rv n y) : x = y := by
  apply Nat.eq_of_testBit_eq
  intro j
  by_cases hj : j < n
  · have e1 := congrArg (fun z => z.testBit (n - 1 - j)) e
    simp only [rv_bit] at e1
    rwa [decide_eq_true (by omega), Bool.true_and, Bool.true_and, show n - 1 - (n - 1 - j) = j by omega] at e1
  · rw [bit_high hx (by omega), bit_high hy (by omega)]
theorem pc_sum : ∀ (n m : Nat), m < 2 ^ n → pc m = ((List.range n).map fun k => (m.testBit k).toNat).sum
  | 0, m, h => by
    have : m = 0 := by omega
    subst this
    exact pc_zero
  | n + 1, m, h => by
    have up : 2 ^ (n + 1) = 2 ^ n * 2 := Nat.pow_succ ..
    have e := pc_two (m / 2) (m % 2) (by omega)
    rw [show 2 * (m / 2) + m % 2 = m by omega] at e
    rw [e, pc_sum n (m / 2) (by omega), List.range_succ_eq_map, List.map_cons, List.map_map, List.sum_cons, Nat.testBit_zero]
    congr 1
    · rcases Nat.mod_two_eq_zero_or_one m with q | q <;> rw [q] <;> rfl
    · congr 1
      refine List.map_congr_left fun k _ => ?_
      show ((m / 2).testBit k).toNat = (m.testBit (k + 1)).toNat
      rw [Nat.testBit_succ]
theorem sum_flip (n : Nat) (f : Nat → Nat) : ((List.range n).map fun k => f (n - 1 - k)).sum = ((List.range n).map f).sum := by
  have e : ((List.range n).map fun k => f (n - 1 - k)) = ((List.range n).map f).reverse := by
    apply List.ext_getElem?
    intro i
    by_cases hi : i < n
    · rw [List.getElem?_map, List.getElem?_range hi, List.getElem?_reverse (by simpa using hi), List.length_map, List.length_range, List.getElem?_map, List.getElem?_range (by omega)]
      rfl
    · rw [List.getElem?_eq_none (by simpa using hi), List.getElem?_eq_none (by simpa using hi)]
  rw [e, List.sum_reverse]
theorem pc_rv {n x : Nat} (h : x < 2 ^ n) : pc (rv n x) = pc x := by
  rw [pc_sum n (rv n x) (rv_lt n x), pc_sum n x h, ← sum_flip n fun k => (x.testBit k).toNat]
  congr 1
  refine List.map_congr_left fun k hk => ?_
  rw [rv_bit, decide_eq_true (List.mem_range.mp hk), Bool.true_and]
/-- the number of a string: the front's bits x, the back's bits z -/
def fB (n x z : Nat) : Nat := 2 ^ n * rv n x + rv n z
theorem fB_bit (n x z j : Nat) : (fB n x z).testBit j = if j < n then (rv n z).testBit j else (rv n x).testBit (j - n) := Nat.testBit_two_pow_mul_add _ (rv_lt n z) j
theorem fB_xor (n x z x' z' : Nat) : fB n x z ^^^ fB n x' z' = fB n (x ^^^ x') (z ^^^ z') := by
  apply Nat.eq_of_testBit_eq
  intro j
  rw [Nat.testBit_xor, fB_bit, fB_bit, fB_bit, rv_xor, rv_xor]
  split <;> rw [Nat.testBit_xor]
theorem fB_shift (n x z : Nat) : fB n x z >>> n = rv n x := by
  rw [Nat.shiftRight_eq_div_pow, fB, Nat.mul_add_div (Nat.two_pow_pos n), Nat.div_eq_of_lt (rv_lt n z), Nat.add_zero]
theorem fB_mod (n x z : Nat) : fB n x z % 2 ^ n = rv n z := by
  rw [fB, Nat.mul_add_mod, Nat.mod_eq_of_lt (rv_lt n z)]
theorem fB_lt (n x z : Nat) : fB n x z < 2 ^ (2 * n) := by
  have h1 := rv_lt n x
  have h2 := rv_lt n z
  have e : 2 ^ (2 * n) = 2 ^ n * 2 ^ n := by rw [← Nat.pow_add]; congr 1; omega
  have : 2 ^ n * (rv n x + 1) ≤ 2 ^ n * 2 ^ n := Nat.mul_le_mul_left _ h1
  rw [Nat.mul_add, Nat.mul_one] at this
  rw [e, fB]
  omega
theorem fB_inj {n x z x' z' : Nat} (hx : x < 2 ^ n) (hz : z < 2 ^ n) (hx' : x' < 2 ^ n) (hz' : z' < 2 ^ n) (e : fB n x z = fB n x' z') : x = x' ∧ z = z' := by
  refine ⟨rv_inj hx hx' ?_, rv_inj hz hz' ?_⟩
  · rw [← fB_shift n x z, ← fB_shift n x' z', e]
  · rw [← fB_mod n x z, ← fB_mod n x' z', e]
theorem tw_fB {n x z x' z' : Nat} (hz : z < 2 ^ n) : tw n (fB n x z) (fB n x' z') = pc (z &&& x') % 2 := by
  unfold tw
  rw [fB_shift]
  have e : fB n x z &&& rv n x' = rv n (z &&& x') := by
    apply Nat.eq_of_testBit_eq
    intro j
    rw [Nat.testBit_and, fB_bit, rv_and, Nat.testBit_and]
    by_cases hj : j < n
    · rw [if_pos hj]
    · rw [rv_bit n x' j, decide_eq_false hj, Bool.false_and, Bool.and_false, Bool.and_false]
  rw [e, pc_rv (Nat.lt_of_le_of_lt Nat.and_le_left hz)]
end KQ

namespace KT
open PySem PySem.Spec PyProof.Rows L2
open PySem.Builtin PySem.Builtin.Str
/-! ### text.translate(d), d a told dict that has a small sign for each sign of the text -/
/-- the raw dict has one small sign for the sign c -/
def TlD (vs : List (L2.Key × Value)) (f : Nat → Nat) (c : Nat) : Prop := f c < 128 ∧ ∃ t, valueAt vs (.inl (c : Int)) = some (.str (SX.S [f c]) t)
/-- a sign that was looked up stands as it was told -/
def Kn (f : Nat → Nat) (kn : List (Nat × Option Nat)) : Prop := ∀ c a, List.lookup c kn = some a → a = some (f c)
theorem Kn.cons {f : Nat → Nat} {kn : List (Nat × Option Nat)} (h : Kn f kn) (c : Nat) : Kn f ((c, some (f c)) :: kn) := fun c' a z => by
  rcases lookup_new z with ⟨q1, q2⟩ | q
  · rw [q2, q1]
  · exact h c' a q
def bit1 (f : Nat → Nat) (c : Nat) : Str := ⟨#[f c]⟩
theorem bits_join (f : Nat → Nat) : ∀ (l : List Nat) (acc : Array Nat), List.foldl (fun acc (p : Str) => acc ++ p.cps) acc (l.map (bit1 f)) = acc ++ (l.map f).toArray
  | [], acc => by simp
  | c :: l, acc => by
    rw [List.map_cons, List.foldl_cons, bits_join f l]
    exact Array.toList_inj.mp (by simp [bit1])
section
variable {prog : Program} {w : World} {A : Around} {E : Value → Shared → Prop} {s : Shared} {d : Addr} {c : Nat} {vs : List (L2.Key × Value)} {f : Nat → Nat}
theorem look {Q : Mapped → Shared → Prop} (hm : s.heap.DictOf (mixKind prog w) d vs) (hk : TlD vs f c)
    (h : ∀ k, Q (.text (SX.S [f c])) { s with toks := k }) : wpAny (model prog w) A (tableLookup (.ref d) c) Q E s := by
  obtain ⟨hl, t, hv⟩ := hk
  unfold tableLookup
  refine wpAny_bind <| wpAny_attempt <| wpAny_bind <| wpAny_mkInt <| wpAny_getItem_of (knd := mixKind prog w) (k := (.inl (c : Int))) (mixKind_int prog w _ _) hm.mapOf hv ?_
  show wpAny _ _ (do let o ← asInt? (Value.str (SX.S [f c]) t); _) _ _ _
  refine wpAny_bind <| wpAny_of_eq (a := none) rfl ?_
  show wpAny _ _ (do let o ← asStr? (Value.str (SX.S [f c]) t); _) _ _ _
  exact wpAny_bind <| wpAny_of_eq (a := some (SX.S [f c])) rfl <| wpAny_pure (h _)
end
/-- the loop: what is behind, and what was looked up -/
def Lp (x : List Nat) (f : Nat → Nat) (g : Bool) (s : Shared) (rest : List Nat) (st : List Str × Nat × Bool × List (Nat × Option Nat) × Bool) (s' : Shared) : Prop :=
  ∃ (dn : List Nat) (ps : List Str) (kn : List (Nat × Option Nat)) (k : Nat), x = dn ++ rest ∧ st = (ps, dn.length, g, kn, false) ∧ ps.reverse = dn.map (bit1 f) ∧ Kn f kn ∧ s' = { s with toks := k }
theorem Lp.next {x : List Nat} {f : Nat → Nat} {g : Bool} {s : Shared} {rest dn : List Nat} {c : Nat} {ps : List Str} {kn : List (Nat × Option Nat)} {k : Nat} (h1 : x = dn ++ c :: rest)
    (h3 : ps.reverse = dn.map (bit1 f)) (h4 : Kn f kn) : Lp x f g s rest (⟨#[f c]⟩ :: ps, dn.length + 1, g, kn, false) { s with toks := k } :=
  ⟨dn ++ [c], bit1 f c :: ps, kn, k, by simp [h1], by simp [bit1], by simp [h3], h4, rfl⟩
theorem meets {prog : Program} {w : World} (x : List Nat) (t : Tok) (d : Addr) (f : Nat → Nat) (hz : x.length ≤ 16000000) : MeetsIn prog w («str.translate» ⟨[.str (SX.S x) t, .ref d], []⟩) (fun A R s =>
    (∃ vs, s.heap.DictOf (mixKind prog w) d vs ∧ ∀ c ∈ x, TlD vs f c) ∧ ∀ (v : Value) (k : Nat), (∃ t', v = .str (SX.S (x.map f)) t') → R (.ok (.ret v)) { s with toks := k }) := by
  refine .of_wp fun A R s ⟨⟨vs, hm, hk⟩, h⟩ => ?_
  have short : ∀ n, n ≤ x.length → tooLong n = false := fun n hn => PyProof.Rows.short24 (by omega)
  unfold Builtin.«str.translate»
  refine wpAny_bind (wpAny_of_eq (a := (Value.str (SX.S x) t, SX.S x, Value.ref d)) rfl ?_)
  dsimp only
  by_cases h0 : ((SX.S x).length == 0) = true
  · have hx : x = [] := List.length_eq_zero_iff.mp (by rw [beq_iff_eq, SX.S_len] at h0; exact h0)
    subst hx
    rw [if_pos h0]
    exact wpAny_bind (wpAny_rule (wpAny_bind (wpAny_of_eq (a := Value.str (SX.S []) t) rfl (wpAny_pure ⟨_, rfl, h _ s.toks ⟨t, rfl⟩⟩))))
  · rw [if_neg h0]
    generalize ((SX.S x).cps.all fun y => decide (y < 128)) = g
    refine wpAny_bind (MeetsSeq2.wpAny_forIn_array _ (Lp x f g s) _ (fun c rest st s' ⟨dn, ps, kn, k, e1, e2, e3, e4, e5⟩ => ?turn) (fun st s' ⟨dn, ps, kn, k, e1, e2, e3, e4, e5⟩ => ?fin) (SX.S x).cps ([], 0, g, [], false)
      ⟨[], [], [], s.toks, by simp [SX.S], rfl, rfl, (fun c a z => by rw [List.lookup_nil] at z; cases z), rfl⟩)
    all_goals subst e2 e5
    case turn =>
      have hc := hk c (by rw [e1]; simp)
      have hn := short dn.length (by rw [e1, List.length_append]; omega)
      dsimp only
      rw [if_neg (by rw [hn]; decide)]
      cases g
      · rw [if_neg Bool.false_ne_true, if_neg Bool.false_ne_true]
        exact wpAny_bind (look hm hc fun k2 => wpAny_pure (Lp.next e1 e3 e4))
      · rw [if_pos rfl]
        cases hl : List.lookup c kn with
        | some a => exact (e4 c a hl) ▸ wpAny_bind (wpAny_pure (wpAny_pure (Lp.next e1 e3 e4)))
        | none =>
          refine wpAny_bind (look hm hc fun k2 => ?_)
          have e8 : ((SX.S [f c]).length == 1 && (SX.S [f c]).cps.all (fun y => decide (y < 128))) = true := by
            show (true && (#[f c]).all (fun y => decide (y < 128))) = true
            simp [hc.1]
          dsimp only
          rw [if_pos e8]
          exact wpAny_bind (wpAny_pure (wpAny_pure (Lp.next e1 e3 (e4.cons c))))
    case fin =>
      have ex : x = dn := by rw [e1, List.append_nil]
      dsimp only
      rw [if_neg (by rw [short _ (by rw [← ex]; omega)]; decide), e3, bits_join, ← ex, show (⟨#[] ++ (x.map f).toArray⟩ : Str) = SX.S (x.map f) by rw [Array.empty_append]]
      exact wpAny_bind (wpAny_mkStr (wpAny_pure ⟨_, rfl, h _ _ ⟨_, rfl⟩⟩) (by rw [SX.S_len, List.length_map, sizeLine_eq]; omega))
end KT
namespace KQ
open PySem PySem.Spec PyProof.Rows L2
section
variable {X : Cx}
theorem mt_transD : MtR X "str.translate" (fun x xs H Q => ∃ (t : List Nat) (a : Addr) (kvs : List (Key × V)) (f : Nat → Nat), x = .str (SX.S t) ∧ xs = [.ref a] ∧ Rd H a (.dK kvs) ∧
    (∀ c ∈ t, f c < 128 ∧ valV kvs (.inl (c : Int)) = some (.str (SX.S [f c]))) ∧ t.length ≤ 16000000 ∧ Q (.str (SX.S (t.map f))) H) := by
  intro pins s σ H _ _ _ _ Q I rx rs ⟨x, a, kvs, f, e1, e2, hr, hf, h3, h⟩
  subst e1 e2
  obtain ⟨t, rfl⟩ := rx
  cases rs with
  | cons r1 rs =>
    cases rs
    cases r1
    obtain ⟨z, hd, vs, rel, dd⟩ := dk_rd I.hok hr
    refine call_meetsIn F.slot_str_translate (typeIs_str _ _ _) F.entry_str_translate (F.args_str_translate_2 _ _) (KT.meets _ t a f h3) ⟨⟨vs, dd, fun c hc => ⟨(hf c hc).1, ?_⟩⟩, fun v k ⟨t', e⟩ => ?_⟩
    · obtain ⟨w', hw, u, e⟩ := RelO.some_of (v := .str (SX.S [f c])) (o := valueAt vs (.inl (c : Int))) (by rw [← (hf c hc).2]; exact rel.val _)
      exact ⟨u, by rw [hw, e]⟩
    · exact e ▸ ⟨.str _, H, I.tok k, ⟨t', rfl⟩, h⟩
end
end KQ

namespace KZ
open PySem
open PySem.Sem (wp)
/-! ### zip over two things that are drawn from -/
section
variable {prog : Program} {w : World} {A : Around} {E : Value → Shared → Prop} {s : Shared}
variable {z TI TO i1 i2 : Addr} {n1 n2 k : Nat} {P1 P2 : Nat → Value → Prop} {S1 S2 : Nat → Heap → Prop} {a b : Value}
theorem go_on {i : Addr} {n k : Nat} {P : Nat → Value → Prop} {S : Nat → Heap → Prop} (D : Draws prog w A i [i] n P S) {h h' : Heap} (st : S k h) (e : ∀ o, h.get? i = some o → h'.get? i = some o) : S k h' :=
  D.frame _ _ _ st fun c hc o q => by
    rw [List.mem_singleton.mp hc] at q ⊢
    exact e o q
theorem zip_item {Q : Value → Shared → Prop} (D : ZipApart z TI TO i1 i2 TI TI) (D1 : Draws prog w A i1 [i1] n1 P1 S1) (D2 : Draws prog w A i2 [i2] n2 P2 S2)
    (hz : IsZip s.heap z TI TO .none) (hTI : IsPair s.heap TI (.ref i1) (.ref i2)) (hTO : IsPair s.heap TO a b) (t1 : S1 k s.heap) (t2 : S2 k s.heap) (l1 : k < n1) (l2 : k < n2)
    (hQ : ∀ x y h' tk, P1 k x → P2 k y → IsZip h' z TI TO (rawInt s.heap.objs.size) → IsPair h' TO x y → S1 (k + 1) h' → S2 (k + 1) h' → IsPair h' s.heap.objs.size x y → h'.objs.size = s.heap.objs.size + 1 →
      (∀ c o, c ≠ z → c ≠ TO → c ≠ i1 → c ≠ i2 → s.heap.get? c = some o → h'.get? c = some o) → Q (.ref s.heap.objs.size) { s with heap := h', toks := tk }) :
    wpAny (model prog w) A (Builtin.«zip.__next__» ⟨[.ref z], []⟩) (fun fin s' => ∃ v, fin = .done (.ret v) ∧ Q v s') E s := by
  obtain ⟨h0, gs, dr, tk0, os0⟩ := s
  show wpAny _ _ (field (.ref z) 2 >>= _) _ _ _
  refine wpAny_bind (wpAny_field hz rfl (x := .bool false) rfl ?_)
  show wpAny _ _ (field (.ref z) 3 >>= _) _ _ _
  refine wpAny_bind (wpAny_field hz rfl (x := .ref TI) rfl (wpAny_bind (wpAny_seqItems hTI rfl ?_)))
  show wpAny _ _ (Builtin.SmallTypes.ownedTupleIsFree (.ref z) >>= _) _ _ _
  refine wpAny_bind ?_
  unfold Builtin.SmallTypes.ownedTupleIsFree
  refine wpAny_bind (wpAny_field hz rfl (x := .none) rfl (wpAny_pure ?_))
  simp only [if_true]
  refine wpAny_bind (wpAny_rule (wpAny_bind (wpAny_field hz rfl (x := .ref TO) rfl ?_)))
  refine wpAny_bind (wpAny_setField_rec hz (by simp) fun ha za sa => ?_)
  have za' : IsZip ha z TI TO .ellipsis := za
  refine wpAny_bind ?_
  simp only [List.zipIdx_cons, List.zipIdx_nil, List.forIn_cons, List.forIn_nil]
  -- the left one
  refine wpAny_bind (wpAny_bind (wpAny_onRaise ?_))
  show wpAny _ _ (Builtin.SmallTypes.nextOf (.ref i1) >>= _) _ _ _
  refine wpAny_bind (D1.item k _ _ _ l1 (go_on D1 t1 fun o q => sa.extBut _ _ D.i1z q) fun x hb tkb px tb sb => wpAny_pure ?_)
  have TOb : IsPair hb TO a b := sb.extBut _ _ D.TOi1 (sa.extBut _ _ D.TOz hTO)
  refine wpAny_bind (wpAny_seqItems TOb rfl (wpAny_bind (wpAny_updateSeq_pair TOb fun hc TOc sc => ?_)))
  have TOc' : IsPair hc TO x b := TOc
  refine wpAny_bind (wpAny_letGo (wpAny_pure ?_))
  -- the right one
  refine wpAny_bind (wpAny_bind (wpAny_onRaise ?_))
  show wpAny _ _ (Builtin.SmallTypes.nextOf (.ref i2) >>= _) _ _ _
  refine wpAny_bind (D2.item k _ _ _ l2 (go_on D2 t2 fun o q => sc.extBut _ _ D.TOi2.symm (sb.extBut _ _ D.i12.symm (sa.extBut _ _ D.i2z q))) fun y hd tkd py td sd => wpAny_pure ?_)
  have TOd : IsPair hd TO x b := sd.extBut _ _ D.TOi2 TOc'
  refine wpAny_bind (wpAny_seqItems TOd rfl (wpAny_bind (wpAny_updateSeq_pair TOd fun he TOe se => ?_)))
  have TOe' : IsPair he TO x y := TOe
  refine wpAny_bind (wpAny_letGo (wpAny_pure (wpAny_pure ?_)))
  refine wpAny_bind (wpAny_seqItems TOe' rfl (wpAny_bind (wpAny_newTuple ?_)))
  have sz : he.objs.size = h0.objs.size := by rw [se.1, sd.1, sc.1, sb.1, sa.1]
  have ze : IsZip he z TI TO .ellipsis := se.extBut _ _ D.TOz.symm (sd.extBut _ _ D.i2z.symm (sc.extBut _ _ D.TOz.symm (sb.extBut _ _ D.i1z.symm za')))
  have ke : ∀ c o, c ≠ z → c ≠ TO → c ≠ i1 → c ≠ i2 → h0.get? c = some o → he.get? c = some o := fun c o c1 c2 c3 c4 q =>
    se.extBut _ _ c2 (sd.extBut _ _ c4 (sc.extBut _ _ c2 (sb.extBut _ _ c3 (sa.extBut _ _ c1 q))))
  have zlt : z < he.objs.size := Heap.lt_size ze
  show wpAny _ _ (Builtin.SmallTypes.ownedTupleHandOut (.ref z) (.ref he.objs.size) >>= _) _ _ _
  refine wpAny_bind ?_
  unfold Builtin.SmallTypes.ownedTupleHandOut
  have zf : IsZip (he.push { cls := .type "tuple", data := .seq #[x, y] }) z TI TO .ellipsis := Heap.get?_push_of_some _ ze
  refine wpAny_bind (wpAny_setField_rec zf (by simp) fun hg zg sg => ?_)
  have zg' : IsZip hg z TI TO (rawInt he.objs.size) := zg
  refine wpAny_setField_rec zg' (by simp) fun hh zh sh => ?_
  have zh' : IsZip hh z TI TO (rawInt he.objs.size) := zh
  have up : ∀ c o, c ≠ z → he.get? c = some o → hh.get? c = some o := fun c o c1 q => sh.extBut _ _ c1 (sg.extBut _ _ c1 (Heap.get?_push_of_some _ q))
  have Th : IsPair hh he.objs.size x y := sh.extBut _ _ (Nat.ne_of_gt zlt) (sg.extBut _ _ (Nat.ne_of_gt zlt) (Heap.get?_push_size _ rfl))
  have szh : hh.objs.size = he.objs.size + 1 := by rw [sh.1, sg.1, Heap.size_push]
  rw [sz] at zh' Th szh
  refine wpAny_pure ⟨_, rfl, ?_⟩
  show Q (.ref he.objs.size) _
  rw [sz]
  refine hQ x y hh tkd px py zh' (up _ _ D.TOz TOe') (go_on D1 tb fun o q => up _ o D.i1z (se.extBut _ _ D.TOi1.symm (sd.extBut _ _ D.i12 (sc.extBut _ _ D.TOi1.symm q)))) (go_on D2 td fun o q => up _ o D.i2z (se.extBut _ _ D.TOi2.symm q)) Th szh fun c o c1 c2 c3 c4 q => up c o c1 (ke c o c1 c2 c3 c4 q)
theorem zip_done {Q : Fin → Shared → Prop} (D : ZipApart z TI TO i1 i2 TI TI) (D1 : Draws prog w A i1 [i1] n1 P1 S1)
    (hz : IsZip s.heap z TI TO .none) (hTI : IsPair s.heap TI (.ref i1) (.ref i2)) (hTO : IsPair s.heap TO a b) (t1 : S1 n1 s.heap)
    (hE : ∀ h' e, (∀ c o, c ≠ z → c ≠ TO → c ≠ i1 → c ≠ i2 → s.heap.get? c = some o → h'.get? c = some o) → (∃ o, h'.get? e = some o ∧ o.cls = .type "StopIteration") → E (.ref e) { s with heap := h' }) :
    wpAny (model prog w) A (Builtin.«zip.__next__» ⟨[.ref z], []⟩) Q E s := by
  show wpAny _ _ (field (.ref z) 2 >>= _) _ _ _
  refine wpAny_bind (wpAny_field hz rfl (x := .bool false) rfl ?_)
  show wpAny _ _ (field (.ref z) 3 >>= _) _ _ _
  refine wpAny_bind (wpAny_field hz rfl (x := .ref TI) rfl (wpAny_bind (wpAny_seqItems hTI rfl ?_)))
  show wpAny _ _ (Builtin.SmallTypes.ownedTupleIsFree (.ref z) >>= _) _ _ _
  refine wpAny_bind ?_
  unfold Builtin.SmallTypes.ownedTupleIsFree
  refine wpAny_bind (wpAny_field hz rfl (x := .none) rfl (wpAny_pure ?_))
  simp only [if_true]
  refine wpAny_bind (wpAny_rule (wpAny_bind (wpAny_field hz rfl (x := .ref TO) rfl ?_)))
  refine wpAny_bind (wpAny_setField_rec hz (by simp) fun ha za sa => ?_)
  have za' : IsZip ha z TI TO .ellipsis := za
  refine wpAny_bind ?_
  simp only [List.zipIdx_cons, List.zipIdx_nil, List.forIn_cons, List.forIn_nil]
  refine wpAny_bind (wpAny_bind (wpAny_onRaise ?_))
  show wpAny _ _ (Builtin.SmallTypes.nextOf (.ref i1) >>= _) _ _ _
  refine wpAny_bind (D1.done _ _ _ (go_on D1 t1 fun o q => sa.extBut _ _ D.i1z q) fun hb e sb he => ?_)
  obtain ⟨oe, eo, ec⟩ := he
  have zb : IsZip hb z TI TO .ellipsis := sb _ _ D.i1z.symm za'
  have ez : e ≠ z := fun q => by
    subst q
    rw [zb] at eo
    cases eo
    simp at ec
  exact wpAny_setField_rec zb (by simp) fun hc _ sc => hE hc e (fun c o c1 _ c3 _ q => sc.extBut _ _ c1 (sb _ _ c3 (sa.extBut _ _ c1 q))) ⟨oe, sc.extBut _ _ ez eo, ec⟩
theorem next_item {Q : Option Value → Shared → Prop} (D : ZipApart z TI TO i1 i2 TI TI) (D1 : Draws prog w A.in1 i1 [i1] n1 P1 S1) (D2 : Draws prog w A.in1 i2 [i2] n2 P2 S2)
    (hz : IsZip s.heap z TI TO .none) (hTI : IsPair s.heap TI (.ref i1) (.ref i2)) (hTO : IsPair s.heap TO a b) (t1 : S1 k s.heap) (t2 : S2 k s.heap) (l1 : k < n1) (l2 : k < n2)
    (hQ : ∀ x y h' tk, P1 k x → P2 k y → IsZip h' z TI TO (rawInt s.heap.objs.size) → IsPair h' TO x y → S1 (k + 1) h' → S2 (k + 1) h' → IsPair h' s.heap.objs.size x y → h'.objs.size = s.heap.objs.size + 1 →
      (∀ c o, c ≠ z → c ≠ TO → c ≠ i1 → c ≠ i2 → s.heap.get? c = some o → h'.get? c = some o) → Q (some (.ref s.heap.objs.size)) { s with heap := h', toks := tk }) :
    wpAny (model prog w) A (pyNext (.ref z)) Q E s := by
  have hT : s.TypeIs (.ref z) "zip" := ⟨_, hz, rfl⟩
  unfold pyNext
  exact wpAny_bind (wpAny_attempt (wpAny_callSpecial?_slot (name := Str.ofString "__next__") hT F.slot_zip_next
    (wpAny_call_entry F.slot_zip_next hT F.entry_zip_next
      (zip_item D D1 D2 hz hTI hTO t1 t2 l1 l2 fun x y h' tk a1 a2 a3 a4 a5 a6 a7 a8 a9 => wpAny_pure (hQ x y h' tk a1 a2 a3 a4 a5 a6 a7 a8 a9)) (F.args_zip_next_1 _))))
theorem next_done {Q : Option Value → Shared → Prop} (D : ZipApart z TI TO i1 i2 TI TI) (D1 : Draws prog w A.in1 i1 [i1] n1 P1 S1)
    (hz : IsZip s.heap z TI TO .none) (hTI : IsPair s.heap TI (.ref i1) (.ref i2)) (hTO : IsPair s.heap TO a b) (t1 : S1 n1 s.heap)
    (hQ : ∀ h', (∀ c o, c ≠ z → c ≠ TO → c ≠ i1 → c ≠ i2 → s.heap.get? c = some o → h'.get? c = some o) → Q none { s with heap := h' }) : wpAny (model prog w) A (pyNext (.ref z)) Q E s := by
  have hT : s.TypeIs (.ref z) "zip" := ⟨_, hz, rfl⟩
  unfold pyNext
  refine wpAny_bind (wpAny_attempt (wpAny_callSpecial?_slot (name := Str.ofString "__next__") hT F.slot_zip_next
    (wpAny_call_entry F.slot_zip_next hT F.entry_zip_next (zip_done D D1 hz hTI hTO t1 fun h' e hk he => ?_) (F.args_zip_next_1 _))))
  obtain ⟨o, ho, hc⟩ := he
  exact wpAny_bind (wpAny_isInstance (T := "StopIteration") (b := true) ⟨o, ho, hc⟩ isSubtype_stop (wpAny_pure (hQ _ hk)))
end
end KZ

namespace KZ
open PySem
open PySem.Sem (wp)
/-! ### zip(text, text) -/
def strIt (x : Str) (t : Tok) : Obj := { cls := .type (strIterType x), data := .fields #[.str x t, .int 0 0] }
def zp1 (h : Heap) (x : Str) (t : Tok) : Heap := h.push { cls := .type (strIterType x), data := .fields #[.str x t, .int 0 0] }
def zp2 (h : Heap) (x y : Str) (t u : Tok) : Heap := (zp1 h x t).push { cls := .type (strIterType y), data := .fields #[.str y u, .int 0 0] }
def zp3 (h : Heap) (x y : Str) (t u : Tok) : Heap := (zp2 h x y t u).push { cls := .type "tuple", data := .seq #[.ref h.objs.size, .ref (zp1 h x t).objs.size] }
def zp4 (h : Heap) (x y : Str) (t u : Tok) : Heap := (zp3 h x y t u).push { cls := .type "tuple", data := .seq #[.none, .none] }
def zp5 (h : Heap) (x y : Str) (t u : Tok) : Heap := (zp4 h x y t u).push { cls := .type "zip", data := .fields #[.none, .bool false, .bool false, .ref (zp2 h x y t u).objs.size, .ref (zp3 h x y t u).objs.size] }
theorem meets_zipS (x y : Str) (t u : Tok) :
    Meets (Builtin.«zip.__new__» ⟨[.type "zip", .str x t, .str y u], []⟩) (fun _ R s => R (.ok (.ret (.ref (zp4 s.heap x y t u).objs.size))) { s with heap := zp5 s.heap x y t u }) :=
  .of_wp fun prog w A R s h => by
    obtain ⟨h0, g, d, tk, os⟩ := s
    have hsub := sub_zip
    wp_walk using wpAny_pyIter_strU
    exact ⟨_, rfl, h⟩
section
variable {prog : Program} {w : World} {A : Around} {E : Value → Shared → Prop} {s : Shared}
theorem call_zipS {x y : Str} {t u : Tok} {Q : Value → Shared → Prop}
    (h : ∀ h', IsZip h' (s.heap.objs.size + 4) (s.heap.objs.size + 2) (s.heap.objs.size + 3) .none → IsPair h' (s.heap.objs.size + 2) (.ref s.heap.objs.size) (.ref (s.heap.objs.size + 1)) →
      IsPair h' (s.heap.objs.size + 3) .none .none → h'.IsStrIter s.heap.objs.size (strIterType x) x t 0 → h'.IsStrIter (s.heap.objs.size + 1) (strIterType y) y u 0 →
      (∀ c o, s.heap.get? c = some o → h'.get? c = some o) → Q (.ref (s.heap.objs.size + 4)) { s with heap := h' }) :
    wpAny (model prog w) A (call (.type "zip") [.str x t, .str y u]) Q E s := by
  refine callType_new F.called_zip (by decide) (F.typeCall_zip_2 _ _) (F.newCall_zip_2 _ _) (fun obj => F.args_object_init_3 obj _ _) F.entry_zip_new (meets_zipS x y t u) ?_
  have s1 : (zp1 s.heap x t).objs.size = s.heap.objs.size + 1 := Heap.size_push ..
  have s2 : (zp2 s.heap x y t u).objs.size = s.heap.objs.size + 2 := by rw [zp2, Heap.size_push, s1]
  have s3 : (zp3 s.heap x y t u).objs.size = s.heap.objs.size + 3 := by rw [zp3, Heap.size_push, s2]
  have s4 : (zp4 s.heap x y t u).objs.size = s.heap.objs.size + 4 := by rw [zp4, Heap.size_push, s3]
  have e5 : (zp5 s.heap x y t u).get? (zp4 s.heap x y t u).objs.size = some _ := Heap.get?_push_size _ rfl
  have e4 : (zp5 s.heap x y t u).get? (zp3 s.heap x y t u).objs.size = some _ := Heap.get?_push_of_some _ (Heap.get?_push_size _ rfl)
  have e3 : (zp5 s.heap x y t u).get? (zp2 s.heap x y t u).objs.size = some _ := Heap.get?_push_of_some _ (Heap.get?_push_of_some _ (Heap.get?_push_size _ rfl))
  have e2 : (zp5 s.heap x y t u).get? (zp1 s.heap x t).objs.size = some _ := Heap.get?_push_of_some _ (Heap.get?_push_of_some _ (Heap.get?_push_of_some _ (Heap.get?_push_size _ rfl)))
  have e1 : (zp5 s.heap x y t u).get? s.heap.objs.size = some _ := Heap.get?_push_of_some _ (Heap.get?_push_of_some _ (Heap.get?_push_of_some _ (Heap.get?_push_of_some _ (Heap.get?_push_size _ rfl))))
  show _ ∧ _
  rw [s2, s3, s4] at e5
  rw [s1, s2] at e3
  rw [s3] at e4
  rw [s1] at e2
  rw [s4]
  exact ⟨⟨_, e5, rfl⟩, h _ e5 e3 e4 ⟨_, e1, rfl, rfl⟩ ⟨_, e2, rfl, rfl⟩ fun c o q =>
    Heap.get?_push_of_some _ (Heap.get?_push_of_some _ (Heap.get?_push_of_some _ (Heap.get?_push_of_some _ (Heap.get?_push_of_some _ q))))⟩
end
end KZ
namespace KQ
open PySem PySem.Spec PyProof.Rows L2
theorem draws_tx {prog : Program} {w : World} {A : Around} (calm : A.handled = none) (it : Addr) (x : Str) (t : Tok) :
    Draws prog w A.in1 it [it] x.cps.size (fun i v => ∃ c u, x.cps[i]? = some c ∧ v = .str ⟨#[c]⟩ u) (fun i h => h.IsStrIter it (strIterType x) x t i) := by
  unfold strIterType
  split
  · exact Draws.strAscii (A := A.in1) calm it x t
  · exact Draws.strWide (A := A.in1) calm it x t
/-- the signs of two texts of one length, in new pairs -/
def ItZx (x y : Str) : It := ⟨fun i _ => i < x.cps.size ∧ i < y.cps.size, fun i H v H' => ∃ T c d, v = .ref T ∧ H T = none ∧ x.cps[i]? = some c ∧ y.cps[i]? = some d ∧ H' = upd H T (.tup [.str ⟨#[c]⟩, .str ⟨#[d]⟩]), fun i _ => i = x.cps.size⟩
theorem turn_zipTxt {P : Program} {w : World} {K : PySem.W.Frag} {elts : List Expr} {kk : Nat} {tpos : Pos} {z TI TO i1 i2 : Addr} (D : ZipApart z TI TO i1 i2 TI TI) (x y : Str) (t u : Tok) :
    Turn P w K (.Tuple elts kk tpos) (ItZx x y) [z, TI, TO, i1, i2] z (fun i h => IsZip h z TI TO .none ∧ IsPair h TI (.ref i1) (.ref i2) ∧ (∃ a b, IsPair h TO a b) ∧ h.IsStrIter i1 (strIterType x) x t i ∧ h.IsStrIter i2 (strIterType y) y u i) where
  mem := List.mem_cons_self
  obj := fun i h st c hc => by
    obtain ⟨hz, hTI, ⟨a, b, hTO⟩, ⟨o1, e1, _, d1⟩, ⟨o2, e2, _, d2⟩⟩ := st
    have h5 : c = z ∨ c = TI ∨ c = TO ∨ c = i1 ∨ c = i2 := by simpa using hc
    rcases h5 with rfl | rfl | rfl | rfl | rfl
    · exact ⟨_, hz, fun v q => nomatch q⟩
    · exact ⟨_, hTI, fun v q => nomatch q⟩
    · exact ⟨_, hTO, fun v q => nomatch q⟩
    · exact ⟨o1, e1, fun v q => by rw [d1] at q; cases q⟩
    · exact ⟨o2, e2, fun v q => by rw [d2] at q; cases q⟩
  keep := fun i h h' st kp => by
    obtain ⟨hz, hTI, ⟨a, b, hTO⟩, ⟨o1, e1, r1⟩, ⟨o2, e2, r2⟩⟩ := st
    exact ⟨kp z (by simp) _ hz, kp TI (by simp) _ hTI, ⟨a, b, kp TO (by simp) _ hTO⟩, ⟨o1, kp i1 (by simp) _ e1, r1⟩, ⟨o2, kp i2 (by simp) _ e2, r2⟩⟩
  item := by
    intro X hP hw hK calm i pins s σ H E I fp st hg
    subst hP hw hK
    obtain ⟨hz, hTI, ⟨a0, b0, hTO⟩, t1, t2⟩ := st
    have zl : z < s.heap.objs.size := Heap.lt_size hz
    refine KZ.next_item D (draws_tx (I.ok.hd calm) i1 x t) (draws_tx (I.ok.hd calm) i2 y u) hz hTI hTO t1 t2 hg.1 hg.2 fun v1 v2 h1 tk p1 p2 z1 TO1 t1' t2' hT hsz hk => ?_
    obtain ⟨c, tc, ec, rfl⟩ := p1
    obtain ⟨d, td, ed, rfl⟩ := p2
    refine ⟨_, rfl, wpAny_letOwnedTupleGo_zip (s := { s with heap := h1, toks := tk }) z1 fun h2 z2 sb => ?_⟩
    have hT2 := (sb.2 _ (Nat.ne_of_gt zl)).trans hT
    have fresh : H s.heap.objs.size = none := I.hok.fresh (Nat.le_refl _)
    have I1 : Inv X pins σ (upd H s.heap.objs.size (.tup [.str ⟨#[c]⟩, .str ⟨#[d]⟩])) { s with heap := h2, toks := tk } :=
      I.turnedNew (ch := [z, TI, TO, i1, i2]) (fun b ob hb q => by
        have n1 : b ≠ z := fun e => hb (by simp [e])
        have n2 : b ≠ TO := fun e => hb (by simp [e])
        have n3 : b ≠ i1 := fun e => hb (by simp [e])
        have n4 : b ≠ i2 := fun e => hb (by simp [e])
        exact (sb.2 b n1).trans (hk b ob n1 n2 n3 n4 q)) fp (Nat.le_refl _) ⟨by show 2 ≤ sizeLine; decide, [.str ⟨#[c]⟩ tc, .str ⟨#[d]⟩ td], .cons ⟨_, rfl⟩ (.cons ⟨_, rfl⟩ .nil), ⟨_, hT2, rfl, _, rfl⟩⟩
    refine ⟨.ref s.heap.objs.size, _, I1, rfl, ⟨_, c, d, rfl, fresh, ec, ed, rfl⟩, ⟨z2, (sb.2 _ D.TIz).trans (hk _ _ D.TIz D.TITO D.TIi1 D.TIi2 hTI), ⟨_, _, (sb.2 _ D.TOz).trans TO1⟩, ?_, ?_⟩, fun b hb => ?_⟩
    · obtain ⟨o, q, r⟩ := t1'
      exact ⟨o, (sb.2 _ D.i1z).trans q, r⟩
    · obtain ⟨o, q, r⟩ := t2'
      exact ⟨o, (sb.2 _ D.i2z).trans q, r⟩
    · have lb : b < s.heap.objs.size := by
        have h5 : b = z ∨ b = TI ∨ b = TO ∨ b = i1 ∨ b = i2 := by simpa using hb
        rcases h5 with rfl | rfl | rfl | rfl | rfl
        · exact zl
        · exact Heap.lt_size hTI
        · exact Heap.lt_size hTO
        · obtain ⟨_, q, _⟩ := t1
          exact Heap.lt_size q
        · obtain ⟨_, q, _⟩ := t2
          exact Heap.lt_size q
      rw [upd_ne (Nat.ne_of_lt lb)]
      exact (fp b hb).1
  done := by
    intro X hP hw hK calm i pins s σ H E I fp st hg
    subst hP hw hK
    obtain ⟨hz, hTI, ⟨a0, b0, hTO⟩, t1, t2⟩ := st
    have ei : i = x.cps.size := hg
    subst ei
    exact KZ.next_done D (draws_tx (I.ok.hd calm) i1 x t) hz hTI hTO t1 fun h' hk => ⟨rfl, I.turnedL (t' := s.toks) (ch := [z, TI, TO, i1, i2]) (fun b o hb q =>
      hk b o (fun e => hb (by simp [e])) (fun e => hb (by simp [e])) (fun e => hb (by simp [e])) (fun e => hb (by simp [e])) q) fp⟩
  self := fun A i s Q E st h => wpAny_pyIter_zip st.1 h
def iZipX (ta : TA) : TI := fun σ H R => ta σ H fun vs H1 => ∃ x y : Str, vs = [.str x, .str y] ∧ R (ItZx x y) H1
theorem pi_zipTxt {X : Cx} {e e2 : Expr} {ta : TA} {p pos tpos : Pos} {elts : List Expr} {kk : Nat} (hg : Gl X "zip") (hm : X.mg "zip" = none) (ha : PA X [e, e2] ta)
    (hs : starEach [e, e2] X.env = (false, eval e X.env) :: starEach [e2] X.env := by rfl) (hpl : (backTo pos (starEach [e2] X.env)).any (·.1) = false := by rfl) :
    PI X (.Tuple elts kk tpos) (.Call (.Name "zip" p) [e, e2] [] pos) (iZipX ta) := by
  refine ⟨fun pins s σ H R I want => ?_⟩
  refine Call_ (ld_blt I hg hm PyProof.Rows.boot_zip (PyProof.Rows.callWith_type1 (thn (ha.run pos pins s σ H _ I want) fun us s1 ⟨vs, H1, I1, r1, q1⟩ => ?_) hs hpl))
  obtain ⟨x, y, rfl, q⟩ := q1
  obtain ⟨u1, u2, rfl, rx, ry⟩ := vals2 r1
  obtain ⟨t, rfl⟩ := rx
  obtain ⟨u, rfl⟩ := ry
  refine KZ.call_zipS fun h' hz hTI hTO h1 h2 hk => wpAny_pyIter_zip hz ?_
  have I2 : Inv X pins σ H1 { s1 with heap := h' } := I1.kept (t' := s1.toks) hk
  have D : ZipApart (s1.heap.objs.size + 4) (s1.heap.objs.size + 2) (s1.heap.objs.size + 3) s1.heap.objs.size (s1.heap.objs.size + 1) (s1.heap.objs.size + 2) (s1.heap.objs.size + 2) := by
    generalize s1.heap.objs.size = m
    constructor <;> (intro z; have z' : (_ : Nat) = _ := z; omega)
  refine ⟨s1.heap.objs.size + 4, [s1.heap.objs.size + 4, s1.heap.objs.size + 2, s1.heap.objs.size + 3, s1.heap.objs.size, s1.heap.objs.size + 1], _, _, H1, rfl, I2, turn_zipTxt D x y t u, ⟨hz, hTI, ⟨_, _, hTO⟩, h1, h2⟩, fun c hc => ?_, q⟩
  have h5 : c = s1.heap.objs.size + 4 ∨ c = s1.heap.objs.size + 2 ∨ c = s1.heap.objs.size + 3 ∨ c = s1.heap.objs.size ∨ c = s1.heap.objs.size + 1 := by simpa using hc
  have hle : s1.heap.objs.size ≤ c := by
    rcases h5 with rfl | rfl | rfl | rfl | rfl
    · exact Nat.le_add_right _ _
    · exact Nat.le_add_right _ _
    · exact Nat.le_add_right _ _
    · exact Nat.le_refl _
    · exact Nat.le_add_right _ _
  exact I1.fpOk hle (I1.hok.fresh hle)
end KQ

namespace KQ
open PySem PySem.Spec PyProof.Rows L2
/-! ### strings held as numbers -/
abbrev sFrom : Stmt := topS 22
abbrev sBof : Stmt := topS 23
abbrev sLof : Stmt := topS 24
abbrev sHalf : Stmt := topS 25
abbrev sHeld : Stmt := topS 26
abbrev sSof : Stmt := topS 27
abbrev sHprod : Stmt := topS 28
abbrev sPar : Stmt := topS 29
abbrev sCrossg : Stmt := topS 30
theorem scBof : FnScope ["string", "first", "second"] ["string"] (defScope sBof) := ⟨rfl, rfl, rfl, by decide +kernel, rfl, by decide +kernel, by decide +kernel⟩
theorem scHalf : FnScope ["size", "bits"] ["size", "bits"] (defScope sHalf) := ⟨rfl, rfl, rfl, by decide +kernel, rfl, by decide +kernel, by decide +kernel⟩
theorem scHeld : FnScope ["string"] ["string"] (defScope sHeld) := ⟨rfl, rfl, rfl, by decide +kernel, rfl, by decide +kernel, by decide +kernel⟩
theorem scHprod : FnScope ["size", "one", "other", "bits", "power", "other_bits", "other_power", "turned"] ["size", "one", "other"] (defScope sHprod) := ⟨rfl, rfl, rfl, by decide +kernel, rfl, by decide +kernel, by decide +kernel⟩
theorem scPar : FnScope ["number"] ["number"] (defScope sPar) := ⟨rfl, rfl, rfl, by decide +kernel, rfl, by decide +kernel, by decide +kernel⟩
theorem e_c0 : ("0" : Str) = SX.S [48] := by decide +kernel
theorem e_c1 : ("1" : Str) = SX.S [49] := by decide +kernel
theorem e_one : ("1" : Str) = ⟨#[49]⟩ := by decide +kernel
theorem e_Y : ("Y" : Str) = ⟨#[89]⟩ := by decide +kernel
/-- the number of the bits of letters: all of the first kind, then all of the second -/
def bL (R : List Nat) : Nat := nb 0 (R.map lx ++ R.map lz)
def spPar : Sp := fun vs H Q _ => ∃ n : Nat, vs = [.int (n : Nat)] ∧ n < 2 ^ 1000 ∧ Q (.int ((pc n % 2 : Nat) : Int)) H
def spHalf : Sp := fun vs H Q _ => ∃ n b : Nat, vs = [.int (n : Nat), .int (b : Nat)] ∧ n ≤ 1000 ∧ Q (.int ((b % 2 ^ n : Nat) : Int)) H
def spBof (C : Addr) : Sp := fun vs H Q _ => ∃ (a : Addr) (R : List Nat) (p : Nat), vs = [.ref a] ∧ PauliAt C H a R p ∧ (∀ c ∈ R, isL c = true) ∧ R ≠ [] ∧ R.length ≤ 300 ∧ ∀ H', Same H H' → Q (.int (bL R : Nat)) H'
def spHeld (C : Addr) : Sp := fun vs H Q _ => ∃ (a : Addr) (R : List Nat) (p : Nat), vs = [.ref a] ∧ PauliAt C H a R p ∧ (∀ c ∈ R, isL c = true) ∧ R ≠ [] ∧ R.length ≤ 300 ∧
  ∀ H' x, Same H H' → H x = none → H' x = some (.tup [.int (bL R : Nat), .int (((p + R.count 89) % 4 : Nat) : Int)]) → Q (.ref x) H'
def HlAt (H : Hp) (a : Addr) (h : Hl) : Prop := H a = some (.tup [.int (h.1 : Nat), .int (h.2 : Nat)])
def spHprod : Sp := fun vs H Q _ => ∃ (n : Nat) (a b : Addr) (h g : Hl), vs = [.int (n : Nat), .ref a, .ref b] ∧ HlAt H a h ∧ HlAt H b g ∧ h.1 < 2 ^ 1000 ∧ n ≤ 1000 ∧
  ∀ H' x, Same H H' → H x = none → HlAt H' x (hp n h g) → Q (.ref x) H'
theorem lsb_le {n : Nat} (h : n < 2 ^ 1000) : (lsb n).length ≤ 1000 := (lsb_pad 999 n h).1
theorem binT_le {n : Nat} (h : n < 2 ^ 1000) : (binT n).length ≤ sizeLine := by
  rw [bin_eq, mS_len, List.length_reverse]
  exact sizeBig (lsb_le h)
section
variable {P : Program} {w : World} {K : PySem.W.Frag} {mg : Str → Option Value} {base : Heap}
theorem ok_par {f : Addr} {fd : FuncData} {k : Nat} (F : Fun K "parity" "parity" sPar f fd) : FnOk P w K mg base CX0 (k + 1) f fd ["number"] spPar := by
  refine F.ok scPar (fun vs H Q E h => ?_) (fun cdv A outer s H vs Q E hr h => ?_)
  · obtain ⟨n, rfl, _⟩ := h
    rfl
  · obtain ⟨n, rfl, hn, q⟩ := h
    refine ⟨_, pss_one (ps_ret (pe_op op_odd (pe_bm PySem.F.plainAttrs_str PySem.F.slot_str_count PySem.F.type_str_count mt_count (pe_joined1 (pe_fmtB (pv 0))) (pa_cons pe_str pa_nil)) pe_int)), ?_⟩
    have e : Txt.count (binT n) ("1" : Str) = ((pc n : Nat) : Int) := by
      rw [bin_eq, e_one]
      refine ((PyProof.Rows.count_is _ _).trans (cnt_count 49 _)).trans ?_
      rw [List.count_reverse, lsb_pc]
    refine ⟨_, rfl, n, rfl, binT_le hn, rfl, _, _, rfl, rfl, pc n, by rw [e], rfl, q⟩
theorem ok_half {f : Addr} {fd : FuncData} {k : Nat} (F : Fun K "second_half" "second_half" sHalf f fd) : FnOk P w K mg base CX0 (k + 1) f fd ["size", "bits"] spHalf := by
  refine F.ok scHalf (fun vs H Q E h => ?_) (fun cdv A outer s H vs Q E hr h => ?_)
  · obtain ⟨n, b, rfl, _⟩ := h
    rfl
  · obtain ⟨n, b, rfl, hn, q⟩ := h
    refine ⟨_, pss_one (ps_ret (pe_op op_andM (pv 1) (pe_op op_sub (pe_op op_oneShl pe_int (pv 0)) pe_int))), ?_⟩
    refine ⟨_, rfl, _, rfl, n, rfl, rfl, by omega, _, _, rfl, rfl, (b : Int), n, rfl, rfl, ?_⟩
    have e : ((b : Int) % 2 ^ n) = ((b % 2 ^ n : Nat) : Int) := by push_cast; rfl
    rw [e]
    exact q
theorem ok_hprod {f fP : Addr} {fd dP : FuncData} {k : Nat} (F : Fun K "held_product" "held_product" sHprod f fd) (FP : Fun K "parity" "parity" sPar fP dP) (bP : Binds K dP ["number"] []) (gP : mg "parity" = some (.ref fP)) :
    FnOk P w K mg base CX0 (k + 2) f fd ["size", "one", "other"] spHprod := by
  have GP : FnOk P w K mg base CX0 (k + 1) fP dP ["number"] spPar := ok_par FP
  refine F.ok scHprod (fun vs H Q E h => ?_) (fun cdv A outer s H vs Q E hr h => ?_)
  · obtain ⟨n, a, b, h, g, rfl, _⟩ := h
    rfl
  · obtain ⟨n, a, b, h, g, rfl, hA, hB, h1, hn, q⟩ := h
    refine ⟨_, C8.pss_cut (ps_asg (pv 1) (pg_tup rfl (pgs_cons (pg_name (i := 3) scHprod.nd rfl (.inl rfl)) (pgs_cons (pg_name (i := 4) scHprod.nd rfl (.inl rfl)) pgs_nil))))
      (C8.pss_cut (ps_asg (pv 2) (pg_tup rfl (pgs_cons (pg_name (i := 5) scHprod.nd rfl (.inl rfl)) (pgs_cons (pg_name (i := 6) scHprod.nd rfl (.inl rfl)) pgs_nil))))
      (C8.pss_cut (ps_set (i := 7) scHprod.nd rfl (.inl rfl) (pe_call GP hr (by rfl) gP FP.kp bP .nil pass0 (pa_cons (pe_op op_and (pv 3) (pe_op op_shrN (pv 5) (pv 0))) pa_nil)))
      (pss_one (ps_ret (pe_tup (pa_cons (pe_op op_xor (pv 3) (pv 5)) (pa_cons (pe_op op_mod (pe_op op_add (pe_op op_add (pv 4) (pv 6)) (pe_op op_mul pe_int (pv 7))) pe_int) pa_nil))))))), ?_⟩
    refine ⟨fun σ' H' => σ' = [some (.int (n : Nat)), some (.ref a), some (.ref b), some (.int (h.1 : Nat)), some (.int (h.2 : Nat)), none, none, none] ∧ H' = H, ⟨_, rfl, _, _, rfl, .inl (.inl hA), rfl, _, _, rfl, _, _, rfl, rfl, rfl, rfl⟩, ?_⟩
    rintro _ H1 ⟨rfl, rfl⟩
    refine ⟨fun σ' H' => σ' = [some (.int (n : Nat)), some (.ref a), some (.ref b), some (.int (h.1 : Nat)), some (.int (h.2 : Nat)), some (.int (g.1 : Nat)), some (.int (g.2 : Nat)), none] ∧ H' = H1, ⟨_, rfl, _, _, rfl, .inl (.inl hB), rfl, _, _, rfl, _, _, rfl, rfl, rfl, rfl⟩, ?_⟩
    rintro _ H2 ⟨rfl, rfl⟩
    refine ⟨fun σ' H' => σ' = [some (.int (n : Nat)), some (.ref a), some (.ref b), some (.int (h.1 : Nat)), some (.int (h.2 : Nat)), some (.int (g.1 : Nat)), some (.int (g.2 : Nat)), some (.int (tw n h.1 g.1 : Nat))] ∧ H' = H2, ?_, ?_⟩
    · refine ⟨_, rfl, _, rfl, _, rfl, (g.1 : Int), n, rfl, rfl, _, _, rfl, rfl, h.1 &&& (g.1 >>> n), ?_, Nat.lt_of_le_of_lt Nat.and_le_left h1, rfl, rfl⟩
      have e : ((g.1 : Int) / 2 ^ n) = ((g.1 >>> n : Nat) : Int) := by rw [Nat.shiftRight_eq_div_pow]; push_cast; rfl
      show [V.int (Builtin.bitAnd (h.1 : Nat) _)] = _
      rw [e, band]
    rintro _ H3 ⟨rfl, rfl⟩
    refine ⟨_, rfl, _, rfl, _, _, rfl, rfl, _, rfl, _, rfl, _, _, rfl, rfl, _, rfl, _, _, rfl, rfl, .inl ⟨by decide, by decide⟩, _, _, rfl, rfl, _, _, rfl, rfl, (by show (0 : Int) < 4; decide), by show 2 ≤ sizeLine; decide, fun x nx => ?_⟩
    refine q _ x (same_new nx) nx ?_
    unfold HlAt
    rw [upd_same]
    have e2 : ((h.2 : Int) + (g.2 : Int) + 2 * ((tw n h.1 g.1 : Nat) : Int)) % 4 = (((h.2 + g.2 + 2 * tw n h.1 g.1) % 4 : Nat) : Int) := by omega
    show some (HO.tup [V.int (Builtin.bitXor (h.1 : Nat) (g.1 : Nat)), V.int (((h.2 : Int) + (g.2 : Int) + 2 * ((tw n h.1 g.1 : Nat) : Int)) % 4)]) = _
    rw [bxor, e2]
    rfl
theorem ok_bof {f C fI fE : Addr} {fd : FuncData} {k : Nat} (F : Fun K "bits_of" "bits_of" sBof f fd) (N : PCl K mg C fI fE) (B : Bl mg) : FnOk P w K mg base CX0 (k + 1) f fd ["string"] (spBof C) := by
  refine F.ok scBof (fun vs H Q E h => ?_) (fun cdv A outer s H vs Q E hr h => ?_)
  · obtain ⟨a, R, p, rfl, _⟩ := h
    rfl
  · obtain ⟨a, R, p, rfl, hP, hR, h0, hl, q⟩ := h
    refine ⟨_, C8.pss_cut (ps_set (i := 1) scBof.nd rfl (.inl rfl) (pe_bm PySem.F.plainAttrs_str PySem.F.slot_str_translate PySem.F.type_str_translate mt_transD (pe_fld (pv 0) rfl) (pa_cons (pe_disp (pps_cons pe_int pe_str (pps_cons pe_int pe_str (pps_cons pe_int pe_str (pps_cons pe_int pe_str pps_nil)))) (by rfl) (by rfl) (fun z => by cases z) (by decide)) pa_nil)))
      (C8.pss_cut (ps_set (i := 2) scBof.nd rfl (.inl rfl) (pe_bm PySem.F.plainAttrs_str PySem.F.slot_str_translate PySem.F.type_str_translate mt_transD (pe_fld (pv 0) rfl) (pa_cons (pe_disp (pps_cons pe_int pe_str (pps_cons pe_int pe_str (pps_cons pe_int pe_str (pps_cons pe_int pe_str pps_nil)))) (by rfl) (by rfl) (fun z => by cases z) (by decide)) pa_nil)))
      (pss_one (ps_ret (pe_callTy call_int_b (by rfl) B.int bootI (pa_cons (pe_op op_add_str (pv 1) (pv 2)) (pa_cons pe_int pa_nil)))))), ?_⟩
    obtain ⟨dx, fs, e, l1, l2, l3⟩ := id hP
    have look : ∀ (g : Nat → Nat) (kvs : List (Key × V)), (∀ c, isL c = true → valV kvs (.inl (c : Int)) = some (.str (SX.S [48 + g c]))) → (∀ c, g c < 2) → ∀ c ∈ R, 48 + g c < 128 ∧ valV kvs (.inl (c : Int)) = some (.str (SX.S [48 + g c])) := fun g kvs h1 h2 c hc => ⟨by have := h2 c; omega, h1 c (hR c hc)⟩
    have two : ∀ {G : Hp} {p : Addr} {o o' : HO}, Same H G → G p = none → Same H (upd (upd G p o) p o') := fun {G p o o'} sg np b u e => by
      have nb : b ≠ p := ne_of_none (sg _ _ e) np
      rw [upd_ne nb, upd_ne nb]
      exact sg _ _ e
    have tx : ∀ c, isL c = true → valV (mergeK [] [((.inl 73 : Key), V.str ("0" : Str)), (.inl 88, .str ("1" : Str)), (.inl 89, .str ("1" : Str)), (.inl 90, .str ("0" : Str))]) (.inl (c : Int)) = some (.str (SX.S [48 + lx c])) := by
      rw [e_c0, e_c1]
      intro c hc
      rcases isL_iff.mp hc with rfl | rfl | rfl | rfl <;> rfl
    have tz : ∀ c, isL c = true → valV (mergeK [] [((.inl 73 : Key), V.str ("0" : Str)), (.inl 88, .str ("0" : Str)), (.inl 89, .str ("1" : Str)), (.inl 90, .str ("1" : Str))]) (.inl (c : Int)) = some (.str (SX.S [48 + lz c])) := by
      rw [e_c0, e_c1]
      intro c hc
      rcases isL_iff.mp hc with rfl | rfl | rfl | rfl <;> rfl
    refine ⟨fun σ' H' => σ' = [some (.ref a), some (.str (mS (R.map (48 + lx ·)))), none] ∧ Same H H', ?_, ?_⟩
    · refine ⟨_, rfl, a, C, dx, fs, _, rfl, e, N.cl, N.nL, l1, rfl, fun p hp => ?_⟩
      exact ⟨upd_same, [((.inl 73 : Key), V.str ("0" : Str)), (.inl 88, .str ("1" : Str)), (.inl 89, .str ("1" : Str)), (.inl 90, .str ("0" : Str))], rfl, by decide, R, p, _, (48 + lx ·), rfl, rfl, .inl upd_same, look lx _ tx lx_lt, by omega, rfl, two (fun _ _ z => z) hp⟩
    rintro _ H1 ⟨rfl, s1⟩
    refine ⟨fun σ' H' => σ' = [some (.ref a), some (.str (mS (R.map (48 + lx ·)))), some (.str (mS (R.map (48 + lz ·))))] ∧ Same H H', ?_, ?_⟩
    · refine ⟨_, rfl, a, C, dx, fs, _, rfl, s1 _ _ e, N.cl, N.nL, l1, rfl, fun p hp => ?_⟩
      exact ⟨upd_same, [((.inl 73 : Key), V.str ("0" : Str)), (.inl 88, .str ("0" : Str)), (.inl 89, .str ("1" : Str)), (.inl 90, .str ("1" : Str))], rfl, by decide, R, p, _, (48 + lz ·), rfl, rfl, .inl upd_same, look lz _ tz lz_lt, by omega, rfl, two s1 hp⟩
    rintro _ H2 ⟨rfl, s2⟩
    have eb : (R.map (48 + lx ·)) ++ (R.map (48 + lz ·)) = (R.map lx ++ R.map lz).map (48 + ·) := by
      rw [List.map_append, List.map_map, List.map_map] <;> rfl
    refine ⟨_, rfl, _, rfl, _, _, rfl, rfl, by rw [mS_len, mS_len, List.length_map, List.length_map]; exact Nat.le_trans (by omega : _ ≤ 600) (by decide), (R.map lx ++ R.map lz).map (48 + ·), ?_, ?_, ?_, ?_, ?_⟩
    · rw [mS_app, eb]
    · intro z
      apply h0
      cases R with
      | nil => rfl
      | cons c R => cases z
    · rw [List.length_map, List.length_append, List.length_map, List.length_map]
      omega
    · intro c hc
      obtain ⟨b, hb, rfl⟩ := List.mem_map.mp hc
      have : b < 2 := by
        rcases List.mem_append.mp hb with h | h
        · obtain ⟨c, _, rfl⟩ := List.mem_map.mp h; exact lx_lt c
        · obtain ⟨c, _, rfl⟩ := List.mem_map.mp h; exact lz_lt c
      unfold KT.IsB
      omega
    · rw [binN_eq]
      exact q _ s2
theorem ok_held {f fB C fI fE : Addr} {fd dB : FuncData} {k : Nat} (F : Fun K "held_of" "held_of" sHeld f fd) (FB : Fun K "bits_of" "bits_of" sBof fB dB) (bB : Binds K dB ["string"] []) (gB : mg "bits_of" = some (.ref fB)) (N : PCl K mg C fI fE) (B : Bl mg) :
    FnOk P w K mg base CX0 (k + 2) f fd ["string"] (spHeld C) := by
  have GB : FnOk P w K mg base CX0 (k + 1) fB dB ["string"] (spBof C) := ok_bof FB N B
  refine F.ok scHeld (fun vs H Q E h => ?_) (fun cdv A outer s H vs Q E hr h => ?_)
  · obtain ⟨a, R, p, rfl, _⟩ := h
    rfl
  · obtain ⟨a, R, p, rfl, hP, hR, h0, hl, q⟩ := h
    refine ⟨_, pss_one (ps_ret (pe_tup (pa_cons (pe_call GB hr (by rfl) gB FB.kp bB .nil pass0 (pa_cons (pv 0) pa_nil)) (pa_cons (pe_op op_mod (pe_op op_add (pe_fld (pv 0) rfl) (pe_bm PySem.F.plainAttrs_str PySem.F.slot_str_count PySem.F.type_str_count mt_count (pe_fld (pv 0) rfl) (pa_cons pe_str pa_nil))) pe_int) pa_nil)))), ?_⟩
    refine ⟨_, rfl, a, R, p, rfl, hP, hR, h0, hl, fun H1 s1 => ?_⟩
    obtain ⟨dx, fs, e, l1, l2, l3⟩ := id hP
    refine ⟨_, rfl, a, C, dx, fs, _, rfl, s1 _ _ e, N.cl, N.nP, l2, _, rfl, a, C, dx, fs, _, rfl, s1 _ _ e, N.cl, N.nL, l1, rfl, _, _, rfl, rfl, _, _, rfl, rfl, _, _, rfl, rfl, (by show (0 : Int) < 4; decide), by show 2 ≤ sizeLine; decide, fun x nx => ?_⟩
    have off : H x = none := by
      cases z : H x with
      | none => rfl
      | some o => rw [s1 _ _ z] at nx; cases nx
    refine q _ x (s1.trans (same_new nx)) off ?_
    rw [upd_same]
    have ec : Txt.count (mS R) ("Y" : Str) = ((R.count 89 : Nat) : Int) := by
      rw [e_Y]
      exact (PyProof.Rows.count_is _ _).trans (cnt_count 89 R)
    show some (HO.tup [V.int (bL R : Nat), V.int (((p : Int) + Txt.count (mS R) ("Y" : Str)) % 4)]) = _
    rw [ec, show (((p : Int) + ((R.count 89 : Nat) : Int)) % 4) = (((p + R.count 89) % 4 : Nat) : Int) by omega]
end
end KQ

namespace KQ
open PySem PySem.Spec PyProof.Rows L2
/-! ### bits back to letters, strings made, meetings counted -/
theorem pc_cat : ∀ (n a b : Nat), b < 2 ^ n → pc (2 ^ n * a + b) = pc a + pc b
  | 0, a, b, h => by
    have : b = 0 := by omega
    subst this
    rw [pc_zero, show 2 ^ 0 * a + 0 = a by omega, Nat.add_zero]
  | n + 1, a, b, h => by
    have up : 2 ^ (n + 1) = 2 ^ n * 2 := Nat.pow_succ ..
    have e : 2 ^ (n + 1) * a + b = 2 * (2 ^ n * a + b / 2) + b % 2 := by
      rw [up, Nat.mul_add, show 2 ^ n * 2 * a = 2 * (2 ^ n * a) by rw [Nat.mul_comm (2 ^ n) 2, Nat.mul_assoc]]
      omega
    have e2 := pc_two (b / 2) (b % 2) (by omega)
    rw [show 2 * (b / 2) + b % 2 = b by omega] at e2
    rw [e, pc_two _ _ (by omega), pc_cat n a (b / 2) (by omega), e2]
    omega
/-- front and back exchanged -/
def ex (n b : Nat) : Nat := (b % 2 ^ n * 2 ^ n) ||| (b >>> n)
theorem ex_fB (n x z : Nat) : ex n (fB n x z) = fB n z x := by
  unfold ex
  rw [fB_mod, fB_shift, Nat.mul_comm, ← Nat.two_pow_add_eq_or_of_lt (rv_lt n x)]
  rfl
theorem fB_and (n x z x' z' : Nat) : fB n x z &&& fB n x' z' = fB n (x &&& x') (z &&& z') := by
  apply Nat.eq_of_testBit_eq
  intro j
  rw [Nat.testBit_and, fB_bit, fB_bit, fB_bit, rv_and, rv_and]
  split <;> rw [Nat.testBit_and]
theorem pc_fB {n x z : Nat} (hx : x < 2 ^ n) (hz : z < 2 ^ n) : pc (fB n x z) = pc x + pc z := by
  unfold fB
  rw [pc_cat n _ _ (rv_lt n z), pc_rv hx, pc_rv hz]
theorem cross_fB {n x z x' z' : Nat} (hx : x < 2 ^ n) (hz : z < 2 ^ n) : pc (ex n (fB n x z) &&& fB n x' z') = pc (z &&& x') + pc (x &&& z') := by
  rw [ex_fB, fB_and, pc_fB (Nat.lt_of_le_of_lt Nat.and_le_left hz) (Nat.lt_of_le_of_lt Nat.and_le_left hx)]
theorem ex_lt {n b : Nat} (h : b < 2 ^ (2 * n)) : ex n b < 2 ^ (2 * n) := by
  have e : 2 ^ (2 * n) = 2 ^ n * 2 ^ n := by rw [← Nat.pow_add]; congr 1; omega
  unfold ex
  refine Nat.or_lt_two_pow ?_ ?_
  · rw [e]
    exact Nat.mul_lt_mul_of_pos_right (Nat.mod_lt _ (Nat.two_pow_pos n)) (Nat.two_pow_pos n)
  · exact Nat.lt_of_le_of_lt (Nat.shiftRight_le ..) h
/-- the number of letters, by the bits of the law -/
theorem rv_bv {f : Nat → Nat} (hf : ∀ c, f c < 2) (R : List Nat) : rv R.length (bv f R) = nb 0 (R.map f) := by
  unfold rv
  congr 1
  apply List.ext_getElem?
  intro i
  by_cases hi : i < R.length
  · have e := bv_bit hf (List.getElem?_eq_getElem hi)
    rw [List.getElem?_map, List.getElem?_map, List.getElem?_range hi, List.getElem?_eq_getElem hi]
    show some ((bv f R).testBit i).toNat = some (f R[i])
    rw [← e, Nat.testBit_eq_decide_div_mod_eq]
    have : bv f R / 2 ^ i % 2 < 2 := Nat.mod_lt _ (by decide)
    by_cases c : bv f R / 2 ^ i % 2 = 1
    · rw [decide_eq_true c, c]
      rfl
    · rw [decide_eq_false c, show bv f R / 2 ^ i % 2 = 0 by omega]
      rfl
  · rw [List.getElem?_eq_none (by simpa using hi), List.getElem?_eq_none (by simpa using hi)]
theorem bL_fB (R : List Nat) : bL R = fB R.length (bv lx R) (bv lz R) := by
  unfold bL fB
  rw [rv_bv lx_lt, rv_bv lz_lt]
  unfold nb
  rw [List.foldl_append]
  have e := nb_eq (R.map lz) (nb 0 (R.map lx))
  rw [List.length_map, Nat.mul_comm] at e
  exact e
theorem bL_lt (R : List Nat) : bL R < 2 ^ (2 * R.length) := by
  rw [bL_fB]
  exact fB_lt ..
/-- the letters of a number -/
def ltr (x z : Nat) : Nat := if x = 0 then (if z = 0 then 73 else 90) else if z = 0 then 88 else 89
theorem ltr_isL (x z : Nat) : isL (ltr x z) = true := by
  unfold ltr
  refine isL_iff.mpr ?_
  split <;> split <;> omega
def LO (n b : Nat) : List Nat := List.zipWith ltr (rowOf n (b >>> n)) (rowOf n (b % 2 ^ n))
theorem LO_len (n b : Nat) : (LO n b).length = n := by
  unfold LO
  rw [List.length_zipWith, rowOf_len, rowOf_len, Nat.min_self]
theorem zw_isL : ∀ (as bs : List Nat), ∀ c ∈ List.zipWith ltr as bs, isL c = true
  | [], _, c, h => by cases h
  | _ :: _, [], c, h => by cases h
  | a :: as, b :: bs, c, h => by
    rcases List.mem_cons.mp h with rfl | h
    · exact ltr_isL a b
    · exact zw_isL as bs c h
theorem LO_isL (n b : Nat) : ∀ c ∈ LO n b, isL c = true := zw_isL _ _
abbrev sBits' : Stmt := topS 31
theorem scCrossg : FnScope ["size", "bits", "others", "exchanged", "number", "other"] ["size", "bits", "others"] (defScope sCrossg) := ⟨rfl, rfl, rfl, by decide +kernel, rfl, by decide +kernel, by decide +kernel⟩
theorem scLof : FnScope ["size", "bits", "first", "second", "one", "other"] ["size", "bits"] (defScope sLof) := ⟨rfl, rfl, rfl, by decide +kernel, rfl, by decide +kernel, by decide +kernel⟩
theorem scFrom : FnScope ["letters", "phase"] ["letters", "phase"] (defScope sFrom) := ⟨rfl, rfl, rfl, by decide +kernel, rfl, by decide +kernel, by decide +kernel⟩
theorem scSof : FnScope ["size", "held", "bits", "power", "letters"] ["size", "held"] (defScope sSof) := ⟨rfl, rfl, rfl, by decide +kernel, rfl, by decide +kernel, by decide +kernel⟩
structure Lets (K : PySem.W.Frag) (w : World) (mg : Str → Option Value) (A : Addr) : Prop where
  g : mg "LETTERS" = some (.ref A)
  at_ : ∀ x z, x < 2 → z < 2 → KDct K w A (mS [48 + x, 48 + z]) (.str (mS [ltr x z]))
def spCrossg (K : PySem.W.Frag) : Sp := fun vs H Q _ => ∃ (n b : Nat) (t : Addr) (os : List Nat), vs = [.int (n : Nat), .int (b : Nat), .ref t] ∧ SqL K H t (natV os) ∧ n ≤ 300 ∧ b < 2 ^ (2 * n) ∧
  Q (.int (nb 0 (os.map fun o => pc (ex n b &&& o) % 2) : Nat)) H
def spLof : Sp := fun vs H Q _ => ∃ n b : Nat, vs = [.int (n : Nat), .int (b : Nat)] ∧ 1 ≤ n ∧ n ≤ 300 ∧ b < 2 ^ (2 * n) ∧ ∀ H', Same H H' → Q (.str (mS (LO n b))) H'
def spFrom (C : Addr) : Sp := fun vs H Q _ => ∃ (R : List Nat) (i : Int), vs = [.str (mS R), .int i] ∧ (∀ c ∈ R, isL c = true) ∧ R ≠ [] ∧ R.length ≤ 300 ∧ ∀ H' x, Same H H' → PauliAt C H' x R (i % 4).toNat → Q (.ref x) H'
def spSof (C : Addr) : Sp := fun vs H Q _ => ∃ (n : Nat) (a : Addr) (h : Hl), vs = [.int (n : Nat), .ref a] ∧ HlAt H a h ∧ 1 ≤ n ∧ n ≤ 300 ∧ h.1 < 2 ^ (2 * n) ∧
  ∀ H' x, Same H H' → PauliAt C H' x (LO n h.1) (((h.2 : Int) - ((LO n h.1).count 89 : Nat)) % 4).toNat → Q (.ref x) H'
theorem headL_le {q : Nat} (hq : q < 4) : (headL q).length ≤ 2 := by
  match q, hq with
  | 0, _ => decide
  | 1, _ => decide
  | 2, _ => decide
  | 3, _ => decide
theorem own_read {L : List Nat} (hL : ∀ c ∈ L, isL c = true) (h0 : L ≠ []) {q : Nat} (hq : q < 4) : rest (headL q ++ L) = L ∧ ph (headL q ++ L) = q ∧ fine (headL q ++ L) := by
  match q, hq with
  | 0, _ => exact read_head hL h0 0 _ _ rfl
  | 1, _ => exact read_head hL h0 3 _ _ rfl
  | 2, _ => exact read_head hL h0 2 _ _ rfl
  | 3, _ => exact read_head hL h0 5 _ _ rfl
theorem made_same {H H' : Hp} {x dx C : Addr} (nx : H x = none) (nd : H dx = none) (k : ∀ b o, b ≠ x → (upd (upd H dx (.own x)) x (.ins C dx [])) b = some o → H' b = some o) : Same H H' := by
  intro b o e
  have h1 : b ≠ x := ne_of_none e nx
  have h2 : b ≠ dx := ne_of_none e nd
  exact k b o h1 (by rw [upd_ne h1, upd_ne h2]; exact e)
def sgs (L : List Nat) : List Str := L.map fun c => (⟨#[c]⟩ : Str)
theorem join_sgs (L : List Nat) : Txt.join ("" : Str) (sgs L) = mS L := by
  rw [TL.join_eq, e_no]
  exact PyProof.Rows.join_ones L
theorem sgs_len : ∀ L : List Nat, ((sgs L).map (·.length)).sum = L.length
  | [] => rfl
  | c :: L => by
    show 1 + ((sgs L).map (·.length)).sum = L.length + 1
    rw [sgs_len L]
    omega
theorem walk_zipTxt {L M : List Nat} (h : L.length = M.length) : Walk (ItZx (mS L) (mS M)) L.length (fun _ => True) (YPair (fun i => (L[i]?).map fun c => .str ⟨#[c]⟩) (fun i => (M[i]?).map fun c => .str ⟨#[c]⟩)) := by
  have z1 : (mS L).cps.size = L.length := by simp
  have z2 : (mS M).cps.size = M.length := by simp
  refine ⟨fun i _ hi _ => ⟨by rw [z1]; exact hi, by rw [z2]; omega⟩, fun _ _ => z1.symm, fun i H v H' hi _ y => ?_⟩
  obtain ⟨T, c, d, h1, h2, h3, h4, h5⟩ := y
  have h3' : L[i]? = some c := by simpa using h3
  have h4' : M[i]? = some d := by simpa using h4
  exact ⟨T, _, _, h1, h2, h5, by show (L[i]?).map _ = _; rw [h3']; rfl, by show (M[i]?).map _ = _; rw [h4']; rfl⟩
section
variable {P : Program} {w : World} {K : PySem.W.Frag} {mg : Str → Option Value} {base : Heap}
theorem ok_crossg {f fH fP : Addr} {fd dH dP : FuncData} {k : Nat} (F : Fun K "crossing" "crossing" sCrossg f fd) (FH : Fun K "second_half" "second_half" sHalf fH dH) (bH : Binds K dH ["size", "bits"] []) (gH : mg "second_half" = some (.ref fH))
    (FP : Fun K "parity" "parity" sPar fP dP) (bP : Binds K dP ["number"] []) (gP : mg "parity" = some (.ref fP)) : FnOk P w K mg base CX0 (k + 2) f fd ["size", "bits", "others"] (spCrossg K) := by
  have GP : FnOk P w K mg base CX0 (k + 1) fP dP ["number"] spPar := ok_par FP
  have GH : FnOk P w K mg base CX0 (k + 1) fH dH ["size", "bits"] spHalf := ok_half FH
  refine F.ok scCrossg (fun vs H Q E h => ?_) (fun cdv A outer s H vs Q E hr h => ?_)
  · obtain ⟨n, b, t, os, rfl, _⟩ := h
    rfl
  · obtain ⟨n, b, t, os, rfl, hS, hn, hb, q⟩ := h
    refine ⟨_, C8.pss_cut (ps_set (i := 3) scCrossg.nd rfl (.inl rfl) (pe_op op_or (pe_op op_shlN (pe_call GH hr (by rfl) gH FH.kp bH .nil pass0 (pa_cons (pv 0) (pa_cons (pv 1) pa_nil))) (pv 0)) (pe_op op_shrN (pv 1) (pv 0))))
      (C8.pss_cut (ps_set (i := 4) scCrossg.nd rfl (.inl rfl) pe_int)
      (C8.pss_cut (ps_for PassesOwn.never rfl (pi_list (pv 2)) (pg_name (i := 5) scCrossg.nd rfl (.inl rfl))
        (pss_one (ps_set (i := 4) scCrossg.nd rfl (.inl rfl) (pe_op op_add (pe_op op_mul pe_int (pv 4)) (pe_call GP hr (by rfl) gP FP.kp bP .nil pass0 (pa_cons (pe_op op_and (pv 3) (pv 5)) pa_nil))))))
      (pss_one (ps_ret (pv 4))))), ?_⟩
    refine ⟨fun σ' H' => σ' = [some (.int (n : Nat)), some (.int (b : Nat)), some (.ref t), some (.int (ex n b : Nat)), none, none] ∧ H' = H, ?_, ?_⟩
    · refine ⟨_, rfl, _, rfl, n, b, rfl, by omega, _, rfl, ((b % 2 ^ n : Nat) : Int), n, rfl, rfl, ?_, _, rfl, _, rfl, (b : Int), n, rfl, rfl, _, _, rfl, rfl, ?_, rfl⟩
      · refine ⟨by omega, ?_⟩
        have l1 : b % 2 ^ n < 2 ^ n := Nat.mod_lt _ (Nat.two_pow_pos n)
        have l2 : Builtin.Int.intBits ((b % 2 ^ n : Nat) : Int) ≤ n := by
          unfold Builtin.Int.intBits
          split
          · omega
          · rename_i h0
            rw [Int.natAbs_natCast]
            have : b % 2 ^ n ≠ 0 := fun z => h0 (by rw [z]; rfl)
            exact (Nat.log2_lt this).mpr l1
        have : (2 : Int) ^ 27 = 134217728 := by decide
        omega
      · have e1 : ((b % 2 ^ n : Nat) : Int) * 2 ^ n = ((b % 2 ^ n * 2 ^ n : Nat) : Int) := by push_cast; rfl
        have e2 : ((b : Int) / 2 ^ n) = ((b >>> n : Nat) : Int) := by rw [Nat.shiftRight_eq_div_pow]; push_cast; rfl
        show [_, _, _, some (V.int (Builtin.bitOr (((b % 2 ^ n : Nat) : Int) * 2 ^ n) ((b : Int) / 2 ^ n))), _, _] = _
        rw [e1, e2, bor]
        rfl
    rintro _ H1 ⟨rfl, rfl⟩
    refine ⟨fun σ' H' => σ' = [some (.int (n : Nat)), some (.int (b : Nat)), some (.ref t), some (.int (ex n b : Nat)), some (.int 0), none] ∧ H' = H1, ⟨rfl, rfl⟩, ?_⟩
    rintro _ H2 ⟨rfl, rfl⟩
    refine ⟨fun σ' H' => ∃ v, σ' = [some (.int (n : Nat)), some (.int (b : Nat)), some (.ref t), some (.int (ex n b : Nat)), some (.int (nb 0 (os.map fun o => pc (ex n b &&& o) % 2) : Nat)), v] ∧ H' = H2, ?_, ?_⟩
    · refine ⟨_, rfl, t, rfl, ⟨_, hS⟩, for_list (K := K) (a := t) (xs := natV os) (fun i σ H' => ∃ v : Option V, σ = [some (.int (n : Nat)), some (.int (b : Nat)), some (.ref t), some (.int (ex n b : Nat)), some (.int (nb 0 ((os.take i).map fun o => pc (ex n b &&& o) % 2) : Nat)), v] ∧ H' = H2) ⟨none, rfl, rfl⟩ (fun i σ H' _ ⟨_, _, e⟩ => by rw [e]; exact hS) ?_ ?_⟩
      · rintro i y σ H' hi ⟨v, rfl, rfl⟩
        obtain ⟨o, ho, rfl⟩ := natV_at hi
        have lt : ex n b &&& o < 2 ^ 1000 := Nat.lt_of_le_of_lt Nat.and_le_left (Nat.lt_of_lt_of_le (ex_lt hb) (Nat.pow_le_pow_right (by decide) (by omega)))
        refine ⟨_, rfl, _, _, rfl, rfl, .inl ⟨by decide, by decide⟩, _, rfl, _, rfl, _, _, rfl, rfl, ex n b &&& o, ?_, lt, _, _, rfl, rfl, some (.int (o : Nat)), ?_, rfl⟩
        · show [V.int (Builtin.bitAnd (ex n b : Nat) (o : Nat))] = _
          rw [band]
        · rw [take_snoc ho, List.map_append]
          unfold nb
          rw [List.foldl_append]
          rfl
      · rintro σ H' ⟨v, rfl, rfl⟩
        rw [List.take_of_length_le (Nat.le_of_eq (natV_len os).symm)]
        exact ⟨v, rfl, rfl⟩
    rintro _ H3 ⟨v, rfl, rfl⟩
    exact ⟨_, rfl, q⟩
theorem e_two {c d : Nat} : (mS [c] ++ mS [d]) = mS [c, d] := by rw [mS_app] <;> rfl
open PySem.Builtin PySem.Builtin.Str in
theorem pad_ok {n : Nat} (h : n ≤ 300) : PadOk (n : Int) = true := by
  have e1 : (decide ((n : Int) < -(2 ^ 63 : Int)) || decide ((n : Int) ≥ 2 ^ 63)) = false := by
    rw [decide_eq_false (by omega), decide_eq_false (by omega)]
    rfl
  have e2 : tooLong ((n : Int)).toNat = false := PyProof.Rows.short24 (by omega)
  unfold PadOk fitsSsize
  rw [e1, e2]
  rfl
theorem LO_snoc {n b i : Nat} (hi : i < n) : ∃ x z, x < 2 ∧ z < 2 ∧ (txB n (b >>> n))[i]? = some (48 + x) ∧ (txB n (b % 2 ^ n))[i]? = some (48 + z) ∧ (LO n b).take (i + 1) = (LO n b).take i ++ [ltr x z] := by
  have h1 := rowOf_at (W := n) (m := b >>> n) hi
  have h2 := rowOf_at (W := n) (m := b % 2 ^ n) hi
  have lt : ∀ c : Bool, c.toNat < 2 := fun c => by cases c <;> decide
  refine ⟨((b >>> n).testBit (n - 1 - i)).toNat, ((b % 2 ^ n).testBit (n - 1 - i)).toNat, lt _, lt _, ?_, ?_, ?_⟩
  · unfold txB
    rw [List.getElem?_map, h1]
    rfl
  · unfold txB
    rw [List.getElem?_map, h2]
    rfl
  · refine take_snoc ?_
    unfold LO
    rw [List.getElem?_zipWith, h1, h2]
theorem ok_lof {f fH A : Addr} {fd dH : FuncData} {k : Nat} (F : Fun K "letters_of" "letters_of" sLof f fd) (FH : Fun K "second_half" "second_half" sHalf fH dH) (bH : Binds K dH ["size", "bits"] []) (gH : mg "second_half" = some (.ref fH))
    (T : Lets K w mg A) (mz : mg "zip" = none) : FnOk P w K mg base CX0 (k + 2) f fd ["size", "bits"] spLof := by
  have GH : FnOk P w K mg base CX0 (k + 1) fH dH ["size", "bits"] spHalf := ok_half FH
  refine F.ok scLof (fun vs H Q E h => ?_) (fun cdv A' outer s H vs Q E hr h => ?_)
  · obtain ⟨n, b, rfl, _⟩ := h
    rfl
  · obtain ⟨n, b, rfl, n1, hn, hb, q⟩ := h
    refine ⟨_, C8.pss_cut (ps_set (i := 2) scLof.nd rfl (.inl rfl) (pe_bm PySem.F.plainAttrs_str PySem.F.slot_str_zfill PySem.F.type_str_zfill mt_zfill (pe_joined1 (pe_fmtB (pe_op op_shrN (pv 1) (pv 0)))) (pa_cons (pv 0) pa_nil)))
      (C8.pss_cut (ps_set (i := 3) scLof.nd rfl (.inl rfl) (pe_bm PySem.F.plainAttrs_str PySem.F.slot_str_zfill PySem.F.type_str_zfill mt_zfill (pe_joined1 (pe_fmtB (pe_call GH hr (by rfl) gH FH.kp bH .nil pass0 (pa_cons (pv 0) (pa_cons (pv 1) pa_nil))))) (pa_cons (pv 0) pa_nil)))
      (pss_one (ps_ret (pe_bm PySem.F.plainAttrs_str PySem.F.slot_str_join PySem.F.type_str_join mt_join pe_str (pa_cons (pe_lc (own := [("one", 4), ("other", 5)]) (g := gTup K 2 (gCons (gName 4) (gCons (gName 5) gNil))) (by rfl) scLof.nd (pi_zipTxt (by rfl) mz (pa_cons (pv 2) (pa_cons (pv 3) pa_nil)))
        (blkOk_by (own := [("one", 4), ("other", 5)]) (N := ["size", "bits", "first", "second", "one", "other"]) (sc := defScope sLof) (by decide +kernel))
        (fun _ _ _ _ _ => pg_tup rfl (pgs_cons (pg_name (i := 4) scLof.nd rfl (Or.inl rfl)) (pgs_cons (pg_name (i := 5) scLof.nd rfl (Or.inl rfl)) pgs_nil))) (fun _ _ _ _ _ => pts_nil) (fun _ _ _ _ _ => pe_ix (r := rIxD K w) ix_kdict (pe_glob (v := .ref A) (by rfl) T.g rfl) (pe_op op_add_str (pv 4) (pv 5)) (fun _ _ => rfl))) pa_nil))))), ?_⟩
    have h1 : b >>> n < 2 ^ n := by
      rw [Nat.shiftRight_eq_div_pow]
      refine Nat.div_lt_of_lt_mul ?_
      rw [← Nat.pow_add]
      rw [show n + n = 2 * n by omega]
      exact hb
    have h2 : b % 2 ^ n < 2 ^ n := Nat.mod_lt _ (Nat.two_pow_pos n)
    have big : ∀ {x : Nat}, x < 2 ^ n → x < 2 ^ 1000 := fun h => Nat.lt_of_lt_of_le h (Nat.pow_le_pow_right (by decide) (by omega))
    refine ⟨fun σ' H' => σ' = [some (.int (n : Nat)), some (.int (b : Nat)), some (.str (mS (txB n (b >>> n)))), none, none, none] ∧ H' = H, ?_, ?_⟩
    · refine ⟨_, rfl, _, rfl, (b : Int), n, rfl, rfl, b >>> n, ?_, binT_le (big h1), rfl, _, rfl, _, _, rfl, rfl, pad_ok hn, ?_, rfl⟩
      · rw [Nat.shiftRight_eq_div_pow]
        push_cast
        rfl
      · rw [zf_bin n1 h1]
        rfl
    rintro _ H1 ⟨rfl, rfl⟩
    refine ⟨fun σ' H' => σ' = [some (.int (n : Nat)), some (.int (b : Nat)), some (.str (mS (txB n (b >>> n)))), some (.str (mS (txB n (b % 2 ^ n)))), none, none] ∧ H' = H1, ?_, ?_⟩
    · refine ⟨_, rfl, _, rfl, n, b, rfl, by omega, b % 2 ^ n, rfl, binT_le (big h2), rfl, _, rfl, _, _, rfl, rfl, pad_ok hn, ?_, rfl⟩
      rw [zf_bin n1 h2]
      rfl
    rintro _ H2 ⟨rfl, rfl⟩
    refine ⟨rfl, _, rfl, _, rfl, _, _, rfl, fun D nD => ?_⟩
    refine lc_it (walk_zipTxt (L := txB n (b >>> n)) (M := txB n (b % 2 ^ n)) (by rw [txB_len, txB_len])) (fun i Hc => Same H2 Hc ∧ Hc D = some (.lst (((sgs (LO n b)).map V.str).take i))) ⟨same_new nD, upd_same⟩ (fun _ _ _ _ => trivial) ?_ ?_
    · rintro i v Hc H' hi ⟨sc, ec⟩ ⟨T', x, y, rfl, nT, rfl, hx, hy⟩
      rw [txB_len] at hi
      obtain ⟨u, v, hu, hv, g1, g2, g3⟩ := LO_snoc (b := b) hi
      have hx' : ((txB n (b >>> n))[i]?).map (fun c => V.str ⟨#[c]⟩) = some x := hx
      have hy' : ((txB n (b % 2 ^ n))[i]?).map (fun c => V.str ⟨#[c]⟩) = some y := hy
      rw [g1] at hx'
      rw [g2] at hy'
      cases hx'
      cases hy'
      have nTD : T' ≠ D := fun z => by rw [z, ec] at nT; cases nT
      refine ⟨T', _, rfl, .inl (.inl upd_same), rfl, _, _, rfl, _, _, rfl, rfl, rfl, ?_⟩
      refine ⟨_, rfl, _, rfl, _, _, rfl, rfl, by show 1 + 1 ≤ sizeLine; decide, ?_⟩
      refine ⟨A, mS [48 + u, 48 + v], .str (mS [ltr u v]), rfl, by show V.str (mS [48 + u] ++ mS [48 + v]) = _; rw [e_two], T.at_ u v hu hv, _, (upd_ne nTD.symm).trans ec, ?_, ?_, ?_⟩
      · rw [List.length_take]
        exact Nat.lt_of_le_of_lt (by omega : _ ≤ 300) (by decide)
      · intro c o q'
        rw [upd_ne (ne_of_none q' nD), upd_ne (ne_of_none (sc _ _ q') nT)]
        exact sc _ _ q'
      · rw [upd_same]
        unfold sgs
        rw [← List.map_take, ← List.map_take, ← List.map_take, ← List.map_take, g3, List.map_append, List.map_append]
        rfl
    · rintro Hc ⟨sc, ec⟩
      have el : ((sgs (LO n b)).map V.str).length = n := by rw [List.length_map, sgs, List.length_map, LO_len]
      rw [txB_len, List.take_of_length_le (by rw [el]; exact Nat.le_refl _)] at ec
      refine ⟨_, D, sgs (LO n b), rfl, rfl, .inl (SqL.of ec), ?_, ?_⟩
      · rw [sgs_len, LO_len, show ("" : Str).length = 0 from by decide +kernel]
        omega
      · rw [join_sgs]
        exact q _ sc
end
section
variable {P : Program} {w : World} {K : PySem.W.Frag} {mg : Str → Option Value} {base : Heap}
theorem ok_from {f C CT fI fE fC fB hA : Addr} {fd dI dC dB : FuncData} (F : Fun K "string_from" "string_from" sFrom f fd) (N : PCl K mg C fI fE) (FI : Fun K "__init__" "Pauli.__init__" sInit fI dI) (bI : Binds K dI ["self", "text"] [])
    (FC : Fun K "_cut_text" "_cut_text" sCut fC dC) (bC : Binds K dC ["text"] []) (gC : mg "_cut_text" = some (.ref fC)) (TT : BT K mg CT fB dB) (hd : Hd4 K mg hA) (B : Bl mg) : FnOk P w K mg base (L2.CX P w) 6 f fd ["letters", "phase"] (spFrom C) := by
  have GI : FnOk P w K mg base (L2.CX P w) 4 fI dI ["self", "text"] (spInit C CT) := ok_init FI N FC bC gC TT hd B
  refine F.okX scFrom (fun vs H Q E h => ?_) (fun cdv A' outer s H vs Q E hr h => ?_)
  · obtain ⟨R, i, rfl, _⟩ := h
    rfl
  · obtain ⟨R, i, rfl, hR, h0, hl, q⟩ := h
    refine ⟨_, pss_one (ps_ret (pe_make N.mkf GI hr (by rfl) N.g bI .nil (passes_call (takes_of rfl rfl rfl rfl) (fun _ _ _ _ h => h)) (pa_cons (pe_op op_add_str (pe_ix ix_tup (pe_glob (v := .ref hA) (by rfl) hd.g rfl) (pe_op op_mod (pv 1) pe_int) (fun _ _ => rfl)) (pv 0)) pa_nil))), ?_⟩
    have hq4 : (i % 4).toNat < 4 := by omega
    have lh := headL_le hq4
    obtain ⟨u1, u2, u3⟩ := own_read hR h0 hq4
    refine ⟨_, rfl, _, _, rfl, rfl, by show (0 : Int) < 4; decide, hA, _, _, .str (mS (headL (i % 4).toNat)), rfl, rfl, hd.sq _, ?_, ?_⟩
    · have z : i % 4 = (((i % 4).toNat : Nat) : Int) := by omega
      rw [z]
      exact atI_nat (by rw [List.getElem?_map, head_at hq4]; rfl)
    refine ⟨_, rfl, _, _, rfl, rfl, ?_, fun x dx' nx nd ne => ?_⟩
    · rw [mS_len, mS_len]
      exact Nat.le_trans (by omega : _ ≤ 302) (by decide)
    refine ⟨x, dx', .str (mS (headL (i % 4).toNat ++ R)), by rw [← mS_app]; rfl, upd_same, .inl ⟨_, rfl, by rw [List.length_append]; omega, .inl ⟨u3, fun H' PX k => ⟨rfl, ?_⟩⟩⟩⟩
    rw [u1, u2] at PX
    exact q H' x (made_same nx nd k) PX
theorem ok_sof {f fL fS fH C CT fI fE fC fB hA lA : Addr} {fd dL dS dH dI dC dB : FuncData} (F : Fun K "string_of" "string_of" sSof f fd) (FS : Fun K "string_from" "string_from" sFrom fS dS) (bS : Binds K dS ["letters", "phase"] []) (gS : mg "string_from" = some (.ref fS))
    (FL : Fun K "letters_of" "letters_of" sLof fL dL) (bL : Binds K dL ["size", "bits"] []) (gL : mg "letters_of" = some (.ref fL)) (FH : Fun K "second_half" "second_half" sHalf fH dH) (bH : Binds K dH ["size", "bits"] []) (gH : mg "second_half" = some (.ref fH))
    (N : PCl K mg C fI fE) (FI : Fun K "__init__" "Pauli.__init__" sInit fI dI) (bI : Binds K dI ["self", "text"] [])
    (FC : Fun K "_cut_text" "_cut_text" sCut fC dC) (bC : Binds K dC ["text"] []) (gC : mg "_cut_text" = some (.ref fC)) (TT : BT K mg CT fB dB) (hd : Hd4 K mg hA) (T : Lets K w mg lA) (mz : mg "zip" = none) (B : Bl mg) :
    FnOk P w K mg base (L2.CX P w) 7 f fd ["size", "held"] (spSof C) := by
  have GS : FnOk P w K mg base (L2.CX P w) 6 fS dS ["letters", "phase"] (spFrom C) := ok_from FS N FI bI FC bC gC TT hd B
  have GL : FnOk P w K mg base CX0 6 fL dL ["size", "bits"] spLof := ok_lof FL FH bH gH T mz
  refine F.okX scSof (fun vs H Q E h => ?_) (fun cdv A' outer s H vs Q E hr h => ?_)
  · obtain ⟨n, a, h, rfl, _⟩ := h
    rfl
  · obtain ⟨n, a, h, rfl, hA, n1, hn, hb, q⟩ := h
    refine ⟨_, C8.pss_cut (ps_asg (pv 1) (pg_tup rfl (pgs_cons (pg_name (i := 2) scSof.nd rfl (.inl rfl)) (pgs_cons (pg_name (i := 3) scSof.nd rfl (.inl rfl)) pgs_nil))))
      (C8.pss_cut (ps_set (i := 4) scSof.nd rfl (.inl rfl) (pe_call GL hr (by rfl) gL FL.kp bL .nil pass0 (pa_cons (pv 0) (pa_cons (pv 2) pa_nil))))
      (pss_one (ps_ret (pe_call GS hr (by rfl) gS FS.kp bS .nil (passes_call (takes_of rfl rfl rfl rfl) (fun _ _ _ _ h => h)) (pa_cons (pv 4) (pa_cons (pe_op op_sub (pv 3) (pe_bm PySem.F.plainAttrs_str PySem.F.slot_str_count PySem.F.type_str_count mt_count (pv 4) (pa_cons pe_str pa_nil))) pa_nil)))))), ?_⟩
    refine ⟨fun σ' H' => σ' = [some (.int (n : Nat)), some (.ref a), some (.int (h.1 : Nat)), some (.int (h.2 : Nat)), none] ∧ H' = H, ⟨_, rfl, _, _, rfl, .inl (.inl hA), rfl, _, _, rfl, _, _, rfl, rfl, rfl, rfl⟩, ?_⟩
    rintro _ H1 ⟨rfl, rfl⟩
    refine ⟨fun σ' H' => σ' = [some (.int (n : Nat)), some (.ref a), some (.int (h.1 : Nat)), some (.int (h.2 : Nat)), some (.str (mS (LO n h.1)))] ∧ Same H1 H', ?_, ?_⟩
    · exact ⟨_, rfl, _, rfl, n, h.1, rfl, n1, hn, hb, fun H' s' => ⟨rfl, s'⟩⟩
    rintro _ H2 ⟨rfl, s2⟩
    have ec : Txt.count (mS (LO n h.1)) ("Y" : Str) = (((LO n h.1).count 89 : Nat) : Int) := by
      rw [e_Y]
      exact (PyProof.Rows.count_is _ _).trans (cnt_count 89 _)
    refine ⟨_, rfl, _, rfl, _, rfl, rfl, _, _, rfl, rfl, _, _, rfl, rfl, LO n h.1, (h.2 : Int) - (((LO n h.1).count 89 : Nat) : Int), ?_, LO_isL _ _, ?_, by rw [LO_len]; exact hn, fun H' x s' PX => q H' x (s2.trans s') PX⟩
    · rw [← ec]
      rfl
    · intro z
      have := congrArg List.length z
      rw [LO_len] at this
      simp at this
      omega
end
end KQ

namespace KQ
open PySem PySem.Spec PyProof.Rows L2
/-! ### the classes of errors -/
def RzX (C : Addr) (fs : List (Str × V)) (H : Hp) (E : XK) : Prop := ∀ d H', Same H H' → H' d = some (.xd fs) → E (.ref C) (some d) H'
def spInit2 (C : Addr) (f1 f2 : Str) : Sp := fun vs H Q _ => ∃ (a : Addr) (y0 y1 : V), vs = [.ref a, y0, y1] ∧ H a = some (exo a C none) ∧
  ∀ H' d, H d = none → d ≠ a → H' a = some (exo a C (some d)) → H' d = some (exd d [(f2, y1), (f1, y0)]) → (∀ b o, H b = some o → b ≠ a → H' b = some o) → Q .non H'
def spInit1 (C : Addr) (f1 : Str) : Sp := fun vs H Q _ => ∃ (a : Addr) (y0 : V), vs = [.ref a, y0] ∧ H a = some (exo a C none) ∧
  ∀ H' d, H d = none → d ≠ a → H' a = some (exo a C (some d)) → H' d = some (exd d [(f1, y0)]) → (∀ b o, H b = some o → b ≠ a → H' b = some o) → Q .non H'
structure EX2 (K : PySem.W.Frag) (mg : Str → Option Value) (cls q f1 f2 : Str) (st : Stmt) (C fB : Addr) (dB : FuncData) : Prop where
  ox : OexC K C
  ic : PySem.W.findIn K (.ref C) "__init__" = some (some (.ref fB))
  ti : PySem.W.typeIn K (.ref fB) = some (.type "function")
  n0 : PySem.W.findIn K (.ref C) f1 = some none
  n1 : PySem.W.findIn K (.ref C) f2 = some none
  g : mg cls = some (.ref C)
  F : Fun K "__init__" q st fB dB
  b : Binds K dB ["self", f1, f2] []
structure EX1 (K : PySem.W.Frag) (mg : Str → Option Value) (cls q f1 : Str) (st : Stmt) (C fB : Addr) (dB : FuncData) : Prop where
  ox : OexC K C
  ic : PySem.W.findIn K (.ref C) "__init__" = some (some (.ref fB))
  ti : PySem.W.typeIn K (.ref fB) = some (.type "function")
  n0 : PySem.W.findIn K (.ref C) f1 = some none
  g : mg cls = some (.ref C)
  F : Fun K "__init__" q st fB dB
  b : Binds K dB ["self", f1] []
theorem raise2 {C : Addr} {f1 f2 : Str} {y0 y1 : V} {H : Hp} {W : XK} (h : RzX C [(f2, y1), (f1, y0)] H W) : ∀ a, H a = none → spInit2 C f1 f2 (.ref a :: ([y0, y1] ++ [])) (upd H a (exo a C none))
    (fun v H2 => v = .non ∧ ∃ (d : Addr) (fs : List (Str × V)), H2 a = some (exo a C (some d)) ∧ H2 d = some (exd d fs) ∧ H d = none ∧ W (.ref C) (some d) (upd (del H2 a) d (.xd fs))) (fun _ _ _ => False) := by
  intro a na
  refine ⟨a, y0, y1, rfl, upd_same, fun H' d nd dne e1 e2 kp => ?_⟩
  have nd' : H d = none := by
    rw [upd_ne dne] at nd
    exact nd
  refine ⟨rfl, d, _, e1, e2, nd', h d _ (fun b o e => ?_) upd_same⟩
  have hba : b ≠ a := ne_of_none e na
  rw [upd_ne (ne_of_none e nd'), del_ne hba]
  exact kp b o (by rw [upd_ne hba]; exact e) hba
theorem raise1 {C : Addr} {f1 : Str} {y0 : V} {H : Hp} {W : XK} (h : RzX C [(f1, y0)] H W) : ∀ a, H a = none → spInit1 C f1 (.ref a :: ([y0] ++ [])) (upd H a (exo a C none))
    (fun v H2 => v = .non ∧ ∃ (d : Addr) (fs : List (Str × V)), H2 a = some (exo a C (some d)) ∧ H2 d = some (exd d fs) ∧ H d = none ∧ W (.ref C) (some d) (upd (del H2 a) d (.xd fs))) (fun _ _ _ => False) := by
  intro a na
  refine ⟨a, y0, rfl, upd_same, fun H' d nd dne e1 e2 kp => ?_⟩
  have nd' : H d = none := by
    rw [upd_ne dne] at nd
    exact nd
  refine ⟨rfl, d, _, e1, e2, nd', h d _ (fun b o e => ?_) upd_same⟩
  have hba : b ≠ a := ne_of_none e na
  rw [upd_ne (ne_of_none e nd'), del_ne hba]
  exact kp b o (by rw [upd_ne hba]; exact e) hba
abbrev sIBadNumber : Stmt := inClass (topS 8) 0
theorem scIBadNumber : FnScope ["self", "what", "number"] ["self", "what", "number"] (defScope sIBadNumber) := ⟨rfl, rfl, rfl, by decide +kernel, rfl, by decide +kernel, by decide +kernel⟩
abbrev sIUnlike : Stmt := inClass (topS 9) 0
theorem scIUnlike : FnScope ["self", "what"] ["self", "what"] (defScope sIUnlike) := ⟨rfl, rfl, rfl, by decide +kernel, rfl, by decide +kernel, by decide +kernel⟩
abbrev sIAnticommute : Stmt := inClass (topS 10) 0
theorem scIAnticommute : FnScope ["self", "one", "other"] ["self", "one", "other"] (defScope sIAnticommute) := ⟨rfl, rfl, rfl, by decide +kernel, rfl, by decide +kernel, by decide +kernel⟩
abbrev sIMinusOne : Stmt := inClass (topS 11) 0
theorem scIMinusOne : FnScope ["self", "indices"] ["self", "indices"] (defScope sIMinusOne) := ⟨rfl, rfl, rfl, by decide +kernel, rfl, by decide +kernel, by decide +kernel⟩
section
variable {P : Program} {w : World} {K : PySem.W.Frag} {mg : Str → Option Value} {base : Heap}
theorem okIBadNumber {C fB : Addr} {dB : FuncData} {k : Nat} (X : EX2 K mg "BadNumber" "BadNumber.__init__" "what" "number" sIBadNumber C fB dB) : FnOk P w K mg base CX0 (k + 1) fB dB ["self", "what", "number"] (spInit2 C "what" "number") := by
  refine X.F.ok scIBadNumber (fun vs H Q E h => ?_) (fun cdv A outer s H vs Q E hr h => ?_)
  · obtain ⟨a, y0, y1, rfl, _⟩ := h
    rfl
  · obtain ⟨a, y0, y1, rfl, ha, q⟩ := h
    refine ⟨_, pss_cons (ps_ost (pv 0) (pv 1) rfl) (pss_one (ps_ost (pv 0) (pv 2) rfl)), ?_⟩
    refine ⟨_, rfl, _, rfl, a, C, rfl, X.ox, X.n0, .inl ⟨ha, fun dx nx dne => ?_⟩⟩
    refine ⟨_, rfl, _, rfl, a, C, rfl, X.ox, X.n1, .inr ⟨dx, _, upd_same, by rw [upd_ne dne]; exact upd_same, by show _ ≤ 900; exact Nat.le_of_ble_eq_true rfl, ?_⟩⟩
    exact q _ dx nx dne (by rw [upd_ne dne.symm]; exact upd_same) upd_same (fun b o e hb => by rw [upd_ne (ne_of_none e nx), upd_ne hb, upd_ne (ne_of_none e nx)]; exact e)
theorem okIUnlike {C fB : Addr} {dB : FuncData} {k : Nat} (X : EX1 K mg "Unlike" "Unlike.__init__" "what" sIUnlike C fB dB) : FnOk P w K mg base CX0 (k + 1) fB dB ["self", "what"] (spInit1 C "what") := by
  refine X.F.ok scIUnlike (fun vs H Q E h => ?_) (fun cdv A outer s H vs Q E hr h => ?_)
  · obtain ⟨a, y0, rfl, _⟩ := h
    rfl
  · obtain ⟨a, y0, rfl, ha, q⟩ := h
    refine ⟨_, pss_one (ps_ost (pv 0) (pv 1) rfl), ?_⟩
    refine ⟨_, rfl, _, rfl, a, C, rfl, X.ox, X.n0, .inl ⟨ha, fun dx nx dne => ?_⟩⟩
    exact q _ dx nx dne upd_same (by rw [upd_ne dne]; exact upd_same) (fun b o e hb => by rw [upd_ne hb, upd_ne (ne_of_none e nx)]; exact e)
theorem okIAnticommute {C fB : Addr} {dB : FuncData} {k : Nat} (X : EX2 K mg "Anticommute" "Anticommute.__init__" "one" "other" sIAnticommute C fB dB) : FnOk P w K mg base CX0 (k + 1) fB dB ["self", "one", "other"] (spInit2 C "one" "other") := by
  refine X.F.ok scIAnticommute (fun vs H Q E h => ?_) (fun cdv A outer s H vs Q E hr h => ?_)
  · obtain ⟨a, y0, y1, rfl, _⟩ := h
    rfl
  · obtain ⟨a, y0, y1, rfl, ha, q⟩ := h
    refine ⟨_, pss_cons (ps_ost (pv 0) (pv 1) rfl) (pss_one (ps_ost (pv 0) (pv 2) rfl)), ?_⟩
    refine ⟨_, rfl, _, rfl, a, C, rfl, X.ox, X.n0, .inl ⟨ha, fun dx nx dne => ?_⟩⟩
    refine ⟨_, rfl, _, rfl, a, C, rfl, X.ox, X.n1, .inr ⟨dx, _, upd_same, by rw [upd_ne dne]; exact upd_same, by show _ ≤ 900; exact Nat.le_of_ble_eq_true rfl, ?_⟩⟩
    exact q _ dx nx dne (by rw [upd_ne dne.symm]; exact upd_same) upd_same (fun b o e hb => by rw [upd_ne (ne_of_none e nx), upd_ne hb, upd_ne (ne_of_none e nx)]; exact e)
theorem okIMinusOne {C fB : Addr} {dB : FuncData} {k : Nat} (X : EX1 K mg "MinusOne" "MinusOne.__init__" "indices" sIMinusOne C fB dB) : FnOk P w K mg base CX0 (k + 1) fB dB ["self", "indices"] (spInit1 C "indices") := by
  refine X.F.ok scIMinusOne (fun vs H Q E h => ?_) (fun cdv A outer s H vs Q E hr h => ?_)
  · obtain ⟨a, y0, rfl, _⟩ := h
    rfl
  · obtain ⟨a, y0, rfl, ha, q⟩ := h
    refine ⟨_, pss_one (ps_ost (pv 0) (pv 1) rfl), ?_⟩
    refine ⟨_, rfl, _, rfl, a, C, rfl, X.ox, X.n0, .inl ⟨ha, fun dx nx dne => ?_⟩⟩
    exact q _ dx nx dne upd_same (by rw [upd_ne dne]; exact upd_same) (fun b o e hb => by rw [upd_ne hb, upd_ne (ne_of_none e nx)]; exact e)
end
end KQ

namespace KQ
open PySem PySem.Spec PyProof.Rows L2
/-! ### sorted(xs, reverse=True), xs a list of pairs of whole numbers -/
def rSortedPR (K : PySem.W.Frag) : List V → List V → Hp → VK → Prop := fun vs zs H Q => ∃ (a : Addr) (xs : List V) (k : V → Int × Int), vs = [V.ref a] ∧ zs = [.bl true] ∧ SqL K H a xs ∧
  (∀ x ∈ xs, ∃ t, x = V.ref t ∧ H t = some (.tup [.int (k x).1, .int (k x).2])) ∧ ∀ ys p, SrtO.Srtd (ltP k) ys → ys.Perm xs → H p = none → Q (.ref p) (upd H p (.lst ys.reverse))
theorem cr_sortedPR {X : Cx} : CallRK X (.builtin "sorted") [Str.ofString "reverse"] (rSortedPR X.K) := by
  rintro pins s σ H _ _ us ws Q I r rz ⟨a, xs, k, rfl, rfl, hs, hx, q⟩
  obtain ⟨its, rv, hl, hz⟩ := I.list hs
  obtain rfl := Vals.ref1 r
  obtain ⟨w1, rfl, e1⟩ := vals1 rz
  obtain rfl : w1 = Value.bool true := e1
  obtain ⟨f1, f2⟩ := refs_back rv fun x m => let ⟨t, e, _⟩ := hx x m; ⟨t, e⟩
  have pairs : ∀ v ∈ its, Srt.IsPair s.heap v (k (backV v)).1 (k (backV v)).2 := fun v hv => by
    obtain ⟨t, rfl⟩ := f2 v hv
    obtain ⟨t', e, ht⟩ := hx (V.ref t) (f1 ▸ List.mem_map.mpr ⟨_, hv, rfl⟩)
    cases e
    obtain ⟨_, its2, r2, o, ho, hc, n, hd⟩ := I.hok _ _ ht
    obtain ⟨u1, u2, rfl, ⟨t1, rfl⟩, ⟨t2, rfl⟩⟩ := vals2 r2
    exact ⟨t, o, t1, t2, n, rfl, ho, hc, hd⟩
  refine SrtR.sorted_ordK (b := true) (fun _ => rfl) (PyProof.Rows.args_sorted_rev _ _) (fun _ => PyProof.Rows.args_list_sort_rev _ _) (SrtO.swo_lex fun u => k (backV u)) hl.isList (rv.length ▸ hz) (fun h2 h₁ a ha kk => ?_) fun out h1 h2 => ?_
  · refine SrtO.pairs_sortableO (s := { s with heap := h₁ }) (by omega) (fun v hm => (pairs v hm).keeps fun b o e _ => (kk b o e).2) fun o e c => ?_
    cases e.symm.trans ha
    exact absurd (Value.type.inj c) (by decide)
  · have pm : out.Perm its := h2.perm.trans (List.reverse_perm its)
    obtain ⟨n, hn⟩ := PyProof.Rows.sortedAll_at s.heap its out.toArray.reverse
    have back : Vals (out.reverse.map backV) out.reverse := vals_back fun u hu => f2 u (pm.mem_iff.mp (List.mem_reverse.mp hu))
    have pm2 : (out.map backV).Perm xs := f1 ▸ pm.map backV
    have len : (out.reverse.map backV).length ≤ sizeLine := by
      rw [List.length_map, List.length_reverse, pm.length_eq, ← rv.length]
      exact hz
    refine ⟨.ref (s.heap.objs.size + 1), upd H (s.heap.objs.size + 1) (.lst (out.reverse.map backV)), I.laid (t' := s.toks) (fun _ _ => PyProof.Rows.sortedAll_old) (Nat.le_succ _) ⟨len, out.reverse, n, back, ?_⟩, rfl, ?_⟩
    · rw [← List.reverse_toArray]
      exact hn
    · have := q (out.map backV) (s.heap.objs.size + 1) (SrtO.srtd_map h1) pm2 (I.hok.fresh (Nat.le_succ _))
      rwa [← List.map_reverse] at this
end KQ

namespace KQ
open PySem PySem.Spec PyProof.Rows L2
/-! ### the rows of a group: reduced, and held against each other -/
abbrev sChk : Stmt := topS 34
abbrev sLowG : Stmt := topS 36
abbrev sIdx : Stmt := topS 38
theorem scChk : FnScope ["size", "rows", "index", "bits", "crossed"] ["size", "rows"] (defScope sChk) := ⟨rfl, rfl, rfl, by decide +kernel, rfl, by decide +kernel, by decide +kernel⟩
theorem scLowG : FnScope ["size", "held", "table", "row"] ["size", "held", "table"] (defScope sLowG) := ⟨rfl, rfl, rfl, by decide +kernel, rfl, by decide +kernel, by decide +kernel⟩
theorem scIdx : FnScope ["given", "kept", "index", "chosen", "k"] ["given", "kept", "index"] (defScope sIdx) := ⟨rfl, rfl, rfl, by decide +kernel, rfl, by decide +kernel, by decide +kernel⟩
theorem cutV_to (xs : List V) (k : Nat) : cutV xs none (some (k : Int)) = xs.take k := by
  unfold cutV
  rw [HT.sIx_none, HT.sIx_nat, List.drop_zero, Nat.sub_zero]
  by_cases h : k ≤ xs.length
  · rw [Nat.min_eq_left h]
  · rw [Nat.min_eq_right (by omega), List.take_of_length_le (Nat.le_refl _), List.take_of_length_le (by omega)]
section
variable {X : Cx}
theorem flat_ints (ys : List Int) : (ys.map V.int).all flatV = true := by
  rw [List.all_map]
  exact List.all_eq_true.mpr fun _ _ => rfl
theorem mt_tup_indexI : MtR X "tuple.index" (fun x xs H Q => ∃ p, ∃ ys : List Int, ∃ z j, x = .ref p ∧ xs = [.int z] ∧ SqT X.K H p (ys.map V.int) ∧ ys[j]? = some z ∧ (∀ m, m < j → ys[m]? ≠ some z) ∧ Q (.int (j : Nat)) H) := by
  intro pins s σ H x xs v us Q I rx rs h
  obtain ⟨p, ys, z, j, rfl, rfl, hq, hy, hno, q⟩ := h
  cases rx
  obtain ⟨u, rfl, t, rfl⟩ := vals1 rs
  obtain ⟨its, r, pl, hz⟩ := I.tuple hq
  have rl : its.length = ys.length := by rw [← r.length, List.length_map]
  have hat : ∀ m (hm : m < its.toArray.size), ∃ t', ∃ y, ys[m]? = some y ∧ its.toArray[m] = Value.int y t' := fun m hm => by
    have hm' : m < ys.length := by rw [← rl]; simpa using hm
    obtain ⟨w, hw, t', hw'⟩ := r.get (i := m) (x := .int ys[m]) (by simp [hm'])
    refine ⟨t', ys[m], List.getElem?_eq_getElem hm', ?_⟩
    rw [← hw', ← (List.getElem?_eq_some_iff.mp hw).2]
    simp
  have hj : j < its.toArray.size := by
    rw [List.size_toArray, rl]
    exact (List.getElem?_eq_some_iff.mp hy).1
  obtain ⟨⟨cls, dd, dt, sl⟩, ho, hc, n, hd⟩ := pl
  obtain rfl : cls = .type "tuple" := hc
  obtain rfl : dt = .seq its.toArray n := hd
  refine call_meets PySem.F.slot_tuple_index ⟨_, ho, rfl⟩ PySem.F.entry_tuple_index (PySem.F.args_tuple_index_2 _ _) (TI.tuple_indexAt p its.toArray n dd sl (.int z t) (eqU (.int z)) j hj ?_ ?_)
    ⟨ho, fun w hw => mem_eqAt (x := .int z) ⟨t, rfl⟩ rfl r (flat_ints ys) w (by simpa using hw), ⟨.int (j : Nat), H, I.tok _, ⟨_, rfl⟩, q⟩⟩
  · obtain ⟨t', y, h1, h2⟩ := hat j hj
    rw [hy] at h1
    cases h1
    rw [h2]
    show eqV (.int z) (.int z) = true
    unfold eqV
    simp
  · intro m hm hmj
    obtain ⟨t', y, h1, h2⟩ := hat m hm
    rw [h2]
    refine Bool.eq_false_iff.mpr fun e => hno m hmj ?_
    have e : eqV (.int y) (.int z) = true := e
    unfold eqV at e
    have : y = z := by simpa using e
    rw [h1, this]
end

theorem at_pair0 (a b : V) : atI [a, b] 0 = some a := at_of (j := 0) rfl rfl
theorem at_pair1 (a b : V) : atI [a, b] 1 = some b := at_of (j := 1) rfl rfl
abbrev GLs := List (Addr × Hl)
def HlsAt (H : Hp) (L : GLs) : Prop := ∀ p ∈ L, HlAt H p.1 p.2
def refH (L : GLs) : List V := L.map fun p => V.ref p.1
def hls (L : GLs) : List Hl := L.map (·.2)
theorem HlsAt.same {H H' : Hp} {L : GLs} (s : Same H H') (h : HlsAt H L) : HlsAt H' L := fun p hp => s _ _ (h p hp)
theorem refH_at {L : GLs} {i : Nat} {v : V} (h : (refH L)[i]? = some v) : ∃ p, L[i]? = some p ∧ v = .ref p.1 := by
  unfold refH at h
  rw [List.getElem?_map] at h
  obtain ⟨p, hp, rfl⟩ := Option.map_eq_some_iff.mp h
  exact ⟨p, hp, rfl⟩
theorem rsH_lt {n B : Nat} : ∀ {T : List Hl} {h : Hl}, h.1 < 2 ^ B → (∀ r ∈ T, r.1 < 2 ^ B) → (rsH n T h).1 < 2 ^ B
  | [], h, hh, _ => hh
  | r :: T, h, hh, hT => by
    refine rsH_lt (T := T) (h := lwH n h r) ?_ fun q hq => hT q (List.mem_cons_of_mem _ hq)
    unfold lwH
    split
    · exact Nat.xor_lt_two_pow hh (hT r (List.mem_cons_self ..))
    · exact hh
def spLowG (K : PySem.W.Frag) : Sp := fun vs H Q _ => ∃ (n : Nat) (a t : Addr) (h : Hl) (L : GLs), vs = [.int (n : Nat), .ref a, .ref t] ∧ HlAt H a h ∧ SqL K H t (refH L) ∧ HlsAt H L ∧ h.1 < 2 ^ 1000 ∧ (∀ p ∈ L, p.2.1 < 2 ^ 1000) ∧ n ≤ 1000 ∧
  ∀ H' x, Same H H' → HlAt H' x (rsH n (hls L) h) → Q (.ref x) H'
section
variable {P : Program} {w : World} {K : PySem.W.Frag} {mg : Str → Option Value} {base : Heap}
theorem ok_lowG {f fM fP : Addr} {fd dM dP : FuncData} {k : Nat} (F : Fun K "_lowered" "_lowered" sLowG f fd) (FM : Fun K "held_product" "held_product" sHprod fM dM) (bM : Binds K dM ["size", "one", "other"] []) (gM : mg "held_product" = some (.ref fM))
    (FP : Fun K "parity" "parity" sPar fP dP) (bP : Binds K dP ["number"] []) (gP : mg "parity" = some (.ref fP)) : FnOk P w K mg base CX0 (k + 3) f fd ["size", "held", "table"] (spLowG K) := by
  have GM : FnOk P w K mg base CX0 (k + 2) fM dM ["size", "one", "other"] spHprod := ok_hprod FM FP bP gP
  refine F.ok scLowG (fun vs H Q E h => ?_) (fun cdv A outer s H vs Q E hr h => ?_)
  · obtain ⟨n, a, t, h, L, rfl, _⟩ := h
    rfl
  · obtain ⟨n, a, t, h, L, rfl, hA, hS, hL, hb, hbL, hn, q⟩ := h
    refine ⟨_, C8.pss_cut (ps_for PassesOwn.never rfl (pi_list (pv 2)) (pg_name (i := 3) scLowG.nd rfl (.inl rfl))
        (pss_one (ps_if (pt_cmpR op_lt (pe_op op_xor (pe_ix ix_tup (pv 1) pe_int (fun _ _ => rfl)) (pe_ix ix_tup (pv 3) pe_int (fun _ _ => rfl))) (pe_ix ix_tup (pv 1) pe_int (fun _ _ => rfl)) (nomark _))
          (pss_one (ps_set (i := 1) scLowG.nd rfl (.inl rfl) (pe_call GM hr (by rfl) gM FM.kp bM .nil pass0 (pa_cons (pv 0) (pa_cons (pv 1) (pa_cons (pv 3) pa_nil)))))) pss_nil)))
      (pss_one (ps_ret (pv 1))), ?_⟩
    refine ⟨fun σ' H' => ∃ (x : Addr) (v : Option V), σ' = [some (.int (n : Nat)), some (.ref x), some (.ref t), v] ∧ Same H H' ∧ HlAt H' x (rsH n (hls L) h), ?_, ?_⟩
    · refine ⟨_, rfl, t, rfl, ⟨_, hS⟩, for_list (K := K) (a := t) (xs := refH L) (fun i σ H' => ∃ (x : Addr) (v : Option V), σ = [some (.int (n : Nat)), some (.ref x), some (.ref t), v] ∧ Same H H' ∧ HlAt H' x (rsH n (hls (L.take i)) h))
        ⟨a, none, rfl, fun _ _ e => e, hA⟩ (fun i σ H' _ ⟨_, _, _, s1, _⟩ => Same.seq s1 hS) ?_ ?_⟩
      · rintro i y σ H' hi ⟨x, v, rfl, s1, hx⟩
        obtain ⟨p, hp, rfl⟩ := refH_at hi
        have hm := List.mem_of_getElem? hp
        have hy := hL.same s1 p hm
        have lt : (rsH n (hls (L.take i)) h).1 < 2 ^ 1000 := rsH_lt hb fun r hr => by
          obtain ⟨q', hq', rfl⟩ := List.mem_map.mp hr
          exact hbL q' (List.mem_of_mem_take hq')
        have e : rsH n (hls (L.take (i + 1))) h = lwH n (rsH n (hls (L.take i)) h) p.2 := by
          rw [take_snoc hp]
          unfold hls rsH
          rw [List.map_append, List.foldl_append]
          rfl
        rw [e]
        generalize rsH n (hls (L.take i)) h = g at hx lt
        refine ⟨_, rfl, x, _, _, _, rfl, rfl, .inl (.inl hx), at_pair0 _ _, _, rfl, p.1, _, _, _, rfl, rfl, .inl (.inl hy), at_pair0 _ _, _, _, rfl, rfl, _, rfl, x, _, _, _, rfl, rfl, .inl (.inl hx), at_pair0 _ _, _, _, rfl, rfl, _, rfl, ?_⟩
        rw [bxor]
        unfold lwH
        by_cases c : g.1 ^^^ p.2.1 < g.1
        · rw [decide_eq_true (by omega), if_pos c]
          exact iteT ⟨_, rfl, _, rfl, _, rfl, n, x, p.1, g, p.2, rfl, hx, hy, lt, hn, fun H2 z s2 _ hz => ⟨z, _, rfl, s1.trans s2, hz⟩⟩
        · rw [decide_eq_false (by omega), if_neg c]
          exact iteF ⟨x, _, rfl, s1, hx⟩
      · rintro σ H' ⟨x, v, rfl, s1, hx⟩
        rw [List.take_of_length_le (by unfold refH; rw [List.length_map]; exact Nat.le_refl _)] at hx
        exact ⟨x, v, rfl, s1, hx⟩
    rintro _ H1 ⟨x, v, rfl, s1, hx⟩
    exact ⟨_, rfl, q _ x s1 hx⟩
end
end KQ

namespace KQ
open PySem PySem.Spec PyProof.Rows L2
/-- do the rows i and j meet oddly -/
def xg (n : Nat) (bs : List Nat) (i j : Nat) : Nat := pc (ex n (bs.getD j 0) &&& bs.getD i 0) % 2
theorem inV_one : ∀ cl : List Nat, inV (.int 1) (natV cl) = decide (1 ∈ cl)
  | [] => rfl
  | b :: cl => by
    show (((b : Int) == 1) || inV (.int 1) (natV cl)) = _
    rw [inV_one cl]
    by_cases h : b = 1
    · subst h
      simp
    · have e : ((b : Int) == 1) = false := beq_eq_false_iff_ne.mpr (by omega)
      rw [e, Bool.false_or]
      congr 1
      simp [List.mem_cons, Ne.symm h]
theorem first_at : ∀ {l : List Nat}, 1 ∈ l → ∃ i : Nat, l[i]? = some 1 ∧ ∀ m : Nat, m < i → l[m]? ≠ some 1
  | [], h => by cases h
  | b :: l, h => by
    by_cases e : b = 1
    · exact ⟨0, by rw [e]; rfl, fun m hm => by omega⟩
    · obtain ⟨i, h1, h2⟩ := first_at (l := l) (by
        rcases List.mem_cons.mp h with q | q
        · exact absurd q.symm e
        · exact q)
      refine ⟨i + 1, h1, fun m hm => ?_⟩
      cases m with
      | zero => exact fun z => e (Option.some.inj z)
      | succ m => exact h2 m (by omega)
def spChk (K : PySem.W.Frag) (CA : Addr) : Sp := fun vs H Q E => ∃ (n : Nat) (t : Addr) (bs : List Nat), vs = [.int (n : Nat), .ref t] ∧ SqL K H t (natV bs) ∧ n ≤ 300 ∧ bs.length ≤ 100 ∧ (∀ b ∈ bs, b < 2 ^ (2 * n)) ∧
  ((∀ i j, i < j → j < bs.length → xg n bs i j = 0) → ∀ H', Same H H' → Q .non H') ∧
  (∀ i j, i < j → j < bs.length → xg n bs i j = 1 → (∀ i', i' < i → xg n bs i' j = 0) → (∀ i' j', i' < j' → j' < j → xg n bs i' j' = 0) → RzX CA [("other", .int (j : Nat)), ("one", .int (i : Nat))] H E)
section
variable {P : Program} {w : World} {K : PySem.W.Frag} {mg : Str → Option Value} {base : Heap}
theorem ok_chk {f fX fT fH fP CA fA : Addr} {fd dX dT dH dP dA : FuncData} (F : Fun K "_check_commuting" "_check_commuting" sChk f fd) (FX : Fun K "crossing" "crossing" sCrossg fX dX) (bX : Binds K dX ["size", "bits", "others"] []) (gX : mg "crossing" = some (.ref fX))
    (FT : Fun K "bit_tuple" "bit_tuple" sBits fT dT) (bT : Binds K dT ["number", "many"] []) (gT : mg "bit_tuple" = some (.ref fT))
    (FH : Fun K "second_half" "second_half" sHalf fH dH) (bH : Binds K dH ["size", "bits"] []) (gH : mg "second_half" = some (.ref fH))
    (FP : Fun K "parity" "parity" sPar fP dP) (bP : Binds K dP ["number"] []) (gP : mg "parity" = some (.ref fP))
    (XA : EX2 K mg "Anticommute" "Anticommute.__init__" "one" "other" sIAnticommute CA fA dA) (B : Bl mg) : FnOk P w K mg base (L2.CX P w) 4 f fd ["size", "rows"] (spChk K CA) := by
  have GX : FnOk P w K mg base CX0 3 fX dX ["size", "bits", "others"] (spCrossg K) := ok_crossg FX FH bH gH FP bP gP
  have GT : FnOk P w K mg base CX0 3 fT dT ["number", "many"] spBits := ok_bits FT B
  have GA : FnOk P w K mg base CX0 2 fA dA ["self", "one", "other"] (spInit2 CA "one" "other") := okIAnticommute XA
  refine F.okX scChk (fun vs H Q E h => ?_) (fun cdv A outer s H vs Q E hr h => ?_)
  · obtain ⟨n, t, bs, rfl, _⟩ := h
    rfl
  · obtain ⟨n, t, bs, rfl, hS, hn, hl, hb, q0, q1⟩ := h
    refine ⟨_, C8.pss_cut (ps_for (passes_of rfl) rfl (pi_enum (by rfl) B.enum (pa_cons (pv 1) pa_nil)) (pg_tup rfl (pgs_cons (pg_name (i := 2) scChk.nd rfl (.inl rfl)) (pgs_cons (pg_name (i := 3) scChk.nd rfl (.inl rfl)) pgs_nil)))
        (C8.pss_cut (ps_set (i := 4) scChk.nd rfl (.inl rfl) (pe_call GT hr (by rfl) gT FT.kp bT .nil pass0 (pa_cons (pe_call GX hr (by rfl) gX FX.kp bX .nil pass0 (pa_cons (pv 0) (pa_cons (pv 3) (pa_cons (pe_slice sl_list (pv 1) po_none (po_some (pv 2))) pa_nil)))) (pa_cons (pv 2) pa_nil))))
        (pss_one (ps_if (pt_cmpR op_in_seq pe_int (pv 4) (by rfl))
          (pss_one (ps_raise rfl (takes_of rfl rfl rfl rfl) (pmk_oex XA.ox XA.ic XA.ti GA hr XA.b .nil pass0 (by rfl) XA.g (pa_cons (pe_bmT PySem.F.slot_tuple_index PySem.F.type_tuple_index mt_tup_indexI (pv 4) (pa_cons pe_int pa_nil)) (pa_cons (pv 2) pa_nil))))) pss_nil))))
      pss_nil, ?_⟩
    refine ⟨fun σ' H' => (∃ v2 v3 v4 : Option V, σ' = [some (.int (n : Nat)), some (.ref t), v2, v3, v4]) ∧ Same H H' ∧ ∀ i j, i < j → j < bs.length → xg n bs i j = 0, ?_, ?_⟩
    · refine ⟨_, rfl, t, _, rfl, hS, L2.for_it (walk_enum (K := K) (a := t) (xs := natV bs)) (fun i σ H' => (∃ v2 v3 v4 : Option V, σ = [some (.int (n : Nat)), some (.ref t), v2, v3, v4]) ∧ Same H H' ∧ ∀ i' j', i' < j' → j' < i → xg n bs i' j' = 0)
        ⟨⟨none, none, none, rfl⟩, fun _ _ e => e, fun i j h1 h2 => by omega⟩ (fun i σ H' _ ⟨_, s1, _⟩ => Same.seq s1 hS) ?_ ?_⟩
      · rintro j x _ H2 H3 hj ⟨⟨v2, v3, v4, rfl⟩, s1, hz⟩ ⟨T, x1, x2, rfl, nT, rfl, g1, g2⟩
        cases Option.some.inj g1
        obtain ⟨b, hb', rfl⟩ := natV_at g2
        have hjl : j < bs.length := (List.getElem?_eq_some_iff.mp hb').1
        have s3 := s1.trans (same_new (o := .tup [.int (j : Nat), .int (b : Nat)]) nT)
        have eT : (upd H2 T (.tup [.int (j : Nat), .int (b : Nat)])) T = some (.tup [.int (j : Nat), .int (b : Nat)]) := upd_same
        generalize upd H2 T (.tup [.int (j : Nat), .int (b : Nat)]) = H3 at s3 eT ⊢
        refine ⟨T, _, rfl, .inl (.inl eT), rfl, _, _, rfl, _, _, rfl, rfl, ?_⟩
        have gb : bs.getD j 0 = b := by rw [List.getD_eq_getElem?_getD, hb']; rfl
        have tl : (bs.take j).length = j := by rw [List.length_take]; omega
        let cl := (bs.take j).map fun o => pc (ex n b &&& o) % 2
        have cll : cl.length = j := by rw [List.length_map, tl]
        have clb : ∀ c ∈ cl, c < 2 := fun c hc => by
          obtain ⟨o, _, rfl⟩ := List.mem_map.mp hc
          exact Nat.mod_lt _ (by decide)
        have cat : ∀ i, i < j → cl[i]? = some (xg n bs i j) := fun i hi => by
          have e : bs[i]? = some (bs.getD i 0) := by rw [List.getD_eq_getElem?_getD, List.getElem?_eq_getElem (by omega : i < bs.length)]; rfl
          show ((bs.take j).map fun o => pc (ex n b &&& o) % 2)[i]? = _
          rw [List.getElem?_map, List.getElem?_take_of_lt hi, e]
          unfold xg
          rw [gb]
          rfl
        have ecl : rowV j (nb 0 cl) = natV cl := by
          have := row_nb cl clb
          rw [cll] at this
          unfold rowV natV
          rw [this]
        refine ⟨fun σ' H' => ∃ p, σ' = [some (.int (n : Nat)), some (.ref t), some (.int (j : Nat)), some (.int (b : Nat)), some (.ref p)] ∧ Same H H' ∧ FzT H' p (natV cl), ?_, ?_⟩
        · refine ⟨_, rfl, _, rfl, _, rfl, _, rfl, _, rfl, t, _, rfl, Same.seq s3 hS, fun p np => ?_⟩
          refine ⟨n, b, p, bs.take j, rfl, ?_, hn, hb b (List.mem_of_getElem? hb'), _, rfl, nb 0 cl, j, rfl, by omega, fun p' H' s4 _ fz => ⟨p', rfl, ?_, ecl ▸ fz⟩⟩
          · rw [cutV_to]
            unfold natV
            rw [List.map_take]
            exact SqL.of upd_same
          · exact (s3.trans (same_new np)).trans s4
        rintro _ H4 ⟨p, rfl, s4, fz⟩
        obtain ⟨o, o1, o2, o3⟩ := id fz
        refine ⟨_, rfl, p, natV cl, rfl, .inr (TupIs.sq (.inr fz)), rfl, ?_, ?_⟩
        · rw [natV_int]
          exact flat_ints _
        refine ⟨decide (1 ∈ cl), by show V.bl (inV (.int 1) (natV cl)) = _; rw [inV_one], ?_⟩
        by_cases h1 : 1 ∈ cl
        · rw [decide_eq_true h1]
          obtain ⟨i, hi, hno⟩ := first_at h1
          have il : i < j := by
            have := (List.getElem?_eq_some_iff.mp hi).1
            omega
          have two : ∀ i', i' < j → xg n bs i' j < 2 := fun i' _ => Nat.mod_lt _ (by decide)
          have ei : xg n bs i j = 1 := by
            rw [cat i il] at hi
            exact Option.some.inj hi
          have zero : ∀ i', i' < i → xg n bs i' j = 0 := fun i' h => by
            have n1 := hno i' h
            rw [cat i' (by omega)] at n1
            have n2 : xg n bs i' j ≠ 1 := fun z => n1 (by rw [z])
            have := two i' (by omega)
            omega
          have R := q1 i j il hjl ei zero hz
          refine iteT ⟨_, rfl, ⟨p, _, rfl, fz⟩, p, cl.map (fun b => ((b : Nat) : Int)), 1, i, rfl, rfl, by rw [← natV_int]; exact TupIs.sq (.inr fz), ?_, fun m hm => ?_, _, rfl, by show 2 ≤ 1000; decide, raise2 (fun d H' s' e => R d H' (s4.trans s') e)⟩
          · rw [List.getElem?_map, hi]
            rfl
          · rw [List.getElem?_map, cat m (by omega), zero m hm]
            decide
        · rw [decide_eq_false h1]
          refine iteF ⟨⟨_, _, _, rfl⟩, s4, fun i' j' h h' => ?_⟩
          by_cases e : j' < j
          · exact hz i' j' h e
          · have ej : j' = j := by omega
            subst ej
            have n2 : xg n bs i' j' ≠ 1 := fun z => h1 (by rw [← z]; exact List.mem_of_getElem? (cat i' h))
            have : xg n bs i' j' < 2 := Nat.mod_lt _ (by decide)
            omega
      · rintro σ H2 ⟨hv, s1, hz⟩
        rw [natV_len] at hz
        exact ⟨hv, s1, hz⟩
    rintro _ H1 ⟨⟨v2, v3, v4, rfl⟩, s1, hz⟩
    exact q0 hz _ s1
end
end KQ

namespace KQ
open PySem PySem.Spec PyProof.Rows L2
/-- the numbers of the kept ones among the given -/
def kb (gs : List Hl) (ks : List Nat) : List Nat := ks.map fun k => (gs.getD k (0, 0)).1
def spIdx (K : PySem.W.Frag) : Sp := fun vs H Q _ => ∃ (tg tk : Addr) (L : GLs) (ks : List Nat) (i : Nat), vs = [.ref tg, .ref tk, .int (i : Nat)] ∧ SqL K H tg (refH L) ∧ HlsAt H L ∧ SqL K H tk (natV ks) ∧ (∀ k ∈ ks, k < L.length) ∧ i < L.length ∧ L.length ≤ 100 ∧ ks.length ≤ 100 ∧
  Spn (kb (hls L) ks) ((hls L).getD i (0, 0)).1 ∧ ∀ mk H' p, mk < 2 ^ ks.length → sx (kb (hls L) ks) mk = ((hls L).getD i (0, 0)).1 → Same H H' → H p = none →
    H' p = some (.tup (natV (((List.range ks.length).filter (mk.testBit ·)).map (ks.getD · 0) ++ [i]))) → Q (.ref p) H'
theorem atI_ref {L : GLs} {i : Nat} (h : i < L.length) : ∃ p, L[i]? = some p ∧ atI (refH L) (i : Nat) = some (.ref p.1) ∧ (hls L).getD i (0, 0) = p.2 := by
  have e : L[i]? = some L[i] := List.getElem?_eq_getElem h
  refine ⟨L[i], e, atI_nat (by unfold refH; rw [List.getElem?_map, e]; rfl), ?_⟩
  unfold hls
  rw [List.getD_eq_getElem?_getD, List.getElem?_map, e]
  rfl
section
variable {P : Program} {w : World} {K : PySem.W.Frag} {mg : Str → Option Value} {base : Heap}
theorem ok_idx {f fC fL : Addr} {fd dC dL : FuncData} {k : Nat} (F : Fun K "_indices" "_indices" sIdx f fd) (FC : Fun K "combination" "combination" sComb fC dC) (bC : Binds K dC ["numbers", "number"] []) (gC : mg "combination" = some (.ref fC))
    (FL : Fun K "_lowered" "_lowered" sLow fL dL) (bL : Binds K dL ["number", "marks", "table"] []) (gL : mg "lowered_bitnumbers" = some (.ref fL)) (B : Bl mg) : FnOk P w K mg base CX0 (k + 3) f fd ["given", "kept", "index"] (spIdx K) := by
  have GC : FnOk P w K mg base CX0 (k + 2) fC dC ["numbers", "number"] (spComb K) := ok_comb FC FL bL gL B
  refine F.ok scIdx (fun vs H Q E h => ?_) (fun cdv A outer s H vs Q E hr h => ?_)
  · obtain ⟨tg, tk, L, ks, i, rfl, _⟩ := h
    rfl
  · obtain ⟨tg, tk, L, ks, i, rfl, hG, hL, hK, hk, hi, ln, lk, hsp, q⟩ := h
    refine ⟨_, C8.pss_cut (ps_set (i := 3) scIdx.nd rfl (.inl rfl) (pe_call GC hr (by rfl) gC FC.kp bC .nil pass0 (pa_cons (pe_lc (own := [("k", 4)]) (g := gName 4) (by rfl) scIdx.nd (pi_list (pv 1)) (blkOk_by (own := [("k", 4)]) (N := ["given", "kept", "index", "chosen", "k"]) (sc := defScope sIdx) (by decide +kernel))
          (fun _ _ _ _ _ => pg_name (i := 4) scIdx.nd rfl (Or.inl rfl)) (fun _ _ _ _ _ => pts_nil) (fun _ _ _ _ _ => pe_ix (r := rIxT K) ix_tup (pe_ix (r := rIxL K) ix_list (pv 0) (pv 4) (fun _ _ => rfl)) pe_int (fun _ _ => rfl)))
        (pa_cons (pe_ix ix_tup (pe_ix ix_list (pv 0) (pv 2) (fun _ _ => rfl)) pe_int (fun _ _ => rfl)) pa_nil))))
      (pss_one (ps_ret (pe_callTy call_tuple_of (by rfl) B.tuple bootT (pa_cons (pe_op op_cat (pe_lc (own := [("k", 4)]) (g := gName 4) (by rfl) scIdx.nd (pi_tup (pv 3)) (blkOk_by (own := [("k", 4)]) (N := ["given", "kept", "index", "chosen", "k"]) (sc := defScope sIdx) (by decide +kernel))
          (fun _ _ _ _ _ => pg_name (i := 4) scIdx.nd rfl (Or.inl rfl)) (fun _ _ _ _ _ => pts_nil) (fun _ _ _ _ _ => pe_ix (r := rIxL K) ix_list (pv 1) (pv 4) (fun _ _ => rfl))) (pe_lst (pa_cons (pv 2) pa_nil))) pa_nil)))), ?_⟩
    refine ⟨fun σ' H' => ∃ c mk, σ' = [some (.ref tg), some (.ref tk), some (.int (i : Nat)), some (.ref c), none] ∧ Same H H' ∧ mk < 2 ^ ks.length ∧ sx (kb (hls L) ks) mk = ((hls L).getD i (0, 0)).1 ∧ H' c = some (.tup (natV ((List.range ks.length).filter (mk.testBit ·)))), ?_, ?_⟩
    · refine ⟨_, rfl, tk, rfl, ⟨_, hK⟩, fun D nD => ?_⟩
      refine lc_list (K := K) (a := tk) (xs := natV ks) (fun j Hc => Same H Hc ∧ Hc D = some (.lst (natV ((kb (hls L) ks).take j)))) ⟨same_new nD, upd_same⟩ (fun j Hc _ ⟨sc, _⟩ => Same.seq sc hK) ?_ ?_
      · rintro j x Hc hj ⟨sc, ec⟩
        obtain ⟨k', hk', rfl⟩ := natV_at hj
        obtain ⟨p, hp, ap, gp⟩ := atI_ref (hk k' (List.mem_of_getElem? hk'))
        have hy := hL.same sc p (List.mem_of_getElem? hp)
        refine ⟨rfl, _, rfl, _, rfl, tg, _, _, _, rfl, rfl, Same.seq sc hG, ap, p.1, _, _, _, rfl, rfl, .inl (.inl hy), at_pair0 _ _, _, ec, ?_, ?_, ?_⟩
        · rw [natV_len, List.length_take]
          unfold kb
          rw [List.length_map]
          exact Nat.lt_of_le_of_lt (by omega : _ ≤ 100) (by decide)
        · intro b o e
          rw [upd_ne (ne_of_none e nD)]
          exact sc _ _ e
        · have e2 : (kb (hls L) ks)[j]? = some p.2.1 := by
            unfold kb
            rw [List.getElem?_map, hk']
            show some ((hls L).getD k' (0, 0)).1 = _
            rw [gp]
          rw [upd_same, take_snoc e2, natV_app]
          rfl
      · rintro Hc ⟨sc, ec⟩
        have el : (natV ks).length = (kb (hls L) ks).length := by rw [natV_len]; unfold kb; rw [List.length_map]
        rw [el, List.take_length] at ec
        obtain ⟨p, hp, ap, gp⟩ := atI_ref hi
        have hy := hL.same sc p (List.mem_of_getElem? hp)
        have kl : (kb (hls L) ks).length = ks.length := by unfold kb; rw [List.length_map]
        rw [gp] at hsp q ⊢
        refine ⟨_, rfl, _, rfl, tg, _, _, _, rfl, rfl, Same.seq sc hG, ap, p.1, _, _, _, rfl, rfl, .inl (.inl hy), at_pair0 _ _, D, kb (hls L) ks, p.2.1, rfl, SqL.of ec, by omega, fun z => absurd hsp z, fun mk H' c l1 l2 s' nc e' => ⟨c, mk, rfl, sc.trans s', kl ▸ l1, l2, ?_⟩⟩
        rw [← kl]
        exact e'
    rintro _ H1 ⟨c, mk, rfl, s1, l1, l2, e1⟩
    have el : ∀ j ∈ (List.range ks.length).filter (mk.testBit ·), j < ks.length := fun j hj => List.mem_range.mp (List.mem_filter.mp hj).1
    have ell : ((List.range ks.length).filter (mk.testBit ·)).length ≤ 100 := by
      have := List.length_filter_le (mk.testBit ·) (List.range ks.length)
      rw [List.length_range] at this
      omega
    have big : ∀ m, m ≤ 100 → m < sizeLine := fun m h => Nat.lt_of_le_of_lt h (by decide)
    generalize eT : (List.range ks.length).filter (mk.testBit ·) = T at e1 el ell
    refine ⟨_, rfl, c, rfl, ⟨_, .inl (.inl e1)⟩, fun D nD => ?_⟩
    refine lc_tup (K := K) (a := c) (xs := natV T) (Pv := fun j Hc => Same H1 Hc ∧ Hc D = some (.lst (natV ((T.take j).map (ks.getD · 0))))) ⟨same_new nD, upd_same⟩ (fun j Hc _ ⟨sc, _⟩ => .inl (.inl (sc _ _ e1))) ?_ ?_
    · rintro j x Hc hj ⟨sc, ec⟩
      obtain ⟨m, hm, rfl⟩ := natV_at hj
      have lm := el m (List.mem_of_getElem? hm)
      have em : ks[m]? = some (ks.getD m 0) := by rw [List.getD_eq_getElem?_getD, List.getElem?_eq_getElem lm]; rfl
      refine ⟨rfl, _, rfl, _, rfl, tk, _, _, .int ((ks.getD m 0 : Nat) : Int), rfl, rfl, Same.seq (s1.trans sc) hK, atI_nat (by unfold natV; rw [List.getElem?_map, em]; rfl), _, ec, ?_, ?_, ?_⟩
      · rw [natV_len, List.length_map, List.length_take]
        exact big _ (by omega)
      · intro b o e
        rw [upd_ne (ne_of_none e nD)]
        exact sc _ _ e
      · rw [upd_same, take_snoc hm, List.map_append, natV_app]
        rfl
    · rintro Hc ⟨sc, ec⟩
      rw [natV_len, List.take_length] at ec
      refine ⟨_, rfl, by show 1 ≤ sizeLine; decide, fun l nl => ?_⟩
      have lD : D ≠ l := ne_of_none ec nl
      refine ⟨D, l, _, [V.int (i : Nat)], rfl, rfl, (upd_ne lD).trans ec, upd_same, ?_, fun p np => ⟨p, _, rfl, .inl ⟨SqL.of upd_same, fun r nr => ?_⟩⟩⟩
      · rw [natV_len, List.length_map, List.length_singleton]
        exact Nat.le_trans (by omega : _ ≤ 101) (by decide)
      · have s2 : Same Hc (upd (upd (upd Hc l (.lst ([V.int (i : Nat)]))) p (.lst (natV (T.map (ks.getD · 0)) ++ [V.int (i : Nat)]))) r (.tup (natV (T.map (ks.getD · 0)) ++ [V.int (i : Nat)]))) := (same_new nl).trans ((same_new np).trans (same_new nr))
        have s3 := s1.trans (sc.trans s2)
        have off : H r = none := by
          cases z : H r with
          | none => rfl
          | some o => rw [((s1.trans sc).trans ((same_new nl).trans (same_new np))) _ _ z] at nr; cases nr
        refine q mk _ r l1 l2 s3 off ?_
        rw [upd_same, eT, natV_app]
        rfl
end
end KQ

namespace KQ
open PySem PySem.Spec PyProof.Rows L2
/-! ### which of the given are kept -/
/-- is x one of the sums of the numbers -/
def inSp (ns : List Nat) (x : Nat) : Bool := (List.range (2 ^ ns.length)).any fun m => sx ns m == x
theorem inSp_iff {ns : List Nat} {x : Nat} : inSp ns x = true ↔ ∃ m, m < 2 ^ ns.length ∧ sx ns m = x := by
  unfold inSp
  rw [List.any_eq_true]
  constructor
  · rintro ⟨m, hm, e⟩
    exact ⟨m, List.mem_range.mp hm, eq_of_beq e⟩
  · rintro ⟨m, hm, e⟩
    exact ⟨m, List.mem_range.mpr hm, beq_iff_eq.mpr e⟩
theorem inSp_spn {ns : List Nat} {x : Nat} : inSp ns x = true ↔ Spn ns x := by
  rw [inSp_iff]
  constructor
  · rintro ⟨m, _, rfl⟩
    exact sx_spn ns m
  · intro h
    refine h (fun x => ∃ m, m < 2 ^ ns.length ∧ sx ns m = x) ⟨⟨0, Nat.two_pow_pos _, sx_zero ns⟩, ?_⟩ ?_
    · rintro x y ⟨m, hm, rfl⟩ ⟨m', hm', rfl⟩
      exact ⟨m ^^^ m', Nat.xor_lt_two_pow hm hm', sx_lin ns m m'⟩
    · intro a ha
      obtain ⟨i, hi, e⟩ := List.getElem_of_mem ha
      refine ⟨2 ^ i, Nat.pow_lt_pow_right (by decide) hi, ?_⟩
      rw [sx_pow hi, List.getD_eq_getElem?_getD, List.getElem?_eq_getElem hi, ← e]
      rfl
def hsK (gs : List Hl) (ks : List Nat) : List Hl := ks.map (gs.getD · (0, 0))
theorem hsK_fst (gs : List Hl) (ks : List Nat) : (hsK gs ks).map Prod.fst = kb gs ks := by
  unfold hsK kb
  rw [List.map_map]
  rfl
theorem hsK_len (gs : List Hl) (ks : List Nat) : (hsK gs ks).length = ks.length := List.length_map ..
theorem kb_len (gs : List Hl) (ks : List Nat) : (kb gs ks).length = ks.length := List.length_map ..
/-- the indices of the kept ones among the first i -/
def keptL (gs : List Hl) : Nat → List Nat
  | 0 => []
  | i + 1 => if inSp (kb gs (keptL gs i)) (gs.getD i (0, 0)).1 = true then keptL gs i else keptL gs i ++ [i]
theorem keptL_lt (gs : List Hl) : ∀ (i : Nat), ∀ k ∈ keptL gs i, k < i
  | 0, k, h => by cases h
  | i + 1, k, h => by
    unfold keptL at h
    split at h
    · exact Nat.lt_succ_of_lt (keptL_lt gs i k h)
    · rcases List.mem_append.mp h with q | q
      · exact Nat.lt_succ_of_lt (keptL_lt gs i k q)
      · rw [List.mem_singleton.mp q]
        exact Nat.lt_succ_self i
theorem keptL_len (gs : List Hl) : ∀ i, (keptL gs i).length ≤ i
  | 0 => Nat.le_refl _
  | i + 1 => by
    have := keptL_len gs i
    unfold keptL
    split
    · omega
    · rw [List.length_append, List.length_singleton]
      omega
/-- the i-th is not -1 times a product of kept ones ahead of it -/
def Good (n : Nat) (gs : List Hl) (i : Nat) : Prop := ∀ mk, mk < 2 ^ (keptL gs i).length → sx (kb gs (keptL gs i)) mk = (gs.getD i (0, 0)).1 → (pr n (hsK gs (keptL gs i)) mk (keptL gs i).length).2 = (gs.getD i (0, 0)).2
/-- what the table of the first i rests on -/
structure RedAt (n : Nat) (gs : List Hl) (i : Nat) (T : List Hl) : Prop where
  tab : TabG n (hsK gs (keptL gs i)) T
  ind : Indep (kb gs (keptL gs i))
  cs : CS n (hsK gs (keptL gs i))
theorem hsK_mem {gs : List Hl} {ks : List Nat} (h : ∀ k ∈ ks, k < gs.length) : ∀ a ∈ hsK gs ks, a ∈ gs := by
  intro a ha
  obtain ⟨k, hk, rfl⟩ := List.mem_map.mp ha
  exact getD_mem (h k hk)
theorem RedAt.zero (n : Nat) (gs : List Hl) : RedAt n gs 0 [] := ⟨TabG.nil n, fun i x h => (by cases h), ⟨fun a h => (by cases h), fun a h => (by cases h)⟩⟩
theorem RedAt.step {n : Nat} {gs T : List Hl} {i : Nat} (R : RedAt n gs i T) (C : CS n gs) (hi : i < gs.length) :
    ((rsH n T (gs.getD i (0, 0))).1 ≠ 0 → keptL gs (i + 1) = keptL gs i ++ [i] ∧ RedAt n gs (i + 1) (T.map (lwH n · (rsH n T (gs.getD i (0, 0)))) ++ [rsH n T (gs.getD i (0, 0))]) ∧ Good n gs i) ∧
    ((rsH n T (gs.getD i (0, 0))).1 = 0 → keptL gs (i + 1) = keptL gs i ∧ RedAt n gs (i + 1) T ∧ Spn (kb gs (keptL gs i)) (gs.getD i (0, 0)).1 ∧ ((rsH n T (gs.getD i (0, 0))).2 = 0 ↔ Good n gs i)) := by
  have hm := getD_mem hi
  have lt : ∀ k ∈ keptL gs i, k < gs.length := fun k hk => Nat.lt_trans (keptL_lt gs i k hk) hi
  have cg : ∀ a ∈ hsK gs (keptL gs i), Com n (gs.getD i (0, 0)) a := fun a ha => C.com _ hm a (hsK_mem lt a ha)
  have hg := C.sg _ hm
  have out := R.tab.out (g := gs.getD i (0, 0))
  rw [hsK_fst] at out
  refine ⟨fun v0 => ?_, fun v0 => ?_⟩
  · have ns : ¬ Spn (kb gs (keptL gs i)) (gs.getD i (0, 0)).1 := fun z => v0 (out.mpr z)
    have nb : ¬ inSp (kb gs (keptL gs i)) (gs.getD i (0, 0)).1 = true := fun z => ns (inSp_spn.mp z)
    have ek : keptL gs (i + 1) = keptL gs i ++ [i] := by
      show (if _ then _ else _) = _
      rw [if_neg nb]
    have eh : hsK gs (keptL gs (i + 1)) = hsK gs (keptL gs i) ++ [gs.getD i (0, 0)] := by
      rw [ek]
      unfold hsK
      rw [List.map_append]
      rfl
    have eb : kb gs (keptL gs (i + 1)) = kb gs (keptL gs i) ++ [(gs.getD i (0, 0)).1] := by
      rw [ek]
      unfold kb
      rw [List.map_append]
      rfl
    refine ⟨ek, ⟨?_, ?_, ?_⟩, fun mk hm' e => absurd (inSp_iff.mpr ⟨mk, by rw [kb_len]; exact hm', e⟩) nb⟩
    · rw [eh]
      exact R.tab.add R.cs hg cg v0
    · rw [eb]
      exact R.ind.snoc ns
    · rw [eh]
      exact R.cs.snoc hg cg
  · have sp := out.mp v0
    have ek : keptL gs (i + 1) = keptL gs i := by
      show (if _ then _ else _) = _
      rw [if_pos (inSp_spn.mpr sp)]
    refine ⟨ek, ?_, sp, ?_⟩
    · exact ⟨ek ▸ R.tab, ek ▸ R.ind, ek ▸ R.cs⟩
    · obtain ⟨m0, l0, e0, iff⟩ := R.tab.hit R.cs hg cg v0
      rw [pr_fst, hsK_fst] at e0
      rw [hsK_len] at l0 iff
      rw [iff]
      constructor
      · intro h mk hmk e
        have : mk = m0 := indep_one R.ind (by rw [kb_len]; exact hmk) (by rw [kb_len]; exact l0) (e.trans e0.symm)
        rw [this]
        exact h
      · exact fun h => h m0 l0 e0
theorem perm_map_inv {α β : Type} {f : α → β} : ∀ {ys : List β} {l : List α}, ys.Perm (l.map f) → ∃ l' : List α, l'.Perm l ∧ ys = l'.map f
  | [], l, h => by
    have : l.map f = [] := List.Perm.eq_nil h.symm
    have : l = [] := List.map_eq_nil_iff.mp this
    subst this
    exact ⟨[], List.Perm.refl _, rfl⟩
  | y :: ys, l, h => by
    obtain ⟨a, ha, rfl⟩ := List.mem_map.mp (h.mem_iff.mp (List.mem_cons_self ..))
    obtain ⟨s, t, rfl⟩ := List.append_of_mem ha
    have h2 : (f a :: ys).Perm (f a :: (s ++ t).map f) := by
      refine h.trans ?_
      rw [List.map_append, List.map_append, List.map_cons]
      exact List.perm_middle
    obtain ⟨l', p', e'⟩ := perm_map_inv (ys := ys) (l := s ++ t) (h2.cons_inv)
    exact ⟨a :: l', (p'.cons a).trans List.perm_middle.symm, by rw [e']; rfl⟩
end KQ

namespace KQ
open PySem PySem.Spec PyProof.Rows L2
abbrev sRedT : Stmt := topS 35
theorem scRedT : FnScope ["size", "given", "table", "kept", "index", "held", "bits", "power", "row"] ["size", "given"] (defScope sRedT) := ⟨rfl, rfl, rfl, by decide +kernel, rfl, by decide +kernel, by decide +kernel⟩
/-- the two numbers of a told pair -/
def kV2 (H : Hp) : V → Int × Int
  | .ref a => match H a with
    | some (.tup [.int i, .int j]) => (i, j)
    | _ => (0, 0)
  | _ => (0, 0)
theorem kV2_at {H : Hp} {a : Addr} {h : Hl} (e : HlAt H a h) : kV2 H (.ref a) = ((h.1 : Int), (h.2 : Int)) := by
  unfold HlAt at e
  simp only [kV2, e]
theorem hls_len (L : GLs) : (hls L).length = L.length := List.length_map ..
theorem refH_len (L : GLs) : (refH L).length = L.length := List.length_map ..
theorem refH_app (L M : GLs) : refH (L ++ M) = refH L ++ refH M := List.map_append ..
theorem hls_app (L M : GLs) : hls (L ++ M) = hls L ++ hls M := List.map_append ..
theorem HlsAt.put {H : Hp} {L : GLs} {D : Addr} {xs : List V} {o : HO} (e : H D = some (.lst xs)) (h : HlsAt H L) : HlsAt (upd H D o) L := fun p hp => by
  have e2 := h p hp
  unfold HlAt at *
  rw [upd_ne fun z => by rw [z, e] at e2; cases e2]
  exact e2
theorem same_put0 {H H' : Hp} {D : Addr} {o : HO} (s : Same H H') (n : H D = none) : Same H (upd H' D o) := fun b u e => by
  rw [upd_ne (ne_of_none e n)]
  exact s _ _ e
theorem off_same {G H : Hp} {t : Addr} (sg : Same H G) (n : G t = none) : H t = none := by
  cases e : H t with
  | none => rfl
  | some o => rw [sg _ _ e] at n; cases n
def spRedT (K : PySem.W.Frag) (CM : Addr) : Sp := fun vs H Q E => ∃ (n : Nat) (tg : Addr) (L : GLs), vs = [.int (n : Nat), .ref tg] ∧ SqL K H tg (refH L) ∧ HlsAt H L ∧ L.length ≤ 100 ∧ n ≤ 300 ∧ CS n (hls L) ∧ (∀ p ∈ L, p.2.1 < 2 ^ (2 * n)) ∧
  ((∀ i, i < L.length → Good n (hls L) i) → ∀ H' p M T, Same H H' → H' p = some (.tup (refH M)) → HlsAt H' M → (hls M).Perm T → (hls M).Pairwise (fun a b => b.1 ≤ a.1) → RedAt n (hls L) L.length T → (∀ h ∈ T, h.1 < 2 ^ (2 * n)) → M.length ≤ L.length → Q (.ref p) H') ∧
  (∀ i, i < L.length → (∀ i', i' < i → Good n (hls L) i') → ¬ Good n (hls L) i → ∀ mk H' x, mk < 2 ^ (keptL (hls L) i).length → sx (kb (hls L) (keptL (hls L) i)) mk = ((hls L).getD i (0, 0)).1 → Same H H' →
    H' x = some (.tup (natV (((List.range (keptL (hls L) i).length).filter (mk.testBit ·)).map ((keptL (hls L) i).getD · 0) ++ [i]))) → RzX CM [("indices", .ref x)] H' E)
section
variable {P : Program} {w : World} {K : PySem.W.Frag} {mg : Str → Option Value} {base : Heap}
theorem ok_redT {f fG fI fM fP fC fL CM fE : Addr} {fd dG dI dM dP dC dL dE : FuncData} (F : Fun K "_reduced_table" "_reduced_table" sRedT f fd) (FG : Fun K "_lowered" "_lowered" sLowG fG dG) (bG : Binds K dG ["size", "held", "table"] []) (gG : mg "lowered_groups" = some (.ref fG))
    (FI : Fun K "_indices" "_indices" sIdx fI dI) (bI : Binds K dI ["given", "kept", "index"] []) (gI : mg "_indices" = some (.ref fI))
    (FM : Fun K "held_product" "held_product" sHprod fM dM) (bM : Binds K dM ["size", "one", "other"] []) (gM : mg "held_product" = some (.ref fM))
    (FP : Fun K "parity" "parity" sPar fP dP) (bP : Binds K dP ["number"] []) (gP : mg "parity" = some (.ref fP))
    (FC : Fun K "combination" "combination" sComb fC dC) (bC : Binds K dC ["numbers", "number"] []) (gC : mg "combination" = some (.ref fC))
    (FL : Fun K "_lowered" "_lowered" sLow fL dL) (bL : Binds K dL ["number", "marks", "table"] []) (gL : mg "lowered_bitnumbers" = some (.ref fL))
    (XM : EX1 K mg "MinusOne" "MinusOne.__init__" "indices" sIMinusOne CM fE dE) (B : Bl mg) : FnOk P w K mg base (L2.CX P w) 4 f fd ["size", "given"] (spRedT K CM) := by
  have GG : FnOk P w K mg base CX0 3 fG dG ["size", "held", "table"] (spLowG K) := ok_lowG FG FM bM gM FP bP gP
  have GI : FnOk P w K mg base CX0 3 fI dI ["given", "kept", "index"] (spIdx K) := ok_idx FI FC bC gC FL bL gL B
  have GE : FnOk P w K mg base CX0 2 fE dE ["self", "indices"] (spInit1 CM "indices") := okIMinusOne XM
  refine F.okX scRedT (fun vs H Q E h => ?_) (fun cdv A outer s H vs Q E hr h => ?_)
  · obtain ⟨n, tg, L, rfl, _⟩ := h
    rfl
  · obtain ⟨n, tg, L, rfl, hS, hL, ln, hn, hC, hb, q0, q1⟩ := h
    refine ⟨_, C8.pss_cut (ps_set (i := 2) scRedT.nd rfl (.inl rfl) (pe_lst pa_nil))
      (C8.pss_cut (ps_set (i := 3) scRedT.nd rfl (.inl rfl) (pe_lst pa_nil))
      (C8.pss_cut (ps_for (passes_of rfl) rfl (pi_enum (by rfl) B.enum (pa_cons (pv 1) pa_nil)) (pg_tup rfl (pgs_cons (pg_name (i := 4) scRedT.nd rfl (.inl rfl)) (pgs_cons (pg_name (i := 5) scRedT.nd rfl (.inl rfl)) pgs_nil)))
        (C8.pss_cut (ps_asg (pe_call GG hr (by rfl) gG FG.kp bG .nil pass0 (pa_cons (pv 0) (pa_cons (pv 5) (pa_cons (pv 2) pa_nil)))) (pg_tup rfl (pgs_cons (pg_name (i := 6) scRedT.nd rfl (.inr rfl)) (pgs_cons (pg_name (i := 7) scRedT.nd rfl (.inr rfl)) pgs_nil))))
        (pss_one (ps_if (pt_truth (pv 6) (by intro _; rfl))
          (C8.pss_cut (ps_setLc (i := 2) (own := [("row", 8)]) (g := gName 8) (by rfl) scRedT.nd rfl rfl (sw_true rfl rfl rfl (by decide +kernel)) (pi_list (pv 2)) (blkOk_by (own := [("row", 8)]) (N := ["size", "given", "table", "kept", "index", "held", "bits", "power", "row"]) (sc := defScope sRedT) (by decide +kernel))
              (fun _ _ _ _ _ => pg_name (i := 8) scRedT.nd rfl (Or.inl rfl)) (fun _ _ _ _ _ => pts_nil) (fun _ _ _ _ _ => pe_call GG hr (by rfl) gG FG.kp bG .nil pass0 (pa_cons (pv 0) (pa_cons (pv 8) (pa_cons (pe_lst (pa_cons (pe_tup (pa_cons (pv 6) (pa_cons (pv 7) pa_nil))) pa_nil)) pa_nil)))))
          (C8.pss_cut (ps_expr (pe_bm PySem.F.plainAttrs_list PySem.F.slot_list_append PySem.F.type_list_append mt_append (pv 2) (pa_cons (pe_tup (pa_cons (pv 6) (pa_cons (pv 7) pa_nil))) pa_nil)))
          (pss_one (ps_expr (pe_bm PySem.F.plainAttrs_list PySem.F.slot_list_append PySem.F.type_list_append mt_append (pv 3) (pa_cons (pv 4) pa_nil))))))
          (pss_one (ps_if (pt_truth (pv 7) (by intro _; rfl))
            (pss_one (ps_raise rfl (takes_of rfl rfl rfl rfl) (pmk_oex XM.ox XM.ic XM.ti GE hr XM.b .nil pass0 (by rfl) XM.g (pa_cons (pe_call GI hr (by rfl) gI FI.kp bI .nil pass0 (pa_cons (pv 1) (pa_cons (pv 3) (pa_cons (pv 4) pa_nil)))) pa_nil)))) pss_nil))))))
      (pss_one (ps_ret (pe_callTy call_tuple_of (by rfl) B.tuple bootT (pa_cons (pe_callBK cr_sortedPR (by rfl) B.sorted PyProof.Rows.boot_sorted (pa_cons (pv 2) pa_nil) (pk_cons pe_bl pk_nil)) pa_nil)))))), ?_⟩
    let St : Nat → L2.St → Hp → Prop := fun i σ H' => ∃ (t kk : Addr) (T : GLs) (v4 v5 v6 v7 v8 : Option V), σ = [some (.int (n : Nat)), some (.ref tg), some (.ref t), some (.ref kk), v4, v5, v6, v7, v8] ∧ Same H H' ∧ H t = none ∧ H kk = none ∧ kk ≠ t ∧
      H' t = some (.lst (refH T)) ∧ HlsAt H' T ∧ H' kk = some (.lst (natV (keptL (hls L) i))) ∧ RedAt n (hls L) i (hls T) ∧ (∀ p ∈ T, p.2.1 < 2 ^ (2 * n)) ∧ (∀ i', i' < i → Good n (hls L) i') ∧ T.length ≤ i
    have up : ∀ {x : Nat}, x < 2 ^ (2 * n) → x < 2 ^ 1000 := fun h => Nat.lt_of_lt_of_le h (Nat.pow_le_pow_right (by decide) (by omega))
    have big : ∀ m, m ≤ 100 → m < sizeLine := fun m h => Nat.lt_of_le_of_lt h (by decide)
    refine ⟨fun σ' H' => ∃ t, σ' = [some (.int (n : Nat)), some (.ref tg), some (.ref t), none, none, none, none, none, none] ∧ H t = none ∧ H' = upd H t (.lst []), ⟨by show 0 ≤ sizeLine; decide, fun t nt => ⟨t, rfl, nt, rfl⟩⟩, ?_⟩
    rintro _ _ ⟨t0, rfl, nt0, rfl⟩
    refine ⟨St 0, ⟨by show 0 ≤ sizeLine; decide, fun kk nk => ?_⟩, ?_⟩
    · have ne : kk ≠ t0 := fun z => by rw [z, upd_same] at nk; cases nk
      have nk0 : H kk = none := by rw [upd_ne ne] at nk; exact nk
      exact ⟨t0, kk, [], none, none, none, none, none, rfl, (same_new nt0).trans (same_new nk), nt0, nk0, ne, by rw [upd_ne ne.symm]; exact upd_same, fun p hp => (by cases hp), upd_same, RedAt.zero _ _, fun p hp => (by cases hp), fun i' h => by omega, Nat.le_refl _⟩
    rintro σ0 H1 hst
    refine ⟨St L.length, ?_, ?_⟩
    · obtain ⟨t, kk, T, v4, v5, v6, v7, v8, rfl, s1, _⟩ := id hst
      refine ⟨_, rfl, tg, _, rfl, Same.seq s1 hS, L2.for_it (walk_enum (K := K) (a := tg) (xs := refH L)) St hst (fun i σ H' _ ⟨_, _, _, _, _, _, _, _, _, s1, _⟩ => Same.seq s1 hS) ?_ ?_⟩
      · rintro i x _ H2 H3 hi ⟨t, kk, T, v4, v5, v6, v7, v8, rfl, s2, nt, nk, ne, et, hT, ek, R, bT, hgd, lT⟩ ⟨Tp, x1, x2, rfl, nT, rfl, g1, g2⟩
        cases Option.some.inj g1
        obtain ⟨p, hp, rfl⟩ := refH_at g2
        have il : i < L.length := (List.getElem?_eq_some_iff.mp hp).1
        obtain ⟨p', hp', _, gp⟩ := atI_ref il
        cases hp.symm.trans hp'
        have hpm := List.mem_of_getElem? hp
        have s3 := s2.trans (same_new (o := .tup [.int (i : Nat), .ref p.1]) nT)
        have n3 : Same H2 (upd H2 Tp (.tup [.int (i : Nat), .ref p.1])) := same_new nT
        have eT : (upd H2 Tp (.tup [.int (i : Nat), .ref p.1])) Tp = some (.tup [.int (i : Nat), .ref p.1]) := upd_same
        generalize upd H2 Tp (.tup [.int (i : Nat), .ref p.1]) = H3 at s3 n3 eT ⊢
        refine ⟨Tp, _, rfl, .inl (.inl eT), rfl, _, _, rfl, _, _, rfl, rfl, ?_⟩
        obtain ⟨step1, step0⟩ := R.step hC (by rw [hls_len]; exact il)
        rw [gp] at step1 step0
        have vlt : (rsH n (hls T) p.2).1 < 2 ^ (2 * n) := rsH_lt (hb p hpm) fun r hr => by
          obtain ⟨q', hq', rfl⟩ := List.mem_map.mp hr
          exact bT q' hq'
        refine ⟨fun σ' H' => σ' = [some (.int (n : Nat)), some (.ref tg), some (.ref t), some (.ref kk), some (.int (i : Nat)), some (.ref p.1), some (.int ((rsH n (hls T) p.2).1 : Nat)), some (.int ((rsH n (hls T) p.2).2 : Nat)), v8] ∧ Same H3 H', ?_, ?_⟩
        · refine ⟨_, rfl, _, rfl, _, rfl, n, p.1, t, p.2, T, rfl, s3 _ _ (hL p hpm), SqL.of (n3 _ _ et), hT.same n3, up (hb p hpm), fun q' hq' => up (bT q' hq'), by omega, fun H' z s' hz => ⟨z, _, rfl, .inl (.inl hz), rfl, _, _, rfl, _, _, rfl, rfl, rfl, s'⟩⟩
        rintro _ H4 ⟨rfl, s4⟩
        have s34 := s3.trans s4
        have et4 := s4 _ _ (n3 _ _ et)
        have ek4 := s4 _ _ (n3 _ _ ek)
        have hT4 := (hT.same n3).same s4
        generalize rsH n (hls T) p.2 = v at step1 step0 vlt ⊢
        refine ⟨_, rfl, _, rfl, ?_⟩
        by_cases z : v.1 = 0
        · obtain ⟨k1, R1, sp, iff⟩ := step0 z
          rw [z]
          refine iteF ⟨_, rfl, _, rfl, ?_⟩
          by_cases z2 : v.2 = 0
          · rw [z2]
            refine iteF ⟨t, kk, T, _, _, _, _, _, rfl, s34, nt, nk, ne, et4, hT4, by rw [k1]; exact ek4, R1, bT, fun i' h => ?_, by omega⟩
            by_cases e : i' < i
            · exact hgd i' e
            · have : i' = i := by omega
              rw [this]
              exact iff.mp z2
          · have nz : (((v.2 : Nat) : Int) != 0) = true := bne_iff_ne.mpr (by omega)
            rw [nz]
            have ng : ¬ Good n (hls L) i := fun g => z2 (iff.mpr g)
            refine iteT ⟨_, rfl, _, rfl, _, rfl, tg, kk, L, keptL (hls L) i, i, rfl, Same.seq s34 hS, hL.same s34, SqL.of ek4, fun k hk => Nat.lt_trans (keptL_lt _ i k hk) il, il, ln, Nat.le_trans (keptL_len _ i) (by omega), by rw [gp]; exact sp, fun mk H' x l1 l2 s' nx ex' => ?_⟩
            exact ⟨by show 1 ≤ 1000; decide, raise1 (q1 i il hgd ng mk H' x l1 l2 (s34.trans s') ex')⟩
        · obtain ⟨k1, R1, gd⟩ := step1 z
          have nz : (((v.1 : Nat) : Int) != 0) = true := bne_iff_ne.mpr (by omega)
          rw [nz]
          refine iteT ⟨fun σ' H' => ∃ (D : Addr) (N : GLs), σ' = [some (.int (n : Nat)), some (.ref tg), some (.ref D), some (.ref kk), some (.int (i : Nat)), some (.ref p.1), some (.int (v.1 : Nat)), some (.int (v.2 : Nat)), v8] ∧ Same H4 H' ∧ H4 D = none ∧ H' D = some (.lst (refH N)) ∧ HlsAt H' N ∧ hls N = (hls T).map (lwH n · v), ?_, ?_⟩
          · refine ⟨_, rfl, t, rfl, ⟨_, SqL.of et4⟩, fun D nD => ?_⟩
            refine lc_list (K := K) (a := t) (xs := refH T) (Pv := fun j Hc => Same H4 Hc ∧ ∃ N : GLs, Hc D = some (.lst (refH N)) ∧ HlsAt Hc N ∧ hls N = ((hls T).take j).map (lwH n · v) ∧ N.length ≤ j) ⟨same_new nD, [], upd_same, fun p hp => (by cases hp), rfl, Nat.le_refl _⟩ (fun j Hc _ ⟨sc, _⟩ => SqL.of (sc _ _ et4)) ?_ ?_
            · rintro j y Hc hj ⟨sc, N, eD, hN, eN, lN⟩
              obtain ⟨r, hr', rfl⟩ := refH_at hj
              have hrm := List.mem_of_getElem? hr'
              refine ⟨rfl, _, rfl, _, rfl, _, rfl, _, rfl, by show 2 ≤ sizeLine; decide, fun tp ntp => ⟨by show 1 ≤ sizeLine; decide, fun l nl => ?_⟩⟩
              have n1 : Same Hc (upd Hc tp (.tup [.int (v.1 : Nat), .int (v.2 : Nat)])) := same_new ntp
              have n2 := same_new (o := HO.lst [V.ref tp]) nl
              have e1 : (upd (upd Hc tp (.tup [.int (v.1 : Nat), .int (v.2 : Nat)])) l (.lst [V.ref tp])) tp = some (.tup [.int (v.1 : Nat), .int (v.2 : Nat)]) := n2 _ _ upd_same
              refine ⟨n, r.1, l, r.2, [(tp, v)], rfl, n2 _ _ (n1 _ _ (sc _ _ (hT4 r hrm))), SqL.of upd_same, fun q' hq' => by rw [List.mem_singleton.mp hq']; exact e1, up (bT r hrm), fun q' hq' => by rw [List.mem_singleton.mp hq']; exact up vlt, by omega, fun H' z s' hz => ?_⟩
              have sH := (n1.trans n2).trans s'
              have eD' := sH _ _ eD
              refine ⟨refH N, eD', ?_, same_put0 (sc.trans sH) nD, N ++ [(z, lwH n r.2 v)], ?_, ?_, ?_, ?_⟩
              · rw [refH_len]
                have := (List.getElem?_eq_some_iff.mp hr').1
                exact big _ (by omega)
              · rw [upd_same, refH_app]
                rfl
              · refine HlsAt.put eD' fun q' hq' => ?_
                rcases List.mem_append.mp hq' with h | h
                · exact sH _ _ (hN q' h)
                · rw [List.mem_singleton.mp h]
                  exact hz
              · have e2 : (hls T)[j]? = some r.2 := by unfold hls; rw [List.getElem?_map, hr']; rfl
                rw [hls_app, eN, take_snoc e2, List.map_append]
                rfl
              · rw [List.length_append, List.length_singleton]
                omega
            · rintro Hc ⟨sc, N, eD, hN, eN, lN⟩
              rw [List.take_of_length_le (by rw [hls_len, refH_len]; exact Nat.le_refl _)] at eN
              exact ⟨D, N, rfl, sc, nD, eD, hN, eN⟩
          rintro _ H5 ⟨D, N, rfl, s5, nD, eD, hN, eN⟩
          have lN : N.length = T.length := by
            have := congrArg List.length eN
            rw [List.length_map, hls_len, hls_len] at this
            exact this
          have nD0 : H D = none := off_same s34 nD
          have ek5 := s5 _ _ ek4
          have neD : kk ≠ D := fun z => by rw [z, nD] at ek4; cases ek4
          refine ⟨fun σ' H' => ∃ r, σ' = [some (.int (n : Nat)), some (.ref tg), some (.ref D), some (.ref kk), some (.int (i : Nat)), some (.ref p.1), some (.int (v.1 : Nat)), some (.int (v.2 : Nat)), v8] ∧ Same H H' ∧ H' D = some (.lst (refH (N ++ [(r, v)]))) ∧ HlsAt H' (N ++ [(r, v)]) ∧ H' kk = some (.lst (natV (keptL (hls L) i))), ?_, ?_⟩
          · refine ⟨_, rfl, .inl ⟨rfl, _, SqL.of eD⟩, _, rfl, _, rfl, by show 2 ≤ sizeLine; decide, fun r nr => ?_⟩
            have nr1 : Same H5 (upd H5 r (.tup [.int (v.1 : Nat), .int (v.2 : Nat)])) := same_new nr
            have eD' := nr1 _ _ eD
            refine ⟨D, _, _, rfl, rfl, eD', ?_, r, rfl, same_put0 ((s34.trans s5).trans nr1) nD0, ?_, ?_, ?_⟩
            · rw [refH_len]
              exact big _ (by omega)
            · rw [upd_same, refH_app]
              rfl
            · refine HlsAt.put eD' fun q' hq' => ?_
              rcases List.mem_append.mp hq' with h | h
              · exact nr1 _ _ (hN q' h)
              · rw [List.mem_singleton.mp h]
                exact upd_same
            · rw [upd_ne neD]
              exact nr1 _ _ ek5
          rintro _ H6 ⟨r, rfl, s6, eD6, hN6, ek6⟩
          refine ⟨_, rfl, .inl ⟨rfl, _, SqL.of ek6⟩, _, rfl, kk, _, _, rfl, rfl, ek6, ?_, D, kk, N ++ [(r, v)], _, _, _, _, _, rfl, same_put0 s6 nk, nD0, nk, neD, ?_, HlsAt.put ek6 hN6, ?_, ?_, ?_, ?_, ?_⟩
          · rw [natV_len]
            exact big _ (Nat.le_trans (keptL_len _ i) (by omega))
          · rw [upd_ne neD.symm]
            exact eD6
          · rw [upd_same, k1, natV_app]
            rfl
          · rw [hls_app, eN]
            exact R1
          · intro q' hq'
            rcases List.mem_append.mp hq' with h | h
            · have hm : q'.2 ∈ (hls T).map (lwH n · v) := eN ▸ List.mem_map_of_mem h
              obtain ⟨c, hc, e⟩ := List.mem_map.mp hm
              obtain ⟨q2, hq2, rfl⟩ := List.mem_map.mp hc
              rw [← e]
              unfold lwH
              split
              · exact Nat.xor_lt_two_pow (bT q2 hq2) vlt
              · exact bT q2 hq2
            · rw [List.mem_singleton.mp h]
              exact vlt
          · intro i' h
            by_cases e : i' < i
            · exact hgd i' e
            · have : i' = i := by omega
              rw [this]
              exact gd
          · rw [List.length_append, List.length_singleton]
            omega
      · rintro σ H2 hst
        rw [refH_len] at hst
        exact hst
    rintro _ H2 ⟨t, kk, T, v4, v5, v6, v7, v8, rfl, s2, nt, nk, ne, et, hT, ek, R, bT, hgd, lT⟩
    refine ⟨_, rfl, t, refH T, kV2 H2, rfl, rfl, SqL.of et, fun x hx => ?_, fun ys p srt pm np => ?_⟩
    · obtain ⟨q', hq', rfl⟩ := List.mem_map.mp hx
      refine ⟨q'.1, rfl, ?_⟩
      rw [kV2_at (hT q' hq')]
      exact hT q' hq'
    obtain ⟨T', pT, rfl⟩ := perm_map_inv pm
    refine ⟨p, _, rfl, .inl ⟨SqL.of upd_same, fun l nl => ?_⟩⟩
    have s8 : Same H2 (upd (upd H2 p (.lst (T'.map fun p => V.ref p.1).reverse)) l (.tup (T'.map fun p => V.ref p.1).reverse)) := (same_new np).trans (same_new nl)
    refine q0 hgd _ l T'.reverse (hls T) (s2.trans s8) ?_ ?_ ?_ ?_ R ?_ ?_
    · rw [upd_same]
      unfold refH
      rw [List.map_reverse]
    · intro q' hq'
      exact s8 _ _ (hT q' (pT.mem_iff.mp (List.mem_reverse.mp hq')))
    · unfold hls
      exact ((List.reverse_perm T').trans pT).map _
    · unfold hls
      rw [List.map_reverse, List.pairwise_reverse, List.pairwise_map]
      have h1 := List.pairwise_map.mp srt
      refine h1.imp_of_mem fun {a b} ha hb' h => ?_
      have e1 := kV2_at (hT a (pT.mem_iff.mp ha))
      have e2 := kV2_at (hT b (pT.mem_iff.mp hb'))
      have h2 : SrtO.lexB (kV2 H2 (.ref b.1)) (kV2 H2 (.ref a.1)) = false := h
      rw [e1, e2] at h2
      have h3 := SrtO.lexB_no.mp h2
      simp only at h3
      omega
    · intro h hh
      obtain ⟨q', hq', rfl⟩ := List.mem_map.mp hh
      exact bT q' hq'
    · rw [List.length_reverse, pT.length_eq]
      exact lT
end
end KQ

namespace KQ
open PySem PySem.Spec PyProof.Rows L2
/-! ### a group is made -/
abbrev sIsI : Stmt := topS 13
abbrev sGI : Stmt := inClass (topS 33) 0
theorem scIsI : FnScope ["value"] ["value"] (defScope sIsI) := ⟨rfl, rfl, rfl, by decide +kernel, rfl, by decide +kernel, by decide +kernel⟩
theorem scGI : FnScope ["self", "size", "strings", "string", "given", "bits", "_", "held"] ["self", "size", "strings"] (defScope sGI) := ⟨rfl, rfl, rfl, by decide +kernel, rfl, by decide +kernel, by decide +kernel⟩
/-- values that are told apart -/
def Kd (H : Hp) (v : V) : Prop := (∃ i, v = .int i) ∨ v = .non ∨ (∃ b, v = .bl b) ∨ (∃ x, v = .str x) ∨ ∃ p xs, v = .ref p ∧ H p = some (.lst xs)
def isI : V → Bool
  | .int _ => true
  | _ => false
def spIsI : Sp := fun vs H Q _ => ∃ v, vs = [v] ∧ Kd H v ∧ Q (.bl (isI v)) H
theorem Kd.ty {H : Hp} {v : V} (h : Kd H v) : ∃ n : String, (∀ K, TyX K H v (.type n)) ∧ ((kitB n "int" = some true ∧ kitB n "bool" = some false ∧ isI v = true) ∨ (kitB n "int" = some false ∧ isI v = false) ∨ (kitB n "int" = some true ∧ kitB n "bool" = some true ∧ isI v = false)) := by
  rcases h with ⟨i, rfl⟩ | rfl | ⟨b, rfl⟩ | ⟨x, rfl⟩ | ⟨p, xs, rfl, e⟩
  · exact ⟨_, fun K => .base (.int i), .inl ⟨by decide +kernel, by decide +kernel, rfl⟩⟩
  · exact ⟨_, fun K => .base .non, .inr (.inl ⟨by decide +kernel, rfl⟩)⟩
  · exact ⟨_, fun K => .base (.bl b), .inr (.inr ⟨by decide +kernel, by decide +kernel, rfl⟩)⟩
  · exact ⟨_, fun K => .base (.str x), .inr (.inl ⟨by decide +kernel, rfl⟩)⟩
  · exact ⟨_, fun K => .base (.lst e), .inr (.inl ⟨by decide +kernel, rfl⟩)⟩
/-- a size that is none -/
def OddS (H : Hp) (v : V) : Prop := Kd H v ∧ ∀ i, v = .int i → i < 1
theorem isI_of {v : V} (h : isI v = true) : ∃ i, v = .int i := by
  cases v <;> first | exact ⟨_, rfl⟩ | cases h
structure GCl (K : PySem.W.Frag) (mg : Str → Option Value) (C fI : Addr) : Prop where
  cl : Cls K C
  nS : NoAttr K C "size"
  nH : NoAttr K C "held"
  nB : NoAttr K C "bits"
  nR : NoAttr K C "rows"
  nK : NoAttr K C "rank"
  mkf : Mk K C fI
  g : mg "Group" = some (.ref C)
abbrev PLs := List (Addr × List Nat × Nat)
def PsAt (C : Addr) (H : Hp) (L : PLs) : Prop := ∀ q ∈ L, PauliAt C H q.1 q.2.1 q.2.2
def refP (L : PLs) : List V := L.map fun q => V.ref q.1
def gsOf (L : PLs) : List Hl := L.map fun q => (bL q.2.1, (q.2.2 + q.2.1.count 89) % 4)
structure PsOk (L : PLs) : Prop where
  isl : ∀ q ∈ L, ∀ c ∈ q.2.1, isL c = true
  ne : ∀ q ∈ L, q.2.1 ≠ []
  len : ∀ q ∈ L, q.2.1.length ≤ 300
  ph : ∀ q ∈ L, q.2.2 < 4
  few : L.length ≤ 100
def But (a : Addr) (H H' : Hp) : Prop := ∀ b o, b ≠ a → H b = some o → H' b = some o
theorem yc : ∀ {R : List Nat}, (∀ c ∈ R, isL c = true) → pc (bv lz R &&& bv lx R) = R.count 89
  | [], _ => pc_zero
  | c :: R, h => by
    have ih := yc (R := R) fun d hd => h d (List.mem_cons_of_mem _ hd)
    have e : bv lz (c :: R) &&& bv lx (c :: R) = 2 * (bv lz R &&& bv lx R) + (lz c &&& lx c) := by
      show (lz c + 2 * bv lz R) &&& (lx c + 2 * bv lx R) = _
      rw [Nat.add_comm (lz c), Nat.add_comm (lx c)]
      exact and_two _ _ _ _ (lz_lt c) (lx_lt c)
    rcases isL_iff.mp (h c (List.mem_cons_self ..)) with rfl | rfl | rfl | rfl
    all_goals
      rw [e, pc_two _ _ (by decide), ih, List.count_cons]
      simp [lz, lx]
    omega
theorem gs_sg {R : List Nat} {p : Nat} (hR : ∀ c ∈ R, isL c = true) (hp : p % 2 = 0) : Sg R.length (bL R, (p + R.count 89) % 4) := by
  refine ⟨Nat.mod_lt _ (by decide), ?_⟩
  show (p + R.count 89) % 4 % 2 = tw R.length (bL R) (bL R)
  rw [bL_fB, tw_fB (bv_lt lz_lt R), yc hR]
  omega
theorem xg_com {R R' : List Nat} (h : R.length = R'.length) : pc (ex R.length (bL R) &&& bL R') % 2 = 0 ↔ tw R.length (bL R) (bL R') = tw R.length (bL R') (bL R) := by
  have l1 := bv_lt lx_lt R
  have l2 := bv_lt lz_lt R
  have l3 := bv_lt lx_lt R'
  have l4 := bv_lt lz_lt R'
  rw [← h] at l3 l4
  rw [bL_fB R, bL_fB R', ← h, cross_fB l1 l2, tw_fB l2, tw_fB l4, Nat.and_comm (bv lx R)]
  omega
theorem gs_at {L : PLs} {i : Nat} {q : Addr × List Nat × Nat} (h : L[i]? = some q) : ((gsOf L).map Prod.fst).getD i 0 = bL q.2.1 := by
  unfold gsOf
  rw [List.getD_eq_getElem?_getD, List.getElem?_map, List.getElem?_map, h]
  rfl
theorem gs_cs {n : Nat} {L : PLs} (O : PsOk L) (hn : ∀ q ∈ L, q.2.1.length = n) (hp : ∀ q ∈ L, q.2.2 % 2 = 0) (hx : ∀ i j, i < j → j < L.length → xg n ((gsOf L).map Prod.fst) i j = 0) : CS n (gsOf L) := by
  have key : ∀ i j : Nat, i < j → ∀ q r : Addr × List Nat × Nat, L[i]? = some q → L[j]? = some r → Com n (bL r.2.1, (r.2.2 + r.2.1.count 89) % 4) (bL q.2.1, (q.2.2 + q.2.1.count 89) % 4) := by
    intro i j hij q r hq hr
    have e := hx i j hij (List.getElem?_eq_some_iff.mp hr).1
    unfold xg at e
    rw [gs_at hq, gs_at hr] at e
    have n1 := hn q (List.mem_of_getElem? hq)
    have n2 := hn r (List.mem_of_getElem? hr)
    have := (xg_com (R := r.2.1) (R' := q.2.1) (by omega)).mp (by rw [n2]; exact e)
    rw [n2] at this
    exact this
  refine ⟨fun a ha => ?_, fun a ha b hb => ?_⟩
  · obtain ⟨q, hq, rfl⟩ := List.mem_map.mp ha
    have := gs_sg (O.isl q hq) (hp q hq)
    rw [hn q hq] at this
    exact this
  · obtain ⟨q, hq, rfl⟩ := List.mem_map.mp ha
    obtain ⟨r, hr, rfl⟩ := List.mem_map.mp hb
    obtain ⟨i, hi⟩ := List.getElem?_of_mem hq
    obtain ⟨j, hj⟩ := List.getElem?_of_mem hr
    rcases Nat.lt_trichotomy i j with h | h | h
    · exact (key i j h q r hi hj).symm
    · subst h
      cases hi.symm.trans hj
      exact Com.self _ _
    · exact key j i h r q hj hi
theorem gs_lt {n : Nat} {L : PLs} (hn : ∀ q ∈ L, q.2.1.length = n) : ∀ g ∈ gsOf L, g.1 < 2 ^ (2 * n) := by
  intro g hg
  obtain ⟨q, hq, rfl⟩ := List.mem_map.mp hg
  have := bL_lt q.2.1
  rw [hn q hq] at this
  exact this
theorem bootB : bootBuiltins "bool" = some (.type "bool") := by decide +kernel
section
variable {P : Program} {w : World} {K : PySem.W.Frag} {mg : Str → Option Value} {base : Heap}
theorem ok_isI {f : Addr} {fd : FuncData} {k : Nat} (F : Fun K "is_integer" "is_integer" sIsI f fd) (B : Bl mg) : FnOk P w K mg base CX0 (k + 1) f fd ["value"] spIsI := by
  refine F.ok scIsI (fun vs H Q E h => ?_) (fun cdv A outer s H vs Q E hr h => ?_)
  · obtain ⟨v, rfl, _⟩ := h
    rfl
  · obtain ⟨v, rfl, hk, q⟩ := h
    refine ⟨_, pss_one (ps_ret (pe_and (pe_callB call_isi (by rfl) B.isi PyProof.Rows.boot_isinstance (pa_cons (pv 0) (pa_cons (pe_bltn (v := .ty "int") (by rfl) B.int bootI rfl) pa_nil)))
      (pe_one (pe_not (pe_callB call_isi (by rfl) B.isi PyProof.Rows.boot_isinstance (pa_cons (pv 0) (pa_cons (pe_bltn (v := .ty "bool") (by rfl) B.bool bootB rfl) pa_nil))))))), ?_⟩
    obtain ⟨n, ty, h⟩ := hk.ty
    rcases h with ⟨h1, h2, h3⟩ | ⟨h1, h3⟩ | ⟨h1, h2, h3⟩ <;> rw [h3] at q
    · refine ⟨_, rfl, v, _, _, _, true, rfl, .ty "int", ty K, kit_ty h1, _, rfl, ?_⟩
      exact ⟨_, rfl, v, _, _, _, false, rfl, .ty "bool", ty K, kit_ty h2, _, rfl, q⟩
    · exact ⟨_, rfl, v, _, _, _, false, rfl, .ty "int", ty K, kit_ty h1, _, rfl, q⟩
    · refine ⟨_, rfl, v, _, _, _, true, rfl, .ty "int", ty K, kit_ty h1, _, rfl, ?_⟩
      exact ⟨_, rfl, v, _, _, _, true, rfl, .ty "bool", ty K, kit_ty h2, _, rfl, q⟩
end
end KQ

namespace KQ
open PySem PySem.Spec PyProof.Rows L2
/-- all defs below Group.__init__ -/
structure GEnv (K : PySem.W.Frag) (w : World) (mg : Str → Option Value) (C CT CB CU CA CM fI fE fB fU fA fM fBN hA lA : Addr) (dB dBN dU dA dM : FuncData)
    (fIs fHo fBo fHp fPa fCr fSh fBt fLg fIx fCo fLn fCk fRt fSo fFr fLo fC : Addr) (dI dIs dHo dBo dHp dPa dCr dSh dBt dLg dIx dCo dLn dCk dRt dSo dFr dLo dC : FuncData) : Prop where
  N : PCl K mg C fI fE
  FI : Fun K "__init__" "Pauli.__init__" sInit fI dI
  bI : Binds K dI ["self", "text"] []
  FC : Fun K "_cut_text" "_cut_text" sCut fC dC
  bC : Binds K dC ["text"] []
  gC : mg "_cut_text" = some (.ref fC)
  TT : BT K mg CT fB dB
  XB : EX2 K mg "BadNumber" "BadNumber.__init__" "what" "number" sIBadNumber CB fBN dBN
  XU : EX1 K mg "Unlike" "Unlike.__init__" "what" sIUnlike CU fU dU
  XA : EX2 K mg "Anticommute" "Anticommute.__init__" "one" "other" sIAnticommute CA fA dA
  XM : EX1 K mg "MinusOne" "MinusOne.__init__" "indices" sIMinusOne CM fM dM
  hd : Hd4 K mg hA
  lt : Lets K w mg lA
  mz : mg "zip" = none
  B : Bl mg
  FIs : Fun K "is_integer" "is_integer" sIsI fIs dIs
  bIs : Binds K dIs ["value"] []
  gIs : mg "is_integer" = some (.ref fIs)
  FHo : Fun K "held_of" "held_of" sHeld fHo dHo
  bHo : Binds K dHo ["string"] []
  gHo : mg "held_of" = some (.ref fHo)
  FBo : Fun K "bits_of" "bits_of" sBof fBo dBo
  bBo : Binds K dBo ["string"] []
  gBo : mg "bits_of" = some (.ref fBo)
  FHp : Fun K "held_product" "held_product" sHprod fHp dHp
  bHp : Binds K dHp ["size", "one", "other"] []
  gHp : mg "held_product" = some (.ref fHp)
  FPa : Fun K "parity" "parity" sPar fPa dPa
  bPa : Binds K dPa ["number"] []
  gPa : mg "parity" = some (.ref fPa)
  FCr : Fun K "crossing" "crossing" sCrossg fCr dCr
  bCr : Binds K dCr ["size", "bits", "others"] []
  gCr : mg "crossing" = some (.ref fCr)
  FSh : Fun K "second_half" "second_half" sHalf fSh dSh
  bSh : Binds K dSh ["size", "bits"] []
  gSh : mg "second_half" = some (.ref fSh)
  FBt : Fun K "bit_tuple" "bit_tuple" sBits fBt dBt
  bBt : Binds K dBt ["number", "many"] []
  gBt : mg "bit_tuple" = some (.ref fBt)
  FLg : Fun K "_lowered" "_lowered" sLowG fLg dLg
  bLg : Binds K dLg ["size", "held", "table"] []
  gLg : mg "lowered_groups" = some (.ref fLg)
  FIx : Fun K "_indices" "_indices" sIdx fIx dIx
  bIx : Binds K dIx ["given", "kept", "index"] []
  gIx : mg "_indices" = some (.ref fIx)
  FCo : Fun K "combination" "combination" sComb fCo dCo
  bCo : Binds K dCo ["numbers", "number"] []
  gCo : mg "combination" = some (.ref fCo)
  FLn : Fun K "_lowered" "_lowered" sLow fLn dLn
  bLn : Binds K dLn ["number", "marks", "table"] []
  gLn : mg "lowered_bitnumbers" = some (.ref fLn)
  FCk : Fun K "_check_commuting" "_check_commuting" sChk fCk dCk
  bCk : Binds K dCk ["size", "rows"] []
  gCk : mg "_check_commuting" = some (.ref fCk)
  FRt : Fun K "_reduced_table" "_reduced_table" sRedT fRt dRt
  bRt : Binds K dRt ["size", "given"] []
  gRt : mg "_reduced_table" = some (.ref fRt)
  FSo : Fun K "string_of" "string_of" sSof fSo dSo
  bSo : Binds K dSo ["size", "held"] []
  gSo : mg "string_of" = some (.ref fSo)
  FFr : Fun K "string_from" "string_from" sFrom fFr dFr
  bFr : Binds K dFr ["letters", "phase"] []
  gFr : mg "string_from" = some (.ref fFr)
  FLo : Fun K "letters_of" "letters_of" sLof fLo dLo
  bLo : Binds K dLo ["size", "bits"] []
  gLo : mg "letters_of" = some (.ref fLo)
/-- what a group holds -/
def GroupAt (CG C : Addr) (H : Hp) (a : Addr) (n : Nat) (M : GLs) : Prop := ∃ dx fs p b r M', H a = some (.ins CG dx fs) ∧ fs.lookup ("size" : Str) = some (.int (n : Nat)) ∧ fs.lookup ("held" : Str) = some (.ref p) ∧ fs.lookup ("bits" : Str) = some (.ref b) ∧
  fs.lookup ("rows" : Str) = some (.ref r) ∧ fs.lookup ("rank" : Str) = some (.int (M.length : Nat)) ∧ H p = some (.tup (refH M)) ∧ HlsAt H M ∧ H b = some (.tup (natV ((hls M).map Prod.fst))) ∧
  H r = some (.tup (refP M')) ∧ PsAt C H M' ∧ M'.map (·.2) = (hls M).map fun h => (LO n h.1, (((h.2 : Int) - ((LO n h.1).count 89 : Nat)) % 4).toNat)
/-- what is wanted of a group of strings of the size n -/
def GW (C CG CB CU CA CM : Addr) (n : Nat) (a : Addr) (L : PLs) (H : Hp) (Q : VK) (E : XK) : Prop :=
    ((∃ q ∈ L, q.2.1.length ≠ n) → RzX CU [("what", .str "size")] H E) ∧
    ((∀ q ∈ L, q.2.1.length = n) →
      (∀ (i : Nat) (q : Addr × List Nat × Nat), L[i]? = some q → q.2.2 % 2 = 1 → (∀ (j : Nat) (r : Addr × List Nat × Nat), j < i → L[j]? = some r → r.2.2 % 2 = 0) → RzX CB [("number", .ref q.1), ("what", .str "sign")] H E) ∧
      ((∀ q ∈ L, q.2.2 % 2 = 0) →
        (∀ i j, i < j → j < L.length → xg n ((gsOf L).map Prod.fst) i j = 1 → (∀ i', i' < i → xg n ((gsOf L).map Prod.fst) i' j = 0) → (∀ i' j', i' < j' → j' < j → xg n ((gsOf L).map Prod.fst) i' j' = 0) → RzX CA [("other", .int (j : Nat)), ("one", .int (i : Nat))] H E) ∧
        ((∀ i j, i < j → j < L.length → xg n ((gsOf L).map Prod.fst) i j = 0) →
          (∀ i, i < L.length → (∀ i', i' < i → Good n (gsOf L) i') → ¬ Good n (gsOf L) i → ∀ mk H' x, mk < 2 ^ (keptL (gsOf L) i).length → sx (kb (gsOf L) (keptL (gsOf L) i)) mk = ((gsOf L).getD i (0, 0)).1 → But a H H' →
            H' x = some (.tup (natV (((List.range (keptL (gsOf L) i).length).filter (mk.testBit ·)).map ((keptL (gsOf L) i).getD · 0) ++ [i]))) → RzX CM [("indices", .ref x)] H' E) ∧
          ((∀ i, i < L.length → Good n (gsOf L) i) → ∀ H' M T, But a H H' → GroupAt CG C H' a n M → (hls M).Perm T → (hls M).Pairwise (fun a b => b.1 ≤ a.1) → RedAt n (gsOf L) L.length T → Q .non H'))))
def spGI (K : PySem.W.Frag) (C CG CB CU CA CM : Addr) : Sp := fun vs H Q E => ∃ (a dx : Addr) (sv : V) (ts : Addr) (L : PLs), vs = [.ref a, sv, .ref ts] ∧ H a = some (.ins CG dx []) ∧ SqL K H ts (refP L) ∧ PsAt C H L ∧ PsOk L ∧
  ((OddS H sv ∧ RzX CB [("number", sv), ("what", .str "size")] H E) ∨ ∃ n : Nat, sv = .int (n : Nat) ∧ 1 ≤ n ∧ n ≤ 300 ∧
    GW C CG CB CU CA CM n a L H Q E)
theorem putF_le (f : Str) (v : V) : ∀ fs : List (Str × V), (putF f v fs).length ≤ fs.length + 1
  | [] => Nat.le_refl _
  | (g, x) :: r => by
    unfold putF
    split
    · exact Nat.le_succ _
    · rw [List.length_cons, List.length_cons]
      have := putF_le f v r
      omega
theorem refP_at {L : PLs} {i : Nat} {v : V} (h : (refP L)[i]? = some v) : ∃ q, L[i]? = some q ∧ v = .ref q.1 := by
  unfold refP at h
  rw [List.getElem?_map] at h
  obtain ⟨q, hq, rfl⟩ := Option.map_eq_some_iff.mp h
  exact ⟨q, hq, rfl⟩
theorem refP_len (L : PLs) : (refP L).length = L.length := List.length_map ..
theorem gsOf_len (L : PLs) : (gsOf L).length = L.length := List.length_map ..
theorem PauliAt.same {C : Addr} {H H' : Hp} {a : Addr} {R : List Nat} {p : Nat} (s : Same H H') (h : PauliAt C H a R p) : PauliAt C H' a R p := let ⟨dx, fs, e, r⟩ := h; ⟨dx, fs, s _ _ e, r⟩
theorem PauliAt.put {C : Addr} {H : Hp} {a D : Addr} {R : List Nat} {p : Nat} {xs : List V} {o : HO} (e : H D = some (.lst xs)) (h : PauliAt C H a R p) : PauliAt C (upd H D o) a R p := by
  obtain ⟨dx, fs, e2, r⟩ := h
  refine ⟨dx, fs, ?_, r⟩
  rw [upd_ne fun z => by rw [z, e] at e2; cases e2]
  exact e2
theorem But.of {a : Addr} {H H' : Hp} (s : Same H H') : But a H H' := fun b o _ e => s b o e
theorem But.trans {a : Addr} {H G H' : Hp} (s : But a H G) (t : But a G H') : But a H H' := fun b o n e => t b o n (s b o n e)
theorem But.upd {a : Addr} {H : Hp} {o : HO} : But a H (upd H a o) := fun b u n e => by rw [upd_ne n]; exact e
theorem HlsAt.but {a C dx : Addr} {fs : List (Str × V)} {H H' : Hp} {L : GLs} (ea : H a = some (.ins C dx fs)) (b : But a H H') (h : HlsAt H L) : HlsAt H' L := fun p hp => by
  have e := h p hp
  exact b _ _ (fun z => by unfold HlAt at e; rw [z, ea] at e; cases e) e
section
variable {P : Program} {w : World} {K : PySem.W.Frag} {mg : Str → Option Value} {base : Heap}
set_option linter.unusedVariables false in
theorem ok_ginit {f C CG CT CB CU CA CM fI fE fB fU fA fM fBN hA lA : Addr} {fd dB dBN dU dA dM : FuncData} {fIs fHo fBo fHp fPa fCr fSh fBt fLg fIx fCo fLn fCk fRt fSo fFr fLo fC : Addr} {dI dIs dHo dBo dHp dPa dCr dSh dBt dLg dIx dCo dLn dCk dRt dSo dFr dLo dC : FuncData}
    (F : Fun K "__init__" "Group.__init__" sGI f fd) (G : GCl K mg CG f) (cne : C ≠ CG)
    (T : GEnv K w mg C CT CB CU CA CM fI fE fB fU fA fM fBN hA lA dB dBN dU dA dM fIs fHo fBo fHp fPa fCr fSh fBt fLg fIx fCo fLn fCk fRt fSo fFr fLo fC dI dIs dHo dBo dHp dPa dCr dSh dBt dLg dIx dCo dLn dCk dRt dSo dFr dLo dC) :
    FnOk P w K mg base (L2.CX P w) 8 f fd ["self", "size", "strings"] (spGI K C CG CB CU CA CM) := by
  have GIs : FnOk P w K mg base CX0 7 fIs dIs ["value"] spIsI := ok_isI T.FIs T.B
  have GHo : FnOk P w K mg base CX0 7 fHo dHo ["string"] (spHeld C) := ok_held T.FHo T.FBo T.bBo T.gBo T.N T.B
  have GCk : FnOk P w K mg base (L2.CX P w) 4 fCk dCk ["size", "rows"] (spChk K CA) := ok_chk T.FCk T.FCr T.bCr T.gCr T.FBt T.bBt T.gBt T.FSh T.bSh T.gSh T.FPa T.bPa T.gPa T.XA T.B
  have GRt : FnOk P w K mg base (L2.CX P w) 4 fRt dRt ["size", "given"] (spRedT K CM) := ok_redT T.FRt T.FLg T.bLg T.gLg T.FIx T.bIx T.gIx T.FHp T.bHp T.gHp T.FPa T.bPa T.gPa T.FCo T.bCo T.gCo T.FLn T.bLn T.gLn T.XM T.B
  have GSo : FnOk P w K mg base (L2.CX P w) 7 fSo dSo ["size", "held"] (spSof C) := ok_sof T.FSo T.FFr T.bFr T.gFr T.FLo T.bLo T.gLo T.FSh T.bSh T.gSh T.N T.FI T.bI T.FC T.bC T.gC T.TT T.hd T.lt T.mz T.B
  have GBN : FnOk P w K mg base CX0 6 fBN dBN ["self", "what", "number"] (spInit2 CB "what" "number") := okIBadNumber T.XB
  have GU : FnOk P w K mg base CX0 6 fU dU ["self", "what"] (spInit1 CU "what") := okIUnlike T.XU
  refine F.okX scGI (fun vs H Q E h => ?_) (fun cdv A outer s H vs Q E hr h => ?_)
  · obtain ⟨a, dx, sv, ts, L, rfl, _⟩ := h
    rfl
  · obtain ⟨a, dx, sv, ts, L, rfl, ea, hS, hP, O, h⟩ := h
    have r4 : Room 4 _ := hr.mono (by decide)
    have r5 : Room 5 _ := hr.mono (by decide)
    refine ⟨_, C8.pss_cut (ps_if (PW.pt (pw_or (pt_not (pt_val (pe_call GIs hr (by rfl) T.gIs T.FIs.kp T.bIs .nil pass0 (pa_cons (pv 1) pa_nil)))) (pw_or1 (pt_cmpR op_lt (pv 1) pe_int (nomark _)))))
        (pss_one (ps_raise rfl (takes_of rfl rfl rfl rfl) (pmk_oex T.XB.ox T.XB.ic T.XB.ti GBN hr T.XB.b .nil pass0 (by rfl) T.XB.g (pa_cons pe_str (pa_cons (pv 1) pa_nil))))) pss_nil)
      (C8.pss_cut (ps_for (passes_of rfl) rfl (pi_list (pv 2)) (pg_name (i := 3) scGI.nd rfl (.inl rfl))
        (pss_one (ps_if (pt_cmpR op_ne (pe_fld (pv 3) rfl) (pv 1) (nomark _)) (pss_one (ps_raise rfl (takes_of rfl rfl rfl rfl) (pmk_oex T.XU.ox T.XU.ic T.XU.ti GU hr T.XU.b .nil pass0 (by rfl) T.XU.g (pa_cons pe_str pa_nil)))) pss_nil)))
      (C8.pss_cut (ps_for (passes_of rfl) rfl (pi_list (pv 2)) (pg_name (i := 3) scGI.nd rfl (.inl rfl))
        (pss_one (ps_if (pt_cmpR op_eq (pe_op op_mod (pe_fld (pv 3) rfl) pe_int) pe_int (nomark _)) (pss_one (ps_raise rfl (takes_of rfl rfl rfl rfl) (pmk_oex T.XB.ox T.XB.ic T.XB.ti GBN hr T.XB.b .nil pass0 (by rfl) T.XB.g (pa_cons pe_str (pa_cons (pv 3) pa_nil))))) pss_nil)))
      (C8.pss_cut (ps_setLc (i := 4) (own := [("string", 3)]) (g := gName 3) (by rfl) scGI.nd rfl rfl (sw_true rfl rfl rfl (by decide +kernel)) (pi_list (pv 2)) (blkOk_by (own := [("string", 3)]) (N := ["self", "size", "strings", "string", "given", "bits", "_", "held"]) (sc := defScope sGI) (by decide +kernel))
          (fun _ _ _ _ _ => pg_name (i := 3) scGI.nd rfl (Or.inl rfl)) (fun _ _ _ _ _ => pts_nil) (fun _ _ _ _ _ => pe_call GHo hr (by rfl) T.gHo T.FHo.kp T.bHo .nil pass0 (pa_cons (pv 3) pa_nil)))
      (C8.pss_cut (ps_expr (pe_call GCk r4 (by rfl) T.gCk T.FCk.kp T.bCk .nil (passes_call (takes_of rfl rfl rfl rfl) (fun _ _ _ _ h => h)) (pa_cons (pv 1) (pa_cons (pe_lc (own := [("bits", 5), ("_", 6)]) (g := gTup K 2 (gCons (gName 5) (gCons (gName 6) gNil))) (by rfl) scGI.nd (pi_list (pv 4)) (blkOk_by (own := [("bits", 5), ("_", 6)]) (N := ["self", "size", "strings", "string", "given", "bits", "_", "held"]) (sc := defScope sGI) (by decide +kernel))
          (fun _ _ _ _ _ => pg_tup rfl (pgs_cons (pg_name (i := 5) scGI.nd rfl (Or.inl rfl)) (pgs_cons (pg_name (i := 6) scGI.nd rfl (Or.inl rfl)) pgs_nil))) (fun _ _ _ _ _ => pts_nil) (fun _ _ _ _ _ => pv 5)) pa_nil))))
      (C8.pss_cut (ps_fld (pv 0) (pv 1) rfl)
      (C8.pss_cut (ps_fld (pv 0) (pe_call GRt r4 (by rfl) T.gRt T.FRt.kp T.bRt .nil (passes_call (takes_of rfl rfl rfl rfl) (fun _ _ _ _ h => h)) (pa_cons (pv 1) (pa_cons (pv 4) pa_nil))) rfl)
      (C8.pss_cut (ps_fld (pv 0) (pe_callTy call_tuple_of (by rfl) T.B.tuple bootT (pa_cons (pe_lc (own := [("bits", 5), ("_", 6)]) (g := gTup K 2 (gCons (gName 5) (gCons (gName 6) gNil))) (by rfl) scGI.nd (pi_tup (pe_fld (pv 0) rfl)) (blkOk_by (own := [("bits", 5), ("_", 6)]) (N := ["self", "size", "strings", "string", "given", "bits", "_", "held"]) (sc := defScope sGI) (by decide +kernel))
          (fun _ _ _ _ _ => pg_tup rfl (pgs_cons (pg_name (i := 5) scGI.nd rfl (Or.inl rfl)) (pgs_cons (pg_name (i := 6) scGI.nd rfl (Or.inl rfl)) pgs_nil))) (fun _ _ _ _ _ => pts_nil) (fun _ _ _ _ _ => pv 5)) pa_nil)) rfl)
      (C8.pss_cut (ps_fld (pv 0) (pe_callTy call_tuple_of (by rfl) T.B.tuple bootT (pa_cons (pe_lc (own := [("held", 7)]) (g := gName 7) (by rfl) scGI.nd (pi_tup (pe_fld (pv 0) rfl)) (blkOk_by (own := [("held", 7)]) (N := ["self", "size", "strings", "string", "given", "bits", "_", "held"]) (sc := defScope sGI) (by decide +kernel))
          (fun _ _ _ _ _ => pg_name (i := 7) scGI.nd rfl (Or.inl rfl)) (fun _ _ _ _ _ => pts_nil) (fun _ _ _ _ _ => pe_call GSo hr (by rfl) T.gSo T.FSo.kp T.bSo .nil passL (pa_cons (pv 1) (pa_cons (pv 7) pa_nil)))) pa_nil)) rfl)
      (pss_one (ps_fld (pv 0) (pe_callB call_len_seq (by rfl) T.B.len PySem.boot_len (pa_cons (pe_fld (pv 0) rfl) pa_nil)) rfl)))))))))), ?_⟩
    have big : ∀ m, m ≤ 100 → m < sizeLine := fun m h => Nat.lt_of_le_of_lt h (by decide)
    refine ⟨fun σ' H' => ∃ n : Nat, σ' = [some (.ref a), some (.int (n : Nat)), some (.ref ts), none, none, none, none, none] ∧ H' = H ∧ 1 ≤ n ∧ n ≤ 300 ∧ GW C CG CB CU CA CM n a L H Q E, ?_, ?_⟩
    · rcases h with ⟨odd, rz⟩ | ⟨n, rfl, n1, hn, h⟩
      · refine ⟨_, rfl, sv, rfl, odd.1, _, rfl, ?_⟩
        cases hi : isI sv with
        | false => exact ⟨_, rfl, by show 2 ≤ 1000; decide, raise2 rz⟩
        | true =>
          obtain ⟨i, rfl⟩ := isI_of hi
          refine ⟨_, rfl, _, _, rfl, rfl, _, rfl, ?_⟩
          rw [decide_eq_true (odd.2 i rfl)]
          exact ⟨_, rfl, by show 2 ≤ 1000; decide, raise2 rz⟩
      · refine ⟨_, rfl, _, rfl, .inl ⟨_, rfl⟩, _, rfl, ⟨_, rfl, _, _, rfl, rfl, _, rfl, ?_⟩⟩
        rw [decide_eq_false (by omega)]
        exact ⟨n, rfl, rfl, n1, hn, h⟩
    rintro _ H1 ⟨n, rfl, eH, n1, hn, h⟩
    subst eH
    obtain ⟨qU, h⟩ := h
    have att : ∀ q ∈ L, ∃ dx fs, H1 q.1 = some (.ins C dx fs) ∧ fs.lookup ("phase" : Str) = some (.int (q.2.2 : Int)) ∧ fs.lookup ("size" : Str) = some (.int (q.2.1.length : Int)) := fun q hq => by
      obtain ⟨dx, fs, e, l1, l2, l3, l4⟩ := hP q hq
      exact ⟨dx, fs, e, l2, l3⟩
    refine ⟨fun σ' H' => ∃ v3, σ' = [some (.ref a), some (.int (n : Nat)), some (.ref ts), v3, none, none, none, none] ∧ H' = H1 ∧ ∀ q ∈ L, q.2.1.length = n, ?_, ?_⟩
    · refine ⟨_, rfl, ts, rfl, ⟨_, hS⟩, for_list (K := K) (a := ts) (xs := refP L) (fun i σ H' => ∃ v3, σ = [some (.ref a), some (.int (n : Nat)), some (.ref ts), v3, none, none, none, none] ∧ H' = H1 ∧ ∀ q ∈ L.take i, q.2.1.length = n)
        ⟨none, rfl, rfl, fun q hq => (by cases hq)⟩ (fun i σ H' _ ⟨_, _, e, _⟩ => by rw [e]; exact hS) ?_ ?_⟩
      · rintro i y σ H' hi ⟨v3, rfl, rfl, hz⟩
        obtain ⟨q, hq, rfl⟩ := refP_at hi
        have hm := List.mem_of_getElem? hq
        obtain ⟨dy, gs, e', l2, l3⟩ := att q hm
        refine ⟨_, rfl, q.1, C, dy, gs, _, rfl, e', T.N.cl, T.N.nS, l3, _, rfl, rfl, _, rfl, ite2 (fun z => ?_) (fun z => ?_)⟩
        · have ne : q.2.1.length ≠ n := fun y => by
            rw [y, decide_eq_true rfl] at z
            cases z
          exact ⟨by show 1 ≤ 1000; decide, raise1 (qU ⟨q, hm, ne⟩)⟩
        · have eq : q.2.1.length = n := by
            by_cases y : q.2.1.length = n
            · exact y
            · exact absurd (by rw [decide_eq_false (fun x => y (by have := V.int.inj x; omega))]; rfl) z
          refine ⟨_, rfl, rfl, fun r hr' => ?_⟩
          rw [take_snoc hq] at hr'
          rcases List.mem_append.mp hr' with k | k
          · exact hz r k
          · rw [List.mem_singleton.mp k]
            exact eq
      · rintro σ H' ⟨v3, rfl, rfl, hz⟩
        rw [refP_len, List.take_length] at hz
        exact ⟨v3, rfl, rfl, hz⟩
    rintro _ H2 ⟨v3, rfl, eH, hlen⟩
    subst eH
    obtain ⟨qS, h⟩ := h hlen
    refine ⟨fun σ' H' => ∃ v3, σ' = [some (.ref a), some (.int (n : Nat)), some (.ref ts), v3, none, none, none, none] ∧ H' = H2 ∧ ∀ q ∈ L, q.2.2 % 2 = 0, ?_, ?_⟩
    · refine ⟨_, rfl, ts, rfl, ⟨_, hS⟩, for_list (K := K) (a := ts) (xs := refP L) (fun i σ H' => ∃ v3, σ = [some (.ref a), some (.int (n : Nat)), some (.ref ts), v3, none, none, none, none] ∧ H' = H2 ∧ ∀ q ∈ L.take i, q.2.2 % 2 = 0)
        ⟨v3, rfl, rfl, fun q hq => (by cases hq)⟩ (fun i σ H' _ ⟨_, _, e, _⟩ => by rw [e]; exact hS) ?_ ?_⟩
      · rintro i y σ H' hi ⟨v3, rfl, rfl, hz⟩
        obtain ⟨q, hq, rfl⟩ := refP_at hi
        have hm := List.mem_of_getElem? hq
        obtain ⟨dy, gs, e', l2, l3⟩ := att q hm
        have em : ((q.2.2 : Int) % 2) = ((q.2.2 % 2 : Nat) : Int) := by omega
        refine ⟨_, rfl, q.1, C, dy, gs, _, rfl, e', T.N.cl, T.N.nP, l2, _, _, rfl, rfl, (by show (0 : Int) < 2; decide), rfl, _, rfl, ite2 (fun z => ?_) (fun z => ?_)⟩
        · have ne : q.2.2 % 2 = 1 := by
            have z' : decide (V.int ((q.2.2 : Int) % 2) = V.int 1) = true := z
            have := V.int.inj (of_decide_eq_true z')
            omega
          refine ⟨_, rfl, by show 2 ≤ 1000; decide, raise2 (qS i q hq ne fun j r hj hr' => hz r ?_)⟩
          exact List.mem_of_getElem? (by rw [List.getElem?_take_of_lt hj]; exact hr')
        · have eq : q.2.2 % 2 = 0 := by
            by_cases y : q.2.2 % 2 = 0
            · exact y
            · refine absurd ?_ z
              show decide (V.int ((q.2.2 : Int) % 2) = V.int 1) = true
              refine decide_eq_true ?_
              congr 1
              omega
          refine ⟨_, rfl, rfl, fun r hr' => ?_⟩
          rw [take_snoc hq] at hr'
          rcases List.mem_append.mp hr' with k | k
          · exact hz r k
          · rw [List.mem_singleton.mp k]
            exact eq
      · rintro σ H' ⟨v3, rfl, rfl, hz⟩
        rw [refP_len, List.take_length] at hz
        exact ⟨v3, rfl, rfl, hz⟩
    rintro _ H3 ⟨v3, rfl, eH, hph⟩
    subst eH
    obtain ⟨qA, h⟩ := h hph
    refine ⟨fun σ' H' => ∃ (D : Addr) (N : GLs), σ' = [some (.ref a), some (.int (n : Nat)), some (.ref ts), v3, some (.ref D), none, none, none] ∧ Same H3 H' ∧ H3 D = none ∧ H' D = some (.lst (refH N)) ∧ HlsAt H' N ∧ hls N = gsOf L, ?_, ?_⟩
    · refine ⟨_, rfl, ts, rfl, ⟨_, hS⟩, fun D nD => ?_⟩
      refine lc_list (K := K) (a := ts) (xs := refP L) (Pv := fun j Hc => Same H3 Hc ∧ ∃ N : GLs, Hc D = some (.lst (refH N)) ∧ HlsAt Hc N ∧ hls N = (gsOf L).take j ∧ N.length ≤ j) ⟨same_new nD, [], upd_same, fun p hp => (by cases hp), rfl, Nat.le_refl _⟩ (fun j Hc _ ⟨sc, _⟩ => Same.seq sc hS) ?_ ?_
      · rintro j y Hc hj ⟨sc, N, eD, hN, eN, lN⟩
        obtain ⟨q, hq, rfl⟩ := refP_at hj
        have hm := List.mem_of_getElem? hq
        refine ⟨rfl, _, rfl, q.1, q.2.1, q.2.2, rfl, (hP q hm).same sc, O.isl q hm, O.ne q hm, O.len q hm, fun H' x s' nx ex' => ?_⟩
        have eD' := s' _ _ eD
        refine ⟨refH N, eD', ?_, same_put0 (sc.trans s') nD, N ++ [(x, (bL q.2.1, (q.2.2 + q.2.1.count 89) % 4))], ?_, ?_, ?_, ?_⟩
        · rw [refH_len]
          have := (List.getElem?_eq_some_iff.mp hq).1
          have := O.few
          exact big _ (by omega)
        · rw [upd_same, refH_app]
          rfl
        · refine HlsAt.put eD' fun p hp => ?_
          rcases List.mem_append.mp hp with k | k
          · exact s' _ _ (hN p k)
          · rw [List.mem_singleton.mp k]
            exact ex'
        · have e2 : (gsOf L)[j]? = some (bL q.2.1, (q.2.2 + q.2.1.count 89) % 4) := by unfold gsOf; rw [List.getElem?_map, hq]; rfl
          rw [hls_app, eN, take_snoc e2]
          rfl
        · rw [List.length_append, List.length_singleton]
          omega
      · rintro Hc ⟨sc, N, eD, hN, eN, lN⟩
        rw [List.take_of_length_le (by rw [gsOf_len, refP_len]; exact Nat.le_refl _)] at eN
        exact ⟨D, N, rfl, sc, nD, eD, hN, eN⟩
    rintro _ H4 ⟨D, N, rfl, s4, nD, eD, hN, eN⟩
    have lN : N.length = L.length := by
      have := congrArg List.length eN
      rwa [hls_len, gsOf_len] at this
    have hlt := gs_lt hlen
    refine ⟨fun σ' H' => σ' = [some (.ref a), some (.int (n : Nat)), some (.ref ts), v3, some (.ref D), none, none, none] ∧ Same H4 H' ∧ ∀ i j, i < j → j < L.length → xg n ((gsOf L).map Prod.fst) i j = 0, ?_, ?_⟩
    · refine ⟨_, rfl, _, rfl, D, rfl, ⟨_, SqL.of eD⟩, fun D2 nD2 => ?_⟩
      refine lc_list (K := K) (a := D) (xs := refH N) (Pv := fun j Hc => Same H4 Hc ∧ Hc D2 = some (.lst (natV (((gsOf L).map Prod.fst).take j)))) ⟨same_new nD2, upd_same⟩ (fun j Hc _ ⟨sc, _⟩ => SqL.of (sc _ _ eD)) ?_ ?_
      · rintro j y Hc hj ⟨sc, ec⟩
        obtain ⟨p, hp, rfl⟩ := refH_at hj
        have hy := hN.same sc p (List.mem_of_getElem? hp)
        refine ⟨p.1, _, rfl, .inl (.inl hy), rfl, _, _, rfl, _, _, rfl, rfl, rfl, _, rfl, _, ec, ?_, same_put0 sc nD2, ?_⟩
        · rw [natV_len, List.length_take, List.length_map, gsOf_len]
          have := O.few
          exact big _ (by omega)
        · have e2 : ((gsOf L).map Prod.fst)[j]? = some p.2.1 := by rw [← eN]; unfold hls; rw [List.getElem?_map, List.getElem?_map, hp]; rfl
          rw [upd_same, take_snoc e2, natV_app]
          rfl
      · rintro Hc ⟨sc, ec⟩
        rw [List.take_of_length_le (by rw [List.length_map, gsOf_len, refH_len, lN]; exact Nat.le_refl _)] at ec
        have s5 := s4.trans sc
        refine ⟨n, D2, (gsOf L).map Prod.fst, rfl, SqL.of ec, hn, by rw [List.length_map, gsOf_len]; exact O.few, fun b hb => ?_, fun hz H' s' => ⟨rfl, sc.trans s', fun i j h1 h2 => hz i j h1 (by rw [List.length_map, gsOf_len]; exact h2)⟩, fun i j h1 h2 h3 h4 h5 => ?_⟩
        · obtain ⟨g, hg, rfl⟩ := List.mem_map.mp hb
          exact hlt g hg
        · have R := qA i j h1 (by rw [List.length_map, gsOf_len] at h2; exact h2) h3 h4 h5
          exact fun d H' s' e => R d H' (s5.trans s') e
    rintro _ H5 ⟨rfl, s5, hz⟩
    obtain ⟨qM, qG⟩ := h hz
    have s35 := s4.trans s5
    have ea5 := s35 _ _ ea
    have eD5 := s5 _ _ eD
    have hN5 := hN.same s5
    have cs := gs_cs O hlen hph hz
    refine ⟨fun σ' H' => σ' = [some (.ref a), some (.int (n : Nat)), some (.ref ts), v3, some (.ref D), none, none, none] ∧ But a H3 H' ∧ H' D = some (.lst (refH N)) ∧ HlsAt H' N ∧ ∃ fs, H' a = some (.ins CG dx fs) ∧ fs.length ≤ 1 ∧ fs.lookup ("size" : Str) = some (.int (n : Nat)), ?_, ?_⟩
    · refine ⟨_, rfl, _, rfl, a, CG, dx, _, rfl, ea5, G.cl, G.nS, by show 0 < 1000; decide, ?_⟩
      have neD : D ≠ a := fun z => by rw [z, ea5] at eD5; cases eD5
      exact ⟨rfl, (But.of s35).trans But.upd, by rw [upd_ne neD]; exact eD5, hN5.but ea5 But.upd, _, upd_same, Nat.le_refl _, by rw [lookup_putF, if_pos rfl]⟩
    rintro _ H6 ⟨rfl, b6, eD6, hN6, fs6, ea6, fl6, lk6⟩
    refine ⟨fun σ' H' => σ' = [some (.ref a), some (.int (n : Nat)), some (.ref ts), v3, some (.ref D), none, none, none] ∧ But a H3 H' ∧ ∃ (fs : List (Str × V)) (p : Addr) (M : GLs) (T' : List Hl), H' a = some (.ins CG dx fs) ∧ fs.length ≤ 2 ∧ fs.lookup ("size" : Str) = some (.int (n : Nat)) ∧ fs.lookup ("held" : Str) = some (.ref p) ∧
        H' p = some (.tup (refH M)) ∧ HlsAt H' M ∧ (hls M).Perm T' ∧ (hls M).Pairwise (fun a b => b.1 ≤ a.1) ∧ RedAt n (gsOf L) L.length T' ∧ (∀ h ∈ T', h.1 < 2 ^ (2 * n)) ∧ M.length ≤ L.length ∧ (∀ i, i < L.length → Good n (gsOf L) i), ?_, ?_⟩
    · refine ⟨_, rfl, _, rfl, n, D, N, rfl, SqL.of eD6, hN6, by rw [lN]; exact O.few, hn, by rw [eN]; exact cs, fun p hp => hlt _ (by rw [← eN]; exact List.mem_map_of_mem hp), ?_, ?_⟩
      · rw [eN, lN]
        intro good H' p M T' s' ep hM pm pw R bT lM
        have ea' := s' _ _ ea6
        have np : p ≠ a := fun z => by rw [z, ea'] at ep; cases ep
        refine ⟨_, rfl, a, CG, dx, _, rfl, ea', G.cl, G.nH, by omega, rfl, (b6.trans (But.of s')).trans But.upd, _, p, M, T', upd_same, ?_, ?_, ?_, (upd_ne np).trans ep, hM.but ea' But.upd, pm, pw, R, bT, lM, good⟩
        · exact Nat.le_trans (putF_le _ _ _) (by omega)
        · rw [lookup_putF, if_neg (by decide +kernel)]
          exact lk6
        · rw [lookup_putF, if_pos rfl]
      · rw [eN, lN]
        intro i hi hg ng mk H' x l1 l2 s' ex'
        exact qM i hi hg ng mk H' x l1 l2 (b6.trans (But.of s')) ex'
    rintro _ H7 ⟨rfl, b7, fs7, p, M, T', ea7, fl7, sz7, hd7, ep, hM, pm, pw, R, bT, lM, good⟩
    have mM : ∀ q ∈ M, q.2.1 < 2 ^ (2 * n) := fun q hq => bT q.2 (pm.mem_iff.mp (List.mem_map_of_mem hq))
    refine ⟨fun σ' H' => σ' = [some (.ref a), some (.int (n : Nat)), some (.ref ts), v3, some (.ref D), none, none, none] ∧ But a H3 H' ∧ ∃ (fs : List (Str × V)) (b : Addr), H' a = some (.ins CG dx fs) ∧ fs.length ≤ 3 ∧ fs.lookup ("size" : Str) = some (.int (n : Nat)) ∧ fs.lookup ("held" : Str) = some (.ref p) ∧ fs.lookup ("bits" : Str) = some (.ref b) ∧
        H' p = some (.tup (refH M)) ∧ HlsAt H' M ∧ H' b = some (.tup (natV ((hls M).map Prod.fst))), ?_, ?_⟩
    · refine ⟨_, rfl, a, CG, dx, fs7, _, rfl, ea7, G.cl, G.nH, hd7, p, rfl, ⟨_, .inl (.inl ep)⟩, fun D2 nD2 => ?_⟩
      refine lc_tup (K := K) (a := p) (xs := refH M) (Pv := fun j Hc => Same H7 Hc ∧ Hc D2 = some (.lst (natV (((hls M).map Prod.fst).take j)))) ⟨same_new nD2, upd_same⟩ (fun j Hc _ ⟨sc, _⟩ => .inl (.inl (sc _ _ ep))) ?_ ?_
      · rintro j y Hc hj ⟨sc, ec⟩
        obtain ⟨q, hq, rfl⟩ := refH_at hj
        have hy := hM.same sc q (List.mem_of_getElem? hq)
        refine ⟨q.1, _, rfl, .inl (.inl hy), rfl, _, _, rfl, _, _, rfl, rfl, rfl, _, rfl, _, ec, ?_, same_put0 sc nD2, ?_⟩
        · rw [natV_len, List.length_take, List.length_map, hls_len]
          have := O.few
          exact big _ (by omega)
        · have e2 : ((hls M).map Prod.fst)[j]? = some q.2.1 := by unfold hls; rw [List.getElem?_map, List.getElem?_map, hq]; rfl
          rw [upd_same, take_snoc e2, natV_app]
          rfl
      · rintro Hc ⟨sc, ec⟩
        rw [List.take_of_length_le (by rw [List.length_map, hls_len, refH_len]; exact Nat.le_refl _)] at ec
        refine ⟨D2, _, rfl, .inl ⟨SqL.of ec, fun l nl => ?_⟩⟩
        have sl := sc.trans (same_new (o := .tup (natV ((hls M).map Prod.fst))) nl)
        have ea' := sl _ _ ea7
        have el : (upd Hc l (.tup (natV ((hls M).map Prod.fst)))) l = some (.tup (natV ((hls M).map Prod.fst))) := upd_same
        have nl' : l ≠ a := ne_of el ea' (fun z => by cases z)
        have np : p ≠ a := fun z => by rw [z, ea7] at ep; cases ep
        refine ⟨_, rfl, a, CG, dx, _, rfl, ea', G.cl, G.nB, by omega, rfl, (b7.trans (But.of sl)).trans But.upd, _, l, upd_same, ?_, ?_, ?_, ?_, (upd_ne np).trans (sl _ _ ep), (hM.same sl).but ea' But.upd, (upd_ne nl').trans el⟩
        · exact Nat.le_trans (putF_le _ _ _) (by omega)
        · rw [lookup_putF, if_neg (by decide +kernel)]
          exact sz7
        · rw [lookup_putF, if_neg (by decide +kernel)]
          exact hd7
        · rw [lookup_putF, if_pos rfl]
    rintro _ H8 ⟨rfl, b8, fs8, bb, ea8, fl8, sz8, hd8, bt8, ep8, hM8, eb8⟩
    let fo : Hl → List Nat × Nat := fun h => (LO n h.1, (((h.2 : Int) - ((LO n h.1).count 89 : Nat)) % 4).toNat)
    refine ⟨fun σ' H' => σ' = [some (.ref a), some (.int (n : Nat)), some (.ref ts), v3, some (.ref D), none, none, none] ∧ But a H3 H' ∧ ∃ (fs : List (Str × V)) (r : Addr) (M' : PLs), H' a = some (.ins CG dx fs) ∧ fs.length ≤ 4 ∧ fs.lookup ("size" : Str) = some (.int (n : Nat)) ∧ fs.lookup ("held" : Str) = some (.ref p) ∧ fs.lookup ("bits" : Str) = some (.ref bb) ∧
        fs.lookup ("rows" : Str) = some (.ref r) ∧ H' p = some (.tup (refH M)) ∧ HlsAt H' M ∧ H' bb = some (.tup (natV ((hls M).map Prod.fst))) ∧ H' r = some (.tup (refP M')) ∧ PsAt C H' M' ∧ M'.map (·.2) = (hls M).map fo, ?_, ?_⟩
    · refine ⟨_, rfl, a, CG, dx, fs8, _, rfl, ea8, G.cl, G.nH, hd8, p, rfl, ⟨_, .inl (.inl ep8)⟩, fun D2 nD2 => ?_⟩
      refine lc_tup (K := K) (a := p) (xs := refH M) (Pv := fun j Hc => Same H8 Hc ∧ ∃ N' : PLs, Hc D2 = some (.lst (refP N')) ∧ PsAt C Hc N' ∧ N'.map (·.2) = ((hls M).take j).map fo ∧ N'.length ≤ j) ⟨same_new nD2, [], upd_same, fun q hq => (by cases hq), rfl, Nat.le_refl _⟩ (fun j Hc _ ⟨sc, _⟩ => .inl (.inl (sc _ _ ep8))) ?_ ?_
      · rintro j y Hc hj ⟨sc, N', ec, hN', eN', lN'⟩
        obtain ⟨q, hq, rfl⟩ := refH_at hj
        have hm := List.mem_of_getElem? hq
        have hy := hM8.same sc q hm
        refine ⟨rfl, _, rfl, _, rfl, n, q.1, q.2, rfl, hy, n1, hn, mM q hm, fun H' x s' PX => ?_⟩
        have ec' := s' _ _ ec
        refine ⟨refP N', ec', ?_, same_put0 (sc.trans s') nD2, N' ++ [(x, fo q.2)], ?_, ?_, ?_, ?_⟩
        · rw [refP_len]
          have := (List.getElem?_eq_some_iff.mp hq).1
          have := O.few
          exact big _ (by omega)
        · rw [upd_same]
          unfold refP
          rw [List.map_append]
          rfl
        · intro r hr'
          rcases List.mem_append.mp hr' with k | k
          · exact ((hN' r k).same s').put ec'
          · rw [List.mem_singleton.mp k]
            exact PX.put ec'
        · have e2 : (hls M)[j]? = some q.2 := by unfold hls; rw [List.getElem?_map, hq]; rfl
          rw [List.map_append, eN', take_snoc e2, List.map_append]
          rfl
        · rw [List.length_append, List.length_singleton]
          omega
      · rintro Hc ⟨sc, N', ec, hN', eN', lN'⟩
        rw [List.take_of_length_le (by rw [hls_len, refH_len]; exact Nat.le_refl _)] at eN'
        refine ⟨D2, _, rfl, .inl ⟨SqL.of ec, fun l nl => ?_⟩⟩
        have s1 := same_new (o := .tup (refP N')) nl
        have sl := sc.trans s1
        have ea' := sl _ _ ea8
        have el : (upd Hc l (.tup (refP N'))) l = some (.tup (refP N')) := upd_same
        have nl' : l ≠ a := ne_of el ea' (fun z => by cases z)
        have np : p ≠ a := ne_of ep8 ea8 (fun z => by cases z)
        have nb : bb ≠ a := ne_of eb8 ea8 (fun z => by cases z)
        refine ⟨_, rfl, a, CG, dx, _, rfl, ea', G.cl, G.nR, by omega, rfl, (b8.trans (But.of sl)).trans But.upd, _, l, N', upd_same, ?_, ?_, ?_, ?_, ?_, (upd_ne np).trans (sl _ _ ep8), (hM8.same sl).but ea' But.upd, (upd_ne nb).trans (sl _ _ eb8), (upd_ne nl').trans el, ?_, eN'⟩
        · exact Nat.le_trans (putF_le _ _ _) (by omega)
        · rw [lookup_putF, if_neg (by decide +kernel)]
          exact sz8
        · rw [lookup_putF, if_neg (by decide +kernel)]
          exact hd8
        · rw [lookup_putF, if_neg (by decide +kernel)]
          exact bt8
        · rw [lookup_putF, if_pos rfl]
        · intro r hr'
          obtain ⟨dx', fs', e1, e2⟩ := (hN' r hr').same s1
          refine ⟨dx', fs', (upd_ne (ne_of e1 ea' fun z => ?_)).trans e1, e2⟩
          have z' := HO.ins.inj z
          exact cne z'.1
    rintro _ H9 ⟨rfl, b9, fs9, r, M', ea9, fl9, sz9, hd9, bt9, rw9, ep9, hM9, eb9, er9, hP9, eM9⟩
    refine ⟨_, rfl, a, CG, dx, fs9, _, rfl, ea9, G.cl, G.nR, rw9, ?_⟩
    have lM' : M'.length = M.length := by
      have := congrArg List.length eM9
      rwa [List.length_map, List.length_map, hls_len] at this
    have np : p ≠ a := ne_of ep9 ea9 (fun z => by cases z)
    have nb : bb ≠ a := ne_of eb9 ea9 (fun z => by cases z)
    have nr : r ≠ a := ne_of er9 ea9 (fun z => by cases z)
    refine ⟨r, _, rfl, .inr (.inl (.inl er9)), _, rfl, a, CG, dx, _, rfl, ea9, G.cl, G.nK, by omega, qG good _ M T' (b9.trans But.upd) ⟨dx, _, p, bb, r, M', upd_same, ?_, ?_, ?_, ?_, ?_, (upd_ne np).trans ep9, hM9.but ea9 But.upd, (upd_ne nb).trans eb9, (upd_ne nr).trans er9, ?_, eM9⟩ pm pw R⟩
    · rw [lookup_putF, if_neg (by decide +kernel)]
      exact sz9
    · rw [lookup_putF, if_neg (by decide +kernel)]
      exact hd9
    · rw [lookup_putF, if_neg (by decide +kernel)]
      exact bt9
    · rw [lookup_putF, if_neg (by decide +kernel)]
      exact rw9
    · rw [lookup_putF, if_pos rfl, refP_len, lM']
    · intro q hq
      obtain ⟨dx', fs', e1, e2⟩ := hP9 q hq
      refine ⟨dx', fs', (upd_ne (ne_of e1 ea9 fun z => ?_)).trans e1, e2⟩
      have z' := HO.ins.inj z
      exact cne z'.1
end
end KQ

namespace KQ
open PySem PySem.Spec PyProof.Rows L2
/-! ### the law about groups: small defs -/
abbrev sShuf : Stmt := topS 43
abbrev sOnes : Stmt := topS 44
abbrev sCross : Stmt := topS 45
abbrev sProd : Stmt := topS 46
abbrev sLett : Stmt := topS 47
abbrev sText : Stmt := topS 48
abbrev sOfT : Stmt := topS 49
abbrev sSome : Stmt := topS 50
abbrev sGate : Stmt := topS 51
abbrev sCode : Stmt := topS 52
abbrev sWhy : Stmt := topS 53
abbrev sStrs : Stmt := topS 54
abbrev sMinus : Stmt := topS 55
abbrev sDue : Stmt := topS 56
abbrev sLaw : Stmt := topS 57
theorem scOnes : FnScope ["_law_number", "_law_count", "_law_lap"] ["_law_number"] (defScope sOnes) := ⟨rfl, rfl, rfl, by decide +kernel, rfl, by decide +kernel, by decide +kernel⟩
theorem scLett : FnScope ["_law_string", "_law_size", "_law_found", "_law_k"] ["_law_string", "_law_size"] (defScope sLett) := ⟨rfl, rfl, rfl, by decide +kernel, rfl, by decide +kernel, by decide +kernel⟩
theorem scOfT : FnScope ["_law_text_here", "_law_sign", "_law_letters_here", "_law_x", "_law_z", "_law_k"] ["_law_text_here"] (defScope sOfT) := ⟨rfl, rfl, rfl, by decide +kernel, rfl, by decide +kernel, by decide +kernel⟩
theorem scSome : FnScope ["_law_pen_here", "_law_size", "_law_letters_here", "_law_k"] ["_law_pen_here", "_law_size"] (defScope sSome) := ⟨rfl, rfl, rfl, by decide +kernel, rfl, by decide +kernel, by decide +kernel⟩
theorem shr_bit {f : Nat → Nat} (hf : ∀ c, f c < 2) {L : List Nat} {k c : Nat} (h : L[k]? = some c) : ((bv f L : Nat) : Int) / 2 ^ ((0 : Int) + (k : Nat)).toNat % 2 = ((f c : Nat) : Int) := by
  rw [Int.zero_add, Int.toNat_natCast]
  have e := bv_bit hf h
  have : (((bv f L / 2 ^ k % 2 : Nat)) : Int) = ((f c : Nat) : Int) := by rw [e]
  rw [← this]
  push_cast
  rfl
theorem e_XY : ("XY" : Str).cps.toList = [88, 89] := by decide +kernel
theorem e_ZY : ("ZY" : Str).cps.toList = [90, 89] := by decide +kernel
theorem e_IXZY : ("IXZY" : Str) = mS [73, 88, 90, 89] := by decide +kernel
theorem e_IXYZ : ("IXYZ" : Str).cps.toList = [73, 88, 89, 90] := by decide +kernel
theorem e_some : ("IIXYZ" : Str).cps.toList = [73, 73, 88, 89, 90] := by decide +kernel
theorem e_pm : ("+-" : Str) = mS [43, 45] := by decide +kernel
theorem in_XY (c : Nat) : (if decide (c ∈ ("XY" : Str).cps.toList) then (1 : Int) else 0) = ((lx c : Nat) : Int) := by
  rw [e_XY]
  unfold lx
  by_cases h : c = 88 ∨ c = 89
  · rw [if_pos h, if_pos (decide_eq_true (by simpa using h))]
    rfl
  · rw [if_neg h, if_neg (by simpa using h)]
    rfl
theorem in_ZY (c : Nat) : (if decide (c ∈ ("ZY" : Str).cps.toList) then (1 : Int) else 0) = ((lz c : Nat) : Int) := by
  rw [e_ZY]
  unfold lz
  by_cases h : c = 90 ∨ c = 89
  · rw [if_pos h, if_pos (decide_eq_true (by simpa using h))]
    rfl
  · rw [if_neg h, if_neg (by simpa using h)]
    rfl
def Lts8 (L : List Nat) : Prop := ∀ c ∈ L, isL c = true
theorem Lts8.at {L : List Nat} (h : Lts8 L) {k c : Nat} (e : L[k]? = some c) : isL c = true := h c (List.mem_of_getElem? e)
def spOnes : Sp := fun vs H Q _ => ∃ n : Nat, vs = [.int (n : Int)] ∧ pc n ≤ 63 ∧ Q (.int (pc n : Nat)) H
def spLett : Sp := fun vs H Q _ => ∃ (t : Addr) (L : List Nat) (z : Int), vs = [.ref t, .int (L.length : Int)] ∧ H t = some (.tup [.int (bv lx L : Nat), .int (bv lz L : Nat), .int z]) ∧ Lts8 L ∧ L.length ≤ 60 ∧ Q (.str (mS L)) H
def spOfT : Sp := fun vs H Q _ => ∃ L : List Nat, vs = [.str (mS L)] ∧ Lts8 L ∧ L.length ≤ 60 ∧ ∀ H' t, Same H H' → H t = none → H' t = some (.tup [.int (bv lx L : Nat), .int (bv lz L : Nat), .int 0]) → Q (.ref t) H'
section
variable {P : Program} {w : World} {K : PySem.W.Frag} {mg : Str → Option Value} {base : Heap}
theorem ok_ones {f : Addr} {fd : FuncData} {k : Nat} (F : Fun K "_law_ones" "_law_ones" sOnes f fd) (B : Bl mg) : FnOk P w K mg base CX0 (k + 1) f fd ["_law_number"] spOnes := by
  refine F.ok scOnes (fun vs H Q E h => ?_) (fun cdv A outer s H vs Q E hr h => ?_)
  · obtain ⟨n, rfl, _⟩ := h
    rfl
  · obtain ⟨n, rfl, hn, q⟩ := h
    refine ⟨_, C8.pss_cut (ps_set (i := 1) scOnes.nd rfl (.inl rfl) pe_int)
      (C8.pss_cut (ps_for PassesOwn.never rfl (pi_range1 (by rfl) B.range (pa_cons pe_int pa_nil)) (pg_name (i := 2) scOnes.nd rfl (.inl rfl))
        (pss_cons (ps_if (pt_cmpR op_eq (pv 0) pe_int (nomark _)) (pss_one ps_break) pss_nil)
        (pss_one (ps_par (i := 0) (j := 1) rfl scOnes.nd rfl rfl (by decide) rfl rfl (pa_cons (pe_op op_and (pv 0) (pe_op op_sub (pv 0) pe_int)) (pa_cons (pe_op op_add (pv 1) pe_int) pa_nil)) rfl))))
      (pss_one (ps_ret (pv 1)))), ?_⟩
    refine ⟨fun σ' H' => σ' = [some (.int (n : Int)), some (.int 0), none] ∧ H' = H, ⟨rfl, rfl⟩, ?_⟩
    rintro _ H1 ⟨rfl, rfl⟩
    refine ⟨fun σ' H' => ∃ lap, σ' = [some (.int 0), some (.int (pc n : Nat)), lap] ∧ H' = H1, ?_, ?_⟩
    · refine ⟨64, rfl, by decide, by decide, for_range (n := 64) (fun i σ' H' => ∃ (m : Nat) (lap : Option V), σ' = [some (.int (m : Int)), some (.int (i : Int)), lap] ∧ H' = H1 ∧ pc m + i = pc n) ⟨n, none, rfl, rfl, rfl⟩ ?_ ?_⟩
      · rintro i _ _ hi ⟨m, lap, rfl, rfl, he⟩
        refine ⟨_, rfl, rfl, _, rfl, ite2 (fun e => ?_) (fun e => ?_)⟩
        · have e' : m = 0 := by have := V.int.inj (of_decide_eq_true e); omega
          subst e'
          rw [pc_zero] at he
          exact ⟨_, by rw [← he, Nat.zero_add]; rfl, rfl⟩
        · have e' : m ≠ 0 := fun z => e (decide_eq_true (by rw [z]; rfl))
          have em : ((m : Nat) : Int) - 1 = ((m - 1 : Nat) : Int) := by omega
          refine ⟨_, rfl, _, rfl, _, _, rfl, rfl, _, _, rfl, rfl, _, rfl, _, _, rfl, rfl, _, _, rfl, m &&& (m - 1), some (.int (0 + (i : Int))), ?_, rfl, ?_⟩
          · show [some (V.int (Builtin.bitAnd (m : Int) ((m : Int) - 1))), some (V.int ((i : Int) + 1)), some (V.int (0 + (i : Int)))] = _
            rw [em, band]
            rfl
          · have := pc_step m (by omega)
            omega
      · rintro _ _ ⟨m, lap, rfl, rfl, he⟩
        omega
    rintro _ H2 ⟨lap, rfl, rfl⟩
    exact ⟨_, rfl, q⟩
theorem ok_lett {f : Addr} {fd : FuncData} {k : Nat} (F : Fun K "_law_letters" "_law_letters" sLett f fd) (B : Bl mg) : FnOk P w K mg base CX0 (k + 1) f fd ["_law_string", "_law_size"] spLett := by
  refine F.ok scLett (fun vs H Q E h => ?_) (fun cdv A outer s H vs Q E hr h => ?_)
  · obtain ⟨t, L, z, rfl, _⟩ := h
    rfl
  · obtain ⟨t, L, z, rfl, et, hL, hl, q⟩ := h
    refine ⟨_, C8.pss_cut (ps_set (i := 2) scLett.nd rfl (.inl rfl) pe_str)
      (C8.pss_cut (ps_for PassesOwn.never rfl (pi_range1 (by rfl) B.range (pa_cons (pv 1) pa_nil)) (pg_name (i := 3) scLett.nd rfl (.inl rfl))
        (pss_one (ps_set (i := 2) scLett.nd rfl (.inl rfl) (pe_op op_add_str (pv 2) (pe_ix ix_str pe_str (pe_op op_add
          (pe_op op_mod (pe_callTy call_int1 (by rfl) B.int bootI (pa_cons (pe_op op_shr (pe_ix ix_tup (pv 0) pe_int (fun _ _ => rfl)) (pv 3)) pa_nil)) pe_int)
          (pe_op op_mul pe_int (pe_op op_mod (pe_callTy call_int1 (by rfl) B.int bootI (pa_cons (pe_op op_shr (pe_ix ix_tup (pv 0) pe_int (fun _ _ => rfl)) (pv 3)) pa_nil)) pe_int))) (fun _ _ => rfl))))))
      (pss_one (ps_ret (pv 2)))), ?_⟩
    have sq : SqT K H t [.int (bv lx L : Nat), .int (bv lz L : Nat), .int z] := .inl (.inl et)
    have j0 : atI [V.int (bv lx L : Nat), V.int (bv lz L : Nat), V.int z] 0 = some (.int (bv lx L : Nat)) := at_of (j := 0) rfl rfl
    have j1 : atI [V.int (bv lx L : Nat), V.int (bv lz L : Nat), V.int z] 1 = some (.int (bv lz L : Nat)) := at_of (j := 1) rfl rfl
    refine ⟨fun σ' H' => σ' = [some (.ref t), some (.int (L.length : Int)), some (.str (mS [])), none] ∧ H' = H, ⟨by rw [show mS [] = ("" : Str) from e_no.symm]; rfl, rfl⟩, ?_⟩
    rintro _ H1 ⟨rfl, rfl⟩
    refine ⟨fun σ' H' => ∃ lap, σ' = [some (.ref t), some (.int (L.length : Int)), some (.str (mS L)), lap] ∧ H' = H1, ?_, ?_⟩
    · refine ⟨_, rfl, _, rfl, by omega, by omega, for_range (n := L.length) (fun i σ' H' => ∃ lap, σ' = [some (.ref t), some (.int (L.length : Int)), some (.str (mS (L.take i))), lap] ∧ H' = H1) ⟨none, rfl, rfl⟩ ?_ ?_⟩
      · rintro i _ _ hi ⟨lap, rfl, rfl⟩
        have hx : L[i]? = some L[i] := List.getElem?_eq_getElem hi
        have hc := hL.at hx
        have b0 := shr_bit lx_lt hx
        have b1 := shr_bit lz_lt hx
        refine ⟨_, rfl, _, rfl, t, _, _, _, rfl, rfl, sq, j0, _, rfl, _, _, rfl, rfl, by show (0 : Int) ≤ 0 + (i : Int); omega, .inl ⟨_, rfl, _, _, rfl, rfl, by show (0 : Int) < 2; decide, ?_⟩⟩
        refine ⟨_, rfl, t, _, _, _, rfl, rfl, sq, j1, _, rfl, _, _, rfl, rfl, by show (0 : Int) ≤ 0 + (i : Int); omega, .inl ⟨_, rfl, _, _, rfl, rfl, by show (0 : Int) < 2; decide, _, _, rfl, rfl, .inl ⟨by decide, by decide⟩, ?_⟩⟩
        refine ⟨_, _, rfl, rfl, _, _, L[i], rfl, rfl, by show (4 : Nat) ≤ sizeLine; decide, ?_, _, _, rfl, rfl, ?_, ?_⟩
        · show atI _ (((bv lx L : Nat) : Int) / 2 ^ ((0 : Int) + (i : Nat)).toNat % 2 + 2 * (((bv lz L : Nat) : Int) / 2 ^ ((0 : Int) + (i : Nat)).toNat % 2)) = _
          rw [b0, b1, e_IXZY]
          have e2 : ((lx L[i] : Nat) : Int) + 2 * ((lz L[i] : Nat) : Int) = ((lx L[i] + 2 * lz L[i] : Nat) : Int) := by omega
          rw [e2]
          exact atI_nat (letter_back hc)
        · rw [mS_len, List.length_take]
          exact Nat.le_trans (by show _ + 1 ≤ 61; omega) (by decide : 61 ≤ sizeLine)
        · refine ⟨some (.int (0 + (i : Int))), ?_, rfl⟩
          show [_, _, some (V.str (mS (L.take i) ++ mS [L[i]])), _] = _
          rw [mS_app]
          have e3 : L.take (i + 1) = L.take i ++ [L[i]] := by rw [List.take_succ, hx]; rfl
          rw [e3]
      · rintro _ _ ⟨lap, rfl, rfl⟩
        rw [List.take_of_length_le (Nat.le_refl _)]
        exact ⟨_, rfl, rfl⟩
    rintro _ H2 ⟨lap, rfl, rfl⟩
    exact ⟨_, rfl, q⟩
end
theorem bootL : bootBuiltins "list" = some (.type "list") := by decide +kernel
theorem same_upd {H H' : Hp} {p : Addr} {o : HO} (s : Same H H') (np : H p = none) : Same H (upd H' p o) := fun b u e => by
  rw [upd_ne (ne_of_none e np)]
  exact s _ _ e
theorem none_back {H H' : Hp} {p : Addr} (s : Same H H') (np : H' p = none) : H p = none := by
  cases e : H p with
  | none => rfl
  | some o => rw [s _ _ e] at np; cases np
theorem cut_one (L : List Nat) : cutS (mS L) none (some 1) = mS (L.take 1) := cut_to L 1
theorem take_one (L : List Nat) (c : Nat) : decide (V.str (mS (L.take 1)) = V.str (mS [c])) = decide (L.head? = some c) := by
  cases L with
  | nil =>
    rw [decide_eq_false (fun z => by cases mS_inj (V.str.inj z)), decide_eq_false (fun z => by cases z)]
  | cons a L =>
    show decide (V.str (mS [a]) = V.str (mS [c])) = decide (some a = some c)
    by_cases h : a = c
    · subst h
      rw [decide_eq_true rfl, decide_eq_true rfl]
    · rw [decide_eq_false (fun z => h (List.cons.inj (mS_inj (V.str.inj z))).1), decide_eq_false (fun z => h (Option.some.inj z))]
theorem Lts8.strip {L : List Nat} (h : Lts8 L) : L.dropWhile (#[43, 45] : Array Nat).contains = L := by
  cases L with
  | nil => rfl
  | cons a M =>
    have := isL_iff.mp (h a List.mem_cons_self)
    rw [List.dropWhile_cons_of_neg]
    rcases this with rfl | rfl | rfl | rfl <;> simp
theorem Lts8.head {L : List Nat} (h : Lts8 L) : ¬ L.head? = some 45 := by
  cases L with
  | nil => exact fun z => by cases z
  | cons a M =>
    intro z
    have := isL_iff.mp (h a List.mem_cons_self)
    have e := Option.some.inj z
    omega
section
variable {P : Program} {w : World} {K : PySem.W.Frag} {mg : Str → Option Value} {base : Heap}
theorem ok_oft {f : Addr} {fd : FuncData} {k : Nat} (F : Fun K "_law_of_text" "_law_of_text" sOfT f fd) (B : Bl mg) : FnOk P w K mg base CX0 (k + 1) f fd ["_law_text_here"] spOfT := by
  refine F.ok scOfT (fun vs H Q E h => ?_) (fun cdv A outer s H vs Q E hr h => ?_)
  · obtain ⟨L, rfl, _⟩ := h
    rfl
  · obtain ⟨L, rfl, hL, hl, q⟩ := h
    refine ⟨_, C8.pss_cut (ps_par (i := 1) (j := 2) rfl scOfT.nd rfl rfl (by decide) rfl rfl (pa_cons (pe_callTy call_int1 (by rfl) B.int bootI (pa_cons (pe_cmpR op_eq (pe_slice sl_str (pv 0) po_none (po_some pe_int)) pe_str (nomark _)) pa_nil))
        (pa_cons (pe_bm PySem.F.plainAttrs_str PySem.F.slot_str_lstrip PySem.F.type_str_lstrip mt_lstripChars (pv 0) (pa_cons pe_str pa_nil)) pa_nil)) rfl)
      (C8.pss_cut (ps_asg (pe_tup (pa_cons pe_int (pa_cons pe_int pa_nil))) (pg_tup rfl (pgs_cons (pg_name (i := 3) scOfT.nd rfl (.inl rfl)) (pgs_cons (pg_name (i := 4) scOfT.nd rfl (.inl rfl)) pgs_nil))))
      (C8.pss_cut (ps_for PassesOwn.never rfl (pi_range1 (by rfl) B.range (pa_cons (pe_callB call_len_str (by rfl) B.len PySem.boot_len (pa_cons (pv 2) pa_nil)) pa_nil)) (pg_name (i := 5) scOfT.nd rfl (.inl rfl))
        (pss_cons (ps_set (i := 3) scOfT.nd rfl (.inl rfl) (pe_op op_add (pv 3) (pe_op op_mul (pe_op op_shl pe_int (pv 5)) (pe_callTy call_int1 (by rfl) B.int bootI (pa_cons (pe_cmpR op_in_sign (pe_ix ix_str (pv 2) (pv 5) (fun _ _ => rfl)) pe_str (by rfl)) pa_nil)))))
        (pss_one (ps_set (i := 4) scOfT.nd rfl (.inl rfl) (pe_op op_add (pv 4) (pe_op op_mul (pe_op op_shl pe_int (pv 5)) (pe_callTy call_int1 (by rfl) B.int bootI (pa_cons (pe_cmpR op_in_sign (pe_ix ix_str (pv 2) (pv 5) (fun _ _ => rfl)) pe_str (by rfl)) pa_nil))))))))
      (pss_one (ps_ret (pe_tup (pa_cons (pv 3) (pa_cons (pv 4) (pa_cons (pv 1) pa_nil)))))))), ?_⟩
    have hz : (mS L).length ≤ sizeLine := by rw [mS_len]; exact sizeBig (by omega)
    refine ⟨fun σ' H' => σ' = [some (.str (mS L)), some (.int 0), some (.str (mS L)), none, none, none] ∧ H' = H, ?_, ?_⟩
    · refine ⟨_, rfl, _, rfl, _, rfl, hz, rfl, .inr ⟨_, rfl, _, rfl, rfl, _, _, rfl, rfl, hz, _, _, rfl, ?_⟩⟩
      rw [cut_one, show ("-" : Str) = mS [45] from e_minus, take_one, decide_eq_false hL.head, e_pm, lstrip_eq, hL.strip]
      exact ⟨rfl, rfl⟩
    rintro _ H1 ⟨rfl, rfl⟩
    refine ⟨fun σ' H' => σ' = [some (.str (mS L)), some (.int 0), some (.str (mS L)), some (.int 0), some (.int 0), none] ∧ Same H1 H', ⟨by show 2 ≤ sizeLine; decide, fun r nr => ⟨r, _, rfl, .inl (.inl upd_same), rfl, _, _, rfl, _, _, rfl, rfl, rfl, same_new nr⟩⟩, ?_⟩
    rintro _ H2 ⟨rfl, s12⟩
    refine ⟨fun σ' H' => ∃ lap, σ' = [some (.str (mS L)), some (.int 0), some (.str (mS L)), some (.int (bv lx L : Nat)), some (.int (bv lz L : Nat)), lap] ∧ H' = H2, ?_, ?_⟩
    · refine ⟨_, rfl, _, rfl, hz, _, rfl, by rw [mS_len]; omega, by rw [mS_len]; omega, for_range (n := (mS L).length) (fun i σ' H' => ∃ lap, σ' = [some (.str (mS L)), some (.int 0), some (.str (mS L)), some (.int (bv lx (L.take i) : Nat)), some (.int (bv lz (L.take i) : Nat)), lap] ∧ H' = H2) ⟨none, rfl, rfl⟩ ?_ ?_⟩
      · rintro i _ _ hi ⟨lap, rfl, rfl⟩
        rw [mS_len] at hi
        have hx : L[i]? = some L[i] := List.getElem?_eq_getElem hi
        have hat : atI (mS L).cps.toList ((0 : Int) + (i : Nat)) = some L[i] := by
          rw [Int.zero_add]
          exact atI_nat hx
        have cp : CPow 1 ((0 : Int) + (i : Nat)) := ⟨by omega, by omega, by decide⟩
        have cm : ∀ (m : Int) (b : Bool), CMul m (if b then 1 else 0) := fun m b => .inr (by cases b <;> decide)
        refine ⟨_, rfl, _, rfl, _, _, rfl, rfl, cp, _, rfl, _, rfl, _, _, L[i], rfl, rfl, hz, hat, _, _, rfl, rfl, .inr ⟨_, rfl, _, _, rfl, rfl, cm _ _, _, _, rfl, rfl, ?_⟩⟩
        refine ⟨_, rfl, _, rfl, _, _, rfl, rfl, cp, _, rfl, _, rfl, _, _, L[i], rfl, rfl, hz, hat, _, _, rfl, rfl, .inr ⟨_, rfl, _, _, rfl, rfl, cm _ _, _, _, rfl, rfl, ?_⟩⟩
        refine ⟨some (.int (0 + (i : Int))), ?_, rfl⟩
        show [_, _, _, some (V.int (((bv lx (L.take i) : Nat) : Int) + 1 * 2 ^ ((0 : Int) + (i : Nat)).toNat * (if decide (L[i] ∈ ("XY" : Str).cps.toList) then 1 else 0))), some (V.int (((bv lz (L.take i) : Nat) : Int) + 1 * 2 ^ ((0 : Int) + (i : Nat)).toNat * (if decide (L[i] ∈ ("ZY" : Str).cps.toList) then 1 else 0))), _] = _
        rw [in_XY, in_ZY, bv_take lx hx, bv_take lz hx, Int.zero_add, Int.toNat_natCast, Int.one_mul]
        push_cast
        rfl
      · rintro _ _ ⟨lap, rfl, rfl⟩
        rw [mS_len, List.take_of_length_le (Nat.le_refl _)]
        exact ⟨_, rfl, rfl⟩
    rintro _ H3 ⟨lap, rfl, rfl⟩
    exact ⟨_, rfl, _, rfl, _, rfl, by show 3 ≤ sizeLine; decide, fun p np => q _ p (s12.trans (same_new np)) (s12.free np) upd_same⟩
def spPickS : Sp := fun vs H Q _ => ∃ (p c : Addr) (z : Str) (n : Nat), vs = [.ref p, .str z] ∧ PenAt H p c n ∧ n < 1000000 ∧ z.cps.toList ≠ [] ∧ z.length ≤ 1000 ∧
  ∀ (i ch : Nat) H', z.cps.toList[i]? = some ch → PenAt H' p c (n + 1) → (∀ b, b ≠ p → H' b = H b) → Q (.str ⟨#[ch]⟩) H'
theorem ok_pickS {f fD : Addr} {fd fdD : FuncData} {k : Nat} (F : Fun K "_law_pick" "_law_pick" sPick f fd) (FD : Fun K "_law_draw" "_law_draw" sDraw fD fdD) (bD : Binds K fdD ["_law_pen_here", "_law_many"] []) (gD : mg "_law_draw" = some (.ref fD)) (B : Bl mg) :
    FnOk P w K mg base CX0 (k + 2) f fd ["_law_pen_here", "_law_some"] spPickS := by
  have GD : FnOk P w K mg base CX0 (k + 1) fD fdD ["_law_pen_here", "_law_many"] spDraw := ok_draw FD B.int B.len
  refine F.ok scPick (fun vs H Q E h => ?_) (fun cdv A outer s H vs Q E hr h => ?_)
  · obtain ⟨p, c, z, n, rfl, _⟩ := h
    rfl
  · obtain ⟨p, c, z, n, rfl, hP, hn, h0, hl, q⟩ := h
    refine ⟨_, pss_one (ps_ret (pe_ix ix_str (pv 1) (pe_call GD hr (by rfl) gD FD.kp bD .nil pass0 (pa_cons (pv 0) (pa_cons (pe_callB call_len_str (by rfl) B.len PySem.boot_len (pa_cons (pv 1) pa_nil)) pa_nil))) (fun _ _ => rfl))), ?_⟩
    have hlen : z.cps.toList.length = z.length := by simp [Str.length]
    have hpos : 0 < z.cps.toList.length := List.length_pos_iff.mpr h0
    refine ⟨_, rfl, _, rfl, _, rfl, _, rfl, sizeBig hl, p, c, n, _, rfl, hP, hn, by omega, ?_, fun r H' r0 r1 hP' hk => ?_⟩
    · have e : (z.length : Int).natAbs = z.length := by omega
      rw [e]
      exact Nat.lt_of_le_of_lt hl (by decide)
    · obtain ⟨j, rfl⟩ : ∃ j : Nat, r = (j : Int) := ⟨r.toNat, by omega⟩
      have hj : j < z.cps.toList.length := by omega
      have hx : z.cps.toList[j]? = some z.cps.toList[j] := List.getElem?_eq_getElem hj
      exact ⟨_, _, _, rfl, rfl, sizeBig hl, atI_nat hx, q j _ H' hx hP' hk⟩
end
theorem scShuf : FnScope ["_law_pen_here", "_law_some", "_law_rest", "_law_found", "_law_lap"] ["_law_pen_here", "_law_some"] (defScope sShuf) := ⟨rfl, rfl, rfl, by decide +kernel, rfl, by decide +kernel, by decide +kernel⟩
def KB (p : Addr) (H H' : Hp) : Prop := ∀ b o, H b = some o → b ≠ p → H' b = some o
theorem KB.refl (p : Addr) (H : Hp) : KB p H H := fun _ _ e _ => e
theorem KB.trans {p : Addr} {H H1 H2 : Hp} (a : KB p H H1) (b : KB p H1 H2) : KB p H H2 := fun c o e n => b c o (a c o e n) n
theorem KB.of {p : Addr} {H H' : Hp} (s : Same H H') : KB p H H' := fun b o e _ => s b o e
theorem KB.eq {p : Addr} {H H' : Hp} (k : ∀ b, b ≠ p → H' b = H b) : KB p H H' := fun b o e n => (k b n).trans e
theorem KB.up {p : Addr} {H H' : Hp} {r : Addr} {o : HO} (k : KB p H H') (n : H r = none) : KB p H (upd H' r o) := fun b u e hb => by
  rw [upd_ne (ne_of_none e n)]
  exact k b u e hb
theorem KB.sm {p : Addr} {H H1 H2 : Hp} (a : KB p H H1) (b : Same H1 H2) : KB p H H2 := a.trans (KB.of b)
def spShuf (K : PySem.W.Frag) : Sp := fun vs H Q _ => ∃ (p c q : Addr) (n : Nat) (xs : List V), vs = [.ref p, .ref q] ∧ PenAt H p c n ∧ n + 40 < 1000000 ∧ SqL K H q xs ∧ xs.length ≤ 30 ∧
  ∀ H' r ys, ys.length = xs.length → (∀ y ∈ ys, y ∈ xs) → PenAt H' p c (n + xs.length) → KB p H H' → H r = none → H' r = some (.lst ys) → Q (.ref r) H'
section
variable {P : Program} {w : World} {K : PySem.W.Frag} {mg : Str → Option Value} {base : Heap}
theorem ok_shuf {f fD : Addr} {fd fdD : FuncData} {k : Nat} (F : Fun K "_law_shuffled" "_law_shuffled" sShuf f fd) (FD : Fun K "_law_draw" "_law_draw" sDraw fD fdD) (bD : Binds K fdD ["_law_pen_here", "_law_many"] []) (gD : mg "_law_draw" = some (.ref fD)) (B : Bl mg) :
    FnOk P w K mg base CX0 (k + 2) f fd ["_law_pen_here", "_law_some"] (spShuf K) := by
  have GD : FnOk P w K mg base CX0 (k + 1) fD fdD ["_law_pen_here", "_law_many"] spDraw := ok_draw FD B.int B.len
  refine F.ok scShuf (fun vs H Q E h => ?_) (fun cdv A outer s H vs Q E hr h => ?_)
  · obtain ⟨p, c, q, n, xs, rfl, _⟩ := h
    rfl
  · obtain ⟨p, c, q0, n, xs, rfl, hP, hn, hS, hl, q⟩ := h
    refine ⟨_, C8.pss_cut (ps_par (i := 2) (j := 3) rfl scShuf.nd rfl rfl (by decide) rfl rfl (pa_cons (pe_callTy call_list_of (by rfl) B.list bootL (pa_cons (pv 1) pa_nil)) (pa_cons (pe_lst pa_nil) pa_nil)) rfl)
      (C8.pss_cut (ps_for PassesOwn.never rfl (pi_range1 (by rfl) B.range (pa_cons (pe_callB call_len_seq (by rfl) B.len PySem.boot_len (pa_cons (pv 1) pa_nil)) pa_nil)) (pg_name (i := 4) scShuf.nd rfl (.inl rfl))
        (pss_one (ps_expr (pe_bm PySem.F.plainAttrs_list PySem.F.slot_list_append PySem.F.type_list_append mt_append (pv 3) (pa_cons (pe_bm PySem.F.plainAttrs_list PySem.F.slot_list_pop PySem.F.type_list_pop mt_popAt (pv 2)
          (pa_cons (pe_call GD hr (by rfl) gD FD.kp bD .nil pass0 (pa_cons (pv 0) (pa_cons (pe_callB call_len_seq (by rfl) B.len PySem.boot_len (pa_cons (pv 2) pa_nil)) pa_nil))) pa_nil)) pa_nil)))))
      (pss_one (ps_ret (pv 3)))), ?_⟩
    obtain ⟨kv, hkv⟩ : ∃ kv, H p = some (.dK kv) := by
      obtain ⟨ns, a0, d0, f0, ep, _⟩ := hP
      exact ⟨_, ep⟩
    refine ⟨fun σ' H' => ∃ r1 r2, σ' = [some (.ref p), some (.ref q0), some (.ref r1), some (.ref r2), none] ∧ Same H H' ∧ H' r1 = some (.lst xs) ∧ H' r2 = some (.lst []) ∧ H r1 = none ∧ H r2 = none ∧ r1 ≠ r2, ?_, ?_⟩
    · refine ⟨_, rfl, q0, _, rfl, .inl hS, fun r1 n1 => ⟨by show 0 ≤ sizeLine; decide, fun r2 n2 => ?_⟩⟩
      have h12 : r1 ≠ r2 := fun z => by rw [← z, upd_same] at n2; cases n2
      exact ⟨_, _, rfl, r1, r2, rfl, same_upd (same_new n1) (none_back (same_new n1) n2), by rw [upd_ne h12, upd_same], upd_same, n1, none_back (same_new n1) n2, h12⟩
    rintro _ H1 ⟨r1, r2, rfl, s1, e1, e2, n1, n2, h12⟩
    have p1 : r1 ≠ p := fun z => by rw [z, hkv] at n1; cases n1
    have p2 : r2 ≠ p := fun z => by rw [z, hkv] at n2; cases n2
    refine ⟨fun σ' H' => ∃ (lap : Option V) (ys : List V), σ' = [some (.ref p), some (.ref q0), some (.ref r1), some (.ref r2), lap] ∧ ys.length = xs.length ∧ (∀ y ∈ ys, y ∈ xs) ∧ PenAt H' p c (n + xs.length) ∧ KB p H H' ∧ H' r2 = some (.lst ys), ?_, ?_⟩
    rotate_left
    · rintro _ H2 ⟨lap, ys, rfl, l2, m2, hP2, k2, e3⟩
      exact ⟨_, rfl, q _ r2 ys l2 m2 hP2 k2 n2 e3⟩
    refine ⟨_, rfl, _, _, rfl, .inl (s1.seq hS), xs.length, rfl, by omega, by omega, ?_⟩
    rw [Int.toNat_natCast]
    refine for_range (lo := 0) (n := xs.length) (fun i σ' H' => ∃ (lap : Option V) (ys zs : List V), σ' = [some (.ref p), some (.ref q0), some (.ref r1), some (.ref r2), lap] ∧ zs.length + i = xs.length ∧ ys.length = i ∧ (∀ y ∈ ys, y ∈ xs) ∧ (∀ y ∈ zs, y ∈ xs) ∧ PenAt H' p c (n + i) ∧ KB p H H' ∧ H' r1 = some (.lst zs) ∧ H' r2 = some (.lst ys))
      ⟨none, [], xs, rfl, rfl, rfl, (fun _ z => by cases z), fun _ z => z, hP.ext s1, KB.of s1, e1, e2⟩ ?_ ?_
    · rintro i _ H2 hi ⟨lap, ys, zs, rfl, hz, hy, my, mz, hP2, k2, f1, f2⟩
      have zpos : 0 < zs.length := by omega
      refine ⟨_, rfl, .inl ⟨rfl, _, SqL.of f2⟩, _, rfl, .inl ⟨rfl, _, SqL.of f1⟩, _, rfl, _, rfl, _, _, rfl, .inl (SqL.of f1), p, c, n + i, (zs.length : Nat), rfl, hP2, by omega, by omega, ?_, fun y H3 y0 y1 hP3 k3 => ?_⟩
      · rw [Int.natAbs_natCast]
        exact Nat.lt_of_le_of_lt (show zs.length ≤ 30 by omega) (by decide)
      obtain ⟨j, rfl⟩ : ∃ j : Nat, y = (j : Int) := ⟨y.toNat, by omega⟩
      have hj : j < zs.length := by omega
      have hzj : zs[j]? = some zs[j] := List.getElem?_eq_getElem hj
      have g1 : H3 r1 = some (.lst zs) := (k3 r1 p1).trans f1
      have g2 : H3 r2 = some (.lst ys) := (k3 r2 p2).trans f2
      refine ⟨r1, zs, (j : Int), j, zs[j], rfl, rfl, g1, by omega, by omega, ?_, hzj, ?_⟩
      · unfold seqIndex?
        have e1 : ¬ ((j : Int) < 0) := by omega
        simp [e1, hj]
      refine ⟨r2, ys, zs[j], rfl, rfl, by rw [upd_ne h12.symm]; exact g2, Nat.lt_of_le_of_lt (show ys.length ≤ 30 by omega) (by decide), ?_⟩
      refine ⟨_, ys ++ [zs[j]], zs.eraseIdx j, rfl, ?_, ?_, fun y hy' => ?_, fun y hy' => mz y (List.mem_of_mem_eraseIdx hy'), ?_, ?_, ?_, upd_same⟩
      · rw [List.length_eraseIdx, if_pos hj]
        omega
      · rw [List.length_append, hy]
        rfl
      · rcases List.mem_append.mp hy' with z | z
        · exact my y z
        · rw [List.mem_singleton.mp z]
          exact mz _ (List.getElem_mem hj)
      · refine PenAt.same hP3 (by rw [upd_ne p2.symm, upd_ne p1.symm]) ?_
        obtain ⟨ns, a0, d0, f0, ep, ec, _⟩ := hP
        rw [upd_ne (ne_of_none ec n2), upd_ne (ne_of_none ec n1)]
      · exact ((k2.trans (KB.eq k3)).up n1).up n2
      · rw [upd_ne h12, upd_same]
    · rintro _ H2 ⟨lap, ys, zs, rfl, hz, hy, my, mz, hP2, k2, f1, f2⟩
      exact ⟨lap, ys, rfl, hy, my, hP2, k2, f2⟩
end
end KQ

namespace KQ
open PySem PySem.Spec PyProof.Rows L2
/-! ### the law's strings: x, z and a sign -/
theorem scCross : FnScope ["_law_one", "_law_two"] ["_law_one", "_law_two"] (defScope sCross) := ⟨rfl, rfl, rfl, by decide +kernel, rfl, by decide +kernel, by decide +kernel⟩
theorem scProd : FnScope ["_law_one", "_law_two", "_law_x", "_law_z", "_law_power"] ["_law_one", "_law_two"] (defScope sProd) := ⟨rfl, rfl, rfl, by decide +kernel, rfl, by decide +kernel, by decide +kernel⟩
theorem scText : FnScope ["_law_string", "_law_size"] ["_law_string", "_law_size"] (defScope sText) := ⟨rfl, rfl, rfl, by decide +kernel, rfl, by decide +kernel, by decide +kernel⟩
theorem pc_le : ∀ (k n : Nat), n < 2 ^ k → pc n ≤ k
  | 0, n, h => by
    have : n = 0 := by simpa using h
    subst this
    rw [pc_zero]
    exact Nat.le_refl _
  | k + 1, n, h => by
    have e : n = 2 * (n / 2) + n % 2 := by omega
    have l1 : n % 2 < 2 := Nat.mod_lt _ (by decide)
    rw [Nat.pow_succ] at h
    have := pc_le k (n / 2) (by omega)
    rw [e, pc_two _ _ l1]
    omega
def KeepP (p : Addr) (H H' : Hp) : Prop := ∀ q o, q ≠ p → H q = some o → H' q = some o
theorem KeepP.refl (p : Addr) (H : Hp) : KeepP p H H := fun _ _ _ e => e
theorem KeepP.trans {p : Addr} {H H1 H2 : Hp} (a : KeepP p H H1) (b : KeepP p H1 H2) : KeepP p H H2 := fun q o n e => b q o n (a q o n e)
theorem KeepP.of_same {p : Addr} {H H' : Hp} (s : Same H H') : KeepP p H H' := fun q o _ e => s q o e
theorem KeepP.of_eq {p : Addr} {H H' : Hp} (s : ∀ b, b ≠ p → H' b = H b) : KeepP p H H' := fun q o n e => (s q n).trans e
theorem pen_upd {H : Hp} {p c y : Addr} {n : Nat} {o : HO} (h : PenAt H p c n) (hp : y ≠ p) (hc : y ≠ c) : PenAt (upd H y o) p c n := h.same (upd_ne (Ne.symm hp)) (upd_ne (Ne.symm hc))
theorem pen_sm {H H' : Hp} {p c : Addr} {n : Nat} (h : PenAt H p c n) (s : Same H H') : PenAt H' p c n := by
  obtain ⟨ns, a, d, f, e1, e2, r⟩ := h
  exact ⟨ns, a, d, f, s _ _ e1, s _ _ e2, r⟩
theorem pen_get {H : Hp} {p c : Addr} {n : Nat} (h : PenAt H p c n) : (∃ o, H p = some o) ∧ ∃ o, H c = some o := by
  obtain ⟨ns, a, d, f, e1, e2, r⟩ := h
  exact ⟨⟨_, e1⟩, ⟨_, e2⟩⟩
theorem pen_off {H : Hp} {p c y : Addr} {n : Nat} {o : HO} (h : PenAt H p c n) (hy : H y = some o) (d : ∀ kv, o ≠ .dK kv) : y ≠ p := by
  obtain ⟨ns, a, d', f, hp, _⟩ := h
  exact ne_of hy hp (d _)
def signs1 (L : List Nat) : List Str := L.map fun c => (⟨#[c]⟩ : Str)
theorem join_signs (L : List Nat) : Txt.join ("" : Str) (signs1 L) = mS L := by
  rw [TL.join_eq, e_no]
  exact PyProof.Rows.join_ones L
theorem signs_len : ∀ L : List Nat, ((signs1 L).map (·.length)).sum = L.length
  | [] => rfl
  | c :: L => by
    show 1 + ((signs1 L).map (·.length)).sum = L.length + 1
    rw [signs_len L]
    omega
def spSome : Sp := fun vs H Q _ => ∃ (p c : Addr) (n m : Nat), vs = [.ref p, .int (m : Int)] ∧ PenAt H p c n ∧ n + m < 1000000 ∧ m ≤ 60 ∧
  ∀ (L : List Nat) (t : Addr) (H' : Hp), L.length = m → Lts8 L → H' t = some (.tup [.int (bv lx L : Nat), .int (bv lz L : Nat), .int 0]) → PenAt H' p c (n + m) → KeepP p H H' → Q (.ref t) H'
abbrev T3 := Nat × Nat × Nat
def TrAt (H : Hp) (a : Addr) (t : T3) : Prop := H a = some (.tup [.int (t.1 : Nat), .int (t.2.1 : Nat), .int (t.2.2 : Nat)])
def Fit (n : Nat) (t : T3) : Prop := t.1 < 2 ^ n ∧ t.2.1 < 2 ^ n ∧ t.2.2 < 2
def crN (t u : T3) : Nat := pc ((t.1 &&& u.2.1) ^^^ (t.2.1 &&& u.1)) % 2
def lpP (t u : T3) : Int := (pc (t.1 &&& t.2.1) : Int) + (pc (u.1 &&& u.2.1) : Int) - (pc ((t.1 ^^^ u.1) &&& (t.2.1 ^^^ u.2.1)) : Int) + 2 * (pc (t.2.1 &&& u.1) : Int)
def lpr (t u : T3) : T3 := (t.1 ^^^ u.1, t.2.1 ^^^ u.2.1, (((lpP t u + 2 * ((t.2.2 : Int) + (u.2.2 : Int))) % 4) / 2).toNat)
theorem lpr_fit {n : Nat} {t u : T3} (h : Fit n t) (k : Fit n u) : Fit n (lpr t u) := by
  refine ⟨Nat.xor_lt_two_pow h.1 k.1, Nat.xor_lt_two_pow h.2.1 k.2.1, ?_⟩
  show (((lpP t u + 2 * ((t.2.2 : Int) + (u.2.2 : Int))) % 4) / 2).toNat < 2
  omega
def spCr : Sp := fun vs H Q _ => ∃ (a b : Addr) (t u : T3), vs = [.ref a, .ref b] ∧ TrAt H a t ∧ TrAt H b u ∧ Fit 60 t ∧ Fit 60 u ∧ Q (.int (crN t u : Nat)) H
def spProd : Sp := fun vs H Q _ => ∃ (a b : Addr) (t u : T3), vs = [.ref a, .ref b] ∧ TrAt H a t ∧ TrAt H b u ∧ Fit 60 t ∧ Fit 60 u ∧ ∀ H' r, Same H H' → H r = none → TrAt H' r (lpr t u) → Q (.ref r) H'
/-- the letters of x and z -/
def LT (n x z : Nat) : List Nat := (List.range n).map fun k => ltr (x.testBit k).toNat (z.testBit k).toNat
theorem LT_len (n x z : Nat) : (LT n x z).length = n := by rw [LT, List.length_map, List.length_range]
theorem LT_lts (n x z : Nat) : Lts8 (LT n x z) := by
  intro c hc
  obtain ⟨k, _, rfl⟩ := List.mem_map.mp hc
  exact ltr_isL _ _
theorem lx_ltr (a b : Bool) : lx (ltr a.toNat b.toNat) = a.toNat := by cases a <;> cases b <;> decide
theorem lz_ltr (a b : Bool) : lz (ltr a.toNat b.toNat) = b.toNat := by cases a <;> cases b <;> decide
theorem bv_bits {f : Nat → Nat} (x : Nat) (h : Nat → Nat) (hf : ∀ k, f (h k) = (x.testBit k).toNat) : ∀ n, bv f ((List.range n).map h) = x % 2 ^ n
  | 0 => by
    show 0 = x % 1
    omega
  | n + 1 => by
    rw [List.range_succ, List.map_append, List.map_cons, List.map_nil, bv_app, bv_bits x h hf n, List.length_map, List.length_range, hf, Nat.mod_pow_succ, Nat.toNat_testBit]
theorem lx_LT {n x : Nat} (z : Nat) (h : x < 2 ^ n) : bv lx (LT n x z) = x := by
  rw [LT, bv_bits x _ (fun k => lx_ltr _ _), Nat.mod_eq_of_lt h]
theorem lz_LT {n z : Nat} (x : Nat) (h : z < 2 ^ n) : bv lz (LT n x z) = z := by
  rw [LT, bv_bits z _ (fun k => lz_ltr _ _), Nat.mod_eq_of_lt h]
def TX (n : Nat) (t : T3) : List Nat := (if t.2.2 = 0 then [] else [45]) ++ LT n t.1 t.2.1
def spText : Sp := fun vs H Q _ => ∃ (a : Addr) (n : Nat) (t : T3), vs = [.ref a, .int (n : Nat)] ∧ TrAt H a t ∧ Fit n t ∧ n ≤ 60 ∧ Q (.str (mS (TX n t))) H
theorem tri0 (a b c : V) : atI [a, b, c] 0 = some a := at_of (j := 0) rfl rfl
theorem tri1 (a b c : V) : atI [a, b, c] 1 = some b := at_of (j := 1) rfl rfl
theorem tri2 (a b c : V) : atI [a, b, c] 2 = some c := at_of (j := 2) rfl rfl
section
variable {P : Program} {w : World} {K : PySem.W.Frag} {mg : Str → Option Value} {base : Heap}
theorem ok_some {f fD fP fT : Addr} {fd dD dP dT : FuncData} (F : Fun K "_law_some_string" "_law_some_string" sSome f fd) (FD : Fun K "_law_draw" "_law_draw" sDraw fD dD) (bD : Binds K dD ["_law_pen_here", "_law_many"] []) (gD : mg "_law_draw" = some (.ref fD))
    (FP : Fun K "_law_pick" "_law_pick" sPick fP dP) (bP : Binds K dP ["_law_pen_here", "_law_some"] []) (gP : mg "_law_pick" = some (.ref fP)) (FT : Fun K "_law_of_text" "_law_of_text" sOfT fT dT) (bT : Binds K dT ["_law_text_here"] []) (gT : mg "_law_of_text" = some (.ref fT)) (B : Bl mg) :
    FnOk P w K mg base CX0 3 f fd ["_law_pen_here", "_law_size"] spSome := by
  have GP : FnOk P w K mg base CX0 2 fP dP ["_law_pen_here", "_law_some"] spPickS := ok_pickS FP FD bD gD B
  have GT : FnOk P w K mg base CX0 2 fT dT ["_law_text_here"] spOfT := ok_oft FT B
  refine F.ok scSome (fun vs H Q E h => ?_) (fun cdv A outer s H vs Q E hr h => ?_)
  · obtain ⟨p, c, n, m, rfl, _⟩ := h
    rfl
  · obtain ⟨p, c, n, m, rfl, hP, hn, hm, q⟩ := h
    refine ⟨_, C8.pss_cut (ps_set (i := 2) scSome.nd rfl (.inl rfl) (pe_bm PySem.F.plainAttrs_str PySem.F.slot_str_join PySem.F.type_str_join mt_join pe_str
        (pa_cons (pe_lc (own := [("_law_k", 3)]) (g := gName 3) (by rfl) scSome.nd (pi_range1 (by rfl) B.range (pa_cons (pv 1) pa_nil)) (blkOk_by (own := [("_law_k", 3)]) (N := ["_law_pen_here", "_law_size", "_law_letters_here", "_law_k"]) (sc := defScope sSome) (by decide +kernel))
          (fun _ _ _ _ _ => pg_name (i := 3) scSome.nd rfl (Or.inl rfl)) (fun _ _ _ _ _ => pts_nil) (fun _ _ _ _ _ => pe_call GP hr (by rfl) gP FP.kp bP .nil pass0 (pa_cons (pv 0) (pa_cons pe_str pa_nil)))) pa_nil)))
      (pss_one (ps_ret (pe_call GT hr (by rfl) gT FT.kp bT .nil pass0 (pa_cons (pv 2) pa_nil)))), ?_⟩
    obtain ⟨⟨op, ep⟩, ⟨oc, ec⟩⟩ := pen_get hP
    refine ⟨fun σ' H' => ∃ L : List Nat, L.length = m ∧ Lts8 L ∧ σ' = [some (.ref p), some (.int (m : Int)), some (.str (mS L)), none] ∧ PenAt H' p c (n + m) ∧ KeepP p H H', ?_, ?_⟩
    · refine ⟨rfl, _, rfl, _, rfl, by omega, by omega, fun D nD => ?_⟩
      have hDp : D ≠ p := Ne.symm (ne_of_none ep nD)
      have hDc : D ≠ c := Ne.symm (ne_of_none ec nD)
      refine lc_range (lo := 0) (n := m) (Pv := fun i Hc => ∃ L : List Nat, L.length = i ∧ Lts8 L ∧ Hc D = some (.lst ((signs1 L).map V.str)) ∧ PenAt Hc p c (n + i) ∧ KeepP p H Hc) ⟨[], rfl, (fun c hc => by cases hc), upd_same, pen_upd hP hDp hDc, fun y o hy e => by rw [upd_ne (ne_of_none e nD)]; exact e⟩ ?_ ?_
      · rintro i Hc hi ⟨L, hl, hL, eD, hP', kp⟩
        refine ⟨rfl, _, rfl, p, c, _, n + i, rfl, hP', by omega, by rw [e_some]; decide, by decide +kernel, fun j ch H2 hj hP2 hk => ?_⟩
        refine ⟨_, by rw [hk D hDp]; exact eD, ?_, L ++ [ch], by rw [List.length_append, hl]; rfl, ?_, ?_, ?_, ?_⟩
        · show (((signs1 L).map V.str).length) < sizeLine
          rw [List.length_map, signs1, List.length_map, hl]
          exact Nat.lt_of_lt_of_le (by omega : i < 61) (by decide)
        · intro x hx
          rcases List.mem_append.mp hx with hx | hx
          · exact hL x hx
          · rw [List.mem_singleton.mp hx]
            rw [e_some] at hj
            have := List.mem_of_getElem? hj
            revert this
            simp only [List.mem_cons, List.mem_nil_iff, or_false]
            rintro (h | h | h | h | h) <;> subst h <;> exact isL_iff.mpr (by omega)
        · rw [upd_same, signs1, signs1, List.map_append, List.map_append]
          rfl
        · exact pen_upd hP2 hDp hDc
        · intro y o hy e
          have hyD : y ≠ D := ne_of_none e nD
          rw [upd_ne hyD, hk y hy]
          exact kp y o hy e
      · rintro Hc ⟨L, hl, hL, eD, hP', kp⟩
        refine ⟨_, D, signs1 L, rfl, rfl, .inl (SqL.of eD), ?_, ?_⟩
        · rw [signs_len, show ("" : Str).length = 0 from by decide +kernel]
          omega
        · rw [join_signs]
          exact ⟨L, hl, hL, rfl, hP', kp⟩
    rintro _ H1 ⟨L, hl, hL, rfl, hP', kp⟩
    refine ⟨_, rfl, L, rfl, hL, by omega, fun H' t s' nt et => q L t H' hl hL et (pen_sm hP' s') (kp.trans (KeepP.of_same s'))⟩
theorem ok_cr {f fO : Addr} {fd dO : FuncData} {k : Nat} (F : Fun K "_law_crosses" "_law_crosses" sCross f fd) (FO : Fun K "_law_ones" "_law_ones" sOnes fO dO) (bO : Binds K dO ["_law_number"] []) (gO : mg "_law_ones" = some (.ref fO)) (B : Bl mg) : FnOk P w K mg base CX0 (k + 2) f fd ["_law_one", "_law_two"] spCr := by
  have GO : FnOk P w K mg base CX0 (k + 1) fO dO ["_law_number"] spOnes := ok_ones FO B
  refine F.ok scCross (fun vs H Q E h => ?_) (fun cdv A outer s H vs Q E hr h => ?_)
  · obtain ⟨a, b, t, u, rfl, _⟩ := h
    rfl
  · obtain ⟨a, b, t, u, rfl, et, eu, ft, fu, q⟩ := h
    refine ⟨_, pss_one (ps_ret (pe_op op_mod (pe_callTy call_int1 (by rfl) B.int bootI (pa_cons (pe_call GO hr (by rfl) gO FO.kp bO .nil pass0 (pa_cons (pe_op op_xor (pe_op op_and (pe_ix ix_tup (pv 0) pe_int (fun _ _ => rfl)) (pe_ix ix_tup (pv 1) pe_int (fun _ _ => rfl))) (pe_op op_and (pe_ix ix_tup (pv 0) pe_int (fun _ _ => rfl)) (pe_ix ix_tup (pv 1) pe_int (fun _ _ => rfl)))) pa_nil)) pa_nil)) pe_int)), ?_⟩
    have sq : SqT K H a [.int (t.1 : Nat), .int (t.2.1 : Nat), .int (t.2.2 : Nat)] := .inl (.inl et)
    have sq' : SqT K H b [.int (u.1 : Nat), .int (u.2.1 : Nat), .int (u.2.2 : Nat)] := .inl (.inl eu)
    have le := pc_le 60 _ (Nat.xor_lt_two_pow (Nat.lt_of_le_of_lt (Nat.and_le_left (m := u.2.1)) ft.1) (Nat.lt_of_le_of_lt (Nat.and_le_left (m := u.1)) ft.2.1))
    refine ⟨_, rfl, a, _, _, _, rfl, rfl, sq, tri0 _ _ _, _, rfl, b, _, _, _, rfl, rfl, sq', tri1 _ _ _, _, _, rfl, rfl, _, rfl, a, _, _, _, rfl, rfl, sq, tri1 _ _ _, _, rfl, b, _, _, _, rfl, rfl, sq', tri0 _ _ _, _, _, rfl, rfl, _, _, rfl, rfl, (t.1 &&& u.2.1) ^^^ (t.2.1 &&& u.1), ?_, by omega, .inl ⟨_, rfl, _, _, rfl, rfl, by show (0 : Int) < 2; decide, ?_⟩⟩
    · show [V.int (Builtin.bitXor (Builtin.bitAnd (t.1 : Nat) (u.2.1 : Nat)) (Builtin.bitAnd (t.2.1 : Nat) (u.1 : Nat)))] = _
      rw [band, band, bxor]
    · have e : ((pc ((t.1 &&& u.2.1) ^^^ (t.2.1 &&& u.1)) : Nat) : Int) % 2 = ((crN t u : Nat) : Int) := by
        unfold crN
        omega
      show Q (V.int (((pc ((t.1 &&& u.2.1) ^^^ (t.2.1 &&& u.1)) : Nat) : Int) % 2)) H
      rw [e]
      exact q
theorem ok_prod {f fO : Addr} {fd dO : FuncData} {k : Nat} (F : Fun K "_law_product" "_law_product" sProd f fd) (FO : Fun K "_law_ones" "_law_ones" sOnes fO dO) (bO : Binds K dO ["_law_number"] []) (gO : mg "_law_ones" = some (.ref fO)) (B : Bl mg) : FnOk P w K mg base CX0 (k + 2) f fd ["_law_one", "_law_two"] spProd := by
  have GO : FnOk P w K mg base CX0 (k + 1) fO dO ["_law_number"] spOnes := ok_ones FO B
  refine F.ok scProd (fun vs H Q E h => ?_) (fun cdv A outer s H vs Q E hr h => ?_)
  · obtain ⟨a, b, t, u, rfl, _⟩ := h
    rfl
  · obtain ⟨a, b, t, u, rfl, et, eu, ft, fu, q⟩ := h
    refine ⟨_, C8.pss_cut (ps_par (i := 2) (j := 3) rfl scProd.nd rfl rfl (by decide) rfl rfl (pa_cons (pe_op op_xor (pe_ix ix_tup (pv 0) pe_int (fun _ _ => rfl)) (pe_ix ix_tup (pv 1) pe_int (fun _ _ => rfl))) (pa_cons (pe_op op_xor (pe_ix ix_tup (pv 0) pe_int (fun _ _ => rfl)) (pe_ix ix_tup (pv 1) pe_int (fun _ _ => rfl))) pa_nil)) rfl)
      (C8.pss_cut (ps_set (i := 4) scProd.nd rfl (.inl rfl) (pe_op op_add (pe_call GO hr (by rfl) gO FO.kp bO .nil pass0 (pa_cons (pe_op op_and (pe_ix ix_tup (pv 0) pe_int (fun _ _ => rfl)) (pe_ix ix_tup (pv 0) pe_int (fun _ _ => rfl))) pa_nil)) (pe_call GO hr (by rfl) gO FO.kp bO .nil pass0 (pa_cons (pe_op op_and (pe_ix ix_tup (pv 1) pe_int (fun _ _ => rfl)) (pe_ix ix_tup (pv 1) pe_int (fun _ _ => rfl))) pa_nil))))
      (C8.pss_cut (ps_set (i := 4) scProd.nd rfl (.inl rfl) (pe_op op_add (pe_op op_sub (pv 4) (pe_call GO hr (by rfl) gO FO.kp bO .nil pass0 (pa_cons (pe_op op_and (pv 2) (pv 3)) pa_nil))) (pe_op op_mul pe_int (pe_call GO hr (by rfl) gO FO.kp bO .nil pass0 (pa_cons (pe_op op_and (pe_ix ix_tup (pv 0) pe_int (fun _ _ => rfl)) (pe_ix ix_tup (pv 1) pe_int (fun _ _ => rfl))) pa_nil)))))
      (pss_one (ps_ret (pe_tup (pa_cons (pv 2) (pa_cons (pv 3) (pa_cons (pe_op op_fdiv (pe_op op_mod (pe_callTy call_int1 (by rfl) B.int bootI (pa_cons (pe_op op_add (pv 4) (pe_op op_mul pe_int (pe_op op_add (pe_ix ix_tup (pv 0) pe_int (fun _ _ => rfl)) (pe_ix ix_tup (pv 1) pe_int (fun _ _ => rfl))))) pa_nil)) pe_int) pe_int) pa_nil)))))))), ?_⟩
    have sq : ∀ {G : Hp}, Same H G → SqT K G a [.int (t.1 : Nat), .int (t.2.1 : Nat), .int (t.2.2 : Nat)] := fun sg => .inl (.inl (sg _ _ et))
    have sq' : ∀ {G : Hp}, Same H G → SqT K G b [.int (u.1 : Nat), .int (u.2.1 : Nat), .int (u.2.2 : Nat)] := fun sg => .inl (.inl (sg _ _ eu))
    have s0 : Same H H := fun _ _ e => e
    have lt : ∀ {x y : Nat}, x < 2 ^ 60 → pc (x &&& y) ≤ 63 := fun {x y} h => Nat.le_trans (pc_le 60 _ (Nat.lt_of_le_of_lt Nat.and_le_left h)) (by decide)
    refine ⟨fun σ' H' => σ' = [some (.ref a), some (.ref b), some (.int (t.1 ^^^ u.1 : Nat)), some (.int (t.2.1 ^^^ u.2.1 : Nat)), none] ∧ H' = H, ?_, ?_⟩
    · refine ⟨_, rfl, a, _, _, _, rfl, rfl, sq s0, tri0 _ _ _, _, rfl, b, _, _, _, rfl, rfl, sq' s0, tri0 _ _ _, _, _, rfl, rfl, _, rfl, a, _, _, _, rfl, rfl, sq s0, tri1 _ _ _, _, rfl, b, _, _, _, rfl, rfl, sq' s0, tri1 _ _ _, _, _, rfl, rfl, _, _, rfl, ?_, rfl⟩
      show [_, _, some (V.int (Builtin.bitXor (t.1 : Nat) (u.1 : Nat))), some (V.int (Builtin.bitXor (t.2.1 : Nat) (u.2.1 : Nat))), _] = _
      rw [bxor, bxor]
    rintro _ H1 ⟨rfl, eH⟩
    have eH' := eH.symm
    subst eH'
    refine ⟨fun σ' H' => σ' = [some (.ref a), some (.ref b), some (.int (t.1 ^^^ u.1 : Nat)), some (.int (t.2.1 ^^^ u.2.1 : Nat)), some (.int ((pc (t.1 &&& t.2.1) : Int) + (pc (u.1 &&& u.2.1) : Int)))] ∧ H' = H, ?_, ?_⟩
    · refine ⟨_, rfl, a, _, _, _, rfl, rfl, sq s0, tri0 _ _ _, _, rfl, a, _, _, _, rfl, rfl, sq s0, tri1 _ _ _, _, _, rfl, rfl, t.1 &&& t.2.1, ?_, lt ft.1, ?_⟩
      · show [V.int (Builtin.bitAnd (t.1 : Nat) (t.2.1 : Nat))] = _
        rw [band]
      refine ⟨_, rfl, b, _, _, _, rfl, rfl, sq' s0, tri0 _ _ _, _, rfl, b, _, _, _, rfl, rfl, sq' s0, tri1 _ _ _, _, _, rfl, rfl, u.1 &&& u.2.1, ?_, lt fu.1, _, _, rfl, rfl, rfl, rfl⟩
      show [V.int (Builtin.bitAnd (u.1 : Nat) (u.2.1 : Nat))] = _
      rw [band]
    rintro _ H1 ⟨rfl, eH⟩
    have eH' := eH.symm
    subst eH'
    refine ⟨fun σ' H' => σ' = [some (.ref a), some (.ref b), some (.int (t.1 ^^^ u.1 : Nat)), some (.int (t.2.1 ^^^ u.2.1 : Nat)), some (.int (lpP t u))] ∧ H' = H, ?_, ?_⟩
    · refine ⟨_, rfl, _, rfl, _, rfl, _, _, rfl, rfl, (t.1 ^^^ u.1) &&& (t.2.1 ^^^ u.2.1), ?_, lt (Nat.xor_lt_two_pow ft.1 fu.1), _, _, rfl, rfl, ?_⟩
      · show [V.int (Builtin.bitAnd (t.1 ^^^ u.1 : Nat) (t.2.1 ^^^ u.2.1 : Nat))] = _
        rw [band]
      refine ⟨_, rfl, a, _, _, _, rfl, rfl, sq s0, tri1 _ _ _, _, rfl, b, _, _, _, rfl, rfl, sq' s0, tri0 _ _ _, _, _, rfl, rfl, t.2.1 &&& u.1, ?_, lt ft.2.1, _, _, rfl, rfl, .inl ⟨by decide, by decide⟩, _, _, rfl, rfl, rfl, rfl⟩
      show [V.int (Builtin.bitAnd (t.2.1 : Nat) (u.1 : Nat))] = _
      rw [band]
    rintro _ H1 ⟨rfl, eH⟩
    have eH' := eH.symm
    subst eH'
    refine ⟨_, rfl, _, rfl, _, rfl, _, rfl, a, _, _, _, rfl, rfl, sq s0, tri2 _ _ _, _, rfl, b, _, _, _, rfl, rfl, sq' s0, tri2 _ _ _, _, _, rfl, rfl, _, _, rfl, rfl, .inl ⟨by decide, by decide⟩, _, _, rfl, rfl, .inl ⟨_, rfl, _, _, rfl, rfl, by show (0 : Int) < 4; decide, _, _, rfl, rfl, ?_, by show 3 ≤ sizeLine; decide, fun r nr => q _ r (same_new nr) nr ?_⟩⟩
    · show CDiv ((lpP t u + 2 * ((t.2.2 : Int) + (u.2.2 : Int))) % 4) 2
      exact ⟨by decide, by decide⟩
    · unfold TrAt
      rw [upd_same]
      show some (HO.tup [V.int (t.1 ^^^ u.1 : Nat), V.int (t.2.1 ^^^ u.2.1 : Nat), V.int ((lpP t u + 2 * ((t.2.2 : Int) + (u.2.2 : Int))) % 4 / 2)]) = some (HO.tup [V.int (t.1 ^^^ u.1 : Nat), V.int (t.2.1 ^^^ u.2.1 : Nat), V.int ((((lpP t u + 2 * ((t.2.2 : Int) + (u.2.2 : Int))) % 4 / 2).toNat : Nat) : Int)])
      rw [Int.toNat_of_nonneg (by omega)]
theorem ok_text {f fL : Addr} {fd dL : FuncData} {k : Nat} (F : Fun K "_law_text" "_law_text" sText f fd) (FL : Fun K "_law_letters" "_law_letters" sLett fL dL) (bL : Binds K dL ["_law_string", "_law_size"] []) (gL : mg "_law_letters" = some (.ref fL)) (B : Bl mg) : FnOk P w K mg base CX0 (k + 2) f fd ["_law_string", "_law_size"] spText := by
  have GL : FnOk P w K mg base CX0 (k + 1) fL dL ["_law_string", "_law_size"] spLett := ok_lett FL B
  refine F.ok scText (fun vs H Q E h => ?_) (fun cdv A outer s H vs Q E hr h => ?_)
  · obtain ⟨a, n, t, rfl, _⟩ := h
    rfl
  · obtain ⟨a, n, t, rfl, et, ft, hn, q⟩ := h
    refine ⟨_, pss_one (ps_ret (pe_op op_add_str (pe_ifExp (pt_truth (pe_ix ix_tup (pv 0) pe_int (fun _ _ => rfl)) (by intro _; rfl)) pe_str pe_str) (pe_call GL hr (by rfl) gL FL.kp bL .nil pass0 (pa_cons (pv 0) (pa_cons (pv 1) pa_nil))))), ?_⟩
    have el : TrAt H a (bv lx (LT n t.1 t.2.1), bv lz (LT n t.1 t.2.1), t.2.2) := by rw [lx_LT _ ft.1, lz_LT _ ft.2.1]; exact et
    have ln := LT_len n t.1 t.2.1
    have lm : (mS (LT n t.1 t.2.1)).length = n := by rw [mS_len]; exact ln
    refine ⟨_, rfl, a, _, _, _, rfl, rfl, .inl (.inl et), tri2 _ _ _, _, rfl, ?_⟩
    by_cases z : t.2.2 = 0
    · rw [z]
      refine iteF ⟨_, rfl, _, rfl, a, LT n t.1 t.2.1, _, by rw [ln]; rfl, el, LT_lts _ _ _, by omega, _, _, rfl, rfl, ?_, ?_⟩
      · rw [e_no]
        show 0 + (mS (LT n t.1 t.2.1)).length ≤ sizeLine
        rw [lm]
        exact Nat.le_trans (by omega : 0 + n ≤ 60) (by decide)
      · have : (("" : Str) ++ mS (LT n t.1 t.2.1)) = mS (TX n t) := by
          rw [e_no, TX, if_pos z]
          exact mS_app [] _
        rw [this]
        exact q
    · have nz : (((t.2.2 : Nat) : Int) != 0) = true := bne_iff_ne.mpr (by omega)
      rw [nz]
      refine iteT ⟨_, rfl, _, rfl, a, LT n t.1 t.2.1, _, by rw [ln]; rfl, el, LT_lts _ _ _, by omega, _, _, rfl, rfl, ?_, ?_⟩
      · rw [e_minus]
        show 1 + (mS (LT n t.1 t.2.1)).length ≤ sizeLine
        rw [lm]
        exact Nat.le_trans (by omega : 1 + n ≤ 61) (by decide)
      · have : (("-" : Str) ++ mS (LT n t.1 t.2.1)) = mS (TX n t) := by
          rw [e_minus, TX, if_neg z]
          exact mS_app [45] _
        rw [this]
        exact q
end
end KQ

namespace KQ
open PySem PySem.Spec PyProof.Rows L2
/-! ### the law's gates -/
theorem scGate : FnScope ["_law_string", "_law_kind", "_law_places", "_law_x", "_law_z", "_law_sign", "_law_a", "_law_one", "_law_two", "_law_turn", "_law_b", "_law_first", "_law_second", "_law_other"] ["_law_string", "_law_kind", "_law_places"] (defScope sGate) := ⟨rfl, rfl, rfl, by decide +kernel, rfl, by decide +kernel, by decide +kernel⟩
def G1 (k : Str) : Prop := k = "h" ∨ k = "s" ∨ k = "x" ∨ k = "z"
def G2 (k : Str) : Prop := k = "cx" ∨ k = "cz" ∨ k = "swap"
def spGate (K : PySem.W.Frag) : Sp := fun vs H Q _ => ∃ (s q : Addr) (kd : Str) (n : Nat) (t : T3) (ps : List Nat), vs = [.ref s, .str kd, .ref q] ∧ TrAt H s t ∧ Fit n t ∧ n ≤ 60 ∧ SqL K H q (natV ps) ∧ (∀ a ∈ ps, a < n) ∧ 1 ≤ ps.length ∧ (G1 kd ∨ (G2 kd ∧ 2 ≤ ps.length)) ∧
  ∀ H' r u, Same H H' → H r = none → TrAt H' r u → Fit n u → Q (.ref r) H'
theorem bitl (x a : Nat) : x / 2 ^ a % 2 < 2 := Nat.mod_lt _ (by decide)
theorem sh_lt {i a n : Nat} (h : i < 2) (ha : a < n) : i * 2 ^ a < 2 ^ n := by
  have : 2 ^ a * 2 ≤ 2 ^ n := by
    rw [← Nat.pow_succ]
    exact Nat.pow_le_pow_right (by decide) ha
  rcases (by omega : i = 0 ∨ i = 1) with rfl | rfl
  · rw [Nat.zero_mul]; exact Nat.two_pow_pos n
  · rw [Nat.one_mul]; have := Nat.two_pow_pos a; omega
theorem x_lt {i j : Nat} (h : i < 2) (k : j < 2) : i ^^^ j < 2 := Nat.xor_lt_two_pow (n := 1) h k
theorem m_lt {i j : Nat} (h : i < 2) (k : j < 2) : i * j < 2 := by
  rcases (by omega : i = 0 ∨ i = 1) with rfl | rfl <;> omega
theorem csh {i a : Nat} (h : i < 2) (ha : a ≤ 60) : CShl (i : Int) (a : Int) := by
  refine ⟨by omega, ?_⟩
  have : (2 : Int) ^ 27 = 134217728 := by decide
  have : Builtin.Int.intBits (i : Int) ≤ 1 := by
    rcases (by omega : i = 0 ∨ i = 1) with rfl | rfl <;> decide
  omega
theorem i_sh (i a : Nat) : (i : Int) * 2 ^ a = ((i * 2 ^ a : Nat) : Int) := by push_cast; rfl
theorem i_div (x a : Nat) : ((x : Int) / 2 ^ a % 2) = ((x / 2 ^ a % 2 : Nat) : Int) := by push_cast; rfl
section
variable {P : Program} {w : World} {K : PySem.W.Frag} {mg : Str → Option Value} {base : Heap}
theorem ok_gate {f : Addr} {fd : FuncData} {k : Nat} (F : Fun K "_law_gate" "_law_gate" sGate f fd) (B : Bl mg) : FnOk P w K mg base CX0 (k + 1) f fd ["_law_string", "_law_kind", "_law_places"] (spGate K) := by
  refine F.ok scGate (fun vs H Q E h => ?_) (fun cdv A outer s0 H vs Q E hr h => ?_)
  · obtain ⟨s, q, kd, n, t, ps, rfl, _⟩ := h
    rfl
  · obtain ⟨s, q, kd, n, t, ps, rfl, et, ft, hn, hS, hps, hp1, hk, w⟩ := h
    have hu := hu_of hr
    refine ⟨_, (C8.pss_cut (ps_asg (pv 0) (pg_tup rfl (pgs_cons (pg_name (i := 3) scGate.nd rfl (.inl rfl)) (pgs_cons (pg_name (i := 4) scGate.nd rfl (.inl rfl)) (pgs_cons (pg_name (i := 5) scGate.nd rfl (.inl rfl)) pgs_nil)))))
      (C8.pss_cut (ps_set (i := 6) scGate.nd rfl (.inl rfl) (pe_ix ix_list (pv 2) pe_int (fun _ _ => rfl)))
      (C8.pss_cut (ps_par (i := 7) (j := 8) rfl scGate.nd rfl rfl (by decide) rfl rfl (pa_cons (pe_op op_mod (pe_callTy call_int1 (by rfl) B.int bootI (pa_cons (pe_op op_shrN (pv 3) (pv 6)) pa_nil)) pe_int) (pa_cons (pe_op op_mod (pe_callTy call_int1 (by rfl) B.int bootI (pa_cons (pe_op op_shrN (pv 4) (pv 6)) pa_nil)) pe_int) pa_nil)) rfl)
      (C8.pss_cut (ps_if (pt_cmpR op_in_seq (pv 1) (pe_lst (pa_cons pe_str (pa_cons pe_str (pa_cons pe_str pa_nil)))) (by with_unfolding_all rfl)) (pss_one (ps_ret (pe_tup (pa_cons (pv 3) (pa_cons (pv 4) (pa_cons (pe_op op_xor (pv 5) (pe_dget hu (pe_disp (pps_cons pe_str (pv 8) (pps_cons pe_str (pe_op op_xor (pv 7) (pv 8)) (pps_cons pe_str (pv 7) pps_nil))) (by rfl) (by rfl) (fun z => by cases z) (by decide)) (pv 1) (fun _ _ => rfl))) pa_nil)))))) pss_nil)
      (C8.pss_cut (ps_if (pt_cmpR op_in_seq (pv 1) (pe_lst (pa_cons pe_str (pa_cons pe_str pa_nil))) (by with_unfolding_all rfl)) (C8.pss_cut (ps_set (i := 9) scGate.nd rfl (.inl rfl) (pe_op op_shlN (pe_op op_xor (pv 7) (pv 8)) (pv 6))) (pss_one (ps_ret (pe_ifExp (pt_cmpR op_eq (pv 1) pe_str (nomark _)) (pe_tup (pa_cons (pe_op op_xor (pv 3) (pv 9)) (pa_cons (pe_op op_xor (pv 4) (pv 9)) (pa_cons (pe_op op_xor (pv 5) (pe_op op_mul (pv 7) (pv 8))) pa_nil)))) (pe_tup (pa_cons (pv 3) (pa_cons (pe_op op_xor (pv 4) (pe_op op_shlN (pv 7) (pv 6))) (pa_cons (pe_op op_xor (pv 5) (pe_op op_mul (pv 7) (pv 8))) pa_nil)))))))) pss_nil)
      (C8.pss_cut (ps_set (i := 10) scGate.nd rfl (.inl rfl) (pe_ix ix_list (pv 2) pe_int (fun _ _ => rfl)))
      (C8.pss_cut (ps_par (i := 11) (j := 12) rfl scGate.nd rfl rfl (by decide) rfl rfl (pa_cons (pe_op op_mod (pe_callTy call_int1 (by rfl) B.int bootI (pa_cons (pe_op op_shrN (pv 3) (pv 10)) pa_nil)) pe_int) (pa_cons (pe_op op_mod (pe_callTy call_int1 (by rfl) B.int bootI (pa_cons (pe_op op_shrN (pv 4) (pv 10)) pa_nil)) pe_int) pa_nil)) rfl)
      (C8.pss_cut (ps_if (pt_cmpR op_eq (pv 1) pe_str (nomark _)) (pss_one (ps_ret (pe_tup (pa_cons (pe_op op_xor (pv 3) (pe_op op_shlN (pv 7) (pv 10))) (pa_cons (pe_op op_xor (pv 4) (pe_op op_shlN (pv 12) (pv 6))) (pa_cons (pe_op op_xor (pv 5) (pe_op op_mul (pe_op op_mul (pv 7) (pv 12)) (pe_op op_sub pe_int (pe_op op_xor (pv 11) (pv 8))))) pa_nil)))))) pss_nil)
      (C8.pss_cut (ps_if (pt_cmpR op_eq (pv 1) pe_str (nomark _)) (pss_one (ps_ret (pe_tup (pa_cons (pv 3) (pa_cons (pe_op op_xor (pe_op op_xor (pv 4) (pe_op op_shlN (pv 11) (pv 6))) (pe_op op_shlN (pv 7) (pv 10))) (pa_cons (pe_op op_xor (pv 5) (pe_op op_mul (pe_op op_mul (pv 7) (pv 11)) (pe_op op_xor (pv 8) (pv 12)))) pa_nil)))))) pss_nil)
      (C8.pss_cut (ps_par (i := 9) (j := 13) rfl scGate.nd rfl rfl (by decide) rfl rfl (pa_cons (pe_op op_xor (pv 7) (pv 11)) (pa_cons (pe_op op_xor (pv 8) (pv 12)) pa_nil)) rfl)
      (pss_one (ps_ret (pe_tup (pa_cons (pe_op op_xor (pe_op op_xor (pv 3) (pe_op op_shlN (pv 9) (pv 6))) (pe_op op_shlN (pv 9) (pv 10))) (pa_cons (pe_op op_xor (pe_op op_xor (pv 4) (pe_op op_shlN (pv 13) (pv 6))) (pe_op op_shlN (pv 13) (pv 10))) (pa_cons (pv 5) pa_nil)))))))))))))))), ?_⟩
    have fin : ∀ {X Z S : Int} {G : Hp} {r : Addr} (u : T3), Same H G → G r = none → X = (u.1 : Nat) → Z = (u.2.1 : Nat) → S = (u.2.2 : Nat) → Fit n u → Q (.ref r) (upd G r (.tup [.int X, .int Z, .int S])) := by
      intro X Z S G r u sg nr e1 e2 e3 fu
      refine w _ r u (sg.trans (same_new nr)) (off_same sg nr) ?_ fu
      unfold TrAt
      rw [upd_same, e1, e2, e3]
    have s0 : Same H H := fun _ _ e => e
    obtain ⟨x, z, sg⟩ := t
    obtain ⟨fx, fz, fs⟩ := ft
    obtain ⟨a, ps', rfl⟩ : ∃ a ps', ps = a :: ps' := by
      cases ps with
      | nil => simp at hp1
      | cons a ps' => exact ⟨a, ps', rfl⟩
    have ha : a < n := hps a (List.mem_cons_self ..)
    refine ⟨fun σ' H' => σ' = [some (.ref s), some (.str kd), some (.ref q), some (.int (x : Nat)), some (.int (z : Nat)), some (.int (sg : Nat)), none, none, none, none, none, none, none, none] ∧ H' = H, ⟨_, rfl, _, _, rfl, .inl (.inl et), rfl, _, _, rfl, _, _, rfl, _, _, rfl, rfl, rfl, rfl⟩, ?_⟩
    rintro _ H1 ⟨rfl, eH⟩
    have eH' := eH.symm
    subst eH'
    refine ⟨fun σ' H' => σ' = [some (.ref s), some (.str kd), some (.ref q), some (.int (x : Nat)), some (.int (z : Nat)), some (.int (sg : Nat)), some (.int (a : Nat)), none, none, none, none, none, none, none] ∧ H' = H, ⟨_, rfl, q, _, _, _, rfl, rfl, hS, at_of (j := 0) rfl rfl, rfl, rfl⟩, ?_⟩
    rintro _ H1 ⟨rfl, eH⟩
    have eH' := eH.symm
    subst eH'
    refine ⟨fun σ' H' => σ' = [some (.ref s), some (.str kd), some (.ref q), some (.int (x : Nat)), some (.int (z : Nat)), some (.int (sg : Nat)), some (.int (a : Nat)), some (.int (x / 2 ^ a % 2 : Nat)), some (.int (z / 2 ^ a % 2 : Nat)), none, none, none, none, none] ∧ H' = H, ?_, ?_⟩
    · refine ⟨_, rfl, _, rfl, (x : Int), a, rfl, rfl, .inl ⟨_, rfl, _, _, rfl, rfl, (by show (0 : Int) < 2; decide), _, rfl, _, rfl, (z : Int), a, rfl, rfl, .inl ⟨_, rfl, _, _, rfl, rfl, (by show (0 : Int) < 2; decide), _, _, rfl, ?_, rfl⟩⟩⟩
      show [_, _, _, _, _, _, _, some (V.int ((x : Int) / 2 ^ a % 2)), some (V.int ((z : Int) / 2 ^ a % 2)), _, _, _, _, _] = _
      rw [i_div, i_div]
    rintro _ H1 ⟨rfl, eH⟩
    have eH' := eH.symm
    subst eH'
    have l1 := bitl x a
    have l2 := bitl z a
    generalize x / 2 ^ a % 2 = one at l1 ⊢
    generalize z / 2 ^ a % 2 = two at l2 ⊢
    have nxy : ¬ ("x" : Str) = "y" := by decide +kernel
    have nxz : ¬ ("x" : Str) = "z" := by decide +kernel
    have nyz : ¬ ("y" : Str) = "z" := by decide +kernel
    have nyx : ¬ ("y" : Str) = "x" := by decide +kernel
    have nzx : ¬ ("z" : Str) = "x" := by decide +kernel
    have nzy : ¬ ("z" : Str) = "y" := by decide +kernel
    have mg3 : ∀ u v w : V, mergeK [] [((.inr "x" : Key), u), (.inr "y", v), (.inr "z", w)] = [((.inr "x" : Key), u), (.inr "y", v), (.inr "z", w)] := fun u v w => by
      simp [mergeK, putK, nxy, nxz, nyz, nyx, nzx, nzy]
    have vx : ∀ u v w : V, valV [((.inr "x" : Key), u), (.inr "y", v), (.inr "z", w)] (.inr "x") = some u := fun u v w => valV_pos rfl
    have vz : ∀ u v w : V, valV [((.inr "x" : Key), u), (.inr "y", v), (.inr "z", w)] (.inr "z") = some w := fun u v w => by
      simp [valV, List.find?, nxz, nyz]
    by_cases k3 : kd = "x" ∨ kd = "z"
    · refine ⟨fun _ _ => False, ?_, fun _ _ z => z.elim⟩
      refine ⟨_, rfl, by show 3 ≤ sizeLine; decide, fun l nl => ⟨l, _, rfl, .inl (SqL.of upd_same), rfl, rfl, true, ?_, ?_⟩⟩
      · rcases k3 with rfl | rfl <;> decide +kernel
      refine iteT ?_
      refine ⟨_, rfl, _, rfl, _, rfl, fun p hp => ?_⟩
      refine ⟨_, rfl, _, rfl, _, rfl, _, _, rfl, rfl, _, rfl, ?_⟩
      have sl : Same H (upd (upd (upd H l (.lst [V.str "x", V.str "y", V.str "z"])) p (.dK [])) p (.dK (mergeK [] [((.inr "x" : Key), V.int (two : Nat)), (.inr "y", V.int (Builtin.bitXor (one : Nat) (two : Nat))), (.inr "z", V.int (one : Nat))]))) := (same_new nl).trans (by
        rw [upd_upd]
        exact same_new hp)
      rcases k3 with rfl | rfl
      · refine ⟨upd_same, [((.inr "x" : Key), V.int (two : Nat)), (.inr "y", V.int (Builtin.bitXor (one : Nat) (two : Nat))), (.inr "z", V.int (one : Nat))], rfl, by show 3 ≤ 15; decide, _, rfl, p, .int (two : Nat), rfl, ?_, _, _, rfl, rfl, by show 3 ≤ sizeLine; decide, fun r nr => fin (x, z, sg ^^^ two) sl nr rfl rfl (bxor _ _) ⟨fx, fz, x_lt fs l2⟩⟩
        have := DGet.k (k := (.inr "x" : Key)) (upd_same (H := upd (upd H l (.lst [V.str "x", V.str "y", V.str "z"])) p (.dK [])) (a := p) (o := .dK (mergeK [] [((.inr "x" : Key), V.int (two : Nat)), (.inr "y", V.int (Builtin.bitXor (one : Nat) (two : Nat))), (.inr "z", V.int (one : Nat))])))
        rw [mg3, vx] at this
        rw [mg3]
        exact this
      · refine ⟨upd_same, [((.inr "x" : Key), V.int (two : Nat)), (.inr "y", V.int (Builtin.bitXor (one : Nat) (two : Nat))), (.inr "z", V.int (one : Nat))], rfl, by show 3 ≤ 15; decide, _, rfl, p, .int (one : Nat), rfl, ?_, _, _, rfl, rfl, by show 3 ≤ sizeLine; decide, fun r nr => fin (x, z, sg ^^^ one) sl nr rfl rfl (bxor _ _) ⟨fx, fz, x_lt fs l1⟩⟩
        have := DGet.k (k := (.inr "z" : Key)) (upd_same (H := upd (upd H l (.lst [V.str "x", V.str "y", V.str "z"])) p (.dK [])) (a := p) (o := .dK (mergeK [] [((.inr "x" : Key), V.int (two : Nat)), (.inr "y", V.int (Builtin.bitXor (one : Nat) (two : Nat))), (.inr "z", V.int (one : Nat))])))
        rw [mg3, vz] at this
        rw [mg3]
        exact this
    have k3' : ∀ {b : V}, b = .str kd → inV b [V.str "x", V.str "y", V.str "z"] = false := fun {b} e => by
      rcases hk with (rfl | rfl | rfl | rfl) | ⟨rfl | rfl | rfl, _⟩ <;> first | (exact absurd (by simp) k3) | (rw [e]; decide +kernel)
    refine ⟨fun σ' H' => σ' = [some (.ref s), some (.str kd), some (.ref q), some (.int (x : Nat)), some (.int (z : Nat)), some (.int (sg : Nat)), some (.int (a : Nat)), some (.int (one : Nat)), some (.int (two : Nat)), none, none, none, none, none] ∧ Same H H', ?_, ?_⟩
    · refine ⟨_, rfl, by show 3 ≤ sizeLine; decide, fun l nl => ⟨l, _, rfl, .inl (SqL.of upd_same), rfl, rfl, false, ?_, iteF ⟨rfl, same_new nl⟩⟩⟩
      exact congrArg V.bl (k3' rfl)
    rintro _ H1 ⟨rfl, s1⟩
    by_cases k4 : kd = "h" ∨ kd = "s"
    · refine ⟨fun _ _ => False, ?_, fun _ _ z => z.elim⟩
      refine ⟨_, rfl, by show 2 ≤ sizeLine; decide, fun l nl => ⟨l, _, rfl, .inl (SqL.of upd_same), rfl, rfl, true, ?_, ?_⟩⟩
      · rcases k4 with rfl | rfl <;> decide +kernel
      have s2 := s1.trans (same_new (o := .lst [V.str "h", V.str "s"]) nl)
      generalize upd H1 l (.lst [V.str "h", V.str "s"]) = H2 at s2 ⊢
      have lx1 := x_lt l1 l2
      refine iteT ⟨fun σ' H' => σ' = [some (.ref s), some (.str kd), some (.ref q), some (.int (x : Nat)), some (.int (z : Nat)), some (.int (sg : Nat)), some (.int (a : Nat)), some (.int (one : Nat)), some (.int (two : Nat)), some (.int ((one ^^^ two) * 2 ^ a : Nat)), none, none, none, none] ∧ H' = H2, ?_, ?_⟩
      · refine ⟨_, rfl, _, rfl, _, _, rfl, rfl, _, rfl, ((one ^^^ two : Nat) : Int), a, ?_, rfl, csh lx1 (by omega), ?_, rfl⟩
        · show V.int (Builtin.bitXor (one : Nat) (two : Nat)) = _
          rw [bxor]
        · rw [i_sh]
          rfl
      rintro _ H3 ⟨rfl, eH⟩
      subst eH
      have lt := sh_lt lx1 ha
      have lm := m_lt l1 l2
      have em : ((one : Int) * (two : Int)) = ((one * two : Nat) : Int) := by push_cast; rfl
      rcases k4 with rfl | rfl
      · refine ⟨_, rfl, rfl, true, by decide +kernel, iteT ?_⟩
        refine ⟨_, rfl, _, rfl, _, _, rfl, rfl, _, rfl, _, rfl, _, _, rfl, rfl, _, rfl, _, rfl, _, rfl, _, _, rfl, rfl, .inl ⟨by omega, by omega⟩, _, _, rfl, rfl, by show 3 ≤ sizeLine; decide, fun r nr => fin (x ^^^ (one ^^^ two) * 2 ^ a, z ^^^ (one ^^^ two) * 2 ^ a, sg ^^^ one * two) s2 nr (bxor _ _) (bxor _ _) ?_ ⟨Nat.xor_lt_two_pow fx lt, Nat.xor_lt_two_pow fz lt, x_lt fs lm⟩⟩
        show Builtin.bitXor (sg : Nat) ((one : Int) * (two : Int)) = _
        rw [em, bxor]
      · refine ⟨_, rfl, rfl, false, by decide +kernel, iteF ?_⟩
        refine ⟨_, rfl, _, rfl, _, rfl, _, rfl, (one : Int), a, rfl, rfl, csh l1 (by omega), _, _, rfl, rfl, _, rfl, _, rfl, _, rfl, _, _, rfl, rfl, .inl ⟨by omega, by omega⟩, _, _, rfl, rfl, by show 3 ≤ sizeLine; decide, fun r nr => fin (x, z ^^^ one * 2 ^ a, sg ^^^ one * two) s2 nr rfl ?_ ?_ ⟨fx, Nat.xor_lt_two_pow fz (sh_lt l1 ha), x_lt fs lm⟩⟩
        · show Builtin.bitXor (z : Nat) ((one : Int) * 2 ^ a) = _
          rw [i_sh, bxor]
        · show Builtin.bitXor (sg : Nat) ((one : Int) * (two : Int)) = _
          rw [em, bxor]
    have k2 : G2 kd ∧ 2 ≤ (a :: ps').length := by
      rcases hk with (h | h | h | h) | h
      · exact absurd (.inl h) k4
      · exact absurd (.inr h) k4
      · exact absurd (.inl h) k3
      · exact absurd (.inr h) k3
      · exact h
    obtain ⟨kg, hp2⟩ := k2
    have k4' : ∀ {b : V}, b = .str kd → inV b [V.str "h", V.str "s"] = false := fun {b} e => by
      rcases kg with rfl | rfl | rfl <;> (rw [e]; decide +kernel)
    refine ⟨fun σ' H' => σ' = [some (.ref s), some (.str kd), some (.ref q), some (.int (x : Nat)), some (.int (z : Nat)), some (.int (sg : Nat)), some (.int (a : Nat)), some (.int (one : Nat)), some (.int (two : Nat)), none, none, none, none, none] ∧ Same H H', ?_, ?_⟩
    · refine ⟨_, rfl, by show 2 ≤ sizeLine; decide, fun l nl => ⟨l, _, rfl, .inl (SqL.of upd_same), rfl, rfl, false, ?_, iteF ⟨rfl, s1.trans (same_new nl)⟩⟩⟩
      exact congrArg V.bl (k4' rfl)
    rintro _ H2 ⟨rfl, s2⟩
    obtain ⟨b, ps2, rfl⟩ : ∃ b ps2, ps' = b :: ps2 := by
      cases ps' with
      | nil => simp at hp2
      | cons b ps2 => exact ⟨b, ps2, rfl⟩
    have hb : b < n := hps b (List.mem_cons_of_mem _ (List.mem_cons_self ..))
    refine ⟨fun σ' H' => σ' = [some (.ref s), some (.str kd), some (.ref q), some (.int (x : Nat)), some (.int (z : Nat)), some (.int (sg : Nat)), some (.int (a : Nat)), some (.int (one : Nat)), some (.int (two : Nat)), none, some (.int (b : Nat)), none, none, none] ∧ H' = H2, ⟨_, rfl, q, _, _, _, rfl, rfl, Same.seq s2 hS, at_of (j := 1) rfl rfl, rfl, rfl⟩, ?_⟩
    rintro _ H3 ⟨rfl, eH⟩
    subst eH
    refine ⟨fun σ' H' => σ' = [some (.ref s), some (.str kd), some (.ref q), some (.int (x : Nat)), some (.int (z : Nat)), some (.int (sg : Nat)), some (.int (a : Nat)), some (.int (one : Nat)), some (.int (two : Nat)), none, some (.int (b : Nat)), some (.int (x / 2 ^ b % 2 : Nat)), some (.int (z / 2 ^ b % 2 : Nat)), none] ∧ H' = H3, ?_, ?_⟩
    · refine ⟨_, rfl, _, rfl, (x : Int), b, rfl, rfl, .inl ⟨_, rfl, _, _, rfl, rfl, (by show (0 : Int) < 2; decide), _, rfl, _, rfl, (z : Int), b, rfl, rfl, .inl ⟨_, rfl, _, _, rfl, rfl, (by show (0 : Int) < 2; decide), _, _, rfl, ?_, rfl⟩⟩⟩
      show [_, _, _, _, _, _, _, _, _, _, _, some (V.int ((x : Int) / 2 ^ b % 2)), some (V.int ((z : Int) / 2 ^ b % 2)), _] = _
      rw [i_div, i_div]
    rintro _ H4 ⟨rfl, eH⟩
    subst eH
    have l3 := bitl x b
    have l4 := bitl z b
    generalize x / 2 ^ b % 2 = fst at l3 ⊢
    generalize z / 2 ^ b % 2 = snd at l4 ⊢
    have bits : ∀ u : Nat, u < 2 → u = 0 ∨ u = 1 := fun u h => by omega
    by_cases kc : kd = "cx"
    · subst kc
      obtain ⟨v, hv, ev⟩ : ∃ v : Nat, v < 2 ∧ ((one : Int) * (snd : Int)) * (1 - Builtin.bitXor (fst : Nat) (two : Nat)) = (v : Int) := by
        rw [bxor]
        rcases bits one l1 with rfl | rfl <;> rcases bits snd l4 with rfl | rfl <;> rcases bits fst l3 with rfl | rfl <;> rcases bits two l2 with rfl | rfl <;> first | exact ⟨0, by decide, by decide⟩ | exact ⟨1, by decide, by decide⟩
      refine ⟨fun _ _ => False, ?_, fun _ _ z => z.elim⟩
      refine ⟨_, rfl, rfl, true, by decide +kernel, iteT ?_⟩
      refine ⟨_, rfl, _, rfl, _, rfl, (one : Int), b, rfl, rfl, csh l1 (by omega), _, _, rfl, rfl, _, rfl, _, rfl, _, rfl, (snd : Int), a, rfl, rfl, csh l4 (by omega), _, _, rfl, rfl, _, rfl, _, rfl, _, rfl, _, _, rfl, rfl, .inl ⟨by omega, by omega⟩, _, rfl, _, rfl, _, _, rfl, rfl, _, _, rfl, rfl, _, _, rfl, rfl, ?_, _, _, rfl, rfl, by show 3 ≤ sizeLine; decide, fun r nr => fin (x ^^^ one * 2 ^ b, z ^^^ snd * 2 ^ a, sg ^^^ v) s2 nr ?_ ?_ ?_ ⟨Nat.xor_lt_two_pow fx (sh_lt l1 hb), Nat.xor_lt_two_pow fz (sh_lt l4 ha), x_lt fs hv⟩⟩
      · refine .inl ?_
        have : (one : Int) * (snd : Int) = ((one * snd : Nat) : Int) := by push_cast; rfl
        have := m_lt l1 l4
        constructor <;> (show _; omega)
      · show Builtin.bitXor (x : Nat) ((one : Int) * 2 ^ b) = _
        rw [i_sh, bxor]
      · show Builtin.bitXor (z : Nat) ((snd : Int) * 2 ^ a) = _
        rw [i_sh, bxor]
      · show Builtin.bitXor (sg : Nat) (((one : Int) * (snd : Int)) * (1 - Builtin.bitXor (fst : Nat) (two : Nat))) = _
        rw [ev, bxor]
    refine ⟨fun σ' H' => σ' = [some (.ref s), some (.str kd), some (.ref q), some (.int (x : Nat)), some (.int (z : Nat)), some (.int (sg : Nat)), some (.int (a : Nat)), some (.int (one : Nat)), some (.int (two : Nat)), none, some (.int (b : Nat)), some (.int (fst : Nat)), some (.int (snd : Nat)), none] ∧ H' = H4, ?_, ?_⟩
    · refine ⟨_, rfl, rfl, false, ?_, iteF ⟨rfl, rfl⟩⟩
      rcases kg with rfl | rfl | rfl
      · exact absurd rfl kc
      · decide +kernel
      · decide +kernel
    rintro _ H5 ⟨rfl, eH⟩
    subst eH
    by_cases kz : kd = "cz"
    · subst kz
      obtain ⟨v, hv, ev⟩ : ∃ v : Nat, v < 2 ∧ ((one : Int) * (fst : Int)) * Builtin.bitXor (two : Nat) (snd : Nat) = (v : Int) := by
        rw [bxor]
        rcases bits one l1 with rfl | rfl <;> rcases bits snd l4 with rfl | rfl <;> rcases bits fst l3 with rfl | rfl <;> rcases bits two l2 with rfl | rfl <;> first | exact ⟨0, by decide, by decide⟩ | exact ⟨1, by decide, by decide⟩
      refine ⟨fun _ _ => False, ?_, fun _ _ z => z.elim⟩
      refine ⟨_, rfl, rfl, true, by decide +kernel, iteT ?_⟩
      refine ⟨_, rfl, _, rfl, _, rfl, _, rfl, (fst : Int), a, rfl, rfl, csh l3 (by omega), _, _, rfl, rfl, _, rfl, _, rfl, (one : Int), b, rfl, rfl, csh l1 (by omega), _, _, rfl, rfl, _, rfl, _, rfl, _, rfl, _, _, rfl, rfl, .inl ⟨by omega, by omega⟩, _, rfl, _, rfl, _, _, rfl, rfl, _, _, rfl, rfl, ?_, _, _, rfl, rfl, by show 3 ≤ sizeLine; decide, fun r nr => fin (x, (z ^^^ fst * 2 ^ a) ^^^ one * 2 ^ b, sg ^^^ v) s2 nr rfl ?_ ?_ ⟨fx, Nat.xor_lt_two_pow (Nat.xor_lt_two_pow fz (sh_lt l3 ha)) (sh_lt l1 hb), x_lt fs hv⟩⟩
      · refine .inl ?_
        have : (one : Int) * (fst : Int) = ((one * fst : Nat) : Int) := by push_cast; rfl
        have := m_lt l1 l3
        constructor <;> (show _; omega)
      · show Builtin.bitXor (Builtin.bitXor (z : Nat) ((fst : Int) * 2 ^ a)) ((one : Int) * 2 ^ b) = _
        rw [i_sh, i_sh, bxor, bxor]
      · show Builtin.bitXor (sg : Nat) (((one : Int) * (fst : Int)) * Builtin.bitXor (two : Nat) (snd : Nat)) = _
        rw [ev, bxor]
    refine ⟨fun σ' H' => σ' = [some (.ref s), some (.str kd), some (.ref q), some (.int (x : Nat)), some (.int (z : Nat)), some (.int (sg : Nat)), some (.int (a : Nat)), some (.int (one : Nat)), some (.int (two : Nat)), none, some (.int (b : Nat)), some (.int (fst : Nat)), some (.int (snd : Nat)), none] ∧ H' = H5, ?_, ?_⟩
    · refine ⟨_, rfl, rfl, false, ?_, iteF ⟨rfl, rfl⟩⟩
      rcases kg with rfl | rfl | rfl
      · exact absurd rfl kc
      · exact absurd rfl kz
      · decide +kernel
    rintro _ H6 ⟨rfl, eH⟩
    subst eH
    have lu := x_lt l1 l3
    have lv := x_lt l2 l4
    refine ⟨fun σ' H' => σ' = [some (.ref s), some (.str kd), some (.ref q), some (.int (x : Nat)), some (.int (z : Nat)), some (.int (sg : Nat)), some (.int (a : Nat)), some (.int (one : Nat)), some (.int (two : Nat)), some (.int (one ^^^ fst : Nat)), some (.int (b : Nat)), some (.int (fst : Nat)), some (.int (snd : Nat)), some (.int (two ^^^ snd : Nat))] ∧ H' = H6, ?_, ?_⟩
    · refine ⟨_, rfl, _, rfl, _, _, rfl, rfl, _, rfl, _, rfl, _, _, rfl, rfl, _, _, rfl, ?_, rfl⟩
      show [_, _, _, _, _, _, _, _, _, some (V.int (Builtin.bitXor (one : Nat) (fst : Nat))), _, _, _, some (V.int (Builtin.bitXor (two : Nat) (snd : Nat)))] = _
      rw [bxor, bxor]
    rintro _ H7 ⟨rfl, eH⟩
    subst eH
    generalize one ^^^ fst = u at lu ⊢
    generalize two ^^^ snd = v at lv ⊢
    refine ⟨_, rfl, _, rfl, _, rfl, (u : Int), a, rfl, rfl, csh lu (by omega), _, _, rfl, rfl, _, rfl, _, rfl, (u : Int), b, rfl, rfl, csh lu (by omega), _, _, rfl, rfl, _, rfl, _, rfl, _, rfl, (v : Int), a, rfl, rfl, csh lv (by omega), _, _, rfl, rfl, _, rfl, _, rfl, (v : Int), b, rfl, rfl, csh lv (by omega), _, _, rfl, rfl, _, rfl, by show 3 ≤ sizeLine; decide, fun r nr => fin ((x ^^^ u * 2 ^ a) ^^^ u * 2 ^ b, (z ^^^ v * 2 ^ a) ^^^ v * 2 ^ b, sg) s2 nr ?_ ?_ rfl ⟨Nat.xor_lt_two_pow (Nat.xor_lt_two_pow fx (sh_lt lu ha)) (sh_lt lu hb), Nat.xor_lt_two_pow (Nat.xor_lt_two_pow fz (sh_lt lv ha)) (sh_lt lv hb), fs⟩⟩
    · show Builtin.bitXor (Builtin.bitXor (x : Nat) ((u : Int) * 2 ^ a)) ((u : Int) * 2 ^ b) = _
      rw [i_sh, i_sh, bxor, bxor]
    · show Builtin.bitXor (Builtin.bitXor (z : Nat) ((v : Int) * 2 ^ a)) ((v : Int) * 2 ^ b) = _
      rw [i_sh, i_sh, bxor, bxor]
end
end KQ

namespace KQ
open PySem PySem.Spec PyProof.Rows L2
/-! ### text * n, n at least 1 -/
theorem fold_rep (c : Nat) : ∀ (n : Nat) (a : Array Nat), (List.replicate n (#[c] : Array Nat)).foldl (· ++ ·) a = a ++ (List.replicate n c).toArray
  | 0, a => by simp
  | n + 1, a => by
    rw [List.replicate_succ, List.foldl_cons, fold_rep c n, List.replicate_succ]
    apply Array.ext'
    simp
/-- one sign, n times -/
theorem op_mul_sign {X : Cx} : OpR X (binaryOp .Mult) (fun x y H Q => ∃ c n : Nat, x = .str ⟨#[c]⟩ ∧ y = .int (n : Int) ∧ 0 < n ∧ n ≤ 10000 ∧ Q (.str ⟨(List.replicate n c).toArray⟩) H) := by
  intro pins s σ H x y v u Q I rx ry want
  obtain ⟨c, n, rfl, rfl, h0, hn, q⟩ := want
  obtain ⟨t, rfl⟩ := rx
  obtain ⟨t', rfl⟩ := ry
  have n1 : ¬ (n : Int) < 1 := by omega
  have len1 : (⟨#[c]⟩ : Str).length = 1 := rfl
  refine PySem.P.mul_str ?_ (fun _ _ => ?_) (fun _ _ => ?_) ?_
  · rw [decide_eq_false (by omega : ¬ (n : Int) < -(2 ^ 63)), decide_eq_false (by omega : ¬ (n : Int) ≥ 2 ^ 63)]
    rfl
  · rw [len1]
    intro z
    have h1 : (1 : Int) ≤ (2 ^ 63 - 1) / (n : Int) := (Int.le_ediv_iff_mul_le (by omega)).mpr (by omega)
    have z' : (2 ^ 63 - 1) / (n : Int) < 1 := z
    omega
  · rw [len1, Nat.one_mul, Int.toNat_natCast]
    show decide (n > 2 ^ 24) = false
    exact decide_eq_false (by omega)
  · rw [if_neg n1]
    by_cases e : n = 1
    · subst e
      rw [if_pos (show (((1 : Nat) : Int) == 1 || (⟨#[c]⟩ : Str).length == 0) = true from rfl)]
      exact ⟨.str ⟨#[c]⟩, H, I, ⟨t, rfl⟩, q⟩
    · have ne : ((n : Int) == 1 || (⟨#[c]⟩ : Str).length == 0) = false := by
        have h1 : ((n : Int) == 1) = false := beq_eq_false_iff_ne.mpr (by omega)
        rw [h1]
        rfl
      rw [ne]
      rw [if_neg Bool.false_ne_true, Int.toNat_natCast]
      have key : (List.replicate n (⟨#[c]⟩ : Str).cps).foldl (· ++ ·) #[] = (List.replicate n c).toArray := by
        rw [fold_rep]
        simp
      rw [key]
      refine ⟨?_, ⟨.str ⟨(List.replicate n c).toArray⟩, H, I.tok _, ⟨_, rfl⟩, q⟩⟩
      show (List.replicate n c).toArray.size ≤ sizeLine
      rw [List.size_toArray, List.length_replicate]
      exact Nat.le_trans hn (by decide)
theorem op_mul_sign0 {X : Cx} : OpR X (binaryOp .Mult) (fun x y H Q => ∃ c n : Nat, x = .str ⟨#[c]⟩ ∧ y = .int (n : Int) ∧ n ≤ 10000 ∧ Q (.str ⟨(List.replicate n c).toArray⟩) H) := by
  intro pins s σ H x y v u Q I rx ry want
  obtain ⟨c, n, rfl, rfl, hn, q⟩ := want
  by_cases h0 : 0 < n
  · exact op_mul_sign pins s σ H _ _ v u Q I rx ry ⟨c, n, rfl, rfl, h0, hn, q⟩
  · obtain rfl : n = 0 := by omega
    obtain ⟨t, rfl⟩ := rx
    obtain ⟨t', rfl⟩ := ry
    refine PySem.P.mul_str ?_ (fun _ _ => ?_) (fun _ _ => ?_) ?_
    · rfl
    · rename_i h1 _
      exact absurd (show ((0 : Nat) : Int) < 1 by decide) h1
    · rename_i h1 _
      exact absurd (show ((0 : Nat) : Int) < 1 by decide) h1
    · rw [if_pos (show ((0 : Nat) : Int) < 1 by decide)]
      exact ⟨Nat.zero_le _, ⟨.str Str.empty, H, I.tok _, ⟨_, rfl⟩, q⟩⟩
end KQ

namespace KQ
open PySem PySem.Spec PyProof.Rows L2
/-! ### the law's drawn codes: lists of strings of a size -/
theorem scCode : FnScope ["_law_pen_here", "_law_size", "_law_rank", "_law_gauged", "_law_marks", "_law_pairs", "_law_gates", "_law_lap", "_law_string", "_law_x", "_law_z", "_law_rows", "_law_other", "_law_gauge", "_law_kind", "_law_places", "_law_k"] ["_law_pen_here", "_law_size", "_law_rank", "_law_gauged"] (defScope sCode) := ⟨rfl, rfl, rfl, by decide +kernel, rfl, by decide +kernel, by decide +kernel⟩
instance (k : Str) : Decidable (G2 k) := inferInstanceAs (Decidable (_ ∨ _ ∨ _))
abbrev RLs := List (Addr × T3)
def refR (R : RLs) : List V := R.map fun r => V.ref r.1
def RsAt (n : Nat) (H : Hp) (R : RLs) : Prop := ∀ r ∈ R, TrAt H r.1 r.2 ∧ Fit n r.2
abbrev PrLs := List (Addr × (Addr × T3) × (Addr × T3))
def refQ (R : PrLs) : List V := R.map fun r => V.ref r.1
def QsAt (n : Nat) (H : Hp) (R : PrLs) : Prop := ∀ r ∈ R, H r.1 = some (.tup [.ref r.2.1.1, .ref r.2.2.1]) ∧ TrAt H r.2.1.1 r.2.1.2 ∧ Fit n r.2.1.2 ∧ TrAt H r.2.2.1 r.2.2.2 ∧ Fit n r.2.2.2
abbrev GtLs := List (Addr × Str × Addr × List Nat)
def refG (G : GtLs) : List V := G.map fun g => V.ref g.1
def GtAt (n : Nat) (gl : Addr) (H : Hp) (G : GtLs) : Prop := ∀ g ∈ G, H g.1 = some (.tup [.str g.2.1, .ref g.2.2.1]) ∧ H g.2.2.1 = some (.lst (natV g.2.2.2)) ∧ g.2.2.1 ≠ gl ∧ (∀ a ∈ g.2.2.2, a < n) ∧ 1 ≤ g.2.2.2.length ∧ (G1 g.2.1 ∨ (G2 g.2.1 ∧ 2 ≤ g.2.2.2.length))
theorem refR_at {R : RLs} {i : Nat} {v : V} (h : (refR R)[i]? = some v) : ∃ r, R[i]? = some r ∧ v = .ref r.1 := by
  unfold refR at h
  rw [List.getElem?_map] at h
  obtain ⟨q, hq, rfl⟩ := Option.map_eq_some_iff.mp h
  exact ⟨q, hq, rfl⟩
theorem refR_len (R : RLs) : (refR R).length = R.length := List.length_map ..
theorem refQ_at {R : PrLs} {i : Nat} {v : V} (h : (refQ R)[i]? = some v) : ∃ r, R[i]? = some r ∧ v = .ref r.1 := by
  unfold refQ at h
  rw [List.getElem?_map] at h
  obtain ⟨q, hq, rfl⟩ := Option.map_eq_some_iff.mp h
  exact ⟨q, hq, rfl⟩
theorem refQ_len (R : PrLs) : (refQ R).length = R.length := List.length_map ..
theorem refG_at {R : GtLs} {i : Nat} {v : V} (h : (refG R)[i]? = some v) : ∃ r, R[i]? = some r ∧ v = .ref r.1 := by
  unfold refG at h
  rw [List.getElem?_map] at h
  obtain ⟨q, hq, rfl⟩ := Option.map_eq_some_iff.mp h
  exact ⟨q, hq, rfl⟩
theorem refG_len (R : GtLs) : (refG R).length = R.length := List.length_map ..
theorem RsAt.same {n : Nat} {H H' : Hp} {R : RLs} (s : Same H H') (h : RsAt n H R) : RsAt n H' R := fun r hr => ⟨s _ _ (h r hr).1, (h r hr).2⟩
theorem RsAt.put {n : Nat} {H : Hp} {R : RLs} {D : Addr} {xs : List V} {o : HO} (e : H D = some (.lst xs)) (h : RsAt n H R) : RsAt n (upd H D o) R := fun r hr => by
  obtain ⟨e2, f⟩ := h r hr
  refine ⟨?_, f⟩
  unfold TrAt at *
  rw [upd_ne fun z => by rw [z, e] at e2; cases e2]
  exact e2
theorem RsAt.kb {n : Nat} {H H' : Hp} {R : RLs} {p : Addr} {kv : List (Key × V)} (hp : H p = some (.dK kv)) (k : KB p H H') (h : RsAt n H R) : RsAt n H' R := fun r hr => by
  obtain ⟨e2, f⟩ := h r hr
  refine ⟨k _ _ e2 fun z => ?_, f⟩
  unfold TrAt at e2
  rw [z, hp] at e2
  cases e2
theorem QsAt.same {n : Nat} {H H' : Hp} {R : PrLs} (s : Same H H') (h : QsAt n H R) : QsAt n H' R := fun r hr => let ⟨a, b, c, d, e⟩ := h r hr; ⟨s _ _ a, s _ _ b, c, s _ _ d, e⟩
theorem QsAt.put {n : Nat} {H : Hp} {R : PrLs} {D : Addr} {xs : List V} {o : HO} (e : H D = some (.lst xs)) (h : QsAt n H R) : QsAt n (upd H D o) R := fun r hr => by
  obtain ⟨a, b, c, d, f⟩ := h r hr
  unfold TrAt at *
  refine ⟨?_, ?_, c, ?_, f⟩
  · rw [upd_ne fun z => by rw [z, e] at a; cases a]; exact a
  · rw [upd_ne fun z => by rw [z, e] at b; cases b]; exact b
  · rw [upd_ne fun z => by rw [z, e] at d; cases d]; exact d
theorem QsAt.kb {n : Nat} {H H' : Hp} {R : PrLs} {p : Addr} {kv : List (Key × V)} (hp : H p = some (.dK kv)) (k : KB p H H') (h : QsAt n H R) : QsAt n H' R := fun r hr => by
  obtain ⟨a, b, c, d, f⟩ := h r hr
  unfold TrAt at b d
  exact ⟨k _ _ a fun z => (by rw [z, hp] at a; cases a), k _ _ b fun z => (by rw [z, hp] at b; cases b), c, k _ _ d fun z => (by rw [z, hp] at d; cases d), f⟩
def LK (k c : Nat) : List Nat := List.replicate k 73 ++ [c]
theorem LK_len (k c : Nat) : (LK k c).length = k + 1 := by simp [LK]
theorem LK_lts (k : Nat) {c : Nat} (h : isL c = true) : Lts8 (LK k c) := by
  intro d hd
  rcases List.mem_append.mp hd with q | q
  · rw [List.eq_of_mem_replicate q]
    exact isL_iff.mpr (.inl rfl)
  · rw [List.mem_singleton.mp q]
    exact h
theorem oft_fit {size : Nat} {L : List Nat} (h : L.length ≤ size) : Fit size (bv lx L, bv lz L, 0) := by
  have up : ∀ {x : Nat}, x < 2 ^ L.length → x < 2 ^ size := fun k => Nat.lt_of_lt_of_le k (Nat.pow_le_pow_right (by decide) h)
  exact ⟨up (bv_lt lx_lt L), up (bv_lt lz_lt L), by show 0 < 2; decide⟩
theorem e_Zc : ("Z" : Str) = ⟨#[90]⟩ := by decide +kernel
theorem e_Xc : ("X" : Str) = ⟨#[88]⟩ := by decide +kernel
theorem LK_txt (k c : Nat) : ((⟨(List.replicate k 73).toArray⟩ : Str) ++ (⟨#[c]⟩ : Str)) = mS (LK k c) := mS_app _ [c]
theorem LK_small (k : Nat) (h : k ≤ 25) (x : Str) (hx : x.length = 1) : ((⟨(List.replicate k 73).toArray⟩ : Str)).length + x.length ≤ sizeLine := by
  rw [hx]
  refine Nat.le_trans ?_ (by decide : 26 ≤ sizeLine)
  show (List.replicate k 73).toArray.size + 1 ≤ 26
  simp
  omega
theorem kb_lst {H H' : Hp} {p c x : Addr} {n : Nat} {xs : List V} (P : PenAt H p c n) (k : KB p H H') (e : H x = some (.lst xs)) : H' x = some (.lst xs) := by
  obtain ⟨ns, a, d, f, hp, _⟩ := P
  exact k _ _ e fun z => by rw [z, hp] at e; cases e
theorem kb_rs {H H' : Hp} {p c : Addr} {n m : Nat} {R : RLs} (P : PenAt H p c n) (k : KB p H H') (h : RsAt m H R) : RsAt m H' R := by
  obtain ⟨ns, a, d, f, hp, _⟩ := P
  exact h.kb hp k
theorem kb_qs {H H' : Hp} {p c : Addr} {n m : Nat} {R : PrLs} (P : PenAt H p c n) (k : KB p H H') (h : QsAt m H R) : QsAt m H' R := by
  obtain ⟨ns, a, d, f, hp, _⟩ := P
  exact h.kb hp k
theorem kb_gt {H H' : Hp} {p c gl : Addr} {n m : Nat} {R : GtLs} (P : PenAt H p c n) (k : KB p H H') (h : GtAt m gl H R) : GtAt m gl H' R := by
  obtain ⟨ns, a, d, f, hp, _⟩ := P
  intro g hg
  obtain ⟨e1, e2, r⟩ := h g hg
  exact ⟨k _ _ e1 fun z => (by rw [z, hp] at e1; cases e1), k _ _ e2 fun z => (by rw [z, hp] at e2; cases e2), r⟩
theorem pick_rs {W : RLs} : ∀ {ys : List V}, (∀ y ∈ ys, y ∈ refR W) → ∃ R : RLs, ys = refR R ∧ ∀ r ∈ R, r ∈ W
  | [], _ => ⟨[], rfl, fun _ h => by cases h⟩
  | y :: ys, h => by
    obtain ⟨r, hr, e⟩ := List.mem_map.mp (h y (List.mem_cons_self ..))
    obtain ⟨R, e2, h2⟩ := pick_rs (ys := ys) fun z hz => h z (List.mem_cons_of_mem _ hz)
    refine ⟨r :: R, ?_, fun q hq => ?_⟩
    · rw [e2, ← e]
      rfl
    · rcases List.mem_cons.mp hq with rfl | hq
      · exact hr
      · exact h2 q hq
theorem code_kv (u v w x : V) : mergeK [] [((.inr "size" : Key), u), (.inr "rows", v), (.inr "gauge", w), (.inr "hidden", x)] = [((.inr "size" : Key), u), (.inr "rows", v), (.inr "gauge", w), (.inr "hidden", x)] := by
  have h1 : ¬ ("size" : Str) = "rows" := by decide +kernel
  have h2 : ¬ ("size" : Str) = "gauge" := by decide +kernel
  have h3 : ¬ ("size" : Str) = "hidden" := by decide +kernel
  have h4 : ¬ ("rows" : Str) = "gauge" := by decide +kernel
  have h5 : ¬ ("rows" : Str) = "hidden" := by decide +kernel
  have h6 : ¬ ("gauge" : Str) = "hidden" := by decide +kernel
  simp [mergeK, putK, h1, h2, h3, h4, h5, h6]
def spCode (K : PySem.W.Frag) : Sp := fun vs H Q _ => ∃ (p c : Addr) (n size rank : Nat), vs = [.ref p, .int (size : Nat), .int (rank : Nat), .int 0] ∧ PenAt H p c n ∧ n + 5000 < 1000000 ∧ 1 ≤ size ∧ size ≤ 25 ∧ rank ≤ size ∧
  ∀ H' d lr lg lh R n', KB p H H' → PenAt H' p c n' → n' ≤ n + 5000 → H d = none → H' d = some (.dK [(.inr "size", .int (size : Nat)), (.inr "rows", .ref lr), (.inr "gauge", .ref lg), (.inr "hidden", .ref lh)]) → H' lr = some (.lst (refR R)) → RsAt size H' R → R.length = rank → Q (.ref d) H'
section
variable {P : Program} {w : World} {K : PySem.W.Frag} {mg : Str → Option Value} {base : Heap}
theorem ok_code {f fD fP fS fT fG fM fO : Addr} {fd dD dP dS dT dG dM dO : FuncData} {k : Nat} (F : Fun K "_law_drawn_code" "_law_drawn_code" sCode f fd) (FD : Fun K "_law_draw" "_law_draw" sDraw fD dD) (bD : Binds K dD ["_law_pen_here", "_law_many"] []) (gD : mg "_law_draw" = some (.ref fD))
    (FP : Fun K "_law_pick" "_law_pick" sPick fP dP) (bP : Binds K dP ["_law_pen_here", "_law_some"] []) (gP : mg "_law_pick" = some (.ref fP)) (FS : Fun K "_law_shuffled" "_law_shuffled" sShuf fS dS) (bS : Binds K dS ["_law_pen_here", "_law_some"] []) (gS : mg "_law_shuffled" = some (.ref fS))
    (FT : Fun K "_law_of_text" "_law_of_text" sOfT fT dT) (bT : Binds K dT ["_law_text_here"] []) (gT : mg "_law_of_text" = some (.ref fT)) (FG : Fun K "_law_gate" "_law_gate" sGate fG dG) (bG : Binds K dG ["_law_string", "_law_kind", "_law_places"] []) (gG : mg "_law_gate" = some (.ref fG))
    (FM : Fun K "_law_product" "_law_product" sProd fM dM) (bM : Binds K dM ["_law_one", "_law_two"] []) (gM : mg "_law_product" = some (.ref fM)) (FO : Fun K "_law_ones" "_law_ones" sOnes fO dO) (bO : Binds K dO ["_law_number"] []) (gO : mg "_law_ones" = some (.ref fO)) (B : Bl mg) :
    FnOk P w K mg base CX0 (k + 3) f fd ["_law_pen_here", "_law_size", "_law_rank", "_law_gauged"] (spCode K) := by
  have GD : FnOk P w K mg base CX0 (k + 1) fD dD ["_law_pen_here", "_law_many"] spDraw := ok_draw FD B.int B.len
  have GP : FnOk P w K mg base CX0 (k + 2) fP dP ["_law_pen_here", "_law_some"] (spPick K) := ok_pick FP FD bD gD B.int B.len
  have GS : FnOk P w K mg base CX0 (k + 2) fS dS ["_law_pen_here", "_law_some"] (spShuf K) := ok_shuf FS FD bD gD B
  have GT : FnOk P w K mg base CX0 (k + 1) fT dT ["_law_text_here"] spOfT := ok_oft FT B
  have GG : FnOk P w K mg base CX0 (k + 1) fG dG ["_law_string", "_law_kind", "_law_places"] (spGate K) := ok_gate FG B
  have GM : FnOk P w K mg base CX0 (k + 2) fM dM ["_law_one", "_law_two"] spProd := ok_prod FM FO bO gO B
  refine F.ok scCode (fun vs H Q E h => ?_) (fun cdv A outer s H vs Q E hr h => ?_)
  · obtain ⟨p, c, n, size, rank, rfl, _⟩ := h
    rfl
  · obtain ⟨p, c, n, size, rank, rfl, hP, hn, z1, z25, hrk, q⟩ := h
    have r2 : Room (k + 2) _ := hr
    have r1 : Room (k + 1) _ := hr.mono (by omega)
    refine ⟨_, (C8.pss_cut (ps_setLc (i := 4) (own := [("_law_k", 16)]) (g := gName 16) (by rfl) scCode.nd rfl rfl (sw_true rfl rfl rfl (by decide +kernel)) (pi_range1 (by rfl) B.range (pa_cons (pv 2) pa_nil)) (blkOk_by (own := [("_law_k", 16)]) (N := ["_law_pen_here", "_law_size", "_law_rank", "_law_gauged", "_law_marks", "_law_pairs", "_law_gates", "_law_lap", "_law_string", "_law_x", "_law_z", "_law_rows", "_law_other", "_law_gauge", "_law_kind", "_law_places", "_law_k"]) (sc := defScope sCode) (by decide +kernel)) (fun _ _ _ _ _ => pg_name (i := 16) scCode.nd rfl (Or.inl rfl)) (fun _ _ _ _ _ => pts_nil) (fun _ _ _ _ _ => (pe_call GT r1 (by rfl) gT FT.kp bT .nil pass0 (pa_cons (pe_op op_add_str (pe_op op_mul_sign0 pe_str (pv 16)) pe_str) pa_nil))))
      (C8.pss_cut (ps_setLc (i := 5) (own := [("_law_k", 16)]) (g := gName 16) (by rfl) scCode.nd rfl rfl (sw_true rfl rfl rfl (by decide +kernel)) (pi_range2 (by rfl) B.range (pa_cons (pv 2) (pa_cons (pv 1) pa_nil))) (blkOk_by (own := [("_law_k", 16)]) (N := ["_law_pen_here", "_law_size", "_law_rank", "_law_gauged", "_law_marks", "_law_pairs", "_law_gates", "_law_lap", "_law_string", "_law_x", "_law_z", "_law_rows", "_law_other", "_law_gauge", "_law_kind", "_law_places", "_law_k"]) (sc := defScope sCode) (by decide +kernel)) (fun _ _ _ _ _ => pg_name (i := 16) scCode.nd rfl (Or.inl rfl)) (fun _ _ _ _ _ => pts_nil) (fun _ _ _ _ _ => (pe_tup (pa_cons (pe_call GT r1 (by rfl) gT FT.kp bT .nil pass0 (pa_cons (pe_op op_add_str (pe_op op_mul_sign0 pe_str (pv 16)) pe_str) pa_nil)) (pa_cons (pe_call GT r1 (by rfl) gT FT.kp bT .nil pass0 (pa_cons (pe_op op_add_str (pe_op op_mul_sign0 pe_str (pv 16)) pe_str) pa_nil)) pa_nil)))))
      (C8.pss_cut (ps_set (i := 6) scCode.nd rfl (.inl rfl) (pe_lst pa_nil))
      (C8.pss_cut (ps_for PassesOwn.never rfl (pi_range1 (by rfl) B.range (pa_cons (pe_op op_add pe_int (pe_call GD r1 (by rfl) gD FD.kp bD .nil pass0 (pa_cons (pv 0) (pa_cons (pe_op op_mul pe_int (pv 1)) pa_nil)))) pa_nil)) (pg_name (i := 7) scCode.nd rfl (.inl rfl)) (C8.pss_cut (ps_set (i := 14) scCode.nd rfl (.inr rfl) (pe_call GP r2 (by rfl) gP FP.kp bP .nil pass0 (pa_cons (pv 0) (pa_cons (pe_lst (pa_cons pe_str (pa_cons pe_str (pa_cons pe_str (pa_cons pe_str (pa_cons pe_str (pa_cons pe_str (pa_cons pe_str (pa_cons pe_str pa_nil))))))))) pa_nil)))) (C8.pss_cut (ps_set (i := 15) scCode.nd rfl (.inr rfl) (pe_slice sl_list (pe_call GS r2 (by rfl) gS FS.kp bS .nil pass0 (pa_cons (pv 0) (pa_cons (pe_listRg rfl (by rfl) B.list (prg_1 (by rfl) B.range (pv 1))) pa_nil))) po_none (po_some (pe_ifExp (pt_cmpR op_in_seq (pv 14) (pe_lst (pa_cons pe_str (pa_cons pe_str (pa_cons pe_str pa_nil)))) (by with_unfolding_all rfl)) pe_int pe_int)))) (pss_one (ps_if (PW.pt (pw_or (pt_cmpR op_gt (pe_callB call_len_seq (by rfl) B.len PySem.boot_len (pa_cons (pv 15) pa_nil)) pe_int (nomark _)) (pw_or1 (pt_cmpR op_notIn_seq (pv 14) (pe_lst (pa_cons pe_str (pa_cons pe_str (pa_cons pe_str pa_nil)))) (by with_unfolding_all rfl))))) (pss_one (ps_expr (pe_bm PySem.F.plainAttrs_list PySem.F.slot_list_append PySem.F.type_list_append mt_append (pv 6) (pa_cons (pe_tup (pa_cons (pv 14) (pa_cons (pv 15) pa_nil))) pa_nil)))) pss_nil)))))
      (C8.pss_cut (ps_for PassesOwn.never rfl (pi_list (pv 6)) (pg_tup rfl (pgs_cons (pg_name (i := 14) scCode.nd rfl (.inr rfl)) (pgs_cons (pg_name (i := 15) scCode.nd rfl (.inr rfl)) pgs_nil))) (C8.pss_cut (ps_setLc (i := 4) (own := [("_law_string", 8)]) (g := gName 8) (by rfl) scCode.nd rfl rfl (sw_true rfl rfl rfl (by decide +kernel)) (pi_list (pv 4)) (blkOk_by (own := [("_law_string", 8)]) (N := ["_law_pen_here", "_law_size", "_law_rank", "_law_gauged", "_law_marks", "_law_pairs", "_law_gates", "_law_lap", "_law_string", "_law_x", "_law_z", "_law_rows", "_law_other", "_law_gauge", "_law_kind", "_law_places", "_law_k"]) (sc := defScope sCode) (by decide +kernel)) (fun _ _ _ _ _ => pg_name (i := 8) scCode.nd rfl (Or.inl rfl)) (fun _ _ _ _ _ => pts_nil) (fun _ _ _ _ _ => (pe_call GG r1 (by rfl) gG FG.kp bG .nil pass0 (pa_cons (pv 8) (pa_cons (pv 14) (pa_cons (pv 15) pa_nil)))))) (pss_one (ps_setLc (i := 5) (own := [("_law_x", 9), ("_law_z", 10)]) (g := gTup K 2 (gCons (gName 9) (gCons (gName 10) gNil))) (by rfl) scCode.nd rfl rfl (sw_true rfl rfl rfl (by decide +kernel)) (pi_list (pv 5)) (blkOk_by (own := [("_law_x", 9), ("_law_z", 10)]) (N := ["_law_pen_here", "_law_size", "_law_rank", "_law_gauged", "_law_marks", "_law_pairs", "_law_gates", "_law_lap", "_law_string", "_law_x", "_law_z", "_law_rows", "_law_other", "_law_gauge", "_law_kind", "_law_places", "_law_k"]) (sc := defScope sCode) (by decide +kernel)) (fun _ _ _ _ _ => pg_tup rfl (pgs_cons (pg_name (i := 9) scCode.nd rfl (Or.inl rfl)) (pgs_cons (pg_name (i := 10) scCode.nd rfl (Or.inl rfl)) pgs_nil))) (fun _ _ _ _ _ => pts_nil) (fun _ _ _ _ _ => (pe_tup (pa_cons (pe_call GG r1 (by rfl) gG FG.kp bG .nil pass0 (pa_cons (pv 9) (pa_cons (pv 14) (pa_cons (pv 15) pa_nil)))) (pa_cons (pe_call GG r1 (by rfl) gG FG.kp bG .nil pass0 (pa_cons (pv 10) (pa_cons (pv 14) (pa_cons (pv 15) pa_nil)))) pa_nil))))))))
      (C8.pss_cut (ps_set (i := 11) scCode.nd rfl (.inl rfl) (pe_lst pa_nil))
      (C8.pss_cut (ps_for PassesOwn.never rfl (pi_list (pv 4)) (pg_name (i := 8) scCode.nd rfl (.inl rfl)) (C8.pss_cut (ps_for PassesOwn.never rfl (pi_list (pe_slice sl_list (pe_call GS r2 (by rfl) gS FS.kp bS .nil pass0 (pa_cons (pv 0) (pa_cons (pv 11) pa_nil))) po_none (po_some (pe_call GD r1 (by rfl) gD FD.kp bD .nil pass0 (pa_cons (pv 0) (pa_cons pe_int pa_nil)))))) (pg_name (i := 12) scCode.nd rfl (.inl rfl)) (pss_one (ps_set (i := 8) scCode.nd rfl (.inl rfl) (pe_call GM r2 (by rfl) gM FM.kp bM .nil pass0 (pa_cons (pv 8) (pa_cons (pv 12) pa_nil)))))) (pss_one (ps_expr (pe_bm PySem.F.plainAttrs_list PySem.F.slot_list_append PySem.F.type_list_append mt_append (pv 11) (pa_cons (pe_tup (pa_cons (pe_ix ix_tup (pv 8) pe_int (fun _ _ => rfl)) (pa_cons (pe_ix ix_tup (pv 8) pe_int (fun _ _ => rfl)) (pa_cons (pe_call GD r1 (by rfl) gD FD.kp bD .nil pass0 (pa_cons (pv 0) (pa_cons pe_int pa_nil))) pa_nil)))) pa_nil))))))
      (C8.pss_cut (ps_set (i := 13) scCode.nd rfl (.inl rfl) (pe_lst pa_nil))
      (C8.pss_cut (ps_for PassesOwn.never rfl (pi_list (pe_slice sl_list (pv 5) po_none (po_some (pv 3)))) (pg_tup rfl (pgs_cons (pg_name (i := 9) scCode.nd rfl (.inl rfl)) (pgs_cons (pg_name (i := 10) scCode.nd rfl (.inl rfl)) pgs_nil))) (pss_one (ps_set (i := 13) scCode.nd rfl (.inl rfl) (pe_op op_cat (pv 13) (pe_lst (pa_cons (pv 9) (pa_cons (pv 10) pa_nil)))))))
      (pss_one (ps_ret (pe_disp (pps_cons pe_str (pv 1) (pps_cons pe_str (pe_call GS r2 (by rfl) gS FS.kp bS .nil pass0 (pa_cons (pv 0) (pa_cons (pv 11) pa_nil))) (pps_cons pe_str (pv 13) (pps_cons pe_str (pe_slice sl_list (pv 5) (po_some (pv 3)) po_none) pps_nil)))) (by rfl) (by rfl) (fun z => by cases z) (by decide))))))))))))), ?_⟩
    obtain ⟨pp, pc0⟩ := hP.some
    refine ⟨fun σ' H' => ∃ (m : Addr) (R : RLs), σ' = [some (.ref p), some (.int (size : Nat)), some (.int (rank : Nat)), some (.int 0), some (.ref m), none, none, none, none, none, none, none, none, none, none, none, none] ∧ Same H H' ∧ H m = none ∧ H' m = some (.lst (refR R)) ∧ RsAt size H' R ∧ R.length = rank, ?_, ?_⟩
    · refine ⟨_, rfl, _, rfl, by omega, by omega, fun D nD => ?_⟩
      rw [Int.toNat_natCast]
      refine lc_range (lo := 0) (n := rank) (Pv := fun i Hc => Same H Hc ∧ ∃ R : RLs, Hc D = some (.lst (refR R)) ∧ RsAt size Hc R ∧ R.length = i) ⟨same_new nD, [], upd_same, fun r hr => (by cases hr), rfl⟩ ?_ ?_
      · rintro i Hc hi ⟨sc, R, eD, hR, lR⟩
        refine ⟨rfl, _, rfl, 73, i, by rw [e_I], by show V.int (0 + (i : Nat)) = _; rw [Int.zero_add], by omega, _, _, rfl, rfl, LK_small i (by omega) _ (by decide +kernel), LK i 90, by rw [e_Zc, LK_txt]; rfl, LK_lts i (isL_iff.mpr (by omega)), by rw [LK_len]; omega, fun H' t s' nt et => ?_⟩
        have eD' := s' _ _ eD
        refine ⟨refR R, eD', ?_, same_put0 (sc.trans s') nD, R ++ [(t, (bv lx (LK i 90), bv lz (LK i 90), 0))], ?_, RsAt.put eD' fun r hr' => ?_, ?_⟩
        · rw [refR_len]
          exact Nat.lt_of_le_of_lt (by omega : _ ≤ 100) (by decide)
        · rw [upd_same]
          unfold refR
          rw [List.map_append]
          rfl
        · rcases List.mem_append.mp hr' with k' | k'
          · exact hR.same s' r k'
          · rw [List.mem_singleton.mp k']
            exact ⟨et, oft_fit (by rw [LK_len]; omega)⟩
        · rw [List.length_append, List.length_singleton, lR]
      · rintro Hc ⟨sc, R, eD, hR, lR⟩
        exact ⟨D, R, rfl, sc, nD, eD, hR, lR⟩
    rintro _ H1 ⟨m, R, rfl, s1, nm, em, hR, lR⟩
    refine ⟨fun σ' H' => ∃ (q : Addr) (S : PrLs), σ' = [some (.ref p), some (.int (size : Nat)), some (.int (rank : Nat)), some (.int 0), some (.ref m), some (.ref q), none, none, none, none, none, none, none, none, none, none, none] ∧ Same H1 H' ∧ H1 q = none ∧ H' q = some (.lst (refQ S)) ∧ QsAt size H' S ∧ S.length ≤ 25, ?_, ?_⟩
    · refine ⟨_, rfl, _, rfl, _, _, rfl, ⟨by omega, by omega, by omega, by omega⟩, fun D nD => ?_⟩
      refine lc_range (lo := (rank : Int)) (n := ((size : Int) - (rank : Int)).toNat) (Pv := fun i Hc => Same H1 Hc ∧ ∃ S : PrLs, Hc D = some (.lst (refQ S)) ∧ QsAt size Hc S ∧ S.length = i) ⟨same_new nD, [], upd_same, fun r hr => (by cases hr), rfl⟩ ?_ ?_
      · rintro i Hc hi ⟨sc, S, eD, hS, lS⟩
        have ei : V.int ((rank : Int) + (i : Nat)) = V.int ((rank + i : Nat) : Int) := by push_cast; rfl
        refine ⟨rfl, _, rfl, 73, rank + i, by rw [e_I], ei, by omega, _, _, rfl, rfl, LK_small (rank + i) (by omega) _ (by decide +kernel), LK (rank + i) 88, by rw [e_Xc, LK_txt]; rfl, LK_lts _ (isL_iff.mpr (by omega)), by rw [LK_len]; omega, fun H2 t2 s2 n2 e2 => ?_⟩
        refine ⟨_, rfl, 73, rank + i, by rw [e_I], ei, by omega, _, _, rfl, rfl, LK_small (rank + i) (by omega) _ (by decide +kernel), LK (rank + i) 90, by rw [e_Zc, LK_txt]; rfl, LK_lts _ (isL_iff.mpr (by omega)), by rw [LK_len]; omega, fun H3 t3 s3 n3 e3 => ?_⟩
        refine ⟨by show 2 ≤ sizeLine; decide, fun r nr => ?_⟩
        have n4 : Same H3 (upd H3 r (.tup [.ref t2, .ref t3])) := same_new nr
        have sr := (s2.trans s3).trans n4
        have eD' := sr _ _ eD
        have f : Fit size (bv lx (LK (rank + i) 88), bv lz (LK (rank + i) 88), 0) := oft_fit (by rw [LK_len]; omega)
        have g : Fit size (bv lx (LK (rank + i) 90), bv lz (LK (rank + i) 90), 0) := oft_fit (by rw [LK_len]; omega)
        refine ⟨refQ S, eD', ?_, same_put0 (sc.trans sr) nD, S ++ [(r, (t2, (bv lx (LK (rank + i) 88), bv lz (LK (rank + i) 88), 0)), (t3, (bv lx (LK (rank + i) 90), bv lz (LK (rank + i) 90), 0)))], ?_, QsAt.put eD' fun r' hr' => ?_, ?_⟩
        · rw [refQ_len]
          exact Nat.lt_of_le_of_lt (by omega : _ ≤ 100) (by decide)
        · rw [upd_same]
          unfold refQ
          rw [List.map_append]
          rfl
        · rcases List.mem_append.mp hr' with k' | k'
          · exact hS.same sr r' k'
          · rw [List.mem_singleton.mp k']
            exact ⟨upd_same, n4 _ _ (s3 _ _ e2), f, n4 _ _ e3, g⟩
        · rw [List.length_append, List.length_singleton, lS]
      · rintro Hc ⟨sc, S, eD, hS, lS⟩
        exact ⟨D, S, rfl, sc, nD, eD, hS, by omega⟩
    rintro _ H2 ⟨qa, S, rfl, s2, nq, eq, hS, lS⟩
    have em2 := s2 _ _ em
    have hR2 := hR.same s2
    have s12 := s1.trans s2
    refine ⟨fun σ' H' => ∃ (g : Addr), σ' = [some (.ref p), some (.int (size : Nat)), some (.int (rank : Nat)), some (.int 0), some (.ref m), some (.ref qa), some (.ref g), none, none, none, none, none, none, none, none, none, none] ∧ Same H2 H' ∧ H2 g = none ∧ H' g = some (.lst []), ⟨by show 0 ≤ sizeLine; decide, fun g ng => ⟨g, rfl, same_new ng, ng, upd_same⟩⟩, ?_⟩
    rintro _ H3 ⟨g, rfl, s3, ng, eg⟩
    have s13 := s12.trans s3
    have em3 := s3 _ _ em2
    have hR3 := hR2.same s3
    have eq3 := s3 _ _ eq
    have hS3 := hS.same s3
    have P3 : PenAt H3 p c n := hP.ext s13
    have ng1 : H g = none := off_same s12 ng
    refine ⟨fun σ' H' => ∃ (v7 v14 v15 : Option V) (G : GtLs) (n' : Nat), σ' = [some (.ref p), some (.int (size : Nat)), some (.int (rank : Nat)), some (.int 0), some (.ref m), some (.ref qa), some (.ref g), v7, none, none, none, none, none, none, v14, v15, none] ∧ KB p H H' ∧ PenAt H' p c n' ∧ n' ≤ n + 4000 ∧ H' g = some (.lst (refG G)) ∧ GtAt size g H' G ∧ H' m = some (.lst (refR R)) ∧ RsAt size H' R ∧ H' qa = some (.lst (refQ S)) ∧ QsAt size H' S ∧ G.length ≤ 200, ?_, ?_⟩
    · have sz5 : (5 : Int) * (size : Int) = ((5 * size : Nat) : Int) := by push_cast; rfl
      refine ⟨_, rfl, _, rfl, _, _, rfl, rfl, .inl ⟨by decide, by decide⟩, p, c, n, 5 * (size : Int), rfl, P3, by omega, by omega, ?_, fun r0 H4 hr0 hr1 hP4 k4 => ?_⟩
      · have : (5 * (size : Int)).natAbs ≤ 125 := by omega
        exact Nat.lt_of_le_of_lt this (by decide)
      have kb4 : KB p H H4 := (KB.of s13).trans (KB.eq k4)
      have kk : KB p H3 H4 := KB.eq k4
      obtain ⟨j, hj⟩ : ∃ j : Nat, 2 + r0 = (j : Int) := ⟨(2 + r0).toNat, by omega⟩
      have hj' : j ≤ 126 := by omega
      refine ⟨_, _, rfl, rfl, 2 + r0, rfl, by omega, by omega, ?_⟩
      rw [hj, Int.toNat_natCast]
      refine for_range (lo := 0) (n := j) (fun i σ' H' => ∃ (v7 v14 v15 : Option V) (G : GtLs), σ' = [some (.ref p), some (.int (size : Nat)), some (.int (rank : Nat)), some (.int 0), some (.ref m), some (.ref qa), some (.ref g), v7, none, none, none, none, none, none, v14, v15, none] ∧ KB p H H' ∧ PenAt H' p c (n + 1 + (size + 1) * i) ∧ H' g = some (.lst (refG G)) ∧ GtAt size g H' G ∧ H' m = some (.lst (refR R)) ∧ RsAt size H' R ∧ H' qa = some (.lst (refQ S)) ∧ QsAt size H' S ∧ G.length ≤ i)
        ⟨none, none, none, [], rfl, kb4, hP4, kb_lst P3 kk eg, (fun _ h => by cases h), kb_lst P3 kk em3, kb_rs P3 kk hR3, kb_lst P3 kk eq3, kb_qs P3 kk hS3, Nat.le_refl _⟩ ?_ ?_
      rotate_left
      · rintro _ H6 ⟨v7, v14, v15, G, rfl, kb6, P6, eg6, hG6, em6, hR6, eq6, hS6, lG⟩
        have : (size + 1) * j ≤ 26 * 126 := Nat.mul_le_mul (by omega) hj'
        exact ⟨v7, v14, v15, G, _, rfl, kb6, P6, by omega, eg6, hG6, em6, hR6, eq6, hS6, by omega⟩
      rintro i _ H6 hi ⟨v7, v14, v15, G, rfl, kb6, P6, eg6, hG6, em6, hR6, eq6, hS6, lG⟩
      have hsi : (size + 1) * i ≤ 26 * 126 := Nat.mul_le_mul (by omega) (by omega)
      refine ⟨fun σ' H' => ∃ kd : Str, σ' = [some (.ref p), some (.int (size : Nat)), some (.int (rank : Nat)), some (.int 0), some (.ref m), some (.ref qa), some (.ref g), some (.int (0 + (i : Nat))), none, none, none, none, none, none, some (.str kd), v15, none] ∧ KB p H6 H' ∧ PenAt H' p c (n + 1 + (size + 1) * i + 1) ∧ (G1 kd ∨ G2 kd), ?_, ?_⟩
      · refine ⟨_, rfl, by show 8 ≤ sizeLine; decide, fun r nr => ⟨p, c, r, _, _, rfl, P6.ext (same_new nr), by omega, .inl (SqL.of upd_same), by simp, by show 8 ≤ 1000; decide, fun j v H7 hj hP7 k7 => ?_⟩⟩
        have kb : KB p H6 H7 := (KB.of (same_new nr)).trans (KB.eq k7)
        have := List.mem_of_getElem? hj
        simp only [List.mem_cons, List.mem_nil_iff, or_false] at this
        rcases this with rfl | rfl | rfl | rfl | rfl | rfl | rfl | rfl
        · exact ⟨_, rfl, kb, hP7, .inl (.inl rfl)⟩
        · exact ⟨_, rfl, kb, hP7, .inl (.inr (.inl rfl))⟩
        · exact ⟨_, rfl, kb, hP7, .inr (.inl rfl)⟩
        · exact ⟨_, rfl, kb, hP7, .inr (.inl rfl)⟩
        · exact ⟨_, rfl, kb, hP7, .inr (.inr (.inl rfl))⟩
        · exact ⟨_, rfl, kb, hP7, .inr (.inr (.inr rfl))⟩
        · exact ⟨_, rfl, kb, hP7, .inl (.inr (.inr (.inl rfl)))⟩
        · exact ⟨_, rfl, kb, hP7, .inl (.inr (.inr (.inr rfl)))⟩
      rintro _ H7 ⟨kd, rfl, kb7, P7, hkd⟩
      have eg7 := kb_lst P6 kb7 eg6
      have hG7 := kb_gt P6 kb7 hG6
      have in2 : inV (V.str kd) [V.str "cx", V.str "cz", V.str "swap"] = decide (G2 kd) := by
        rcases hkd with (rfl | rfl | rfl | rfl) | (rfl | rfl | rfl)
        · rw [decide_eq_false (by unfold G2; decide +kernel)]; decide +kernel
        · rw [decide_eq_false (by unfold G2; decide +kernel)]; decide +kernel
        · rw [decide_eq_false (by unfold G2; decide +kernel)]; decide +kernel
        · rw [decide_eq_false (by unfold G2; decide +kernel)]; decide +kernel
        · rw [decide_eq_true (by unfold G2; decide +kernel)]; decide +kernel
        · rw [decide_eq_true (by unfold G2; decide +kernel)]; decide +kernel
        · rw [decide_eq_true (by unfold G2; decide +kernel)]; decide +kernel
      refine ⟨fun σ' H' => ∃ (pl : Addr) (ps : List Nat), σ' = [some (.ref p), some (.int (size : Nat)), some (.int (rank : Nat)), some (.int 0), some (.ref m), some (.ref qa), some (.ref g), some (.int (0 + (i : Nat))), none, none, none, none, none, none, some (.str kd), some (.ref pl), none] ∧ KB p H7 H' ∧ PenAt H' p c (n + 1 + (size + 1) * (i + 1)) ∧ H' pl = some (.lst (natV ps)) ∧ pl ≠ g ∧ (∀ a ∈ ps, a < size) ∧ 1 ≤ ps.length ∧ ps.length ≤ 2, ?_, ?_⟩
      · refine ⟨_, rfl, _, rfl, _, rfl, ?_, fun q0 nq0 => ?_⟩
        · exact ⟨by decide, by decide, by omega, by omega, by omega⟩
        have eV : rgV 0 (size : Int) = natV (List.range size) := by
          unfold rgV natV
          rw [show ((size : Int) - 0).toNat = size by omega]
          refine List.map_congr_left fun j _ => ?_
          show V.int (0 + (j : Int)) = _
          rw [Int.zero_add]
        rw [eV]
        refine ⟨p, c, q0, _, _, rfl, P7.ext (same_new nq0), by omega, SqL.of upd_same, by rw [natV_len, List.length_range]; omega, fun H8 r ys hl hm hP8 k8 nr er => ?_⟩
        rw [natV_len, List.length_range] at hl hP8
        have kb8 : KB p H7 H8 := (KB.of (same_new nq0)).trans k8
        have nr7 : H7 r = none := off_same (same_new nq0) nr
        obtain ⟨us, rfl⟩ : ∃ us : List Nat, ys = natV us := by
          refine ⟨ys.map fun v => match v with | .int i => i.toNat | _ => 0, ?_⟩
          unfold natV
          rw [List.map_map]
          refine (List.map_id ys).symm.trans (List.map_congr_left fun y hy => ?_)
          obtain ⟨j, _, rfl⟩ := List.mem_map.mp (hm y hy)
          rfl
        have lus : us.length = size := by rw [← hl, natV_len]
        have hus : ∀ a ∈ us, a < size := fun a ha => by
          have := hm (.int (a : Nat)) (List.mem_map.mpr ⟨a, ha, rfl⟩)
          obtain ⟨j, hj, e⟩ := List.mem_map.mp this
          have := V.int.inj e
          have := List.mem_range.mp hj
          omega
        have ePen : n + 1 + (size + 1) * (i + 1) = n + 1 + (size + 1) * i + 1 + size := by rw [Nat.mul_succ]; omega
        have take2 : ∀ (t : Nat) (H9 : Hp) (r2 : Addr), 1 ≤ t → t ≤ 2 → Same H8 H9 → H9 r2 = none → KB p H7 (upd H9 r2 (.lst (natV (us.take t)))) ∧ PenAt (upd H9 r2 (.lst (natV (us.take t)))) p c (n + 1 + (size + 1) * (i + 1)) ∧ r2 ≠ g ∧ (∀ a ∈ us.take t, a < size) ∧ 1 ≤ (us.take t).length ∧ (us.take t).length ≤ 2 := by
          intro t H9 r2 t1 t2 s9 nr2
          refine ⟨(kb8.sm s9).sm (same_new nr2), ?_, ?_, fun a ha => hus a (List.mem_of_mem_take ha), by rw [List.length_take]; omega, by rw [List.length_take]; omega⟩
          · rw [ePen]
            exact (hP8.ext s9).ext (same_new nr2)
          · exact fun z => by
              have e := s9 _ _ (kb_lst P7 kb8 eg7)
              rw [z, e] at nr2
              cases nr2
        have cut : ∀ t : Nat, cutV (natV us) none (some (t : Int)) = natV (us.take t) := fun t => by
          rw [cutV_to]
          unfold natV
          rw [List.map_take]
        by_cases g2 : G2 kd
        · refine ⟨_, rfl, by show 3 ≤ sizeLine; decide, fun l nl => ⟨l, _, rfl, .inl (SqL.of upd_same), rfl, rfl, true, (by show V.bl (inV (V.str kd) [V.str "cx", V.str "cz", V.str "swap"]) = _; rw [in2, decide_eq_true g2]), iteT ⟨2, rfl, r, _, rfl, SqL.of ((same_new nl) _ _ er), fun r2 nr2 => ?_⟩⟩⟩
          obtain ⟨a1, a2, a3, a4, a5, a6⟩ := take2 2 _ r2 (by omega) (by omega) (same_new nl) nr2
          rw [show (some (2 : Int)) = some ((2 : Nat) : Int) from rfl, cut]
          exact ⟨r2, us.take 2, rfl, a1, a2, upd_same, a3, a4, a5, a6⟩
        · refine ⟨_, rfl, by show 3 ≤ sizeLine; decide, fun l nl => ⟨l, _, rfl, .inl (SqL.of upd_same), rfl, rfl, false, (by show V.bl (inV (V.str kd) [V.str "cx", V.str "cz", V.str "swap"]) = _; rw [in2, decide_eq_false g2]), iteF ⟨1, rfl, r, _, rfl, SqL.of ((same_new nl) _ _ er), fun r2 nr2 => ?_⟩⟩⟩
          obtain ⟨a1, a2, a3, a4, a5, a6⟩ := take2 1 _ r2 (by omega) (by omega) (same_new nl) nr2
          rw [show (some (1 : Int)) = some ((1 : Nat) : Int) from rfl, cut]
          exact ⟨r2, us.take 1, rfl, a1, a2, upd_same, a3, a4, a5, a6⟩
      rintro _ H8 ⟨pl, ps, rfl, kb8, P8, epl, plg, hps, lp1, lp2⟩
      have kb68 := kb7.trans kb8
      have eg8 := kb_lst P6 kb68 eg6
      have hG8 := kb_gt P6 kb68 hG6
      have em8 := kb_lst P6 kb68 em6
      have hR8 := kb_rs P6 kb68 hR6
      have eq8 := kb_lst P6 kb68 eq6
      have hS8 := kb_qs P6 kb68 hS6
      have kbH8 := kb6.trans kb68
      have hpk : ∃ kv, H8 p = some (.dK kv) := let ⟨ns, a, d, f, hp, _⟩ := P8; ⟨_, hp⟩
      have fin : ∀ H9, Same H8 H9 → (G1 kd ∨ (G2 kd ∧ 2 ≤ ps.length)) → ∀ r, H9 r = none → KB p H (upd (upd H9 r (.tup [.str kd, .ref pl])) g (.lst (refG G ++ [.ref r]))) ∧ PenAt (upd (upd H9 r (.tup [.str kd, .ref pl])) g (.lst (refG G ++ [.ref r]))) p c (n + 1 + (size + 1) * (i + 1)) ∧ GtAt size g (upd (upd H9 r (.tup [.str kd, .ref pl])) g (.lst (refG G ++ [.ref r]))) (G ++ [(r, kd, pl, ps)]) := by
        intro H9 s9 cond r nr
        have n1 : Same H9 (upd H9 r (.tup [.str kd, .ref pl])) := same_new nr
        have s8r := s9.trans n1
        have egr := s8r _ _ eg8
        have gp : g ≠ p := fun z => by
          obtain ⟨kv, hp⟩ := hpk
          rw [z, hp] at eg8
          cases eg8
        have gc : g ≠ c := fun z => by
          obtain ⟨ns, a, d, f, hp, hc, _⟩ := hP
          rw [z] at ng1
          rw [hc] at ng1
          cases ng1
        refine ⟨?_, ?_, ?_⟩
        · exact (kbH8.sm s8r).up ng1
        · exact PenAt.same (P8.ext s8r) (upd_ne gp.symm) (upd_ne gc.symm)
        · intro x hx
          have tupne : ∀ {y : Addr} {xs : List V}, (upd H9 r (.tup [.str kd, .ref pl])) y = some (.tup xs) → y ≠ g := fun {y xs} e z => by
            rw [z, egr] at e
            cases e
          rcases List.mem_append.mp hx with h | h
          · obtain ⟨e1, e2, e3, e4⟩ := hG8 x h
            have e1' := s8r _ _ e1
            exact ⟨by rw [upd_ne (tupne e1')]; exact e1', by rw [upd_ne e3]; exact s8r _ _ e2, e3, e4⟩
          · rw [List.mem_singleton.mp h]
            have e1' : (upd H9 r (.tup [.str kd, .ref pl])) r = some (.tup [.str kd, .ref pl]) := upd_same
            exact ⟨by rw [upd_ne (tupne e1')]; exact e1', by rw [upd_ne plg]; exact s8r _ _ epl, plg, hps, lp1, cond⟩
      have nog : ∀ {H9 : Hp} {r : Addr} {xs : List V} (x : Addr), Same H8 H9 → H9 r = none → H8 x = some (.lst xs) → x ≠ g → (upd (upd H9 r (.tup [.str kd, .ref pl])) g (.lst (refG G ++ [.ref r]))) x = some (.lst xs) := fun {H9 r xs} x s9 nr e ne => by
        rw [upd_ne ne, upd_ne (ne_of_none (s9 _ _ e) nr)]
        exact s9 _ _ e
      have mg : m ≠ g := fun z => by rw [z] at em2; rw [em2] at ng; cases ng
      have qg : qa ≠ g := fun z => by rw [z] at eq; rw [eq] at ng; cases ng
      have lG100 : (refG G).length < sizeLine := by
        rw [refG_len]
        exact Nat.lt_of_le_of_lt (by omega : _ ≤ 200) (by decide)
      refine ⟨_, rfl, pl, _, rfl, .inl (SqL.of epl), _, _, rfl, rfl, _, rfl, ite2 (fun z => ?_) (fun z => ?_)⟩
      · have l2 : 2 ≤ ps.length := by
          have := of_decide_eq_true z
          rw [natV_len] at this
          omega
        have cond : G1 kd ∨ (G2 kd ∧ 2 ≤ ps.length) := hkd.elim .inl fun h => .inr ⟨h, l2⟩
        refine ⟨_, rfl, .inl ⟨rfl, _, SqL.of eg8⟩, _, rfl, _, rfl, by show 2 ≤ sizeLine; decide, fun r nr => ⟨g, _, _, rfl, rfl, (upd_ne (ne_of_none eg8 nr)).trans eg8, lG100, ?_⟩⟩
        obtain ⟨a1, a2, a3⟩ := fin H8 (fun _ _ e => e) cond r nr
        refine ⟨_, _, _, G ++ [(r, kd, pl, ps)], rfl, a1, a2, ?_, a3, nog m (fun _ _ e => e) nr em8 mg, RsAt.put ((same_new nr) _ _ eg8) (hR8.same (same_new nr)), nog qa (fun _ _ e => e) nr eq8 qg, QsAt.put ((same_new nr) _ _ eg8) (hS8.same (same_new nr)), ?_⟩
        · rw [upd_same]
          unfold refG
          rw [List.map_append]
          rfl
        · rw [List.length_append, List.length_singleton]
          omega
      · refine ⟨_, rfl, by show 3 ≤ sizeLine; decide, fun l nl => ⟨l, _, rfl, .inl (SqL.of upd_same), rfl, rfl, !decide (G2 kd), (by show V.bl (!inV (V.str kd) [V.str "cx", V.str "cz", V.str "swap"]) = _; rw [in2]), ?_⟩⟩
        have sl := same_new (o := .lst [V.str "cx", V.str "cz", V.str "swap"]) nl
        generalize upd H8 l (.lst [V.str "cx", V.str "cz", V.str "swap"]) = H9 at sl ⊢
        have eg9 := sl _ _ eg8
        by_cases g2 : G2 kd
        · rw [decide_eq_true g2]
          exact iteF ⟨_, _, _, G, rfl, kbH8.sm sl, P8.ext sl, eg9, (fun x hx => let ⟨e1, e2, e3⟩ := hG8 x hx; ⟨sl _ _ e1, sl _ _ e2, e3⟩), sl _ _ em8, hR8.same sl, sl _ _ eq8, hS8.same sl, by omega⟩
        · rw [decide_eq_false g2]
          have cond : G1 kd ∨ (G2 kd ∧ 2 ≤ ps.length) := hkd.elim .inl fun h => absurd h g2
          refine iteT ⟨_, rfl, .inl ⟨rfl, _, SqL.of eg9⟩, _, rfl, _, rfl, by show 2 ≤ sizeLine; decide, fun r nr => ⟨g, _, _, rfl, rfl, (upd_ne (ne_of_none eg9 nr)).trans eg9, lG100, ?_⟩⟩
          obtain ⟨a1, a2, a3⟩ := fin H9 sl cond r nr
          refine ⟨_, _, _, G ++ [(r, kd, pl, ps)], rfl, a1, a2, ?_, a3, nog m sl nr em8 mg, RsAt.put ((same_new nr) _ _ eg9) ((hR8.same sl).same (same_new nr)), nog qa sl nr eq8 qg, QsAt.put ((same_new nr) _ _ eg9) ((hS8.same sl).same (same_new nr)), ?_⟩
          · rw [upd_same]
            unfold refG
            rw [List.map_append]
            rfl
          · rw [List.length_append, List.length_singleton]
            omega
    rintro _ H4 ⟨v7, v14, v15, G, n4, rfl, k4, P4, ln4, eg4, hG, em4, hR4, eq4, hS4, lG⟩
    refine ⟨fun σ' H' => ∃ (v7 v8 v9 v10 v14 v15 : Option V) (m' qa' : Addr) (R' : RLs) (S' : PrLs), σ' = [some (.ref p), some (.int (size : Nat)), some (.int (rank : Nat)), some (.int 0), some (.ref m'), some (.ref qa'), some (.ref g), v7, v8, v9, v10, none, none, none, v14, v15, none] ∧ Same H4 H' ∧ H' m' = some (.lst (refR R')) ∧ RsAt size H' R' ∧ R'.length = rank ∧ H' qa' = some (.lst (refQ S')) ∧ QsAt size H' S' ∧ S'.length ≤ 25, ?_, ?_⟩
    · refine ⟨_, rfl, g, rfl, ⟨_, SqL.of eg4⟩, for_list (K := K) (a := g) (xs := refG G) (fun i σ' H' => ∃ (v7 v8 v9 v10 v14 v15 : Option V) (m' qa' : Addr) (R' : RLs) (S' : PrLs), σ' = [some (.ref p), some (.int (size : Nat)), some (.int (rank : Nat)), some (.int 0), some (.ref m'), some (.ref qa'), some (.ref g), v7, v8, v9, v10, none, none, none, v14, v15, none] ∧ Same H4 H' ∧ H' m' = some (.lst (refR R')) ∧ RsAt size H' R' ∧ R'.length = rank ∧ H' qa' = some (.lst (refQ S')) ∧ QsAt size H' S' ∧ S'.length ≤ 25)
        ⟨v7, none, none, none, v14, v15, m, qa, R, S, rfl, fun _ _ e => e, em4, hR4, lR, eq4, hS4, lS⟩ (fun i σ' H' _ ⟨_, _, _, _, _, _, _, _, _, _, _, s', _⟩ => SqL.of (s' _ _ eg4)) ?_ ?_⟩
      rotate_left
      · rintro σ' H' h
        exact h
      rintro i y σ' H5 hi ⟨v7, v8, v9, v10, v14, v15, m', qa', R', S', rfl, s5, em5, hR5, lR5, eq5, hS5, lS5⟩
      obtain ⟨gt, hgt, rfl⟩ := refG_at hi
      obtain ⟨e1, e2, e3, e4, e5, e6⟩ := hG gt (List.mem_of_getElem? hgt)
      have e1' := s5 _ _ e1
      have e2' := s5 _ _ e2
      obtain ⟨ga, kd, pl, ps⟩ := gt
      refine ⟨ga, _, rfl, .inl (.inl e1'), rfl, _, _, rfl, _, _, rfl, rfl, ?_⟩
      refine ⟨fun σ' H' => ∃ (v8 v9 v10 : Option V) (m2 : Addr) (R2 : RLs), σ' = [some (.ref p), some (.int (size : Nat)), some (.int (rank : Nat)), some (.int 0), some (.ref m2), some (.ref qa'), some (.ref g), v7, v8, v9, v10, none, none, none, some (.str kd), some (.ref pl), none] ∧ Same H5 H' ∧ H' m2 = some (.lst (refR R2)) ∧ RsAt size H' R2 ∧ R2.length = rank, ?_, ?_⟩
      · refine ⟨_, rfl, m', rfl, ⟨_, SqL.of em5⟩, fun D nD => ?_⟩
        refine lc_list (K := K) (a := m') (xs := refR R') (Pv := fun j Hc => Same H5 Hc ∧ ∃ N : RLs, Hc D = some (.lst (refR N)) ∧ RsAt size Hc N ∧ N.length = j) ⟨same_new nD, [], upd_same, fun r hr => (by cases hr), rfl⟩ (fun j Hc _ ⟨sc, _⟩ => SqL.of (sc _ _ em5)) ?_ ?_
        · rintro j y Hc hj ⟨sc, N, eD, hN, lN⟩
          obtain ⟨r, hr', rfl⟩ := refR_at hj
          obtain ⟨et, ft⟩ := hR5.same sc r (List.mem_of_getElem? hr')
          have jl := (List.getElem?_eq_some_iff.mp hr').1
          refine ⟨rfl, _, rfl, _, rfl, _, rfl, r.1, pl, kd, size, r.2, ps, rfl, et, ft, by omega, SqL.of (sc _ _ e2'), e4, e5, e6, fun H' x u s' nx ex' fx => ?_⟩
          have eD' := s' _ _ eD
          refine ⟨refR N, eD', ?_, same_put0 (sc.trans s') nD, N ++ [(x, u)], ?_, RsAt.put eD' fun r' h' => ?_, ?_⟩
          · rw [refR_len]
            exact Nat.lt_of_le_of_lt (by omega : _ ≤ 100) (by decide)
          · rw [upd_same]
            unfold refR
            rw [List.map_append]
            rfl
          · rcases List.mem_append.mp h' with k' | k'
            · exact hN.same s' r' k'
            · rw [List.mem_singleton.mp k']
              exact ⟨ex', fx⟩
          · rw [List.length_append, List.length_singleton, lN]
        · rintro Hc ⟨sc, N, eD, hN, lN⟩
          rw [refR_len] at lN
          exact ⟨_, _, _, D, N, rfl, sc, eD, hN, lN.trans lR5⟩
      rintro _ H6 ⟨v8, v9, v10, m2, R2, rfl, s6, em6, hR6, lR6⟩
      have eq6 := s6 _ _ eq5
      have hS6 := hS5.same s6
      have e26 := s6 _ _ e2'
      refine ⟨_, rfl, qa', rfl, ⟨_, SqL.of eq6⟩, fun D nD => ?_⟩
      refine lc_list (K := K) (a := qa') (xs := refQ S') (Pv := fun j Hc => Same H6 Hc ∧ ∃ N : PrLs, Hc D = some (.lst (refQ N)) ∧ QsAt size Hc N ∧ N.length = j) ⟨same_new nD, [], upd_same, fun r hr => (by cases hr), rfl⟩ (fun j Hc _ ⟨sc, _⟩ => SqL.of (sc _ _ eq6)) ?_ ?_
      · rintro j y Hc hj ⟨sc, N, eD, hN, lN⟩
        obtain ⟨r, hr', rfl⟩ := refQ_at hj
        obtain ⟨er, et, ft, ez, fz⟩ := hS6.same sc r (List.mem_of_getElem? hr')
        have jl := (List.getElem?_eq_some_iff.mp hr').1
        refine ⟨r.1, _, rfl, .inl (.inl er), rfl, _, _, rfl, _, _, rfl, rfl, rfl, _, rfl, _, rfl, _, rfl, r.2.1.1, pl, kd, size, r.2.1.2, ps, rfl, et, ft, by omega, SqL.of (sc _ _ e26), e4, e5, e6, fun H7 x u s7 nx ex' fx => ?_⟩
        refine ⟨_, rfl, _, rfl, _, rfl, r.2.2.1, pl, kd, size, r.2.2.2, ps, rfl, s7 _ _ ez, fz, by omega, SqL.of (s7 _ _ (sc _ _ e26)), e4, e5, e6, fun H8 x2 u2 s8 nx2 ex2 fx2 => ⟨by show 2 ≤ sizeLine; decide, fun t nt => ?_⟩⟩
        have n9 : Same H8 (upd H8 t (.tup [.ref x, .ref x2])) := same_new nt
        have s79 := (s7.trans s8).trans n9
        have eD' := s79 _ _ eD
        refine ⟨refQ N, eD', ?_, same_put0 (sc.trans s79) nD, N ++ [(t, (x, u), (x2, u2))], ?_, QsAt.put eD' fun r' h' => ?_, ?_⟩
        · rw [refQ_len]
          exact Nat.lt_of_le_of_lt (by omega : _ ≤ 100) (by decide)
        · rw [upd_same]
          unfold refQ
          rw [List.map_append]
          rfl
        · rcases List.mem_append.mp h' with k' | k'
          · exact hN.same s79 r' k'
          · rw [List.mem_singleton.mp k']
            exact ⟨upd_same, n9 _ _ (s8 _ _ ex'), fx, n9 _ _ ex2, fx2⟩
        · rw [List.length_append, List.length_singleton, lN]
      · rintro Hc ⟨sc, N, eD, hN, lN⟩
        rw [refQ_len] at lN
        exact ⟨_, _, _, _, _, _, m2, D, R2, N, rfl, (s5.trans s6).trans sc, sc _ _ em6, hR6.same sc, lR6, eD, hN, by omega⟩
    rintro _ H5 ⟨v7, v8, v9, v10, v14, v15, m', qa', R', S', rfl, s5, em5, hR5, lR5, eq5, hS5, lS5⟩
    have k5 : KB p H H5 := k4.sm s5
    have P5 : PenAt H5 p c n4 := P4.ext s5
    have off_kb : ∀ {H' : Hp} {t : Addr} {k : Nat}, KB p H H' → PenAt H' p c k → H' t = none → H t = none := fun {H' t k} kb P nt => by
      obtain ⟨ns, a, d, f, hp, _⟩ := P
      cases e : H t with
      | none => rfl
      | some o =>
        have : H' t = some o := kb _ _ e (fun z => by rw [z, hp] at nt; cases nt)
        rw [nt] at this
        cases this
    refine ⟨fun σ' H' => ∃ rw' : Addr, σ' = [some (.ref p), some (.int (size : Nat)), some (.int (rank : Nat)), some (.int 0), some (.ref m'), some (.ref qa'), some (.ref g), v7, v8, v9, v10, some (.ref rw'), none, none, v14, v15, none] ∧ H5 rw' = none ∧ H' = upd H5 rw' (.lst []), ⟨by show 0 ≤ sizeLine; decide, fun t nt => ⟨t, rfl, nt, rfl⟩⟩, ?_⟩
    rintro _ H6 ⟨rw', rfl, nrw, eH⟩
    have s6 : Same H5 H6 := eH ▸ same_new nrw
    have erw : H6 rw' = some (.lst []) := eH ▸ upd_same
    have nrwH : H rw' = none := off_kb k5 P5 nrw
    have mrw : m' ≠ rw' := ne_of_none em5 nrw
    have qrw : qa' ≠ rw' := ne_of_none eq5 nrw
    refine ⟨fun σ' H' => ∃ (v8 v12 : Option V) (W : RLs) (n' : Nat), σ' = [some (.ref p), some (.int (size : Nat)), some (.int (rank : Nat)), some (.int 0), some (.ref m'), some (.ref qa'), some (.ref g), v7, v8, v9, v10, some (.ref rw'), v12, none, v14, v15, none] ∧ KB p H H' ∧ PenAt H' p c n' ∧ n' ≤ n4 + 30 * rank ∧ H' m' = some (.lst (refR R')) ∧ RsAt size H' R' ∧ H' rw' = some (.lst (refR W)) ∧ RsAt size H' W ∧ W.length = rank ∧ H' qa' = some (.lst (refQ S')), ?_, ?_⟩
    · refine ⟨_, rfl, m', rfl, ⟨_, SqL.of (s6 _ _ em5)⟩, for_list (K := K) (a := m') (xs := refR R') (fun i σ' H' => ∃ (v8 v12 : Option V) (W : RLs) (n' : Nat), σ' = [some (.ref p), some (.int (size : Nat)), some (.int (rank : Nat)), some (.int 0), some (.ref m'), some (.ref qa'), some (.ref g), v7, v8, v9, v10, some (.ref rw'), v12, none, v14, v15, none] ∧ KB p H H' ∧ PenAt H' p c n' ∧ n' ≤ n4 + 30 * i ∧ H' m' = some (.lst (refR R')) ∧ RsAt size H' R' ∧ H' rw' = some (.lst (refR W)) ∧ RsAt size H' W ∧ W.length = i ∧ H' qa' = some (.lst (refQ S')))
        ⟨v8, none, [], n4, rfl, k5.sm s6, P5.ext s6, by omega, s6 _ _ em5, hR5.same s6, erw, (fun _ h => by cases h), rfl, s6 _ _ eq5⟩ (fun i σ' H' _ ⟨_, _, _, _, _, _, _, _, e, _⟩ => SqL.of e) ?_ ?_⟩
      rotate_left
      · rintro σ' H' ⟨a1, a2, a3, a4, a5, a6, a7, a8, a9, a10, a11, a12, a13, a14⟩
        rw [refR_len, lR5] at a8 a13
        exact ⟨a1, a2, a3, a4, a5, a6, a7, a8, a9, a10, a11, a12, a13, a14⟩
      rintro i y σ' H7 hi ⟨v8, v12, W, n', rfl, k7, P7, ln7, em7, hR7, erw7, hW7, lW7, eq7⟩
      obtain ⟨r, hr', rfl⟩ := refR_at hi
      have ir : i < rank := by rw [← lR5]; exact (List.getElem?_eq_some_iff.mp hr').1
      obtain ⟨et, ft⟩ := hR7 r (List.mem_of_getElem? hr')
      refine ⟨fun σ' H' => ∃ (v12 : Option V) (sa : Addr) (u : T3) (n'' : Nat), σ' = [some (.ref p), some (.int (size : Nat)), some (.int (rank : Nat)), some (.int 0), some (.ref m'), some (.ref qa'), some (.ref g), v7, some (.ref sa), v9, v10, some (.ref rw'), v12, none, v14, v15, none] ∧ KB p H7 H' ∧ PenAt H' p c n'' ∧ n'' ≤ n' + 27 ∧ TrAt H' sa u ∧ Fit size u, ?_, ?_⟩
      · refine ⟨_, rfl, _, rfl, p, c, rw', n', refR W, rfl, P7, by omega, SqL.of erw7, by rw [refR_len]; omega, fun H8 r8 ys hl hm hP8 k8 nr8 er8 => ?_⟩
        rw [refR_len] at hP8
        refine ⟨_, rfl, p, c, _, 2, rfl, hP8, by omega, by decide, by decide, fun r0 H9 hr0 hr1 hP9 k9 => ?_⟩
        have kb9 : KB p H7 H9 := k8.trans (KB.eq k9)
        have er9 : H9 r8 = some (.lst ys) := kb_lst hP8 (KB.eq k9) er8
        obtain ⟨j0, hj0⟩ : ∃ j : Nat, r0 = (j : Int) := ⟨r0.toNat, by omega⟩
        refine ⟨r0, rfl, r8, ys, rfl, SqL.of er9, fun q nq => ⟨q, rfl, ⟨_, SqL.of upd_same⟩, ?_⟩⟩
        rw [hj0, cutV_to]
        have n10 : Same H9 (upd H9 q (.lst (ys.take j0))) := same_new nq
        have e10 : (upd H9 q (.lst (ys.take j0))) q = some (.lst (ys.take j0)) := upd_same
        have hW9 := kb_rs P7 kb9 hW7
        have ft9 := kb_rs P7 kb9 hR7
        obtain ⟨et9, _⟩ := ft9 r (List.mem_of_getElem? hr')
        generalize upd H9 q (.lst (ys.take j0)) = H10 at n10 e10 ⊢
        refine for_list (K := K) (a := q) (xs := ys.take j0) (fun i σ' H' => ∃ (v12 : Option V) (sa : Addr) (u : T3), σ' = [some (.ref p), some (.int (size : Nat)), some (.int (rank : Nat)), some (.int 0), some (.ref m'), some (.ref qa'), some (.ref g), v7, some (.ref sa), v9, v10, some (.ref rw'), v12, none, v14, v15, none] ∧ Same H10 H' ∧ TrAt H' sa u ∧ Fit size u)
          ⟨v12, r.1, r.2, rfl, fun _ _ e => e, n10 _ _ et9, ft⟩ (fun i σ' H' _ ⟨_, _, _, _, s', _⟩ => SqL.of (s' _ _ e10)) ?_ ?_
        · rintro i2 y σ' H11 hi2 ⟨v12, sa, u, rfl, s11, eu, fu⟩
          have ym : y ∈ refR W := hm y (List.mem_of_mem_take (List.mem_of_getElem? hi2))
          obtain ⟨w1, hw1, rfl⟩ := List.mem_map.mp ym
          obtain ⟨ew, fw⟩ := (hW9.same (n10.trans s11)) w1 hw1
          have up60 : ∀ {t : T3}, Fit size t → Fit 60 t := fun h => ⟨Nat.lt_of_lt_of_le h.1 (Nat.pow_le_pow_right (by decide) (by omega)), Nat.lt_of_lt_of_le h.2.1 (Nat.pow_le_pow_right (by decide) (by omega)), h.2.2⟩
          exact ⟨_, rfl, _, rfl, sa, w1.1, u, w1.2, rfl, eu, ew, up60 fu, up60 fw, fun H12 x s12 nx ex' => ⟨_, x, lpr u w1.2, rfl, s11.trans s12, ex', lpr_fit fu fw⟩⟩
        · rintro σ' H11 ⟨v12, sa, u, rfl, s11, eu, fu⟩
          exact ⟨v12, sa, u, _, rfl, (kb9.sm n10).sm s11, (hP9.ext n10).ext s11, by omega, eu, fu⟩
      rintro _ H8 ⟨v12', sa, u, n8, rfl, k8, P8, ln8, eu, fu⟩
      have erw8 := kb_lst P7 k8 erw7
      have sq : ∀ {G : Hp}, TrAt G sa u → SqT K G sa [.int (u.1 : Nat), .int (u.2.1 : Nat), .int (u.2.2 : Nat)] := fun e => .inl (.inl e)
      refine ⟨_, rfl, .inl ⟨rfl, _, SqL.of erw8⟩, _, rfl, sa, _, _, _, rfl, rfl, sq eu, tri0 _ _ _, _, rfl, sa, _, _, _, rfl, rfl, sq eu, tri1 _ _ _, _, rfl, p, c, n8, 2, rfl, P8, by omega, by decide, by decide, fun r0 H9 hr0 hr1 hP9 k9 => ⟨by show 3 ≤ sizeLine; decide, fun x nx => ?_⟩⟩
      have kb9 : KB p H7 H9 := k8.trans (KB.eq k9)
      have n10 : Same H9 (upd H9 x (.tup [.int (u.1 : Nat), .int (u.2.1 : Nat), .int r0])) := same_new nx
      have kb10 := kb9.sm n10
      have erw10 := kb_lst P7 kb10 erw7
      have P10 := hP9.ext n10
      have ex10 : (upd H9 x (.tup [.int (u.1 : Nat), .int (u.2.1 : Nat), .int r0])) x = some (.tup [.int (u.1 : Nat), .int (u.2.1 : Nat), .int r0]) := upd_same
      generalize upd H9 x (.tup [.int (u.1 : Nat), .int (u.2.1 : Nat), .int r0]) = H10 at n10 kb10 erw10 P10 ex10 ⊢
      have rp : rw' ≠ p := fun z => by
        obtain ⟨ns, a, d, f, hp, _⟩ := P10
        rw [z, hp] at erw10
        cases erw10
      have rc : rw' ≠ c := fun z => by
        obtain ⟨ns, a, d, f, hp, hc, _⟩ := hP
        rw [z, hc] at nrwH
        cases nrwH
      refine ⟨rw', _, _, rfl, rfl, erw10, ?_, _, _, W ++ [(x, (u.1, u.2.1, r0.toNat))], n8 + 1, rfl, (k7.trans kb10).up nrwH, P10.same (upd_ne rp.symm) (upd_ne rc.symm), by omega, ?_, RsAt.put erw10 (kb_rs P7 kb10 hR7), ?_, RsAt.put erw10 fun r' h' => ?_, ?_, ?_⟩
      · rw [refR_len]
        exact Nat.lt_of_le_of_lt (by omega : _ ≤ 100) (by decide)
      · rw [upd_ne mrw]
        exact kb_lst P7 kb10 em7
      · rw [upd_same]
        unfold refR
        rw [List.map_append]
        rfl
      · rcases List.mem_append.mp h' with k' | k'
        · exact kb_rs P7 kb10 hW7 r' k'
        · rw [List.mem_singleton.mp k']
          refine ⟨?_, fu.1, fu.2.1, by show r0.toNat < 2; omega⟩
          have : r0 = ((r0.toNat : Nat) : Int) := by omega
          rw [this] at ex10
          exact ex10
      · rw [List.length_append, List.length_singleton, lW7]
      · rw [upd_ne qrw]
        exact kb_lst P7 kb10 eq7
    rintro _ H7 ⟨v8, v12, W, n7, rfl, k7, P7, ln7, em7, hR7, erw7, hW7, lW7, eq7⟩
    refine ⟨fun σ' H' => ∃ ga : Addr, σ' = [some (.ref p), some (.int (size : Nat)), some (.int (rank : Nat)), some (.int 0), some (.ref m'), some (.ref qa'), some (.ref g), v7, v8, v9, v10, some (.ref rw'), v12, some (.ref ga), v14, v15, none] ∧ Same H7 H' ∧ H' ga = some (.lst []), ⟨by show 0 ≤ sizeLine; decide, fun t nt => ⟨t, rfl, same_new nt, upd_same⟩⟩, ?_⟩
    rintro _ H8 ⟨ga, rfl, s8, ega⟩
    refine ⟨fun σ' H' => σ' = [some (.ref p), some (.int (size : Nat)), some (.int (rank : Nat)), some (.int 0), some (.ref m'), some (.ref qa'), some (.ref g), v7, v8, v9, v10, some (.ref rw'), v12, some (.ref ga), v14, v15, none] ∧ Same H8 H', ?_, ?_⟩
    · refine ⟨_, rfl, _, rfl, 0, rfl, qa', _, rfl, SqL.of (s8 _ _ eq7), fun q nq => ⟨q, rfl, ⟨_, SqL.of upd_same⟩, ?_⟩⟩
      have ec : cutV (refQ S') none (some 0) = [] := cutV_to (refQ S') 0
      rw [ec]
      exact for_list (K := K) (a := q) (xs := []) (fun i σ' H' => σ' = [some (.ref p), some (.int (size : Nat)), some (.int (rank : Nat)), some (.int 0), some (.ref m'), some (.ref qa'), some (.ref g), v7, v8, v9, v10, some (.ref rw'), v12, some (.ref ga), v14, v15, none] ∧ Same H8 H' ∧ H' q = some (.lst []))
        ⟨rfl, same_new nq, upd_same⟩ (fun i σ' H' _ ⟨_, _, e⟩ => SqL.of e) (fun i y σ' H' hi _ => by cases hi) (fun σ' H' ⟨e, s', _⟩ => ⟨e, s'⟩)
    rintro _ H9 ⟨rfl, s9⟩
    have s79 := s8.trans s9
    have k9 := k7.sm s79
    have P9 := P7.ext s79
    have erw9 := s79 _ _ erw7
    have hW9 := hW7.same s79
    have eq9 := s79 _ _ eq7
    have ega9 := s9 _ _ ega
    intro d nd
    have hpk : ∃ kv, H9 p = some (.dK kv) := let ⟨ns, a, d, f, hp, _⟩ := P9; ⟨_, hp⟩
    have hck : ∃ o, H9 c = some o := let ⟨ns, a, d, f, hp, hc, _⟩ := P9; ⟨_, hc⟩
    have dp : d ≠ p := fun z => by
      obtain ⟨kv, hp⟩ := hpk
      rw [z, hp] at nd
      cases nd
    have dc : d ≠ c := fun z => by
      obtain ⟨o, hc⟩ := hck
      rw [z, hc] at nd
      cases nd
    have nd0 : H d = none := off_kb k9 P9 nd
    have n1 : Same H9 (upd H9 d (.dK [])) := same_new nd
    refine ⟨_, rfl, _, rfl, _, rfl, p, c, rw', n7, refR W, rfl, P9.ext n1, by omega, SqL.of (n1 _ _ erw9), by rw [refR_len]; omega, fun H10 lr ys hl hm hP10 k10 nlr elr => ?_⟩
    rw [refR_len] at hP10 hl
    have kb10 : KB p H9 H10 := (KB.of n1).trans k10
    have ed10 : H10 d = some (.dK []) := k10 _ _ upd_same dp
    have ega10 := kb_lst P9 kb10 ega9
    have eq10 := kb_lst P9 kb10 eq9
    obtain ⟨R2, rfl, hR2⟩ := pick_rs hm
    refine ⟨_, rfl, _, rfl, _, rfl, 0, rfl, qa', _, rfl, SqL.of eq10, fun lh nlh => ?_⟩
    have n2 := same_new (o := .lst (cutV (refQ S') (some 0) none)) nlh
    have kb11 := kb10.sm n2
    have ed11 := n2 _ _ ed10
    have hW11 := kb_rs P9 kb11 hW9
    have elr11 := n2 _ _ elr
    have P11 := hP10.ext n2
    generalize upd H10 lh (.lst (cutV (refQ S') (some 0) none)) = H11 at n2 kb11 ed11 hW11 elr11 P11 ⊢
    refine ⟨ed11, [((.inr "size" : Key), V.int (size : Nat)), (.inr "rows", .ref lr), (.inr "gauge", .ref ga), (.inr "hidden", .ref lh)], rfl, by show 4 ≤ 15; decide, ?_⟩
    rw [code_kv]
    refine q _ d lr ga lh R2 (n7 + W.length) ((k9.trans kb11).up nd0) (P11.same (upd_ne dp.symm) (upd_ne dc.symm)) (by omega) nd0 upd_same ?_ (fun r hr' => ?_) ?_
    · rw [upd_ne fun z => by rw [z, ed11] at elr11; cases elr11]
      exact elr11
    · obtain ⟨e1, e2⟩ := hW11 r (hR2 r hr')
      refine ⟨?_, e2⟩
      unfold TrAt at *
      rw [upd_ne fun z => by rw [z, ed11] at e1; cases e1]
      exact e1
    · rw [refR_len] at hl
      omega
end
end KQ

namespace KQ
open PySem PySem.Spec PyProof.Rows L2
/-! ### the law's lists of strings -/
theorem scStrs : FnScope ["_law_pen_here", "_law_size", "_law_many", "_law_rows", "_law_lap", "_law_made", "_law_row"] ["_law_pen_here", "_law_size", "_law_many"] (defScope sStrs) := ⟨rfl, rfl, rfl, by decide +kernel, rfl, by decide +kernel, by decide +kernel⟩
theorem bootMin : bootBuiltins "min" = some (.builtin "min") := by decide +kernel
def spStrs : Sp := fun vs H Q _ => ∃ (p c : Addr) (n size many : Nat), vs = [.ref p, .int (size : Nat), .int (many : Nat)] ∧ PenAt H p c n ∧ n + 6000 < 1000000 ∧ 1 ≤ size ∧ size ≤ 25 ∧ 1 ≤ many ∧
  ∀ H' l R n', KB p H H' → PenAt H' p c n' → n' ≤ n + 6000 → H l = none → H' l = some (.lst (refR R)) → RsAt size H' R → 1 ≤ R.length → R.length ≤ 28 → Q (.ref l) H'
section
variable {P : Program} {w : World} {K : PySem.W.Frag} {mg : Str → Option Value} {base : Heap}
theorem ok_strs {f fC fD fP fS fT fG fM fO : Addr} {fd dC dD dP dS dT dG dM dO : FuncData} {k : Nat} (F : Fun K "_law_strings" "_law_strings" sStrs f fd) (FC : Fun K "_law_drawn_code" "_law_drawn_code" sCode fC dC) (bC : Binds K dC ["_law_pen_here", "_law_size", "_law_rank", "_law_gauged"] []) (gC : mg "_law_drawn_code" = some (.ref fC))
    (FD : Fun K "_law_draw" "_law_draw" sDraw fD dD) (bD : Binds K dD ["_law_pen_here", "_law_many"] []) (gD : mg "_law_draw" = some (.ref fD))
    (FP : Fun K "_law_pick" "_law_pick" sPick fP dP) (bP : Binds K dP ["_law_pen_here", "_law_some"] []) (gP : mg "_law_pick" = some (.ref fP)) (FS : Fun K "_law_shuffled" "_law_shuffled" sShuf fS dS) (bS : Binds K dS ["_law_pen_here", "_law_some"] []) (gS : mg "_law_shuffled" = some (.ref fS))
    (FT : Fun K "_law_of_text" "_law_of_text" sOfT fT dT) (bT : Binds K dT ["_law_text_here"] []) (gT : mg "_law_of_text" = some (.ref fT)) (FG : Fun K "_law_gate" "_law_gate" sGate fG dG) (bG : Binds K dG ["_law_string", "_law_kind", "_law_places"] []) (gG : mg "_law_gate" = some (.ref fG))
    (FM : Fun K "_law_product" "_law_product" sProd fM dM) (bM : Binds K dM ["_law_one", "_law_two"] []) (gM : mg "_law_product" = some (.ref fM)) (FO : Fun K "_law_ones" "_law_ones" sOnes fO dO) (bO : Binds K dO ["_law_number"] []) (gO : mg "_law_ones" = some (.ref fO)) (B : Bl mg) :
    FnOk P w K mg base CX0 (k + 4) f fd ["_law_pen_here", "_law_size", "_law_many"] spStrs := by
  have GD : FnOk P w K mg base CX0 (k + 1) fD dD ["_law_pen_here", "_law_many"] spDraw := ok_draw FD B.int B.len
  have GS : FnOk P w K mg base CX0 (k + 2) fS dS ["_law_pen_here", "_law_some"] (spShuf K) := ok_shuf FS FD bD gD B
  have GC : FnOk P w K mg base CX0 (k + 3) fC dC ["_law_pen_here", "_law_size", "_law_rank", "_law_gauged"] (spCode K) := ok_code FC FD bD gD FP bP gP FS bS gS FT bT gT FG bG gG FM bM gM FO bO gO B
  have GM : FnOk P w K mg base CX0 (k + 2) fM dM ["_law_one", "_law_two"] spProd := ok_prod FM FO bO gO B
  refine F.ok scStrs (fun vs H Q E h => ?_) (fun cdv A outer s H vs Q E hr h => ?_)
  · obtain ⟨p, c, n, size, many, rfl, _⟩ := h
    rfl
  · obtain ⟨p, c, n, size, many, rfl, hP, hn, z1, z25, hm1, q⟩ := h
    have r2 : Room (k + 2) _ := hr.mono (by omega)
    have r1 : Room (k + 1) _ := hr.mono (by omega)
    have hu := hu_of hr
    refine ⟨_, C8.pss_cut (ps_set (i := 3) scStrs.nd rfl (.inl rfl) (pe_dget hu (pe_call GC hr (by rfl) gC FC.kp bC .nil pass0 (pa_cons (pv 0) (pa_cons (pv 1) (pa_cons (pe_callB (call_min2 rfl) (by rfl) B.min bootMin (pa_cons (pv 2) (pa_cons (pv 1) pa_nil))) (pa_cons pe_int pa_nil))))) pe_str (fun _ _ => rfl)))
      (C8.pss_cut (ps_for PassesOwn.never rfl (pi_range1 (by rfl) B.range (pa_cons (pe_call GD r1 (by rfl) gD FD.kp bD .nil pass0 (pa_cons (pv 0) (pa_cons pe_int pa_nil))) pa_nil)) (pg_name (i := 4) scStrs.nd rfl (.inl rfl))
        (C8.pss_cut (ps_set (i := 5) scStrs.nd rfl (.inl rfl) (pe_tup (pa_cons pe_int (pa_cons pe_int (pa_cons pe_int pa_nil)))))
        (C8.pss_cut (ps_for PassesOwn.never rfl (pi_list (pv 3)) (pg_name (i := 6) scStrs.nd rfl (.inl rfl))
          (pss_one (ps_if (pt_cmpR op_eq (pe_call GD r1 (by rfl) gD FD.kp bD .nil pass0 (pa_cons (pv 0) (pa_cons pe_int pa_nil))) pe_int (nomark _)) (pss_one (ps_set (i := 5) scStrs.nd rfl (.inl rfl) (pe_call GM r2 (by rfl) gM FM.kp bM .nil pass0 (pa_cons (pv 5) (pa_cons (pv 6) pa_nil))))) pss_nil)))
        (pss_one (ps_set (i := 3) scStrs.nd rfl (.inl rfl) (pe_op op_cat (pv 3) (pe_lst (pa_cons (pv 5) pa_nil))))))))
      (pss_one (ps_ret (pe_call GS r2 (by rfl) gS FS.kp bS .nil pass0 (pa_cons (pv 0) (pa_cons (pv 3) pa_nil)))))), ?_⟩
    have up60 : ∀ {t : T3}, Fit size t → Fit 60 t := fun h => ⟨Nat.lt_of_lt_of_le h.1 (Nat.pow_le_pow_right (by decide) (by omega)), Nat.lt_of_lt_of_le h.2.1 (Nat.pow_le_pow_right (by decide) (by omega)), h.2.2⟩
    have vr : ∀ u v w x : V, valV [((.inr "size" : Key), u), (.inr "rows", v), (.inr "gauge", w), (.inr "hidden", x)] (.inr "rows") = some v := fun u v w x => by
      have h1 : ¬ ("size" : Str) = "rows" := by decide +kernel
      simp [valV, List.find?, h1]
    refine ⟨fun σ' H' => ∃ (l : Addr) (R : RLs) (n' : Nat), σ' = [some (.ref p), some (.int (size : Nat)), some (.int (many : Nat)), some (.ref l), none, none, none] ∧ KB p H H' ∧ PenAt H' p c n' ∧ n' ≤ n + 5000 ∧ H' l = some (.lst (refR R)) ∧ RsAt size H' R ∧ 1 ≤ R.length ∧ R.length ≤ 25, ?_, ?_⟩
    · refine ⟨_, rfl, _, rfl, _, rfl, _, rfl, _, _, rfl, ?_⟩
      refine ⟨p, c, n, size, min many size, ?_, hP, by omega, z1, z25, Nat.min_le_right _ _, fun H' d lr lg lh R n' kb P' ln nd ed elr hR lR => ?_⟩
      · show [V.ref p, V.int (size : Nat), V.int _, V.int 0] = _
        congr 3
        first
          | (simp [Int.natCast_min]; done)
          | (split <;> congr 1 <;> omega)
          | (congr 1; omega)
      refine ⟨d, .ref lr, rfl, ?_, lr, R, n', rfl, kb, P', ln, elr, hR, by omega, by omega⟩
      have := DGet.k (k := (.inr "rows" : Key)) ed
      rw [vr] at this
      exact this
    rintro _ H1 ⟨l, R, n1, rfl, k1, P1, ln1, el, hR, lR1, lR2⟩
    refine ⟨fun σ' H' => ∃ (v4 v5 v6 : Option V) (l : Addr) (R : RLs) (n' : Nat), σ' = [some (.ref p), some (.int (size : Nat)), some (.int (many : Nat)), some (.ref l), v4, v5, v6] ∧ KB p H H' ∧ PenAt H' p c n' ∧ n' ≤ n + 5200 ∧ H' l = some (.lst (refR R)) ∧ RsAt size H' R ∧ 1 ≤ R.length ∧ R.length ≤ 28, ?_, ?_⟩
    · refine ⟨_, rfl, p, c, n1, 4, rfl, P1, by omega, by decide, by decide, fun r0 H2 hr0 hr1 P2 k2 => ?_⟩
      have kb2 : KB p H H2 := k1.trans (KB.eq k2)
      have el2 := kb_lst P1 (KB.eq k2) el
      have hR2 := kb_rs P1 (KB.eq k2) hR
      obtain ⟨j, hj⟩ : ∃ j : Nat, r0 = (j : Int) := ⟨r0.toNat, by omega⟩
      have hj' : j ≤ 3 := by omega
      refine ⟨r0, rfl, by omega, by omega, ?_⟩
      rw [hj, Int.toNat_natCast]
      refine for_range (lo := 0) (n := j) (fun i σ' H' => ∃ (v4 v5 v6 : Option V) (l : Addr) (R : RLs) (n' : Nat), σ' = [some (.ref p), some (.int (size : Nat)), some (.int (many : Nat)), some (.ref l), v4, v5, v6] ∧ KB p H H' ∧ PenAt H' p c n' ∧ n' ≤ n + 5001 + 30 * i ∧ H' l = some (.lst (refR R)) ∧ RsAt size H' R ∧ 1 ≤ R.length ∧ R.length ≤ 25 + i)
        ⟨none, none, none, l, R, _, rfl, kb2, P2, by omega, el2, hR2, lR1, by omega⟩ ?_ ?_
      rotate_left
      · rintro _ H3 ⟨v4, v5, v6, l, R, n', rfl, k3, P3, ln3, el3, hR3, l3, l4⟩
        exact ⟨v4, v5, v6, l, R, n', rfl, k3, P3, by omega, el3, hR3, l3, by omega⟩
      rintro i _ H3 hi ⟨v4, v5, v6, l, R, n3, rfl, k3, P3, ln3, el3, hR3, l3, l4⟩
      refine ⟨fun σ' H' => ∃ ma : Addr, σ' = [some (.ref p), some (.int (size : Nat)), some (.int (many : Nat)), some (.ref l), some (.int (0 + (i : Nat))), some (.ref ma), v6] ∧ Same H3 H' ∧ TrAt H' ma (0, 0, 0), ⟨by show 3 ≤ sizeLine; decide, fun t nt => ⟨t, rfl, same_new nt, upd_same⟩⟩, ?_⟩
      rintro _ H4 ⟨ma, rfl, s4, ema⟩
      have z0 : Fit size (0, 0, 0) := ⟨Nat.two_pow_pos _, Nat.two_pow_pos _, by show 0 < 2; decide⟩
      refine ⟨fun σ' H' => ∃ (v6 : Option V) (ma : Addr) (u : T3) (n' : Nat), σ' = [some (.ref p), some (.int (size : Nat)), some (.int (many : Nat)), some (.ref l), some (.int (0 + (i : Nat))), some (.ref ma), v6] ∧ KB p H3 H' ∧ PenAt H' p c n' ∧ n' ≤ n3 + R.length ∧ TrAt H' ma u ∧ Fit size u, ?_, ?_⟩
      · refine ⟨_, rfl, l, rfl, ⟨_, SqL.of (s4 _ _ el3)⟩, for_list (K := K) (a := l) (xs := refR R) (fun j σ' H' => ∃ (v6 : Option V) (ma : Addr) (u : T3) (n' : Nat), σ' = [some (.ref p), some (.int (size : Nat)), some (.int (many : Nat)), some (.ref l), some (.int (0 + (i : Nat))), some (.ref ma), v6] ∧ KB p H3 H' ∧ PenAt H' p c n' ∧ n' ≤ n3 + j ∧ TrAt H' ma u ∧ Fit size u)
          ⟨v6, ma, (0, 0, 0), n3, rfl, KB.of s4, P3.ext s4, Nat.le_refl _, ema, z0⟩ (fun j σ' H' _ ⟨_, _, _, _, _, kb, _⟩ => SqL.of (kb_lst P3 kb el3)) ?_ ?_⟩
        · rintro j y σ' H5 hj5 ⟨v6, ma, u, n5, rfl, k5, P5, ln5, eu, fu⟩
          obtain ⟨r, hr', rfl⟩ := refR_at hj5
          have jl := (List.getElem?_eq_some_iff.mp hr').1
          refine ⟨_, rfl, p, c, n5, 2, rfl, P5, by omega, by decide, by decide, fun r0 H6 hr0 hr1 P6 k6 => ?_⟩
          have kb6 : KB p H5 H6 := KB.eq k6
          obtain ⟨et, ft⟩ := kb_rs P3 (k5.trans kb6) hR3 r (List.mem_of_getElem? hr')
          have eu6 : TrAt H6 ma u := by
            have : RsAt size H5 [(ma, u)] := fun q hq => by rw [List.mem_singleton.mp hq]; exact ⟨eu, fu⟩
            exact (kb_rs P5 kb6 this (ma, u) (List.mem_singleton_self _)).1
          refine ⟨rfl, _, rfl, ite2 (fun z => ?_) (fun z => ?_)⟩
          · exact ⟨_, rfl, _, rfl, ma, r.1, u, r.2, rfl, eu6, et, up60 fu, up60 ft, fun H7 x s7 nx ex' => ⟨_, x, lpr u r.2, n5 + 1, rfl, (k5.trans kb6).sm s7, P6.ext s7, by omega, ex', lpr_fit fu ft⟩⟩
          · exact ⟨_, ma, u, n5 + 1, rfl, k5.trans kb6, P6, by omega, eu6, fu⟩
        · rintro σ' H5 ⟨v6, ma, u, n5, rfl, k5, P5, ln5, eu, fu⟩
          rw [refR_len] at ln5
          exact ⟨v6, ma, u, n5, rfl, k5, P5, ln5, eu, fu⟩
      rintro _ H5 ⟨v6, ma, u, n5, rfl, k5, P5, ln5, eu, fu⟩
      have el5 := kb_lst P3 k5 el3
      have hR5 := kb_rs P3 k5 hR3
      refine ⟨_, rfl, _, rfl, by show 1 ≤ sizeLine; decide, fun t nt => ?_⟩
      have n6 := same_new (o := .lst [V.ref ma]) nt
      refine ⟨l, t, refR R, [V.ref ma], rfl, rfl, n6 _ _ el5, upd_same, ?_, fun x nx => ?_⟩
      · rw [refR_len]
        exact Nat.le_trans (by show R.length + 1 ≤ 40; omega) (by decide)
      have n7 := n6.trans (same_new (o := .lst (refR R ++ [V.ref ma])) nx)
      refine ⟨_, _, _, x, R ++ [(ma, u)], n5, rfl, (k3.trans k5).sm n7, P5.ext n7, by omega, ?_, fun q hq => ?_, by rw [List.length_append]; omega, by rw [List.length_append, List.length_singleton]; omega⟩
      · rw [upd_same]
        unfold refR
        rw [List.map_append]
        rfl
      · rcases List.mem_append.mp hq with h | h
        · exact hR5.same n7 q h
        · rw [List.mem_singleton.mp h]
          exact ⟨n7 _ _ eu, fu⟩
    rintro _ H2 ⟨v4, v5, v6, l2, R2, n2, rfl, k2, P2, ln2, el2, hR2, l3, l4⟩
    refine ⟨_, rfl, _, rfl, p, c, l2, n2, refR R2, rfl, P2, by omega, SqL.of el2, by rw [refR_len]; omega, fun H3 r ys hl hm P3 k3 nr er => ?_⟩
    rw [refR_len] at hl P3
    obtain ⟨R3, rfl, h3⟩ := pick_rs hm
    rw [refR_len] at hl
    have nrH : H r = none := by
      obtain ⟨ns, a, d, f, hp, _⟩ := P2
      cases e : H r with
      | none => rfl
      | some o =>
        have : H2 r = some o := k2 _ _ e (fun z => by rw [z, hp] at nr; cases nr)
        rw [nr] at this
        cases this
    exact q H3 r R3 _ (k2.trans k3) P3 (by omega) nrH er (fun x hx => kb_rs P2 k3 hR2 x (h3 x hx)) (by omega) (by omega)
end
end KQ

namespace KQ
/-! ### the law's strings and the program's: one product -/
/-- the program's numbers of a string of the law -/
def phi (n : Nat) (t : T3) : Hl := (fB n t.1 t.2.1, (2 * t.2.2 + pc (t.1 &&& t.2.1)) % 4)
theorem phi_sg {n : Nat} {t : T3} (h : Fit n t) : Sg n (phi n t) := by
  refine ⟨Nat.mod_lt _ (by decide), ?_⟩
  show (2 * t.2.2 + pc (t.1 &&& t.2.1)) % 4 % 2 = tw n (fB n t.1 t.2.1) (fB n t.1 t.2.1)
  rw [tw_fB h.2.1, Nat.and_comm t.2.1]
  omega
theorem pc_and_x (a b c d : Nat) : pc ((a ^^^ b) &&& (c ^^^ d)) % 2 = (pc (a &&& c) + pc (a &&& d) + pc (b &&& c) + pc (b &&& d)) % 2 := by
  rw [Nat.and_xor_distrib_right, pc_xor, Nat.and_xor_distrib_left, Nat.and_xor_distrib_left]
  have h1 := pc_xor (a &&& c) (a &&& d)
  have h2 := pc_xor (b &&& c) (b &&& d)
  omega
theorem crN_com {n : Nat} {t u : T3} (h : Fit n t) (k : Fit n u) : crN t u = 0 ↔ Com n (phi n t) (phi n u) := by
  unfold Com phi crN
  show pc ((t.1 &&& u.2.1) ^^^ (t.2.1 &&& u.1)) % 2 = 0 ↔ tw n (fB n t.1 t.2.1) (fB n u.1 u.2.1) = tw n (fB n u.1 u.2.1) (fB n t.1 t.2.1)
  rw [tw_fB h.2.1, tw_fB k.2.1, pc_xor, Nat.and_comm u.2.1]
  omega
theorem phi_mul {n : Nat} {t u : T3} (h : Fit n t) (k : Fit n u) (c : Com n (phi n t) (phi n u)) : phi n (lpr t u) = hp n (phi n t) (phi n u) := by
  unfold Com at c
  have c' : tw n (fB n t.1 t.2.1) (fB n u.1 u.2.1) = tw n (fB n u.1 u.2.1) (fB n t.1 t.2.1) := c
  rw [tw_fB h.2.1, tw_fB k.2.1] at c'
  have px := pc_and_x t.1 u.1 t.2.1 u.2.1
  unfold phi hp lpr
  refine Prod.ext ?_ ?_
  · exact (fB_xor n t.1 t.2.1 u.1 u.2.1).symm
  · show (2 * (((lpP t u + 2 * ((t.2.2 : Int) + (u.2.2 : Int))) % 4) / 2).toNat + pc ((t.1 ^^^ u.1) &&& (t.2.1 ^^^ u.2.1))) % 4 = ((2 * t.2.2 + pc (t.1 &&& t.2.1)) % 4 + (2 * u.2.2 + pc (u.1 &&& u.2.1)) % 4 + 2 * tw n (fB n t.1 t.2.1) (fB n u.1 u.2.1)) % 4
    rw [tw_fB h.2.1]
    unfold lpP
    rw [Nat.and_comm t.1 u.2.1, Nat.and_comm u.1 t.2.1] at px
    generalize pc ((t.1 ^^^ u.1) &&& (t.2.1 ^^^ u.2.1)) = P at *
    generalize pc (t.1 &&& t.2.1) = A at *
    generalize pc (u.1 &&& u.2.1) = B at *
    generalize pc (t.2.1 &&& u.1) = C at *
    generalize pc (u.2.1 &&& t.1) = D at *
    omega
theorem phi_bits {n : Nat} {t u : T3} (h : Fit n t) (k : Fit n u) : (phi n t).1 = (phi n u).1 ↔ t.1 = u.1 ∧ t.2.1 = u.2.1 := by
  constructor
  · exact fun e => fB_inj h.1 h.2.1 k.1 k.2.1 e
  · rintro ⟨e1, e2⟩
    unfold phi
    rw [e1, e2]
theorem phi_sign {n : Nat} {t u : T3} (h : Fit n t) (k : Fit n u) (e1 : t.1 = u.1) (e2 : t.2.1 = u.2.1) : (phi n t).2 = (phi n u).2 ↔ t.2.2 = u.2.2 := by
  unfold phi
  show (2 * t.2.2 + pc (t.1 &&& t.2.1)) % 4 = (2 * u.2.2 + pc (u.1 &&& u.2.1)) % 4 ↔ _
  rw [e1, e2]
  have := h.2.2
  have := k.2.2
  omega
theorem phi_zero (n : Nat) : phi n (0, 0, 0) = (0, 0) := by
  unfold phi fB
  have e : rv n 0 = 0 := by
    apply Nat.eq_of_testBit_eq
    intro j
    rw [rv_bit, Nat.zero_testBit, Nat.zero_testBit, Bool.and_false]
  show (2 ^ n * rv n 0 + rv n 0, (2 * 0 + pc (0 &&& 0)) % 4) = (0, 0)
  rw [e, Nat.zero_and, pc_zero, Nat.mul_zero]
/-- the law's product of those whose mark is set, in their order -/
def lprs (ts : List T3) (m : Nat) : Nat → T3
  | 0 => (0, 0, 0)
  | k + 1 => if m.testBit k = true then lpr (lprs ts m k) (ts.getD k (0, 0, 0)) else lprs ts m k
theorem zfit (n : Nat) : Fit n (0, 0, 0) := ⟨Nat.two_pow_pos _, Nat.two_pow_pos _, by show 0 < 2; decide⟩
theorem getD_fit {n : Nat} {ts : List T3} (h : ∀ t ∈ ts, Fit n t) (k : Nat) : Fit n (ts.getD k (0, 0, 0)) := by
  rw [List.getD_eq_getElem?_getD]
  cases e : ts[k]? with
  | none => exact zfit n
  | some t => exact h t (List.mem_of_getElem? e)
theorem lprs_fit {n : Nat} {ts : List T3} (h : ∀ t ∈ ts, Fit n t) (m : Nat) : ∀ k, Fit n (lprs ts m k)
  | 0 => zfit n
  | k + 1 => by
    unfold lprs
    split
    · exact lpr_fit (lprs_fit h m k) (getD_fit h k)
    · exact lprs_fit h m k
theorem lprs_phi {n : Nat} {ts : List T3} (h : ∀ t ∈ ts, Fit n t) (C : CS n (ts.map (phi n))) (m : Nat) : ∀ {k}, k ≤ ts.length → phi n (lprs ts m k) = pr n (ts.map (phi n)) m k
  | 0, _ => phi_zero n
  | k + 1, hk => by
    have ih := lprs_phi h C m (k := k) (by omega)
    have e : (ts.map (phi n)).getD k (0, 0) = phi n (ts.getD k (0, 0, 0)) := by
      rw [List.getD_eq_getElem?_getD, List.getD_eq_getElem?_getD, List.getElem?_map, List.getElem?_eq_getElem (by omega : k < ts.length)]
      rfl
    unfold lprs pr
    rw [e]
    split
    · rw [phi_mul (lprs_fit h m k) (getD_fit h k), ih]
      rw [ih, ← e]
      have gm : (ts.map (phi n)).getD k (0, 0) ∈ ts.map (phi n) := getD_mem (by rw [List.length_map]; omega)
      exact (pr_com m (fun a ha => C.com _ gm a ha) (by rw [List.length_map]; omega)).symm
    · exact ih
/-- the program's letters of the law's text -/
theorem bL_LT {n : Nat} {t : T3} (h : Fit n t) : bL (LT n t.1 t.2.1) = (phi n t).1 := by
  rw [bL_fB, LT_len, lx_LT _ h.1, lz_LT _ h.2.1]
  rfl
theorem cnt_LT {n : Nat} {t : T3} (h : Fit n t) : (LT n t.1 t.2.1).count 89 = pc (t.1 &&& t.2.1) := by
  rw [← yc (LT_lts n t.1 t.2.1), lx_LT _ h.1, lz_LT _ h.2.1, Nat.and_comm]
end KQ

namespace KQ
open PySem PySem.Spec PyProof.Rows L2
/-! ### the law's own search for -1 times a product -/
theorem scMinus : FnScope ["_law_rows", "_law_k", "_law_found", "_law_at", "_law_some", "_law_made", "_law_kept", "_law_mask"] ["_law_rows"] (defScope sMinus) := ⟨rfl, rfl, rfl, by decide +kernel, rfl, by decide +kernel, by decide +kernel⟩
def gsT (n : Nat) (R : RLs) : List Hl := R.map fun r => phi n r.2
/-- the kept ones whose mark is set -/
def sel (ks : List Nat) (mk : Nat) : List Nat := ((List.range ks.length).filter (mk.testBit ·)).map (ks.getD · 0)
def z3 : T3 := (0, 0, 0)
def tsR (R : RLs) : List T3 := R.map (·.2)
theorem fold_sel (ts : List T3) (ks : List Nat) (mk : Nat) : ∀ k, k ≤ ks.length → (((List.range k).filter (mk.testBit ·)).map (ks.getD · 0)).foldl (fun acc a => lpr acc (ts.getD a z3)) z3 = lprs (ks.map (ts.getD · z3)) mk k
  | 0, _ => rfl
  | k + 1, hk => by
    have ih := fold_sel ts ks mk k (by omega)
    rw [List.range_succ, List.filter_append, List.map_append, List.foldl_append, ih]
    have e : (ks.map (ts.getD · z3)).getD k (0, 0, 0) = ts.getD (ks.getD k 0) z3 := by
      have h1 : ks[k]? = some ks[k] := List.getElem?_eq_getElem (by omega)
      rw [List.getD_eq_getElem?_getD, List.getElem?_map, List.getD_eq_getElem?_getD (l := ks), h1]
      rfl
    show _ = (if mk.testBit k = true then lpr (lprs (ks.map (ts.getD · z3)) mk k) ((ks.map (ts.getD · z3)).getD k (0, 0, 0)) else _)
    rw [e]
    cases h : mk.testBit k
    · rw [List.filter_cons_of_neg (by rw [h]; decide)]
      rfl
    · rw [List.filter_cons_of_pos (by rw [h])]
      rfl
theorem tsR_at {R : RLs} {k : Nat} {r : Addr × T3} (h : R[k]? = some r) : (tsR R).getD k z3 = r.2 := by
  unfold tsR
  rw [List.getD_eq_getElem?_getD, List.getElem?_map, h]
  rfl
theorem gsT_at {n : Nat} {R : RLs} {k : Nat} {r : Addr × T3} (h : R[k]? = some r) : (gsT n R).getD k (0, 0) = phi n r.2 := by
  unfold gsT
  rw [List.getD_eq_getElem?_getD, List.getElem?_map, h]
  rfl
theorem gsT_len (n : Nat) (R : RLs) : (gsT n R).length = R.length := List.length_map ..
theorem redAt_ex {n : Nat} {gs : List Hl} (C : CS n gs) : ∀ i, i ≤ gs.length → ∃ T, RedAt n gs i T
  | 0, _ => ⟨[], RedAt.zero n gs⟩
  | i + 1, h => by
    obtain ⟨T, R⟩ := redAt_ex C i (by omega)
    obtain ⟨a, b⟩ := R.step C (by omega)
    by_cases v0 : (rsH n T (gs.getD i (0, 0))).1 = 0
    · exact ⟨T, (b v0).2.1⟩
    · exact ⟨_, (a v0).2.1⟩
/-- the made product of the marked kept ones -/
def mdP (R : RLs) (ks : List Nat) (mk : Nat) : T3 := lprs (ks.map ((tsR R).getD · z3)) mk ks.length
theorem mdP_fit {n : Nat} {H : Hp} {R : RLs} (hR : RsAt n H R) (ks : List Nat) (mk : Nat) : Fit n (mdP R ks mk) := by
  refine lprs_fit (fun t ht => ?_) mk _
  obtain ⟨k, _, rfl⟩ := List.mem_map.mp ht
  refine getD_fit (fun t ht => ?_) k
  obtain ⟨r, hr, rfl⟩ := List.mem_map.mp ht
  exact (hR r hr).2
theorem mdP_phi {n : Nat} {H : Hp} {R : RLs} (hR : RsAt n H R) {ks : List Nat} (hk : ∀ k ∈ ks, k < R.length) (C : CS n (hsK (gsT n R) ks)) (mk : Nat) : phi n (mdP R ks mk) = pr n (hsK (gsT n R) ks) mk ks.length := by
  have e : (ks.map ((tsR R).getD · z3)).map (phi n) = hsK (gsT n R) ks := by
    unfold hsK
    rw [List.map_map]
    refine List.map_congr_left fun k h => ?_
    have hl := hk k h
    have h1 : R[k]? = some (R[k]'hl) := List.getElem?_eq_getElem hl
    show phi n ((tsR R).getD k z3) = (gsT n R).getD k (0, 0)
    rw [tsR_at h1, gsT_at h1]
  have f : ∀ t ∈ ks.map ((tsR R).getD · z3), Fit n t := fun t ht => by
    obtain ⟨k, _, rfl⟩ := List.mem_map.mp ht
    refine getD_fit (fun t ht => ?_) k
    obtain ⟨r, hr, rfl⟩ := List.mem_map.mp ht
    exact (hR r hr).2
  have := lprs_phi f (by rw [e]; exact C) mk (k := ks.length) (by rw [List.length_map]; exact Nat.le_refl _)
  rw [e] at this
  exact this
theorem mdP_bits {n : Nat} {H : Hp} {R : RLs} (hR : RsAt n H R) {ks : List Nat} (hk : ∀ k ∈ ks, k < R.length) (C : CS n (hsK (gsT n R) ks)) (mk : Nat) {i : Nat} {r : Addr × T3} (hr : R[i]? = some r) :
    ((mdP R ks mk).1 = r.2.1 ∧ (mdP R ks mk).2.1 = r.2.2.1) ↔ sx (kb (gsT n R) ks) mk = ((gsT n R).getD i (0, 0)).1 := by
  rw [← phi_bits (mdP_fit hR ks mk) (hR r (List.mem_of_getElem? hr)).2, mdP_phi hR hk C mk, gsT_at hr]
  have := pr_fst (n := n) (hs := hsK (gsT n R) ks) mk
  rw [hsK_len, hsK_fst] at this
  rw [this]
theorem mdP_sign {n : Nat} {H : Hp} {R : RLs} (hR : RsAt n H R) {ks : List Nat} (hk : ∀ k ∈ ks, k < R.length) (C : CS n (hsK (gsT n R) ks)) (mk : Nat) {i : Nat} {r : Addr × T3} (hr : R[i]? = some r)
    (e : (mdP R ks mk).1 = r.2.1 ∧ (mdP R ks mk).2.1 = r.2.2.1) : (mdP R ks mk).2.2 = r.2.2.2 ↔ (pr n (hsK (gsT n R) ks) mk ks.length).2 = ((gsT n R).getD i (0, 0)).2 := by
  rw [← phi_sign (mdP_fit hR ks mk) (hR r (List.mem_of_getElem? hr)).2 e.1 e.2, mdP_phi hR hk C mk, gsT_at hr]
def spMinus (K : PySem.W.Frag) : Sp := fun vs H Q _ => ∃ (l : Addr) (R : RLs) (n : Nat), vs = [.ref l] ∧ H l = some (.lst (refR R)) ∧ RsAt n H R ∧ n ≤ 60 ∧ R.length ≤ 10 ∧ CS n (gsT n R) ∧
  ((∀ i, i < R.length → Good n (gsT n R) i) → ∀ H', Same H H' → Q .non H') ∧
  (∀ i, i < R.length → (∀ i', i' < i → Good n (gsT n R) i') → ¬ Good n (gsT n R) i → ∀ mk H' x, mk < 2 ^ (keptL (gsT n R) i).length → sx (kb (gsT n R) (keptL (gsT n R) i)) mk = ((gsT n R).getD i (0, 0)).1 → Same H H' →
    H' x = some (.tup (natV (sel (keptL (gsT n R) i) mk ++ [i]))) → Q (.ref x) H')
section
variable {P : Program} {w : World} {K : PySem.W.Frag} {mg : Str → Option Value} {base : Heap}
theorem ok_minus {f fM fO : Addr} {fd dM dO : FuncData} {k : Nat} (F : Fun K "_law_minus" "_law_minus" sMinus f fd) (FM : Fun K "_law_product" "_law_product" sProd fM dM) (bM : Binds K dM ["_law_one", "_law_two"] []) (gM : mg "_law_product" = some (.ref fM))
    (FO : Fun K "_law_ones" "_law_ones" sOnes fO dO) (bO : Binds K dO ["_law_number"] []) (gO : mg "_law_ones" = some (.ref fO)) (B : Bl mg) : FnOk P w K mg base CX0 (k + 3) f fd ["_law_rows"] (spMinus K) := by
  have GM : FnOk P w K mg base CX0 (k + 2) fM dM ["_law_one", "_law_two"] spProd := ok_prod FM FO bO gO B
  refine F.ok scMinus (fun vs H Q E h => ?_) (fun cdv A outer s H vs Q E hr h => ?_)
  · obtain ⟨l, R, n, rfl, _⟩ := h
    rfl
  · obtain ⟨l, R, n, rfl, el, hR, hn, lR, hC, q0, q1⟩ := h
    have hu : (A.deeper (envOfC "_law_minus" (defScope sMinus) s.heap.objs.size f cdv)).units + 64 < cLine := by
      have := hr.un
      omega
    refine ⟨_, C8.pss_cut (ps_set (i := 6) scMinus.nd rfl (.inr rfl) (pe_lst pa_nil))
      (C8.pss_cut (ps_for PassesOwn.never rfl (pi_range1 (by rfl) B.range (pa_cons (pe_callB call_len_seq (by rfl) B.len PySem.boot_len (pa_cons (pv 0) pa_nil)) pa_nil)) (pg_name (i := 1) scMinus.nd rfl (.inl rfl))
        (C8.pss_cut (ps_set (i := 2) scMinus.nd rfl (.inl rfl) pe_non)
        (C8.pss_cut (ps_for PassesOwn.never rfl (pi_range1 (by rfl) B.range (pa_cons (pe_op op_oneShl pe_int (pe_callB call_len_seq (by rfl) B.len PySem.boot_len (pa_cons (pv 6) pa_nil))) pa_nil)) (pg_name (i := 7) scMinus.nd rfl (.inr rfl))
          (C8.pss_cut (ps_setLc (i := 4) (own := [("_law_at", 3)]) (g := gName 3) (by rfl) scMinus.nd rfl rfl (sw_true rfl rfl rfl (by decide +kernel)) (pi_range1 (by rfl) B.range (pa_cons (pe_callB call_len_seq (by rfl) B.len PySem.boot_len (pa_cons (pv 6) pa_nil)) pa_nil)) (blkOk_by (own := [("_law_at", 3)]) (N := ["_law_rows", "_law_k", "_law_found", "_law_at", "_law_some", "_law_made", "_law_kept", "_law_mask"]) (sc := defScope sMinus) (by decide +kernel))
              (fun _ _ _ _ _ => pg_name (i := 3) scMinus.nd rfl (Or.inl rfl)) (fun _ _ _ _ _ => pts_one (pt_cmpR op_eq (pe_op op_mod (pe_callTy call_int1 (by rfl) B.int bootI (pa_cons (pe_op op_shrN (pv 7) (pv 3)) pa_nil)) pe_int) pe_int (nomark _))) (fun _ _ _ _ _ => pe_ix (r := rIxL K) ix_list (pv 6) (pv 3) (fun _ _ => rfl)))
          (C8.pss_cut (ps_set (i := 5) scMinus.nd rfl (.inl rfl) (pe_tup (pa_cons pe_int (pa_cons pe_int (pa_cons pe_int pa_nil)))))
          (C8.pss_cut (ps_for PassesOwn.never rfl (pi_list (pv 4)) (pg_name (i := 3) scMinus.nd rfl (.inl rfl))
            (pss_one (ps_set (i := 5) scMinus.nd rfl (.inl rfl) (pe_call GM hr (by rfl) gM FM.kp bM .nil pass0 (pa_cons (pv 5) (pa_cons (pe_ix ix_list (pv 0) (pv 3) (fun _ _ => rfl)) pa_nil))))))
          (pss_one (ps_if (pt_cmpR (op_eqD hu) (pe_tup (pa_cons (pe_ix ix_tup (pv 5) pe_int (fun _ _ => rfl)) (pa_cons (pe_ix ix_tup (pv 5) pe_int (fun _ _ => rfl)) pa_nil))) (pe_tup (pa_cons (pe_ix ix_tup (pe_ix ix_list (pv 0) (pv 1) (fun _ _ => rfl)) pe_int (fun _ _ => rfl)) (pa_cons (pe_ix ix_tup (pe_ix ix_list (pv 0) (pv 1) (fun _ _ => rfl)) pe_int (fun _ _ => rfl)) pa_nil))) (nomark _))
            (pss_one (ps_set (i := 2) scMinus.nd rfl (.inl rfl) (pe_tup (pa_cons (pv 4) (pa_cons (pe_ix ix_tup (pv 5) pe_int (fun _ _ => rfl)) pa_nil))))) pss_nil))))))
        (pss_one (ps_if (pt_cmpR op_isN (pv 2) pe_non (by rfl))
          (pss_one (ps_expr (pe_bm PySem.F.plainAttrs_list PySem.F.slot_list_append PySem.F.type_list_append mt_append (pv 6) (pa_cons (pv 1) pa_nil))))
          (pss_one (ps_if (pt_cmpR op_ne (pe_ix ix_tup (pv 2) pe_int (fun _ _ => rfl)) (pe_ix ix_tup (pe_ix ix_list (pv 0) (pv 1) (fun _ _ => rfl)) pe_int (fun _ _ => rfl)) (nomark _))
            (pss_one (ps_ret (pe_callTy call_tuple_of (by rfl) B.tuple bootT (pa_cons (pe_op op_cat (pe_ix ix_tup (pv 2) pe_int (fun _ _ => rfl)) (pe_lst (pa_cons (pv 1) pa_nil))) pa_nil)))) pss_nil)))))))
      (pss_one (ps_ret pe_non))), ?_⟩
    have up60 : ∀ {t : T3}, Fit n t → Fit 60 t := fun h => ⟨Nat.lt_of_lt_of_le h.1 (Nat.pow_le_pow_right (by decide) hn), Nat.lt_of_lt_of_le h.2.1 (Nat.pow_le_pow_right (by decide) hn), h.2.2⟩
    have big : ∀ m, m ≤ 100 → m < sizeLine := fun m h => Nat.lt_of_le_of_lt h (by decide)
    let gs := gsT n R
    let St : Nat → L2.St → Hp → Prop := fun i σ H' => ∃ (v1 v2 v3 v4 v5 v7 : Option V) (kp : Addr), σ = [some (.ref l), v1, v2, v3, v4, v5, some (.ref kp), v7] ∧ Same H H' ∧ H kp = none ∧ H' kp = some (.lst (natV (keptL gs i))) ∧ ∀ i', i' < i → Good n gs i'
    refine ⟨St 0, ⟨by show 0 ≤ sizeLine; decide, fun t nt => ⟨none, none, none, none, none, none, t, rfl, same_new nt, nt, upd_same, fun i' h => by omega⟩⟩, ?_⟩
    rintro σ1 H1 hst1
    refine ⟨St R.length, ?_, ?_⟩
    · obtain ⟨v1, v2, v3, v4, v5, v7, kp, rfl, s1, _⟩ := id hst1
      refine ⟨_, rfl, l, _, rfl, .inl (SqL.of (s1 _ _ el)), _, rfl, by rw [refR_len]; omega, by rw [refR_len]; omega, ?_⟩
      rw [refR_len, Int.toNat_natCast]
      refine for_range (lo := 0) (n := R.length) St hst1 ?_ ?_
      rotate_left
      · exact fun _ _ h => h
      rintro i _ H2 hi ⟨v1, v2, v3, v4, v5, v7, kp, rfl, s2, nk, ek, hgd⟩
      have eli : V.int (0 + (i : Nat)) = V.int (i : Nat) := by rw [Int.zero_add]
      have hi' : R[i]? = some (R[i]'hi) := List.getElem?_eq_getElem hi
      generalize R[i]'hi = ri at hi'
      have rm := List.mem_of_getElem? hi'
      obtain ⟨eri, fri⟩ := hR ri rm
      obtain ⟨T, RA⟩ := redAt_ex hC i (by show i ≤ (gsT n R).length; rw [gsT_len]; omega)
      have hk : ∀ k ∈ keptL gs i, k < R.length := fun k h => Nat.lt_trans (keptL_lt gs i k h) hi
      have kl := keptL_len gs i
      have one := fun {m m' : Nat} (h : m < 2 ^ (keptL gs i).length) (h' : m' < 2 ^ (keptL gs i).length) (e : sx (kb gs (keptL gs i)) m = sx (kb gs (keptL gs i)) m') => indep_one RA.ind (by rw [kb_len]; exact h) (by rw [kb_len]; exact h') e
      let hit : Nat → Prop := fun m => sx (kb gs (keptL gs i)) m = (gs.getD i (0, 0)).1
      refine ⟨fun σ' H' => σ' = [some (.ref l), some (.int (0 + (i : Nat))), some .non, v3, v4, v5, some (.ref kp), v7] ∧ H' = H2, ⟨rfl, rfl⟩, ?_⟩
      rintro _ H3 ⟨rfl, eH⟩
      subst eH
      let Fd : Nat → V → Hp → Prop := fun m fv H' => (fv = .non ∧ ∀ m', m' < m → ¬ hit m') ∨ ∃ (m0 : Nat) (fa la : Addr), m0 < m ∧ hit m0 ∧ fv = .ref fa ∧ H' fa = some (.tup [.ref la, .int ((mdP R (keptL gs i) m0).2.2 : Nat)]) ∧ H' la = some (.lst (natV (sel (keptL gs i) m0)))
      refine ⟨fun σ' H' => ∃ (fv : V) (v3 v4 v5 v7 : Option V), σ' = [some (.ref l), some (.int (0 + (i : Nat))), some fv, v3, v4, v5, some (.ref kp), v7] ∧ Same H3 H' ∧ Fd (2 ^ (keptL gs i).length) fv H', ?_, ?_⟩
      · have lk9 : (keptL gs i).length ≤ 9 := by omega
        have pw2 : 2 ^ (keptL gs i).length ≤ 512 := Nat.le_trans (Nat.pow_le_pow_right (by decide) lk9) (by decide)
        have p62 : (2 : Int) ^ 62 = 4611686018427387904 := by decide
        refine ⟨_, rfl, kp, _, rfl, .inl (SqL.of ek), (keptL gs i).length, rfl, by rw [natV_len], by omega, ((2 ^ (keptL gs i).length : Nat) : Int), by push_cast; rfl, Int.le_trans (by decide) (Int.natCast_nonneg _), Int.lt_of_le_of_lt (Int.ofNat_le.mpr pw2) (by decide), ?_⟩
        rw [Int.toNat_natCast]
        refine for_range (lo := 0) (n := 2 ^ (keptL gs i).length) (fun m σ' H' => ∃ (fv : V) (v3 v4 v5 v7 : Option V), σ' = [some (.ref l), some (.int (0 + (i : Nat))), some fv, v3, v4, v5, some (.ref kp), v7] ∧ Same H3 H' ∧ Fd m fv H')
          ⟨.non, v3, v4, v5, v7, rfl, fun _ _ e => e, .inl ⟨rfl, fun m' h => by omega⟩⟩ ?_ (fun _ _ h => h)
        rintro m _ H5 hm ⟨fv, v3, v4, v5, v7, rfl, s5, hF⟩
        have hm' : m < 2 ^ (keptL gs i).length := hm
        have ek5 := s5 _ _ ek
        have el5 := s5 _ _ (s2 _ _ el)
        have hR5 := (hR.same s2).same s5
        refine ⟨fun σ' H' => ∃ (v3 : Option V) (la : Addr), σ' = [some (.ref l), some (.int (0 + (i : Nat))), some fv, v3, some (.ref la), v5, some (.ref kp), some (.int (0 + (m : Nat)))] ∧ Same H5 H' ∧ H' la = some (.lst (natV (sel (keptL gs i) m))), ?_, ?_⟩
        · refine ⟨_, rfl, kp, _, rfl, .inl (SqL.of ek5), _, rfl, by rw [natV_len]; omega, by rw [natV_len]; omega, fun D nD => ?_⟩
          rw [natV_len, Int.toNat_natCast]
          refine lc_range (lo := 0) (n := (keptL gs i).length) (Pv := fun j Hc => Same H5 Hc ∧ Hc D = some (.lst (natV (((List.range j).filter (m.testBit ·)).map ((keptL gs i).getD · 0))))) ⟨same_new nD, upd_same⟩ ?_ ?_
          · rintro j Hc hj ⟨sc, eD⟩
            have bit := Nat.testBit_eq_decide_div_mod_eq (x := m) (i := j)
            have ebit : ((m : Int) / 2 ^ j % 2) = ((m / 2 ^ j % 2 : Nat) : Int) := i_div m j
            have rs : List.range (j + 1) = List.range j ++ [j] := List.range_succ
            have hjk : (keptL gs i)[j]? = some ((keptL gs i).getD j 0) := by rw [List.getD_eq_getElem?_getD, List.getElem?_eq_getElem hj]; rfl
            refine ⟨rfl, _, rfl, _, rfl, (m : Int), j, by rw [Int.zero_add], by rw [Int.zero_add], .inl ⟨_, rfl, _, _, rfl, rfl, (by show (0 : Int) < 2; decide), rfl, _, rfl, ite2 (fun z => ?_) (fun z => ?_)⟩⟩
            · have cb : m / 2 ^ j % 2 = 1 := by
                have z' : decide (V.int ((m : Int) / 2 ^ j % 2) = V.int 1) = true := z
                have := V.int.inj (of_decide_eq_true z')
                rw [ebit] at this
                omega
              refine ⟨_, rfl, _, rfl, kp, _, _, .int ((keptL gs i).getD j 0 : Nat), rfl, rfl, SqL.of (sc _ _ ek5), ?_, _, eD, ?_, same_put0 sc nD, ?_⟩
              · rw [Int.zero_add]
                exact atI_nat (by unfold natV; rw [List.getElem?_map, hjk]; rfl)
              · rw [natV_len, List.length_map]
                have := List.length_filter_le (m.testBit ·) (List.range j)
                rw [List.length_range] at this
                exact big _ (by omega)
              · rw [upd_same, rs, List.filter_append, List.filter_cons_of_pos (by rw [bit, decide_eq_true cb]), List.filter_nil, List.map_append, natV_app]
                rfl
            · have cb : ¬ m / 2 ^ j % 2 = 1 := fun y => by
                refine absurd ?_ z
                show decide (V.int ((m : Int) / 2 ^ j % 2) = V.int 1) = true
                rw [ebit, y]
                rfl
              refine ⟨sc, ?_⟩
              rw [rs, List.filter_append, List.filter_cons_of_neg (by rw [bit, decide_eq_false cb]; decide), List.filter_nil, List.append_nil]
              exact eD
          · rintro Hc ⟨sc, eD⟩
            exact ⟨_, D, rfl, sc, eD⟩
        rintro _ H6 ⟨v3, la, rfl, s6, ela⟩
        refine ⟨fun σ' H' => ∃ ma : Addr, σ' = [some (.ref l), some (.int (0 + (i : Nat))), some fv, v3, some (.ref la), some (.ref ma), some (.ref kp), some (.int (0 + (m : Nat)))] ∧ Same H6 H' ∧ TrAt H' ma z3, ⟨by show 3 ≤ sizeLine; decide, fun t nt => ⟨t, rfl, same_new nt, upd_same⟩⟩, ?_⟩
        rintro _ H7 ⟨ma, rfl, s7, ema⟩
        refine ⟨fun σ' H' => ∃ (v3 : Option V) (ma : Addr), σ' = [some (.ref l), some (.int (0 + (i : Nat))), some fv, v3, some (.ref la), some (.ref ma), some (.ref kp), some (.int (0 + (m : Nat)))] ∧ Same H7 H' ∧ TrAt H' ma (mdP R (keptL gs i) m), ?_, ?_⟩
        · have ela7 := s7 _ _ ela
          have el7 := s7 _ _ (s6 _ _ el5)
          have hR7 := (hR5.same s6).same s7
          have hts : ∀ t ∈ tsR R, Fit n t := fun t ht => by
            obtain ⟨r, hr', rfl⟩ := List.mem_map.mp ht
            exact (hR r hr').2
          have ffit : ∀ (xs : List Nat) (t : T3), Fit n t → Fit n (xs.foldl (fun acc a => lpr acc ((tsR R).getD a z3)) t) := by
            intro xs
            induction xs with
            | nil => exact fun t h => h
            | cons a xs ih => exact fun t h => ih _ (lpr_fit h (getD_fit hts a))
          refine ⟨_, rfl, la, rfl, ⟨_, SqL.of ela7⟩, for_list (K := K) (a := la) (xs := natV (sel (keptL gs i) m)) (fun j σ' H' => ∃ (v3 : Option V) (ma : Addr), σ' = [some (.ref l), some (.int (0 + (i : Nat))), some fv, v3, some (.ref la), some (.ref ma), some (.ref kp), some (.int (0 + (m : Nat)))] ∧ Same H7 H' ∧ TrAt H' ma (((sel (keptL gs i) m).take j).foldl (fun acc a => lpr acc ((tsR R).getD a z3)) z3))
            ⟨v3, ma, rfl, fun _ _ e => e, ema⟩ (fun j σ' H' _ ⟨_, _, _, s', _⟩ => SqL.of (s' _ _ ela7)) ?_ ?_⟩
          · rintro j y σ' H8 hj8 ⟨v3, ma, rfl, s8, eu⟩
            obtain ⟨a, ha, rfl⟩ := natV_at hj8
            have am : a ∈ sel (keptL gs i) m := List.mem_of_getElem? ha
            obtain ⟨b, hb, eab⟩ := List.mem_map.mp am
            have bl : b < (keptL gs i).length := List.mem_range.mp (List.mem_filter.mp hb).1
            have al : a < R.length := by
              rw [← eab]
              have : (keptL gs i).getD b 0 ∈ keptL gs i := by
                rw [List.getD_eq_getElem?_getD, List.getElem?_eq_getElem bl]
                exact List.getElem_mem bl
              exact hk _ this
            have hra : R[a]? = some (R[a]'al) := List.getElem?_eq_getElem al
            generalize R[a]'al = ra at hra
            obtain ⟨era, fra⟩ := (hR7.same s8) ra (List.mem_of_getElem? hra)
            have fu := ffit ((sel (keptL gs i) m).take j) z3 (zfit n)
            have eqf : ((sel (keptL gs i) m).take (j + 1)).foldl (fun acc a => lpr acc ((tsR R).getD a z3)) z3 = lpr (((sel (keptL gs i) m).take j).foldl (fun acc a => lpr acc ((tsR R).getD a z3)) z3) ra.2 := by
              rw [take_snoc ha, List.foldl_append]
              show lpr _ ((tsR R).getD a z3) = _
              rw [tsR_at hra]
            rw [eqf]
            refine ⟨_, rfl, _, rfl, _, rfl, l, refR R, a, .ref ra.1, rfl, rfl, SqL.of (s8 _ _ el7), atI_nat (by unfold refR; rw [List.getElem?_map, hra]; rfl), ma, ra.1, _, ra.2, rfl, eu, era, up60 fu, up60 fra, fun H9 x s9 nx ex' => ⟨_, x, rfl, s8.trans s9, ex'⟩⟩
          · rintro σ' H8 ⟨v3, ma, rfl, s8, eu⟩
            rw [natV_len, List.take_length] at eu
            refine ⟨v3, ma, rfl, s8, ?_⟩
            have := fold_sel (tsR R) (keptL gs i) m (keptL gs i).length (Nat.le_refl _)
            unfold sel at eu
            rw [this] at eu
            exact eu
        rintro _ H8 ⟨v3, ma, rfl, s8, eu⟩
        have fu := mdP_fit hR (keptL gs i) m
        have mb := mdP_bits hR hk RA.cs m hi'
        have s58 := (s6.trans s7).trans s8
        have el8 := s58 _ _ el5
        have eri8 : TrAt H8 ri.1 ri.2 := s58 _ _ (s5 _ _ (s2 _ _ eri))
        have ela8 := s8 _ _ (s7 _ _ ela)
        generalize hmd : mdP R (keptL gs i) m = u at eu fu mb
        have sqm : ∀ {G : Hp}, Same H8 G → SqT K G ma [.int (u.1 : Nat), .int (u.2.1 : Nat), .int (u.2.2 : Nat)] := fun sg => .inl (.inl (sg _ _ eu))
        have sqr : ∀ {G : Hp}, Same H8 G → SqT K G ri.1 [.int (ri.2.1 : Nat), .int (ri.2.2.1 : Nat), .int (ri.2.2.2 : Nat)] := fun sg => .inl (.inl (sg _ _ eri8))
        have s88 : Same H8 H8 := fun _ _ e => e
        have ati : atI (refR R) (0 + (i : Nat)) = some (.ref ri.1) := by
          rw [Int.zero_add]
          exact atI_nat (by unfold refR; rw [List.getElem?_map, hi']; rfl)
        refine ⟨_, rfl, ma, _, _, _, rfl, rfl, sqm s88, tri0 _ _ _, _, rfl, ma, _, _, _, rfl, rfl, sqm s88, tri1 _ _ _, by show 2 ≤ sizeLine; decide, fun t1 n1 => ?_⟩
        have s81 := same_new (o := .tup [.int (u.1 : Nat), .int (u.2.1 : Nat)]) n1
        refine ⟨_, rfl, _, rfl, l, _, _, _, rfl, rfl, SqL.of (s81 _ _ el8), ati, ri.1, _, _, _, rfl, rfl, sqr s81, tri0 _ _ _, _, rfl, _, rfl, l, _, _, _, rfl, rfl, SqL.of (s81 _ _ el8), ati, ri.1, _, _, _, rfl, rfl, sqr s81, tri1 _ _ _, by show 2 ≤ sizeLine; decide, fun t2 n2 => ?_⟩
        have s82 := same_new (o := .tup [.int (ri.2.1 : Nat), .int (ri.2.2.1 : Nat)]) n2
        have e1 := s82 _ _ (upd_same (H := H8) (a := t1) (o := HO.tup [.int (u.1 : Nat), .int (u.2.1 : Nat)]))
        have e2 : (upd (upd H8 t1 (.tup [.int (u.1 : Nat), .int (u.2.1 : Nat)])) t2 (.tup [.int (ri.2.1 : Nat), .int (ri.2.2.1 : Nat)])) t2 = some (.tup [.int (ri.2.1 : Nat), .int (ri.2.2.1 : Nat)]) := upd_same
        have s9 := s81.trans s82
        generalize upd (upd H8 t1 (.tup [.int (u.1 : Nat), .int (u.2.1 : Nat)])) t2 (.tup [.int (ri.2.1 : Nat), .int (ri.2.2.1 : Nat)]) = H9 at e1 e2 s9
        have s39 := (s5.trans s58).trans s9
        have eqv2 : PyData.eqv (.tuple [.int (u.1 : Nat), .int (u.2.1 : Nat)]) (.tuple [.int (ri.2.1 : Nat), .int (ri.2.2.1 : Nat)]) = decide (u.1 = ri.2.1 ∧ u.2.1 = ri.2.2.1) := by
          have nb : ∀ x y : Nat, ((x : Int) == (y : Int)) = decide (x = y) := fun x y => by
            by_cases h : x = y
            · subst h
              simp
            · rw [decide_eq_false h]
              exact beq_eq_false_iff_ne.mpr (by omega)
          show (((u.1 : Int) == (ri.2.1 : Int)) && (((u.2.1 : Int) == (ri.2.2.1 : Int)) && true)) = _
          rw [nb, nb]
          by_cases a : u.1 = ri.2.1 <;> by_cases b : u.2.1 = ri.2.2.1 <;> simp [a, b]
        refine ⟨.tuple [.int (u.1 : Nat), .int (u.2.1 : Nat)], .tuple [.int (ri.2.1 : Nat), .int (ri.2.2.1 : Nat)], .tup (.inl (.inl e1)) (.cons (.int _) (.cons (.int _) .nil)), .tup (.inl (.inl e2)) (.cons (.int _) (.cons (.int _) .nil)), rfl, rfl, decide (u.1 = ri.2.1 ∧ u.2.1 = ri.2.2.1), congrArg V.bl eqv2, ?_⟩
        by_cases c : u.1 = ri.2.1 ∧ u.2.1 = ri.2.2.1
        · rw [decide_eq_true c]
          refine iteT ⟨_, rfl, _, rfl, ma, _, _, _, rfl, rfl, sqm s9, tri2 _ _ _, by show 2 ≤ sizeLine; decide, fun fa nf => ?_⟩
          have s10 := same_new (o := .tup [.ref la, .int (u.2.2 : Nat)]) nf
          refine ⟨.ref fa, _, _, _, _, rfl, s39.trans s10, .inr ⟨m, fa, la, Nat.lt_succ_self m, mb.mp c, rfl, ?_, s10 _ _ (s9 _ _ ela8)⟩⟩
          rw [hmd]
          exact upd_same
        · rw [decide_eq_false c]
          refine iteF ⟨fv, _, _, _, _, rfl, s39, ?_⟩
          rcases hF with ⟨h1, h2⟩ | ⟨m0, fa, la0, h1, h2, h3, h4, h5⟩
          · refine .inl ⟨h1, fun m' hm'' => ?_⟩
            by_cases e : m' < m
            · exact h2 m' e
            · have : m' = m := by omega
              rw [this]
              exact fun z => c (mb.mpr z)
          · have s59 := s58.trans s9
            exact .inr ⟨m0, fa, la0, by omega, h2, h3, s59 _ _ h4, s59 _ _ h5⟩
      rintro _ H4 ⟨fv, v3, v4, v5, v7, rfl, s4, hF⟩
      have kup := RA.step hC (by show i < (gsT n R).length; rw [gsT_len]; exact hi)
      have ek4 := s4 _ _ ek
      have s24 := s2.trans s4
      rcases hF with ⟨rfl, hno⟩ | ⟨m0, fa, la, hm0, hh, rfl, efa, ela⟩
      · have v0 : (rsH n T ((gsT n R).getD i (0, 0))).1 ≠ 0 := fun z => by
          obtain ⟨_, _, sp, _⟩ := kup.2 z
          obtain ⟨m1, l1, e1⟩ := inSp_iff.mp (inSp_spn.mpr sp)
          rw [kb_len] at l1
          exact hno m1 l1 e1
        obtain ⟨k1, _, gd⟩ := kup.1 v0
        refine ⟨_, rfl, rfl, true, by decide, iteT ⟨_, rfl, .inl ⟨rfl, _, SqL.of ek4⟩, _, rfl, kp, _, _, rfl, rfl, ek4, ?_, _, _, _, _, _, _, kp, rfl, same_put0 s24 nk, nk, ?_, fun i' h => ?_⟩⟩
        · rw [natV_len]
          exact big _ (by omega)
        · rw [upd_same, k1, natV_app, Int.zero_add]
          rfl
        · by_cases e : i' < i
          · exact hgd i' e
          · have : i' = i := by omega
            rw [this]
            exact gd
      · have v0 : (rsH n T ((gsT n R).getD i (0, 0))).1 = 0 := by
          refine RA.tab.out.mpr ?_
          rw [hsK_fst]
          have : sx (kb (gsT n R) (keptL (gsT n R) i)) m0 = ((gsT n R).getD i (0, 0)).1 := hh
          rw [← this]
          exact sx_spn _ _
        obtain ⟨k1, _, sp, _⟩ := kup.2 v0
        have e0 := (mdP_bits hR hk RA.cs m0 hi').mpr hh
        have sgn := mdP_sign hR hk RA.cs m0 hi' e0
        have good : Good n (gsT n R) i ↔ (mdP R (keptL gs i) m0).2.2 = ri.2.2.2 := by
          rw [sgn]
          constructor
          · exact fun h => h m0 hm0 hh
          · intro h mk hmk e
            rw [one hmk hm0 (e.trans hh.symm)]
            exact h
        have el4 := s24 _ _ el
        have eri4 : TrAt H4 ri.1 ri.2 := s24 _ _ eri
        have ati : atI (refR R) (0 + (i : Nat)) = some (.ref ri.1) := by
          rw [Int.zero_add]
          exact atI_nat (by unfold refR; rw [List.getElem?_map, hi']; rfl)
        refine ⟨_, rfl, rfl, false, congrArg V.bl (decide_eq_false (fun z => by cases z)), iteF ⟨_, rfl, fa, _, _, _, rfl, rfl, .inl (.inl efa), at_pair1 _ _, _, rfl, _, rfl, l, _, _, _, rfl, rfl, SqL.of el4, ati, ri.1, _, _, _, rfl, rfl, .inl (.inl eri4), tri2 _ _ _, rfl, _, rfl, ite2 (fun z => ?_) (fun z => ?_)⟩⟩
        · have ne : ¬ (mdP R (keptL gs i) m0).2.2 = ri.2.2.2 := fun y => by
            rw [y, decide_eq_true rfl] at z
            cases z
          refine ⟨_, rfl, fa, _, _, _, rfl, rfl, .inl (.inl efa), at_pair0 _ _, _, rfl, by show 1 ≤ sizeLine; decide, fun t nt => ?_⟩
          have n1 := same_new (o := .lst [V.int (0 + (i : Nat))]) nt
          refine ⟨la, t, _, _, rfl, rfl, n1 _ _ ela, upd_same, ?_, fun x nx => ⟨x, _, rfl, .inl ⟨SqL.of upd_same, fun r nr => ?_⟩⟩⟩
          · have : (sel (keptL gs i) m0).length ≤ 10 := by
              unfold sel
              rw [List.length_map]
              have := List.length_filter_le (m0.testBit ·) (List.range (keptL gs i).length)
              rw [List.length_range] at this
              omega
            rw [natV_len, List.length_singleton]
            exact Nat.le_trans (by omega : _ ≤ 11) (by decide)
          · have s9 := (s24.trans n1).trans ((same_new (o := .lst (natV (sel (keptL gs i) m0) ++ [V.int (0 + (i : Nat))])) nx).trans (same_new (o := .tup (natV (sel (keptL gs i) m0) ++ [V.int (0 + (i : Nat))])) nr))
            refine q1 i hi hgd (fun g => ne (good.mp g)) m0 _ r hm0 hh s9 ?_
            rw [upd_same, natV_app, Int.zero_add]
            rfl
        · have eq : (mdP R (keptL gs i) m0).2.2 = ri.2.2.2 := by
            by_cases y : (mdP R (keptL gs i) m0).2.2 = ri.2.2.2
            · exact y
            · exact absurd (by rw [decide_eq_false (fun x => y (by have := V.int.inj x; omega))]; rfl) z
          refine ⟨_, _, _, _, _, _, kp, rfl, s24, nk, by rw [k1]; exact ek4, fun i' h => ?_⟩
          by_cases e : i' < i
          · exact hgd i' e
          · have : i' = i := by omega
            rw [this]
            exact good.mpr eq
    rintro _ H2 ⟨v1, v2, v3, v4, v5, v7, kp, rfl, s2, nk, ek, hgd⟩
    exact q0 hgd _ s2
end
end KQ

namespace KQ
open PySem PySem.Spec PyProof.Rows L2
/-! ### what the law says is due -/
theorem scDue : FnScope ["_law_size", "_law_texts", "_law_rows", "_law_at", "_law_j", "_law_i", "_law_minus_here"] ["_law_size", "_law_texts", "_law_rows"] (defScope sDue) := ⟨rfl, rfl, rfl, by decide +kernel, rfl, by decide +kernel, by decide +kernel⟩
/-- texts: a head and letters -/
abbrev Txs := List (List Nat × List Nat)
def txV (X : Txs) : List V := X.map fun x => .str (mS (x.1 ++ x.2))
structure TxOk (X : Txs) : Prop where
  hd : ∀ x ∈ X, ∀ c ∈ x.1, c = 43 ∨ c = 45 ∨ c = 105
  lt : ∀ x ∈ X, Lts8 x.2
  ln : ∀ x ∈ X, x.1.length + x.2.length ≤ 100
theorem e_pmi : ("+-i" : Str) = mS [43, 45, 105] := by decide +kernel
theorem strip_tx {h L : List Nat} (hh : ∀ c ∈ h, c = 43 ∨ c = 45 ∨ c = 105) (hL : Lts8 L) : (h ++ L).dropWhile (#[43, 45, 105] : Array Nat).contains = L := by
  induction h with
  | nil =>
    cases L with
    | nil => rfl
    | cons c L =>
      have := isL_iff.mp (hL c (List.mem_cons_self ..))
      show (c :: L).dropWhile _ = _
      rw [List.dropWhile_cons_of_neg]
      rcases this with rfl | rfl | rfl | rfl <;> decide +kernel
  | cons a h ih =>
    have ha := hh a (List.mem_cons_self ..)
    show (a :: (h ++ L)).dropWhile _ = _
    rw [List.dropWhile_cons_of_pos]
    · exact ih fun c hc => hh c (List.mem_cons_of_mem _ hc)
    · rcases ha with rfl | rfl | rfl <;> decide +kernel
theorem i_tx {h L : List Nat} (hL : Lts8 L) : 105 ∈ h ++ L ↔ 105 ∈ h := by
  constructor
  · intro k
    rcases List.mem_append.mp k with q | q
    · exact q
    · rcases isL_iff.mp (hL 105 q) with z | z | z | z <;> cases z
  · exact fun k => List.mem_append_left _ k
theorem txV_at {X : Txs} {i : Nat} (hi : i < X.length) : ∃ x, X[i]? = some x ∧ x ∈ X ∧ atI (txV X) (0 + (i : Nat)) = some (.str (mS (x.1 ++ x.2))) := by
  have e : X[i]? = some X[i] := List.getElem?_eq_getElem hi
  refine ⟨X[i], e, List.getElem_mem hi, ?_⟩
  rw [Int.zero_add]
  exact atI_nat (by unfold txV; rw [List.getElem?_map, e]; rfl)
def xr (R : RLs) (i j : Nat) : Nat := crN ((tsR R).getD i z3) ((tsR R).getD j z3)
def spDue (K : PySem.W.Frag) : Sp := fun vs H Q _ => ∃ (size : Nat) (lt lr : Addr) (X : Txs) (R : RLs), vs = [.int (size : Nat), .ref lt, .ref lr] ∧ H lt = some (.lst (txV X)) ∧ TxOk X ∧ X.length ≤ 10 ∧ H lr = some (.lst (refR R)) ∧ RsAt size H R ∧ R.length ≤ 10 ∧ size ≤ 60 ∧
  ((∃ x ∈ X, x.2.length ≠ size) → ∀ H' a, Same H H' → H' a = some (.tup [.str "unlike", .str "size"]) → Q (.ref a) H') ∧
  ((∀ x ∈ X, x.2.length = size) →
    (∀ (i : Nat) (x : List Nat × List Nat), X[i]? = some x → 105 ∈ x.1 → (∀ (j : Nat) (y : List Nat × List Nat), j < i → X[j]? = some y → ¬ 105 ∈ y.1) → ∀ H' a, Same H H' → H' a = some (.tup [.str "number", .str "sign", .int (i : Nat)]) → Q (.ref a) H') ∧
    ((∀ x ∈ X, ¬ 105 ∈ x.1) →
      (∀ i j, i < j → j < R.length → xr R i j = 1 → (∀ i', i' < i → xr R i' j = 0) → (∀ i' j', i' < j' → j' < j → xr R i' j' = 0) → ∀ H' a, Same H H' → H' a = some (.tup [.str "anticommute", .int (i : Nat), .int (j : Nat)]) → Q (.ref a) H') ∧
      ((∀ i j, i < j → j < R.length → xr R i j = 0) →
        ((∀ i, i < R.length → Good size (gsT size R) i) → ∀ H' a, Same H H' → H' a = some (.tup [.str "none"]) → Q (.ref a) H') ∧
        (∀ i, i < R.length → (∀ i', i' < i → Good size (gsT size R) i') → ¬ Good size (gsT size R) i → ∀ mk H' x a, mk < 2 ^ (keptL (gsT size R) i).length → sx (kb (gsT size R) (keptL (gsT size R) i)) mk = ((gsT size R).getD i (0, 0)).1 → Same H H' →
          H' x = some (.tup (natV (sel (keptL (gsT size R) i) mk ++ [i]))) → H' a = some (.tup [.str "minus", .ref x]) → Q (.ref a) H'))))
theorem gsT_cs {n : Nat} {H : Hp} {R : RLs} (hR : RsAt n H R) (h : ∀ i j, i < j → j < R.length → xr R i j = 0) : CS n (gsT n R) := by
  have key : ∀ (i j : Nat) (a b : Addr × T3), i < j → R[i]? = some a → R[j]? = some b → Com n (phi n a.2) (phi n b.2) := fun i j a b hij ha hb => by
    have := h i j hij (List.getElem?_eq_some_iff.mp hb).1
    unfold xr at this
    rw [tsR_at ha, tsR_at hb] at this
    exact (crN_com (hR a (List.mem_of_getElem? ha)).2 (hR b (List.mem_of_getElem? hb)).2).mp this
  refine ⟨fun g hg => ?_, fun g hg g' hg' => ?_⟩
  · obtain ⟨a, ha, rfl⟩ := List.mem_map.mp hg
    exact phi_sg (hR a ha).2
  · obtain ⟨a, ha, rfl⟩ := List.mem_map.mp hg
    obtain ⟨b, hb, rfl⟩ := List.mem_map.mp hg'
    obtain ⟨i, hi⟩ := List.getElem?_of_mem ha
    obtain ⟨j, hj⟩ := List.getElem?_of_mem hb
    rcases Nat.lt_trichotomy i j with k | k | k
    · exact key i j a b k hi hj
    · subst k
      cases hi.symm.trans hj
      exact Com.self _ _
    · exact (key j i b a k hj hi).symm
section
variable {P : Program} {w : World} {K : PySem.W.Frag} {mg : Str → Option Value} {base : Heap}
theorem ok_due {f fX fN fM fO : Addr} {fd dX dN dM dO : FuncData} {k : Nat} (F : Fun K "_law_due" "_law_due" sDue f fd) (FX : Fun K "_law_crosses" "_law_crosses" sCross fX dX) (bX : Binds K dX ["_law_one", "_law_two"] []) (gX : mg "_law_crosses" = some (.ref fX))
    (FN : Fun K "_law_minus" "_law_minus" sMinus fN dN) (bN : Binds K dN ["_law_rows"] []) (gN : mg "_law_minus" = some (.ref fN)) (FM : Fun K "_law_product" "_law_product" sProd fM dM) (bM : Binds K dM ["_law_one", "_law_two"] []) (gM : mg "_law_product" = some (.ref fM))
    (FO : Fun K "_law_ones" "_law_ones" sOnes fO dO) (bO : Binds K dO ["_law_number"] []) (gO : mg "_law_ones" = some (.ref fO)) (B : Bl mg) : FnOk P w K mg base CX0 (k + 4) f fd ["_law_size", "_law_texts", "_law_rows"] (spDue K) := by
  have GX : FnOk P w K mg base CX0 (k + 2) fX dX ["_law_one", "_law_two"] spCr := ok_cr FX FO bO gO B
  have GN : FnOk P w K mg base CX0 (k + 3) fN dN ["_law_rows"] (spMinus K) := ok_minus FN FM bM gM FO bO gO B
  refine F.ok scDue (fun vs H Q E h => ?_) (fun cdv A outer s H vs Q E hr h => ?_)
  · obtain ⟨size, lt, lr, X, R, rfl, _⟩ := h
    rfl
  · obtain ⟨size, lt, lr, X, R, rfl, et, O, lX, er, hR, lR, z60, qU, h⟩ := h
    have r2 : Room (k + 2) _ := hr.mono (by omega)
    refine ⟨_, C8.pss_cut (ps_for PassesOwn.never rfl (pi_range1 (by rfl) B.range (pa_cons (pe_callB call_len_seq (by rfl) B.len PySem.boot_len (pa_cons (pv 1) pa_nil)) pa_nil)) (pg_name (i := 3) scDue.nd rfl (.inl rfl))
        (pss_one (ps_if (pt_cmpR op_ne (pe_callB call_len_str (by rfl) B.len PySem.boot_len (pa_cons (pe_bm PySem.F.plainAttrs_str PySem.F.slot_str_lstrip PySem.F.type_str_lstrip mt_lstripChars (pe_ix ix_list (pv 1) (pv 3) (fun _ _ => rfl)) (pa_cons pe_str pa_nil)) pa_nil)) (pv 0) (nomark _)) (pss_one (ps_ret (pe_tup (pa_cons pe_str (pa_cons pe_str pa_nil))))) pss_nil)))
      (C8.pss_cut (ps_for PassesOwn.never rfl (pi_range1 (by rfl) B.range (pa_cons (pe_callB call_len_seq (by rfl) B.len PySem.boot_len (pa_cons (pv 1) pa_nil)) pa_nil)) (pg_name (i := 3) scDue.nd rfl (.inl rfl))
        (pss_one (ps_if (pt_cmpR op_in_sign pe_str (pe_ix ix_list (pv 1) (pv 3) (fun _ _ => rfl)) (by rfl)) (pss_one (ps_ret (pe_tup (pa_cons pe_str (pa_cons pe_str (pa_cons (pv 3) pa_nil)))))) pss_nil)))
      (C8.pss_cut (ps_for PassesOwn.never rfl (pi_range1 (by rfl) B.range (pa_cons (pe_callB call_len_seq (by rfl) B.len PySem.boot_len (pa_cons (pv 2) pa_nil)) pa_nil)) (pg_name (i := 4) scDue.nd rfl (.inl rfl))
        (pss_one (ps_for PassesOwn.never rfl (pi_range1 (by rfl) B.range (pa_cons (pv 4) pa_nil)) (pg_name (i := 5) scDue.nd rfl (.inl rfl))
          (pss_one (ps_if (pt_cmpR op_eq (pe_call GX r2 (by rfl) gX FX.kp bX .nil pass0 (pa_cons (pe_ix ix_list (pv 2) (pv 5) (fun _ _ => rfl)) (pa_cons (pe_ix ix_list (pv 2) (pv 4) (fun _ _ => rfl)) pa_nil))) pe_int (nomark _)) (pss_one (ps_ret (pe_tup (pa_cons pe_str (pa_cons (pv 5) (pa_cons (pv 4) pa_nil)))))) pss_nil)))))
      (C8.pss_cut (ps_set (i := 6) scDue.nd rfl (.inl rfl) (pe_call GN hr (by rfl) gN FN.kp bN .nil pass0 (pa_cons (pv 2) pa_nil)))
      (pss_one (ps_ret (pe_ifExp (pt_cmpR op_notN (pv 6) pe_non (by rfl)) (pe_tup (pa_cons pe_str (pa_cons (pv 6) pa_nil))) (pe_tup (pa_cons pe_str pa_nil)))))))), ?_⟩
    have lXv : (txV X).length = X.length := List.length_map ..
    refine ⟨fun σ' H' => ∃ v3, σ' = [some (.int (size : Nat)), some (.ref lt), some (.ref lr), v3, none, none, none] ∧ H' = H ∧ ∀ x ∈ X, x.2.length = size, ?_, ?_⟩
    · refine ⟨_, rfl, lt, _, rfl, .inl (SqL.of et), _, rfl, by rw [lXv]; omega, by rw [lXv]; omega, ?_⟩
      rw [lXv, Int.toNat_natCast]
      refine for_range (lo := 0) (n := X.length) (fun i σ' H' => ∃ v3, σ' = [some (.int (size : Nat)), some (.ref lt), some (.ref lr), v3, none, none, none] ∧ H' = H ∧ ∀ x ∈ X.take i, x.2.length = size) ⟨none, rfl, rfl, fun x h => by cases h⟩ ?_ ?_
      · rintro i _ H1 hi ⟨v3, rfl, eH, hz⟩
        have eH' := eH.symm
        subst eH'
        obtain ⟨x, hx, xm, ax⟩ := txV_at hi
        have st : Txt.lstripChars (mS (x.1 ++ x.2)) ("+-i" : Str) = mS x.2 := by
          rw [e_pmi, lstrip_eq, strip_tx (O.hd x xm) (O.lt x xm)]
        have hzl : (mS (x.1 ++ x.2)).length ≤ sizeLine := by
          rw [mS_len, List.length_append]
          exact Nat.le_trans (O.ln x xm) (by decide)
        refine ⟨_, rfl, _, rfl, lt, _, _, _, rfl, rfl, SqL.of et, ax, rfl, _, _, rfl, rfl, hzl, ?_⟩
        rw [st]
        have hz2 : (mS x.2).length ≤ sizeLine := by
          rw [mS_len]
          exact Nat.le_trans (by have := O.ln x xm; omega : x.2.length ≤ 100) (by decide)
        have l2 : (mS x.2).length = x.2.length := mS_len _
        refine ⟨_, rfl, hz2, _, rfl, rfl, _, rfl, ite2 (fun z => ?_) (fun z => ?_)⟩
        · have ne : x.2.length ≠ size := fun y => by
            rw [l2, y, decide_eq_true rfl] at z
            cases z
          exact ⟨by show 2 ≤ sizeLine; decide, fun p np => qU ⟨x, xm, ne⟩ _ p (same_new np) upd_same⟩
        · have eq : x.2.length = size := by
            by_cases y : x.2.length = size
            · exact y
            · exact absurd (by rw [l2, decide_eq_false (fun x => y (by have := V.int.inj x; omega))]; rfl) z
          refine ⟨_, rfl, rfl, fun y hy => ?_⟩
          rw [take_snoc hx] at hy
          rcases List.mem_append.mp hy with k' | k'
          · exact hz y k'
          · rw [List.mem_singleton.mp k']
            exact eq
      · rintro _ H1 ⟨v3, rfl, eH, hz⟩
        rw [List.take_length] at hz
        exact ⟨v3, rfl, eH, hz⟩
    rintro _ H1 ⟨v3, rfl, eH, hlen⟩
    have eH' := eH.symm
    subst eH'
    obtain ⟨qI, h⟩ := h hlen
    refine ⟨fun σ' H' => ∃ v3, σ' = [some (.int (size : Nat)), some (.ref lt), some (.ref lr), v3, none, none, none] ∧ H' = H ∧ ∀ x ∈ X, ¬ 105 ∈ x.1, ?_, ?_⟩
    · refine ⟨_, rfl, lt, _, rfl, .inl (SqL.of et), _, rfl, by rw [lXv]; omega, by rw [lXv]; omega, ?_⟩
      rw [lXv, Int.toNat_natCast]
      refine for_range (lo := 0) (n := X.length) (fun i σ' H' => ∃ v3, σ' = [some (.int (size : Nat)), some (.ref lt), some (.ref lr), v3, none, none, none] ∧ H' = H ∧ ∀ x ∈ X.take i, ¬ 105 ∈ x.1) ⟨v3, rfl, rfl, fun x h => by cases h⟩ ?_ ?_
      · rintro i _ H1 hi ⟨v3, rfl, eH, hz⟩
        have eH' := eH.symm
        subst eH'
        obtain ⟨x, hx, xm, ax⟩ := txV_at hi
        have el : (mS (x.1 ++ x.2)).cps.toList = x.1 ++ x.2 := by simp
        refine ⟨_, rfl, _, rfl, lt, _, _, _, rfl, rfl, SqL.of et, ax, 105, mS (x.1 ++ x.2), by rw [e_i], rfl, _, rfl, ite2 (fun z => ?_) (fun z => ?_)⟩
        · have m : 105 ∈ x.1 := (i_tx (O.lt x xm)).mp (by rw [← el]; exact of_decide_eq_true z)
          refine ⟨_, rfl, by show 3 ≤ sizeLine; decide, fun p np => qI i x hx m (fun j y hj hy => hz y (List.mem_of_getElem? (by rw [List.getElem?_take_of_lt hj]; exact hy))) _ p (same_new np) ?_⟩
          rw [upd_same, Int.zero_add]
        · have nm : ¬ 105 ∈ x.1 := fun m => z (decide_eq_true (by rw [el]; exact (i_tx (O.lt x xm)).mpr m))
          refine ⟨_, rfl, rfl, fun y hy => ?_⟩
          rw [take_snoc hx] at hy
          rcases List.mem_append.mp hy with k' | k'
          · exact hz y k'
          · rw [List.mem_singleton.mp k']
            exact nm
      · rintro _ H1 ⟨v3, rfl, eH, hz⟩
        rw [List.take_length] at hz
        exact ⟨v3, rfl, eH, hz⟩
    rintro _ H1 ⟨v3, rfl, eH, hni⟩
    have eH' := eH.symm
    subst eH'
    obtain ⟨qA, h⟩ := h hni
    have up60 : ∀ {t : T3}, Fit size t → Fit 60 t := fun h => ⟨Nat.lt_of_lt_of_le h.1 (Nat.pow_le_pow_right (by decide) z60), Nat.lt_of_lt_of_le h.2.1 (Nat.pow_le_pow_right (by decide) z60), h.2.2⟩
    have atR : ∀ {i : Nat}, i < R.length → ∃ r, R[i]? = some r ∧ r ∈ R ∧ atI (refR R) (0 + (i : Nat)) = some (.ref r.1) := fun {i} hi => by
      have e : R[i]? = some (R[i]'hi) := List.getElem?_eq_getElem hi
      refine ⟨_, e, List.getElem_mem hi, ?_⟩
      rw [Int.zero_add]
      exact atI_nat (by unfold refR; rw [List.getElem?_map, e]; rfl)
    refine ⟨fun σ' H' => ∃ v3 v4 v5, σ' = [some (.int (size : Nat)), some (.ref lt), some (.ref lr), v3, v4, v5, none] ∧ H' = H ∧ ∀ i j, i < j → j < R.length → xr R i j = 0, ?_, ?_⟩
    · refine ⟨_, rfl, lr, _, rfl, .inl (SqL.of er), _, rfl, by rw [refR_len]; omega, by rw [refR_len]; omega, ?_⟩
      rw [refR_len, Int.toNat_natCast]
      refine for_range (lo := 0) (n := R.length) (fun j σ' H' => ∃ v3 v4 v5, σ' = [some (.int (size : Nat)), some (.ref lt), some (.ref lr), v3, v4, v5, none] ∧ H' = H ∧ ∀ i' j', i' < j' → j' < j → xr R i' j' = 0) ⟨v3, none, none, rfl, rfl, fun i' j' h1 h2 => by omega⟩ ?_ (fun _ _ h => h)
      rintro j _ H1 hj ⟨v3, v4, v5, rfl, eH, hz⟩
      have eH' := eH.symm
      subst eH'
      refine ⟨_, rfl, _, rfl, by omega, by omega, ?_⟩
      rw [show ((0 : Int) + (j : Nat)).toNat = j by omega]
      refine for_range (lo := 0) (n := j) (fun i σ' H' => ∃ v3 v5, σ' = [some (.int (size : Nat)), some (.ref lt), some (.ref lr), v3, some (.int (0 + (j : Nat))), v5, none] ∧ H' = H ∧ ∀ i', i' < i → xr R i' j = 0) ⟨v3, v5, rfl, rfl, fun i' h => by omega⟩ ?_ ?_
      · rintro i _ H1 hi ⟨v3, v5, rfl, eH, hzi⟩
        have eH' := eH.symm
        subst eH'
        obtain ⟨ra, ha, am, aa⟩ := atR (i := i) (by omega)
        obtain ⟨rb, hb, bm, ab⟩ := atR (i := j) hj
        have exr : xr R i j = crN ra.2 rb.2 := by unfold xr; rw [tsR_at ha, tsR_at hb]
        refine ⟨_, rfl, _, rfl, lr, _, _, _, rfl, rfl, SqL.of er, aa, _, rfl, _, rfl, lr, _, _, _, rfl, rfl, SqL.of er, ab, ra.1, rb.1, ra.2, rb.2, rfl, (hR ra am).1, (hR rb bm).1, up60 (hR ra am).2, up60 (hR rb bm).2, rfl, _, rfl, ite2 (fun z => ?_) (fun z => ?_)⟩
        · have c1 : xr R i j = 1 := by
            have z' : decide (V.int (crN ra.2 rb.2 : Nat) = V.int 1) = true := z
            have := V.int.inj (of_decide_eq_true z')
            omega
          refine ⟨_, rfl, _, rfl, by show 3 ≤ sizeLine; decide, fun p np => qA i j hi hj c1 hzi hz _ p (same_new np) ?_⟩
          rw [upd_same, Int.zero_add, Int.zero_add]
        · have c0 : xr R i j = 0 := by
            have lt2 : crN ra.2 rb.2 < 2 := Nat.mod_lt _ (by decide)
            have : crN ra.2 rb.2 ≠ 1 := fun y => by
              refine absurd ?_ z
              show decide (V.int (crN ra.2 rb.2 : Nat) = V.int 1) = true
              rw [y]
              rfl
            omega
          refine ⟨_, _, rfl, rfl, fun i' h => ?_⟩
          by_cases e : i' < i
          · exact hzi i' e
          · have : i' = i := by omega
            rw [this]
            exact c0
      · rintro _ H1 ⟨v3, v5, rfl, eH, hzi⟩
        refine ⟨_, _, _, rfl, eH, fun i' j' h1 h2 => ?_⟩
        by_cases e : j' < j
        · exact hz i' j' h1 e
        · have : j' = j := by omega
          rw [this]
          rw [this] at h1
          exact hzi i' h1
    rintro _ H1 ⟨v3, v4, v5, rfl, eH, hz⟩
    have eH' := eH.symm
    subst eH'
    obtain ⟨qN, qM⟩ := h hz
    have cs := gsT_cs hR hz
    refine ⟨fun σ' H' => ∃ v6, σ' = [some (.int (size : Nat)), some (.ref lt), some (.ref lr), v3, v4, v5, some v6] ∧ ((v6 = .non ∧ ∀ a, H' a = none → Q (.ref a) (upd H' a (.tup [.str "none"]))) ∨ ∃ x, v6 = .ref x ∧ ∀ a, H' a = none → Q (.ref a) (upd H' a (.tup [.str "minus", .ref x]))), ?_, ?_⟩
    · refine ⟨_, rfl, lr, R, size, rfl, er, hR, z60, lR, cs, fun good H' s' => ⟨_, rfl, .inl ⟨rfl, fun a na => qN good _ a (s'.trans (same_new na)) upd_same⟩⟩, fun i hi hg ng mk H' x l1 l2 s' ex' => ⟨_, rfl, .inr ⟨x, rfl, fun a na => qM i hi hg ng mk _ x a l1 l2 (s'.trans (same_new na)) ((same_new na) _ _ ex') upd_same⟩⟩⟩
    rintro _ H1 ⟨v6, rfl, h6⟩
    rcases h6 with ⟨rfl, q⟩ | ⟨x, rfl, q⟩
    · exact ⟨_, rfl, rfl, false, rfl, iteF ⟨by show 1 ≤ sizeLine; decide, q⟩⟩
    · exact ⟨_, rfl, rfl, true, congrArg (fun b => V.bl (!b)) (decide_eq_false (fun z => by cases z)), iteT ⟨_, rfl, by show 2 ≤ sizeLine; decide, q⟩⟩
end
end KQ

namespace KQ
open PySem PySem.Spec PyProof.Rows L2 LamX
/-! ### what a call refuses: the four errors of a group -/
theorem scWhy : FnScope ["_law_call", "_law_found", "e"] ["_law_call"] (defScope sWhy) := ⟨rfl, rfl, rfl, by decide +kernel, rfl, by decide +kernel, by decide +kernel⟩
/-- an error of one of the four classes, and what is told of it -/
def Er4 (CN CU CA CM : Addr) (Q : VK) (cls : Value) (d : Option Addr) (H' : Hp) : Prop := ∃ dd : Addr, d = some dd ∧
  ((∃ u v : V, cls = .ref CN ∧ H' dd = some (.xd [("number", v), ("what", u)]) ∧ ∀ p, H' p = none → Q (.ref p) (upd H' p (.tup [.str "number", u, v]))) ∨
   (∃ u : V, cls = .ref CU ∧ H' dd = some (.xd [("what", u)]) ∧ ∀ p, H' p = none → Q (.ref p) (upd H' p (.tup [.str "unlike", u]))) ∨
   (∃ u v : V, cls = .ref CA ∧ H' dd = some (.xd [("other", v), ("one", u)]) ∧ ∀ p, H' p = none → Q (.ref p) (upd H' p (.tup [.str "anticommute", u, v]))) ∨
   (∃ u : V, cls = .ref CM ∧ H' dd = some (.xd [("indices", u)]) ∧ ∀ p, H' p = none → Q (.ref p) (upd H' p (.tup [.str "minus", u]))))
def TTg (CN CU CA CM : Addr) : (XK → Hp → VK → Prop) → Hp → VK → Prop := fun tl H Q => ∀ p0, H p0 = none →
  tl (fun cls d H' => Er4 CN CU CA CM Q cls d H') (upd H p0 (.tup [.str "none"])) (fun _ H' => ∃ v, (some (some (V.ref p0)) : Option (Option V)) = some (some v) ∧ Q v H')
structure Four (K : PySem.W.Frag) (mg : Str → Option Value) (CT CN CU CA CM : Addr) : Prop where
  gT : mg "BadText" = some (.ref CT)
  gN : mg "BadNumber" = some (.ref CN)
  gU : mg "Unlike" = some (.ref CU)
  gA : mg "Anticommute" = some (.ref CA)
  gM : mg "MinusOne" = some (.ref CM)
  l0 : PySem.W.findIn K (.ref CU) "line" = some none
  l1 : PySem.W.findIn K (.ref CU) "column" = some none
  n0 : PySem.W.findIn K (.ref CN) "what" = some none
  n1 : PySem.W.findIn K (.ref CN) "number" = some none
  u0 : PySem.W.findIn K (.ref CU) "what" = some none
  a0 : PySem.W.findIn K (.ref CA) "one" = some none
  a1 : PySem.W.findIn K (.ref CA) "other" = some none
  m0 : PySem.W.findIn K (.ref CM) "indices" = some none
  XN : XfC K CN
  XU : XfC K CU
  XA : XfC K CA
  XM : XfC K CM
  NT : PySem.W.exmOne K (.ref CN) (.ref CT) = some false
  NN : PySem.W.exmOne K (.ref CN) (.ref CN) = some true
  UT : PySem.W.exmOne K (.ref CU) (.ref CT) = some false
  UN : PySem.W.exmOne K (.ref CU) (.ref CN) = some false
  UU : PySem.W.exmOne K (.ref CU) (.ref CU) = some true
  AT : PySem.W.exmOne K (.ref CA) (.ref CT) = some false
  AN : PySem.W.exmOne K (.ref CA) (.ref CN) = some false
  AU : PySem.W.exmOne K (.ref CA) (.ref CU) = some false
  AA : PySem.W.exmOne K (.ref CA) (.ref CA) = some true
  MT : PySem.W.exmOne K (.ref CM) (.ref CT) = some false
  MN : PySem.W.exmOne K (.ref CM) (.ref CN) = some false
  MU : PySem.W.exmOne K (.ref CM) (.ref CU) = some false
  MA : PySem.W.exmOne K (.ref CM) (.ref CA) = some false
  MM : PySem.W.exmOne K (.ref CM) (.ref CM) = some true
theorem why_gives {X : Cx} {CT g CN CU CA CM : Addr} {cdg : Value} {q : Str} (V4 : Four X.K X.mg CT CN CU CA CM) : GivesTo X ["_law_call", "_law_found", "e"] "_law_why" (defScope sWhy) g cdg (defBody sWhy) "_law_call" q (TTg CN CU CA CM) := by
  intro f c' s H Q tl act hc h
  refine ⟨_, pss_cons (ps_set (i := 1) scWhy.nd rfl (.inl rfl) (pe_tup (pa_cons pe_str pa_nil))) (pss_cons (ps_try_list (X := (cxOf C8.CX0 X.prog X.w X.K X.mg X.base ["_law_call", "_law_found", "e"] "_law_why" (defScope sWhy) g cdg X.A X.stack s H C8.E0).nox) (k := 2) (nm := "e")
      (tb := fun W D σ H => ∃ Ech : XK, (∀ cls d σ' H', σ'.length = 3 → Ech cls d H' → W cls d σ' H') ∧ σ[0]? = some (some (.ref f)) ∧ H c' = some (CodeO c' q) ∧ tl Ech H (fun _ H' => D.nx σ H'))
      rfl rfl scWhy.nd rfl rfl LamX.takes0 (fun W pn xe tk _ => ?_)
      (.next (cl := .ref CT) ⟨rfl, by decide, .inl V4.gT⟩ (fun a oe cls d pn hz hf => pss_one (ps_set (i := 1) scWhy.nd rfl (.inl rfl) (pe_tup (pa_cons pe_str (pa_cons (pe_xf V4.XU V4.l0 hz hf (pv 2)) (pa_cons (pe_xf V4.XU V4.l1 hz hf (pv 2)) pa_nil))))))
      (.next (cl := .ref CN) ⟨rfl, by decide, .inl V4.gN⟩ (fun a oe cls d pn hz hf => pss_one (ps_set (i := 1) scWhy.nd rfl (.inl rfl) (pe_tup (pa_cons pe_str (pa_cons (pe_xf V4.XN V4.n0 hz hf (pv 2)) (pa_cons (pe_xf V4.XN V4.n1 hz hf (pv 2)) pa_nil))))))
      (.next (cl := .ref CU) ⟨rfl, by decide, .inl V4.gU⟩ (fun a oe cls d pn hz hf => pss_one (ps_set (i := 1) scWhy.nd rfl (.inl rfl) (pe_tup (pa_cons pe_str (pa_cons (pe_xf V4.XU V4.u0 hz hf (pv 2)) pa_nil)))))
      (.next (cl := .ref CA) ⟨rfl, by decide, .inl V4.gA⟩ (fun a oe cls d pn hz hf => pss_one (ps_set (i := 1) scWhy.nd rfl (.inl rfl) (pe_tup (pa_cons pe_str (pa_cons (pe_xf V4.XA V4.a0 hz hf (pv 2)) (pa_cons (pe_xf V4.XA V4.a1 hz hf (pv 2)) pa_nil))))))
      (.next (cl := .ref CM) ⟨rfl, by decide, .inl V4.gM⟩ (fun a oe cls d pn hz hf => pss_one (ps_set (i := 1) scWhy.nd rfl (.inl rfl) (pe_tup (pa_cons pe_str (pa_cons (pe_xf V4.XM V4.m0 hz hf (pv 2)) pa_nil)))))
      .done))))))
    (pss_one (ps_ret (pv 1)))), ?_⟩
  · refine ⟨fun pins s' σ H' D I h' => ?_⟩
    obtain ⟨Ech, hW, h1, h2, h3⟩ := h'
    have tk' : Takes ((cxOf C8.CX0 X.prog X.w X.K X.mg X.base ["_law_call", "_law_found", "e"] "_law_why" (defScope sWhy) g cdg X.A X.stack s H C8.E0).tr pn xe) (fun cls d σ H => σ.length = 3 → W cls d σ H) :=
      fun u s' ⟨a, B, sI, pins, σ, H, cls, d, e, I, nb, up, sky, na, os, ag, w⟩ => tk u s' ⟨a, B, sI, pins, σ, H, cls, d, e, I, nb, up, sky, na, os, ag, w I.len⟩
    have hp := fun p1 p2 => act (fun cls d σ H => σ.length = 3 → W cls d σ H) pn xe Ech p1 p2 tk' (fun cls d σ' H' h hl => hW cls d σ' H' hl h)
    exact (pss_one (ps_expr (hp _ _))).run pins s' σ H' D I ⟨h1, h2, h3⟩
  · refine ⟨by show 1 ≤ sizeLine; decide, fun p0 np => ?_⟩
    have hc0 : c' ≠ p0 := ne_of_none hc np
    refine ⟨fun cls d H' => Er4 CN CU CA CM Q cls d H', fun cls d σ' H' hl hE => ?_, rfl, (upd_ne hc0).trans hc, ?_⟩
    · have h2 : ∀ a, (σ'.set 2 (some (V.ref a)))[2]? = some (some (V.ref a)) := fun a => by
        rw [List.getElem?_set_self (by omega)]
      have h3 : ∀ (a : Addr) (p : Addr), ((σ'.set 2 (some (V.ref a))).set 1 (some (V.ref p)))[1]? = some (some (V.ref p)) := fun a p => by
        rw [List.getElem?_set_self (by rw [List.length_set]; omega)]
      obtain ⟨dd, rfl, h | h | h | h⟩ := hE
      · obtain ⟨u, v, rfl, hd, hq⟩ := h
        refine ⟨false, V4.NT, (fun z => nomatch z), fun _ => ⟨true, V4.NN, fun _ a na => ?_, fun z => nomatch z⟩⟩
        refine ⟨_, h2 a, rfl, rfl, dd, _, u, rfl, hd, rfl, _, h2 a, rfl, rfl, dd, _, v, rfl, hd, rfl, by show 3 ≤ sizeLine; decide, fun p np => ⟨_, ?_, hq p np⟩⟩
        rw [List.getElem?_set_ne (by decide)]
        exact h3 a p
      · obtain ⟨u, rfl, hd, hq⟩ := h
        refine ⟨false, V4.UT, (fun z => nomatch z), fun _ => ⟨false, V4.UN, (fun z => nomatch z), fun _ => ⟨true, V4.UU, fun _ a na => ?_, fun z => nomatch z⟩⟩⟩
        refine ⟨_, h2 a, rfl, rfl, dd, _, u, rfl, hd, rfl, by show 2 ≤ sizeLine; decide, fun p np => ⟨_, ?_, hq p np⟩⟩
        rw [List.getElem?_set_ne (by decide)]
        exact h3 a p
      · obtain ⟨u, v, rfl, hd, hq⟩ := h
        refine ⟨false, V4.AT, (fun z => nomatch z), fun _ => ⟨false, V4.AN, (fun z => nomatch z), fun _ => ⟨false, V4.AU, (fun z => nomatch z), fun _ => ⟨true, V4.AA, fun _ a na => ?_, fun z => nomatch z⟩⟩⟩⟩
        refine ⟨_, h2 a, rfl, rfl, dd, _, u, rfl, hd, rfl, _, h2 a, rfl, rfl, dd, _, v, rfl, hd, rfl, by show 3 ≤ sizeLine; decide, fun p np => ⟨_, ?_, hq p np⟩⟩
        rw [List.getElem?_set_ne (by decide)]
        exact h3 a p
      · obtain ⟨u, rfl, hd, hq⟩ := h
        refine ⟨false, V4.MT, (fun z => nomatch z), fun _ => ⟨false, V4.MN, (fun z => nomatch z), fun _ => ⟨false, V4.MU, (fun z => nomatch z), fun _ => ⟨false, V4.MA, (fun z => nomatch z), fun _ => ⟨true, V4.MM, fun _ a na => ?_, fun z => nomatch z⟩⟩⟩⟩⟩
        refine ⟨_, h2 a, rfl, rfl, dd, _, u, rfl, hd, rfl, by show 2 ≤ sizeLine; decide, fun p np => ⟨_, ?_, hq p np⟩⟩
        rw [List.getElem?_set_ne (by decide)]
        exact h3 a p
    · exact h p0 np
end KQ

namespace KQ
open PySem PySem.Spec PyProof.Rows L2
/-! ### the law's rows and the strings that are made of their texts -/
/-- head and letters of a row's text -/
def base (n : Nat) (t : T3) : List Nat × List Nat := (if t.2.2 = 0 then [] else [45], LT n t.1 t.2.1)
theorem TX_base (n : Nat) (t : T3) : TX n t = (base n t).1 ++ (base n t).2 := rfl
def Hd4L (h : List Nat) : Prop := h = [] ∨ h = [45] ∨ h = [105] ∨ h = [45, 105]
def phH (h : List Nat) : Nat := if h = [] then 0 else if h = [45] then 2 else if h = [105] then 1 else 3
theorem read_tx {h L : List Nat} (hh : Hd4L h) (hL : Lts8 L) (h0 : L ≠ []) : rest (h ++ L) = L ∧ ph (h ++ L) = phH h ∧ fine (h ++ L) := by
  rcases hh with rfl | rfl | rfl | rfl
  · exact read_head hL h0 0 _ _ rfl
  · exact read_head hL h0 2 _ _ rfl
  · exact read_head hL h0 3 _ _ rfl
  · exact read_head hL h0 5 _ _ rfl
theorem phH_odd {h : List Nat} (hh : Hd4L h) : phH h % 2 = 1 ↔ 105 ∈ h := by
  rcases hh with rfl | rfl | rfl | rfl <;> simp [phH]
theorem phH_lt {h : List Nat} (hh : Hd4L h) : phH h < 4 := by
  rcases hh with rfl | rfl | rfl | rfl <;> simp [phH]
theorem base_hd (n : Nat) (t : T3) : Hd4L (base n t).1 := by
  unfold base
  by_cases z : t.2.2 = 0
  · exact .inl (if_pos z)
  · exact .inr (.inl (if_neg z))
theorem base_ph {n : Nat} {t : T3} (h : Fit n t) : phH (base n t).1 = 2 * t.2.2 := by
  unfold base phH
  have := h.2.2
  by_cases z : t.2.2 = 0
  · simp [z]
  · have : t.2.2 = 1 := by omega
    simp [this]
/-- the told strings of texts -/
def OfX (L : PLs) (X : Txs) : Prop := L.map (fun q => (q.2.1, q.2.2)) = X.map fun x => (x.2, phH x.1)
theorem gs_same {n : Nat} {H : Hp} {R : RLs} {L : PLs} {X : Txs} (hR : RsAt n H R) (hL : OfX L X) (hX : X = R.map fun r => base n r.2) : gsOf L = gsT n R := by
  have e1 : gsOf L = (L.map fun q => (q.2.1, q.2.2)).map fun q => (bL q.1, (q.2 + q.1.count 89) % 4) := by
    unfold gsOf
    rw [List.map_map]
    rfl
  rw [e1, hL, hX, List.map_map, List.map_map]
  unfold gsT
  refine List.map_congr_left fun r hr => ?_
  have f := (hR r hr).2
  show (bL (LT n r.2.1 r.2.2.1), (phH (base n r.2).1 + (LT n r.2.1 r.2.2.1).count 89) % 4) = phi n r.2
  rw [bL_LT f, cnt_LT f, base_ph f]
  rfl
theorem xg_same {n : Nat} {H : Hp} {R : RLs} (hR : RsAt n H R) {i j : Nat} (hi : i < R.length) (hj : j < R.length) : xg n ((gsT n R).map Prod.fst) i j = xr R i j := by
  have ha : R[i]? = some (R[i]'hi) := List.getElem?_eq_getElem hi
  have hb : R[j]? = some (R[j]'hj) := List.getElem?_eq_getElem hj
  generalize R[i]'hi = a at ha
  generalize R[j]'hj = b at hb
  have fa := (hR a (List.mem_of_getElem? ha)).2
  have fb := (hR b (List.mem_of_getElem? hb)).2
  have g : ∀ {k : Nat} {r : Addr × T3}, R[k]? = some r → ((gsT n R).map Prod.fst).getD k 0 = fB n r.2.1 r.2.2.1 := fun {k r} h => by
    unfold gsT
    rw [List.getD_eq_getElem?_getD, List.getElem?_map, List.getElem?_map, h]
    rfl
  unfold xg xr crN
  rw [g ha, g hb, tsR_at ha, tsR_at hb, cross_fB fb.1 fb.2.1, pc_xor, Nat.and_comm b.2.2.1, Nat.and_comm b.2.1]
end KQ

namespace KQ
open PySem PySem.Spec PyProof.Rows L2 LamX
/-! ### beside the pen -/
def Sx (TT : List (Addr × Str)) (p c : Addr) (N : Nat) (H : Hp) : Prop := ∃ n, n ≤ N ∧ PenAt H p c n ∧ Tabs TT H
theorem codeO_ne {c : Addr} {q : Str} : ∀ kv, CodeO c q ≠ .dK kv := by
  intro kv z
  unfold CodeO at z
  cases z
theorem pen_dk {H : Hp} {p c : Addr} {n : Nat} (P : PenAt H p c n) : ∃ kv, H p = some (.dK kv) := by
  obtain ⟨ns, a, d, f, hp, _⟩ := P
  exact ⟨_, hp⟩
theorem tabs_kb {TT : List (Addr × Str)} {H H' : Hp} {p : Addr} {kv : List (Key × V)} (hp : H p = some (.dK kv)) (t : Tabs TT H) (k : KB p H H') : Tabs TT H' := by
  intro q hq
  obtain ⟨ps, h1, h2, h3⟩ := t q hq
  refine ⟨ps, k _ _ h1 (ne_of h1 hp (by intro z; cases z)), h2, fun pos cv hc => ?_⟩
  obtain ⟨c, e1, e2⟩ := h3 pos cv hc
  exact ⟨c, e1, k _ _ e2 (ne_of e2 hp (codeO_ne kv))⟩
theorem pen_ext {H H' : Hp} {p c : Addr} {n : Nat} (h : PenAt H p c n) (x : ExtN H H') : PenAt H' p c n := by
  obtain ⟨ns, a, d, f, e1, e2, r⟩ := h
  exact ⟨ns, a, d, f, x _ _ e1 (fun ps z => by cases z), x _ _ e2 (fun ps z => by cases z), r⟩
theorem Sx.same {TT : List (Addr × Str)} {p c : Addr} {N : Nat} {H H' : Hp} (h : Sx TT p c N H) (s : Same H H') : Sx TT p c N H' := by
  obtain ⟨n, hn, hP, t⟩ := h
  exact ⟨n, hn, hP.ext s, Tabs.ext t s⟩
theorem Sx.mono {TT : List (Addr × Str)} {p c : Addr} {N M : Nat} {H : Hp} (h : Sx TT p c N H) (le : N ≤ M) : Sx TT p c M H := by
  obtain ⟨n, hn, r⟩ := h
  exact ⟨n, Nat.le_trans hn le, r⟩
theorem sx_step {TT : List (Addr × Str)} {p c : Addr} {n n' N' : Nat} {H H' : Hp} (hP : PenAt H p c n) (t : Tabs TT H) (hP' : PenAt H' p c n') (k : KB p H H') (le : n' ≤ N') : Sx TT p c N' H' := by
  obtain ⟨kv, hp⟩ := pen_dk hP
  exact ⟨n', le, hP', tabs_kb hp t k⟩
theorem Sx.ext {TT : List (Addr × Str)} {p c : Addr} {N : Nat} {H H' : Hp} (h : Sx TT p c N H) (x : ExtN H H') (t : Tabs TT H') : Sx TT p c N H' := by
  obtain ⟨n, hn, hP, _⟩ := h
  exact ⟨n, hn, pen_ext hP x, t⟩
theorem made_sm {H : Hp} {x dx C : Addr} (nx : H x = none) (nd : H dx = none) : Same H (upd (upd H dx (.own x)) x (.ins C dx [])) := fun b o e => by
  rw [upd_ne (ne_of_none e nx), upd_ne (ne_of_none e nd)]
  exact e
/-- a promise that is not opened by itself -/
structure Wr (sp : Sp) (vs : List V) (H : Hp) (Q : VK) (E : XK) : Prop where
  out : sp vs H Q E
/-! ### what is due and what is told -/
inductive Out where
  | unlike
  | sign (i : Nat)
  | anti (i j : Nat)
  | minus (ks : List Nat)
  | none
def DueR (n : Nat) (X : Txs) (R : RLs) : Out → Prop
  | .unlike => ∃ x ∈ X, x.2.length ≠ n
  | .sign i => (∀ x ∈ X, x.2.length = n) ∧ ∃ x, X[i]? = some x ∧ 105 ∈ x.1 ∧ ∀ (j : Nat) (y : List Nat × List Nat), j < i → X[j]? = some y → ¬ 105 ∈ y.1
  | .anti i j => (∀ x ∈ X, x.2.length = n) ∧ (∀ x ∈ X, ¬ 105 ∈ x.1) ∧ i < j ∧ j < R.length ∧ xr R i j = 1 ∧ (∀ i', i' < i → xr R i' j = 0) ∧ ∀ i' j', i' < j' → j' < j → xr R i' j' = 0
  | .minus ks => (∀ x ∈ X, x.2.length = n) ∧ (∀ x ∈ X, ¬ 105 ∈ x.1) ∧ (∀ i j, i < j → j < R.length → xr R i j = 0) ∧ ∃ i mk, i < R.length ∧ (∀ i', i' < i → Good n (gsT n R) i') ∧ ¬ Good n (gsT n R) i ∧ mk < 2 ^ (keptL (gsT n R) i).length ∧ sx (kb (gsT n R) (keptL (gsT n R) i)) mk = ((gsT n R).getD i (0, 0)).1 ∧ ks = sel (keptL (gsT n R) i) mk ++ [i]
  | .none => (∀ x ∈ X, x.2.length = n) ∧ (∀ x ∈ X, ¬ 105 ∈ x.1) ∧ (∀ i j, i < j → j < R.length → xr R i j = 0) ∧ ∀ i, i < R.length → Good n (gsT n R) i
def OutAt (H : Hp) (a : Addr) : Out → Prop
  | .unlike => H a = some (.tup [.str "unlike", .str "size"])
  | .sign i => H a = some (.tup [.str "number", .str "sign", .int (i : Nat)])
  | .anti i j => H a = some (.tup [.str "anticommute", .int (i : Nat), .int (j : Nat)])
  | .minus ks => ∃ x, H x = some (.tup (natV ks)) ∧ H a = some (.tup [.str "minus", .ref x])
  | .none => H a = some (.tup [.str "none"])
def OutT (H : Hp) (a : Addr) (L : PLs) : Out → Prop
  | .sign i => ∃ q, L[i]? = some q ∧ H a = some (.tup [.str "number", .str "sign", .ref q.1])
  | D => OutAt H a D
theorem due_of {K : PySem.W.Frag} {size : Nat} {lt lr : Addr} {X : Txs} {R : RLs} {H : Hp} {Q : VK} {E : XK} (e1 : H lt = some (.lst (txV X))) (O : TxOk X) (l1 : X.length ≤ 10) (e2 : H lr = some (.lst (refR R))) (hR : RsAt size H R) (l2 : R.length ≤ 10) (l3 : size ≤ 60)
    (q : ∀ D H' a, DueR size X R D → Same H H' → OutAt H' a D → Q (.ref a) H') : Wr (spDue K) [.int (size : Nat), .ref lt, .ref lr] H Q E :=
  ⟨size, lt, lr, X, R, rfl, e1, O, l1, e2, hR, l2, l3, fun h H' a s e => q .unlike H' a h s e, fun hl => ⟨fun i x hx hi hb H' a s e => q (.sign i) H' a ⟨hl, x, hx, hi, hb⟩ s e, fun hn =>
    ⟨fun i j h1 h2 h3 h4 h5 H' a s e => q (.anti i j) H' a ⟨hl, hn, h1, h2, h3, h4, h5⟩ s e, fun hz => ⟨fun hg H' a s e => q .none H' a ⟨hl, hn, hz, hg⟩ s e, fun i hi hg ng mk H' x a m1 m2 s ex ea => q (.minus _) H' a ⟨hl, hn, hz, i, mk, hi, hg, ng, m1, m2, rfl⟩ s ⟨x, ex, ea⟩⟩⟩⟩⟩
theorem of_at {L : PLs} {X : Txs} (h : OfX L X) {i : Nat} {q : Addr × List Nat × Nat} (hq : L[i]? = some q) : ∃ x, X[i]? = some x ∧ q.2.1 = x.2 ∧ q.2.2 = phH x.1 := by
  have e : (L.map (fun q => (q.2.1, q.2.2)))[i]? = (X.map fun x => (x.2, phH x.1))[i]? := by
    unfold OfX at h
    rw [h]
  rw [List.getElem?_map, List.getElem?_map, hq] at e
  obtain ⟨x, hx, ex⟩ := Option.map_eq_some_iff.mp e.symm
  injection ex with e1 e2
  exact ⟨x, hx, e1.symm, e2.symm⟩
theorem of_at' {L : PLs} {X : Txs} (h : OfX L X) {i : Nat} {x : List Nat × List Nat} (hx : X[i]? = some x) : ∃ q, L[i]? = some q ∧ q.2.1 = x.2 ∧ q.2.2 = phH x.1 := by
  have e : (L.map (fun q => (q.2.1, q.2.2)))[i]? = (X.map fun x => (x.2, phH x.1))[i]? := by
    unfold OfX at h
    rw [h]
  rw [List.getElem?_map, List.getElem?_map, hx] at e
  obtain ⟨q, hq, ex⟩ := Option.map_eq_some_iff.mp e
  injection ex with e1 e2
  exact ⟨q, hq, e1, e2⟩
theorem of_len {L : PLs} {X : Txs} (h : OfX L X) : L.length = X.length := by
  have := congrArg List.length h
  rw [List.length_map, List.length_map] at this
  exact this
theorem told_of {n : Nat} {X : Txs} {R : RLs} {L : PLs} {D : Out} {H0 H : Hp} {x dx C CG CB CU CA CM : Addr} {Q Q2 : VK} (hD : DueR n X R D) (hR : RsAt n H0 R) (hL : OfX L X)
    (hX : (∀ x ∈ X, x.2.length = n) → (∀ x ∈ X, ¬ 105 ∈ x.1) → X = R.map fun r => base n r.2) (hh : ∀ x ∈ X, Hd4L x.1) (hl : X.length = R.length) (nx : H x = none) (nd : H dx = none)
    (q : ∀ H' pp, Same H H' → OutT H' pp L D → Q (.ref pp) H') (q0 : D = .none → ∀ H', Same H H' → Q2 .non H') :
    GW C CG CB CU CA CM n x L (upd (upd H dx (.own x)) x (.ins CG dx [])) Q2 (fun cls d H' => Er4 CB CU CA CM Q cls d H') := by
  have sm : Same H (upd (upd H dx (.own x)) x (.ins CG dx [])) := made_sm nx nd
  have lens : (∀ x ∈ X, x.2.length = n) → ∀ q ∈ L, q.2.1.length = n := fun h q hq => by
    obtain ⟨i, hi⟩ := List.getElem?_of_mem hq
    obtain ⟨x, hx, e1, _⟩ := of_at hL hi
    rw [e1]
    exact h x (List.mem_of_getElem? hx)
  have evens : (∀ x ∈ X, ¬ 105 ∈ x.1) → ∀ q ∈ L, q.2.2 % 2 = 0 := fun h q hq => by
    obtain ⟨i, hi⟩ := List.getElem?_of_mem hq
    obtain ⟨x, hx, _, e2⟩ := of_at hL hi
    have m := List.mem_of_getElem? hx
    have : ¬ phH x.1 % 2 = 1 := fun z => h x m ((phH_odd (hh x m)).mp z)
    rw [e2]
    omega
  have odd : ∀ {i : Nat} {x : List Nat × List Nat} {q : Addr × List Nat × Nat}, X[i]? = some x → L[i]? = some q → (q.2.2 % 2 = 1 ↔ 105 ∈ x.1) := fun {i x q} hx hq => by
    obtain ⟨y, hy, _, e2⟩ := of_at hL hq
    cases hx.symm.trans hy
    rw [e2]
    exact phH_odd (hh x (List.mem_of_getElem? hx))
  have nl : (∀ x ∈ X, x.2.length = n) → ¬ ∃ q ∈ L, q.2.1.length ≠ n := fun h ⟨q, hq, z⟩ => z (lens h q hq)
  have noodd : (∀ x ∈ X, ¬ 105 ∈ x.1) → ∀ {i : Nat} {q : Addr × List Nat × Nat}, L[i]? = some q → ¬ q.2.2 % 2 = 1 := fun h i q hq z => by
    have := evens h q (List.mem_of_getElem? hq)
    omega
  have lLR : L.length = R.length := (of_len hL).trans hl
  cases D with
  | unlike =>
    obtain ⟨x0, m0, n0⟩ := hD
    refine ⟨fun _ d H' s e => ⟨d, rfl, .inr (.inl ⟨_, rfl, e, fun p np => q _ p ((sm.trans s).trans (same_new np)) upd_same⟩)⟩, fun h => ?_⟩
    obtain ⟨i, hi⟩ := List.getElem?_of_mem m0
    obtain ⟨q1, hq1, e1, _⟩ := of_at' hL hi
    exact absurd ((congrArg List.length e1).symm.trans (h q1 (List.mem_of_getElem? hq1))) n0
  | sign i =>
    obtain ⟨h1, x0, hx0, hi0, hb⟩ := hD
    obtain ⟨q0', hq0, _⟩ := of_at' hL hx0
    refine ⟨fun z => absurd z (nl h1), fun _ => ⟨fun i1 q1 hq1 ho hev d H' s e => ?_, fun z => ?_⟩⟩
    · obtain ⟨x1, hx1, _⟩ := of_at hL hq1
      have m1 : 105 ∈ x1.1 := (odd hx1 hq1).mp ho
      have ei : i1 = i := by
        rcases Nat.lt_trichotomy i1 i with k | k | k
        · exact absurd m1 (hb i1 x1 k hx1)
        · exact k
        · have := hev i q0' k hq0
          have := (odd hx0 hq0).mpr hi0
          omega
      subst ei
      exact ⟨d, rfl, .inl ⟨_, _, rfl, e, fun p np => q _ p ((sm.trans s).trans (same_new np)) ⟨q1, hq1, upd_same⟩⟩⟩
    · have := z q0' (List.mem_of_getElem? hq0)
      have := (odd hx0 hq0).mpr hi0
      omega
  | anti i j =>
    obtain ⟨h1, h2, hij, hj, x1, hb1, hb2⟩ := hD
    have gs := gs_same hR hL (hX h1 h2)
    have xg' : ∀ {a b : Nat}, a < R.length → b < R.length → xg n ((gsOf L).map Prod.fst) a b = xr R a b := fun ha hb => by rw [gs]; exact xg_same hR ha hb
    refine ⟨fun z => absurd z (nl h1), fun _ => ⟨fun i1 q1 hq1 ho => absurd ho (noodd h2 hq1), fun _ => ⟨fun a b hab hb y1 y2 y3 d H' s e => ?_, fun z => ?_⟩⟩⟩
    · rw [lLR] at hb
      have ej : b = j := by
        rcases Nat.lt_trichotomy b j with k | k | k
        · rw [xg' (by omega) hb, hb2 a b hab k] at y1
          cases y1
        · exact k
        · have := y3 i j hij k
          rw [xg' (by omega) hj, x1] at this
          cases this
      subst ej
      have ei : a = i := by
        rcases Nat.lt_trichotomy a i with k | k | k
        · rw [xg' (by omega) hb, hb1 a k] at y1
          cases y1
        · exact k
        · have := y2 i k
          rw [xg' (by omega) hj, x1] at this
          cases this
      subst ei
      exact ⟨d, rfl, .inr (.inr (.inl ⟨_, _, rfl, e, fun p np => q _ p ((sm.trans s).trans (same_new np)) upd_same⟩))⟩
    · have := z i j hij (by rw [lLR]; exact hj)
      rw [xg' (by omega) hj, x1] at this
      cases this
  | minus ks =>
    obtain ⟨h1, h2, hz, i, mk, hi, hg, ng, m1, m2, ek⟩ := hD
    have gs := gs_same hR hL (hX h1 h2)
    have xg' : ∀ {a b : Nat}, a < R.length → b < R.length → xg n ((gsOf L).map Prod.fst) a b = xr R a b := fun ha hb => by rw [gs]; exact xg_same hR ha hb
    refine ⟨fun z => absurd z (nl h1), fun _ => ⟨fun i1 q1 hq1 ho => absurd ho (noodd h2 hq1), fun _ => ⟨fun a b hab hb y1 _ _ => ?_, fun _ => ⟨fun i1 hi1 hg1 ng1 mk1 H' t t1 t2 bt et d H2 s2 e2 => ?_, fun z => ?_⟩⟩⟩⟩
    · rw [lLR] at hb
      rw [xg' (by omega) hb, hz a b hab hb] at y1
      cases y1
    · rw [gs] at hg1 ng1 t1 t2 et
      have ei : i1 = i := by
        rcases Nat.lt_trichotomy i1 i with k | k | k
        · exact absurd (hg i1 k) ng1
        · exact k
        · exact absurd (hg1 i k) ng
      subst ei
      obtain ⟨T, RA⟩ := redAt_ex (gsT_cs hR hz) i1 (by rw [gsT_len]; omega)
      have em : mk1 = mk := indep_one RA.ind (by rw [kb_len]; exact t1) (by rw [kb_len]; exact m1) (t2.trans m2.symm)
      subst em
      have s3 : Same H H2 := fun b o eb => s2 _ _ (bt _ _ (ne_of_none eb nx) (sm _ _ eb))
      exact ⟨d, rfl, .inr (.inr (.inr ⟨_, rfl, e2, fun p np => q _ p (s3.trans (same_new np)) ⟨t, (same_new np) _ _ (s2 _ _ (by rw [et, ek]; rfl)), upd_same⟩⟩))⟩
    · have := z i (by rw [lLR]; exact hi)
      rw [gs] at this
      exact absurd this ng
  | none =>
    obtain ⟨h1, h2, hz, hg⟩ := hD
    have gs := gs_same hR hL (hX h1 h2)
    have xg' : ∀ {a b : Nat}, a < R.length → b < R.length → xg n ((gsOf L).map Prod.fst) a b = xr R a b := fun ha hb => by rw [gs]; exact xg_same hR ha hb
    refine ⟨fun z => absurd z (nl h1), fun _ => ⟨fun i1 q1 hq1 ho => absurd ho (noodd h2 hq1), fun _ => ⟨fun a b hab hb y1 _ _ => ?_, fun _ => ⟨fun i1 hi1 hg1 ng1 => ?_, fun _ H' M T bt _ _ _ _ => q0 rfl H' (fun b o eb => bt _ _ (ne_of_none eb nx) (sm _ _ eb))⟩⟩⟩⟩
    · rw [lLR] at hb
      rw [xg' (by omega) hb, hz a b hab hb] at y1
      cases y1
    · rw [gs] at ng1
      exact absurd (hg i1 (by omega)) ng1
/-! ### what is compared -/
def intD (ks : List Nat) : List PyData := ks.map fun k => .int (k : Nat)
def OutD : Out → PyData
  | .unlike => .tuple [.str "unlike", .str "size"]
  | .sign i => .tuple [.str "number", .str "sign", .int (i : Nat)]
  | .anti i j => .tuple [.str "anticommute", .int (i : Nat), .int (j : Nat)]
  | .minus ks => .tuple [.str "minus", .tuple (intD ks)]
  | .none => .tuple [.str "none"]
def isSign : Out → Bool
  | .sign _ => true
  | _ => false
theorem dpall_nat (K : PySem.W.Frag) (H : Hp) : ∀ ks : List Nat, DpAll K H (natV ks) (intD ks)
  | [] => .nil
  | k :: ks => .cons (.int _) (dpall_nat K H ks)
theorem intD_lay : ∀ ks : List Nat, PyData.canLayAll0 (intD ks) = true ∧ PyData.depthAll (intD ks) = 0
  | [] => ⟨rfl, rfl⟩
  | k :: ks => by
    obtain ⟨h1, h2⟩ := intD_lay ks
    refine ⟨?_, ?_⟩
    · show (PyData.canLay0 (.int (k : Nat)) && PyData.canLayAll0 (intD ks)) = true
      rw [h1]
      rfl
    · show max (PyData.depth (.int (k : Nat))) (PyData.depthAll (intD ks)) = 0
      rw [h2]
      rfl
theorem out_dp {K : PySem.W.Frag} {H : Hp} {a : Addr} {D : Out} (h : OutAt H a D) : Dp K H (.ref a) (OutD D) := by
  cases D with
  | unlike => exact .tup (SqT.of h) (.cons (.str _) (.cons (.str _) .nil))
  | sign i => exact .tup (SqT.of h) (.cons (.str _) (.cons (.str _) (.cons (.int _) .nil)))
  | anti i j => exact .tup (SqT.of h) (.cons (.str _) (.cons (.int _) (.cons (.int _) .nil)))
  | minus ks =>
    obtain ⟨x, e1, e2⟩ := h
    exact .tup (SqT.of e2) (.cons (.str _) (.cons (.tup (SqT.of e1) (dpall_nat K H ks)) .nil))
  | none => exact .tup (SqT.of h) (.cons (.str _) .nil)
theorem out_lay (D : Out) : (OutD D).canLay0 = true ∧ (OutD D).depth ≤ 2 := by
  cases D with
  | unlike => exact ⟨by decide +kernel, by decide +kernel⟩
  | sign i => exact ⟨(by decide +kernel : (OutD (.sign 0)).canLay0 = true), (by decide +kernel : (OutD (.sign 0)).depth ≤ 2)⟩
  | anti i j => exact ⟨(by decide +kernel : (OutD (.anti 0 0)).canLay0 = true), (by decide +kernel : (OutD (.anti 0 0)).depth ≤ 2)⟩
  | minus ks =>
    obtain ⟨h1, h2⟩ := intD_lay ks
    refine ⟨?_, ?_⟩
    · show (PyData.strOk ("minus" : Str) && (PyData.canLayAll0 (intD ks) && true)) = true
      rw [h1]
      decide +kernel
    · show max 0 (max (PyData.depthAll (intD ks) + 1) 0) + 1 ≤ 2
      rw [h2]
      decide
  | none => exact ⟨by decide +kernel, by decide +kernel⟩
theorem out_sh (D : Out) : SeqAt.shaped (OutD D) = true := by
  obtain ⟨h1, h2⟩ := out_lay D
  unfold SeqAt.shaped
  rw [h1, decide_eq_true (by omega)]
  rfl
theorem out_eqv (D : Out) : PyData.eqv (OutD D) (OutD D) = true := PySem.SeqAt.eqv_refl _ (out_lay D).1
/-- the first two -/
def Out2 : Out → PyData
  | .unlike => .tuple [.str "unlike", .str "size"]
  | .sign i => .tuple [.str "number", .str "sign"]
  | .anti i j => .tuple [.str "anticommute", .int (i : Nat)]
  | .minus ks => .tuple [.str "minus", .tuple (intD ks)]
  | .none => .tuple [.str "none"]
theorem out2_sh (D : Out) : SeqAt.shaped (Out2 D) = true := by
  cases D with
  | unlike => exact out_sh .unlike
  | sign i => show SeqAt.shaped (Out2 (.sign 0)) = true; decide +kernel
  | anti i j => show SeqAt.shaped (Out2 (.anti 0 0)) = true; decide +kernel
  | minus ks => exact out_sh (.minus ks)
  | none => exact out_sh .none
def signD : PyData := .tuple [.str "number", .str "sign"]
theorem out2_eqv (D : Out) : PyData.eqv (Out2 D) signD = isSign D := by
  cases D with
  | unlike => decide +kernel
  | sign i => show PyData.eqv (Out2 (.sign 0)) signD = true; decide +kernel
  | anti i j => show PyData.eqv (Out2 (.anti 0 0)) signD = false; decide +kernel
  | minus ks => show ((("minus" : Str) == "number") && (PyData.eqv (.tuple (intD ks)) (.str "sign") && true)) = false; rw [show (("minus" : Str) == "number") = false by decide +kernel]; rfl
  | none => decide +kernel
theorem two_tup {K : PySem.W.Frag} {H : Hp} {x y : V} {r : Option V} {a : Addr} {Q : VK} (e : H a = some (.tup (x :: y :: r.toList))) (q : ∀ H' p, Same H H' → H' p = some (.tup [x, y]) → Q (.ref p) H') : rSlA K (.ref a) none (some 2) H Q := by
  refine ⟨a, _, rfl, SqT.of e, fun h => ?_, fun h p np => q _ p (same_new np) ?_⟩
  · cases r with
    | none => exact q H a (Same.refl _) e
    | some z => exact absurd (show (2 : Nat) = 3 from h.2) (by decide)
  · rw [upd_same]
    cases r with
    | none => rfl
    | some z => rfl
theorem out_cut {K : PySem.W.Frag} {H : Hp} {a : Addr} {D : Out} {Q : VK} (h : OutAt H a D) (q : ∀ H' p, Same H H' → (∀ H2, Same H' H2 → Dp K H2 (.ref p) (Out2 D)) → Q (.ref p) H') : rSlA K (.ref a) none (some 2) H Q := by
  cases D with
  | unlike => exact two_tup (r := none) h fun H' p s e => q H' p s fun H2 s2 => .tup (SqT.of (s2 _ _ e)) (.cons (.str _) (.cons (.str _) .nil))
  | sign i => exact two_tup (r := some _) h fun H' p s e => q H' p s fun H2 s2 => .tup (SqT.of (s2 _ _ e)) (.cons (.str _) (.cons (.str _) .nil))
  | anti i j => exact two_tup (r := some _) h fun H' p s e => q H' p s fun H2 s2 => .tup (SqT.of (s2 _ _ e)) (.cons (.str _) (.cons (.int _) .nil))
  | minus ks =>
    obtain ⟨x, e1, e2⟩ := h
    exact two_tup (r := none) e2 fun H' p s e => q H' p s fun H2 s2 => .tup (SqT.of (s2 _ _ e)) (.cons (.str _) (.cons (.tup (SqT.of (s2 _ _ (s _ _ e1))) (dpall_nat K H2 ks)) .nil))
  | none => exact ⟨a, _, rfl, SqT.of h, fun _ => q H a (Same.refl _) fun H2 s2 => .tup (SqT.of (s2 _ _ h)) (.cons (.str _) .nil), fun z => absurd ⟨rfl, rfl⟩ z⟩
theorem OutAt.ext {H H' : Hp} {a : Addr} {D : Out} (s : ExtN H H') (h : OutAt H a D) : OutAt H' a D := by
  cases D with
  | minus ks =>
    obtain ⟨x, e1, e2⟩ := h
    exact ⟨x, s _ _ e1 (fun ps z => by cases z), s _ _ e2 (fun ps z => by cases z)⟩
  | unlike => exact s _ _ h (fun ps z => by cases z)
  | sign i => exact s _ _ h (fun ps z => by cases z)
  | anti i j => exact s _ _ h (fun ps z => by cases z)
  | none => exact s _ _ h (fun ps z => by cases z)
theorem OutAt.same {H H' : Hp} {a : Addr} {D : Out} (s : Same H H') (h : OutAt H a D) : OutAt H' a D := by
  cases D with
  | minus ks =>
    obtain ⟨x, e1, e2⟩ := h
    exact ⟨x, s _ _ e1, s _ _ e2⟩
  | unlike => exact s _ _ h
  | sign i => exact s _ _ h
  | anti i j => exact s _ _ h
  | none => exact s _ _ h
/-- texts behind all changes -/
structure TxW (n : Nat) (R : RLs) (X : Txs) : Prop where
  hd : ∀ x ∈ X, Hd4L x.1
  lt : ∀ x ∈ X, Lts8 x.2
  ne : ∀ x ∈ X, x.2 ≠ []
  ln : ∀ x ∈ X, x.2.length ≤ 30
  len : X.length = R.length
  key : (∀ x ∈ X, x.2.length = n) → (∀ x ∈ X, ¬ 105 ∈ x.1) → X = R.map fun r => base n r.2
theorem Hd4L.few {h : List Nat} (q : Hd4L h) : (∀ c ∈ h, c = 43 ∨ c = 45 ∨ c = 105) ∧ h.length ≤ 2 := by
  rcases q with rfl | rfl | rfl | rfl <;> exact ⟨by decide, by decide⟩
theorem TxW.ok {n : Nat} {R : RLs} {X : Txs} (W : TxW n R X) : TxOk X := ⟨fun x hx => (W.hd x hx).few.1, W.lt, fun x hx => by
  have := (W.hd x hx).few.2
  have := W.ln x hx
  omega⟩
theorem txV_len (X : Txs) : (txV X).length = X.length := List.length_map ..
theorem txV_set (X : Txs) (k : Nat) (x : List Nat × List Nat) : (txV X).set k (.str (mS (x.1 ++ x.2))) = txV (X.set k x) := by
  unfold txV
  rw [List.map_set]
theorem mem_set {α : Type} {X : List α} {k : Nat} {y x : α} (h : x ∈ X.set k y) : x = y ∨ x ∈ X := by
  rcases List.mem_or_eq_of_mem_set h with h | h
  · exact .inr h
  · exact .inl h
theorem TxW.base {n : Nat} {H : Hp} {R : RLs} (hR : RsAt n H R) (h1 : 1 ≤ n) (h2 : n ≤ 25) : TxW n R (R.map fun r => base n r.2) := by
  refine ⟨fun x hx => ?_, fun x hx => ?_, fun x hx => ?_, fun x hx => ?_, List.length_map .., fun _ _ => rfl⟩
  all_goals obtain ⟨r, hr, rfl⟩ := List.mem_map.mp hx
  · exact base_hd n r.2
  · exact LT_lts n r.2.1 r.2.2.1
  · intro z
    have := congrArg List.length z
    rw [show (KQ.base n r.2).2 = LT n r.2.1 r.2.2.1 from rfl, LT_len] at this
    simp at this
    omega
  · rw [show (KQ.base n r.2).2 = LT n r.2.1 r.2.2.1 from rfl, LT_len]
    omega
theorem TxW.head {n : Nat} {R : RLs} {X : Txs} (W : TxW n R X) {k : Nat} {x : List Nat × List Nat} (hx : X[k]? = some x) {h : List Nat} (hh : Hd4L h) (hi : 105 ∈ h) : TxW n R (X.set k (h, x.2)) := by
  have hk : k < X.length := (List.getElem?_eq_some_iff.mp hx).1
  have m := List.mem_of_getElem? hx
  refine ⟨fun y hy => ?_, fun y hy => ?_, fun y hy => ?_, fun y hy => ?_, by rw [List.length_set]; exact W.len, fun _ z => absurd hi (z (h, x.2) (List.mem_set hk _))⟩
  all_goals rcases mem_set hy with rfl | hy
  · exact hh
  · exact W.hd y hy
  · exact W.lt x m
  · exact W.lt y hy
  · exact W.ne x m
  · exact W.ne y hy
  · exact W.ln x m
  · exact W.ln y hy
theorem TxW.body {n : Nat} {R : RLs} {X : Txs} (W : TxW n R X) {k : Nat} {x : List Nat × List Nat} (hx : X[k]? = some x) {L : List Nat} (hL : Lts8 L) (h0 : L ≠ []) (h1 : L.length ≤ 30) (h2 : L.length ≠ n) : TxW n R (X.set k (x.1, L)) := by
  have hk : k < X.length := (List.getElem?_eq_some_iff.mp hx).1
  have m := List.mem_of_getElem? hx
  refine ⟨fun y hy => ?_, fun y hy => ?_, fun y hy => ?_, fun y hy => ?_, by rw [List.length_set]; exact W.len, fun z _ => absurd (z (x.1, L) (List.mem_set hk _)) h2⟩
  all_goals rcases mem_set hy with rfl | hy
  · exact W.hd x m
  · exact W.hd y hy
  · exact hL
  · exact W.lt y hy
  · exact h0
  · exact W.ne y hy
  · exact h1
  · exact W.ln y hy
/-! ### calls beside the pen -/
abbrev LL (a p : Addr) (v2 v3 v4 v5 v6 v7 v8 v9 v10 v11 v12 v13 v14 : Option V) : L2.St := [some (.ref a), some (.ref p), v2, v3, v4, v5, v6, v7, v8, v9, v10, v11, v12, v13, v14]
theorem pt_mid {X : Cx} {e : Expr} {t : L2.TT} (h : PT X e t) : PT X e (fun σ H Q => ∃ M : Bool → Hp → Prop, t σ H M ∧ ∀ b H1, M b H1 → Q b H1) :=
  ⟨fun pins s σ H _ I ⟨M, h1, h2⟩ => thn (h.run pins s σ H M I h1) fun b s1 ⟨H1, I1, q⟩ => ⟨H1, I1, h2 b H1 q⟩⟩
theorem pe_mid {X : Cx} {e : Expr} {t : TE} (h : PE X e t) : PE X e (fun σ H Q => ∃ M : VK, t σ H M ∧ ∀ v H1, M v H1 → Q v H1) :=
  ⟨fun pins s σ H _ I ⟨M, h1, h2⟩ => thn (h.run pins s σ H M I h1) fun v s1 ⟨x, H1, I1, r, q⟩ => ⟨x, H1, I1, r, h2 x H1 q⟩⟩
section
variable {TT : List (Addr × Str)} {p pc : Addr} {N : Nat} {H : Hp} {Q : VK} {E : XK}
theorem dr_of {m : Int} (x : Sx TT p pc N H) (hN : N < 1000000) (h0 : 0 < m) (hm : m ≤ 1000000) (q : ∀ (y : Nat) H', (y : Int) < m → Sx TT p pc (N + 1) H' → KB p H H' → Q (.int (y : Nat)) H') : Wr spDraw [.ref p, .int m] H Q E := by
  obtain ⟨n, hn, hP, tb⟩ := x
  refine ⟨p, pc, n, m, rfl, hP, by omega, h0, Nat.lt_of_le_of_lt (by omega : m.natAbs ≤ 1000000) (by decide), fun y H' y0 y1 hP' k => ?_⟩
  obtain ⟨j, rfl⟩ : ∃ j : Nat, y = (j : Int) := ⟨y.toNat, by omega⟩
  exact q j H' y1 (sx_step hP tb hP' (KB.eq k) (by omega)) (KB.eq k)
theorem st_of {n : Nat} {m : Int} (x : Sx TT p pc N H) (hN : N + 6000 < 1000000) (h1 : 1 ≤ n) (h2 : n ≤ 25) (hm : 1 ≤ m) (q : ∀ H' l R, KB p H H' → Sx TT p pc (N + 6000) H' → H l = none → H' l = some (.lst (refR R)) → RsAt n H' R → 1 ≤ R.length → Q (.ref l) H') :
    Wr spStrs [.ref p, .int (n : Nat), .int m] H Q E := by
  obtain ⟨k, hk, hP, tb⟩ := x
  obtain ⟨j, rfl⟩ : ∃ j : Nat, m = (j : Int) := ⟨m.toNat, by omega⟩
  exact ⟨p, pc, k, n, j, rfl, hP, by omega, h1, h2, by omega, fun H' l R k' kb hP' le nl el hR l1 _ => q H' l R kb (sx_step hP tb hP' kb (by omega)) nl el hR l1⟩
theorem pk_of {K : PySem.W.Frag} {l : Addr} {xs : List V} (x : Sx TT p pc N H) (hN : N < 1000000) (el : H l = some (.lst xs)) (h0 : xs ≠ []) (h1 : xs.length ≤ 1000) (q : ∀ v H', v ∈ xs → Sx TT p pc (N + 1) H' → KB p H H' → Q v H') : Wr (spPick K) [.ref p, .ref l] H Q E := by
  obtain ⟨n, hn, hP, tb⟩ := x
  exact ⟨p, pc, l, n, xs, rfl, hP, by omega, .inl (SqL.of el), h0, h1, fun i v H' hi hP' k => q v H' (List.mem_of_getElem? hi) (sx_step hP tb hP' (KB.eq k) (by omega)) (KB.eq k)⟩
theorem sm_of {n : Nat} (x : Sx TT p pc N H) (hN : N + 100 < 1000000) (h2 : n ≤ 25) (q : ∀ t T H', Fit n T → T.2.2 = 0 → TrAt H' t T → Sx TT p pc (N + 100) H' → KB p H H' → Q (.ref t) H') : Wr spSome [.ref p, .int (n : Nat)] H Q E := by
  obtain ⟨k, hk, hP, tb⟩ := x
  refine ⟨p, pc, k, n, rfl, hP, by omega, by omega, fun L t H' hL hl et hP' kp => ?_⟩
  have kb : KB p H H' := fun b o e hb => kp b o hb e
  exact q t (bv lx L, bv lz L, 0) H' (oft_fit (by omega)) rfl et (sx_step hP tb hP' kb (by omega)) kb
theorem sx_kb {R : RLs} {n : Nat} {H' : Hp} (x : Sx TT p pc N H) (k : KB p H H') (h : RsAt n H R) : RsAt n H' R := let ⟨_, _, hP, _⟩ := x; kb_rs hP k h
theorem sx_lst {l : Addr} {xs : List V} {H' : Hp} (x : Sx TT p pc N H) (k : KB p H H') (h : H l = some (.lst xs)) : H' l = some (.lst xs) := let ⟨_, _, hP, _⟩ := x; kb_lst hP k h
theorem sx_off {H : Hp} {D : Addr} {xs ys : List V} (hD : H D = some (.lst xs)) (t : Tabs TT H) : Tabs TT (upd H D (.lst ys)) := by
  intro q hq
  obtain ⟨ps, h1, h2, h3⟩ := t q hq
  refine ⟨ps, (upd_ne (ne_of h1 hD (by intro z; cases z))).trans h1, h2, fun pos cv hc => ?_⟩
  obtain ⟨c, e1, e2⟩ := h3 pos cv hc
  exact ⟨c, e1, (upd_ne (ne_of e2 hD (by intro z; unfold CodeO at z; cases z))).trans e2⟩
theorem sx_put {l : Addr} {xs ys : List V} (x : Sx TT p pc N H) (h : H l = some (.lst xs)) (nc : l ≠ pc) : Sx TT p pc N (upd H l (.lst ys)) := by
  obtain ⟨n, hn, hP, tb⟩ := x
  obtain ⟨ns, a, d, f, e1, e2, r⟩ := id hP
  exact ⟨n, hn, hP.same (upd_ne (ne_of e1 h (by intro z; cases z))) (upd_ne nc.symm), sx_off h tb⟩
theorem sx_new {l : Addr} (x : Sx TT p pc N H) (h : H l = none) : l ≠ pc := by
  obtain ⟨n, hn, hP, tb⟩ := x
  obtain ⟨ns, a, d, f, e1, e2, r⟩ := hP
  exact (ne_of_none e2 h).symm
end
/-- the rows' list -/
structure RwAt (n : Nat) (pc l : Addr) (R : RLs) (H : Hp) : Prop where
  el : H l = some (.lst (refR R))
  at' : RsAt n H R
  lo : 1 ≤ R.length
  ne : l ≠ pc
theorem RwAt.kb {TT : List (Addr × Str)} {n : Nat} {p pc l : Addr} {N : Nat} {R : RLs} {H H' : Hp} (h : RwAt n pc l R H) (x : Sx TT p pc N H) (k : KB p H H') : RwAt n pc l R H' := ⟨sx_lst x k h.el, sx_kb x k h.at', h.lo, h.ne⟩
theorem RwAt.same {n : Nat} {pc l : Addr} {R : RLs} {H H' : Hp} (h : RwAt n pc l R H) (s : Same H H') : RwAt n pc l R H' := ⟨s _ _ h.el, h.at'.same s, h.lo, h.ne⟩
theorem refR_set (R : RLs) (k : Nat) (r : Addr × T3) : (refR R).set k (.ref r.1) = refR (R.set k r) := by
  unfold refR
  rw [List.map_set]
theorem refR_ins (R : RLs) (k : Nat) (r : Addr × T3) : (refR R).take k ++ [V.ref r.1] ++ (refR R).drop k = refR (R.take k ++ [r] ++ R.drop k) := by
  unfold refR
  rw [List.map_append, List.map_append, List.map_take, List.map_drop]
  rfl
theorem RwAt.at {n : Nat} {pc l : Addr} {R : RLs} {H : Hp} (h : RwAt n pc l R H) {k : Nat} (hk : k < R.length) : ∃ r, R[k]? = some r ∧ TrAt H r.1 r.2 ∧ Fit n r.2 ∧ atI (refR R) ((k : Nat) : Int) = some (.ref r.1) := by
  have e : R[k]? = some (R[k]'hk) := List.getElem?_eq_getElem hk
  obtain ⟨e1, f⟩ := h.at' _ (List.mem_of_getElem? e)
  exact ⟨_, e, e1, f, atI_nat (by unfold refR; rw [List.getElem?_map, e]; rfl)⟩
theorem RwAt.set {n : Nat} {pc l : Addr} {R : RLs} {H : Hp} (h : RwAt n pc l R H) (k : Nat) {r : Addr} {t : T3} (er : TrAt H r t) (f : Fit n t) : RwAt n pc l (R.set k (r, t)) (upd H l (.lst ((refR R).set k (.ref r)))) := by
  refine ⟨?_, ?_, by rw [List.length_set]; exact h.lo, h.ne⟩
  · rw [upd_same]
    exact congrArg _ (congrArg _ (refR_set R k (r, t)))
  · refine RsAt.put h.el fun q hq => ?_
    rcases List.mem_or_eq_of_mem_set hq with hq | rfl
    · exact h.at' q hq
    · exact ⟨er, f⟩
theorem RwAt.ins {n : Nat} {pc l : Addr} {R : RLs} {H : Hp} (h : RwAt n pc l R H) (k : Nat) {r : Addr} {t : T3} (er : TrAt H r t) (f : Fit n t) : RwAt n pc l (R.take k ++ [(r, t)] ++ R.drop k) (upd H l (.lst ((refR R).take k ++ [.ref r] ++ (refR R).drop k))) := by
  refine ⟨?_, ?_, by simp; omega, h.ne⟩
  · rw [upd_same]
    exact congrArg _ (congrArg _ (refR_ins R k (r, t)))
  · refine RsAt.put h.el fun q hq => ?_
    rcases List.mem_append.mp hq with hq | hq
    · rcases List.mem_append.mp hq with hq | hq
      · exact h.at' q (List.mem_of_mem_take hq)
      · rw [List.mem_singleton.mp hq]
        exact ⟨er, f⟩
    · exact h.at' q (List.mem_of_mem_drop hq)
theorem ins_len {α : Type} (R : List α) (k : Nat) (r : α) (hk : k ≤ R.length) : (R.take k ++ [r] ++ R.drop k).length = R.length + 1 := by
  simp
  omega
/-- the texts' list -/
structure TxAt (pc l : Addr) (X : Txs) (H : Hp) : Prop where
  el : H l = some (.lst (txV X))
  ne : l ≠ pc
theorem TxAt.kb {TT : List (Addr × Str)} {p pc l : Addr} {N : Nat} {X : Txs} {H H' : Hp} (h : TxAt pc l X H) (x : Sx TT p pc N H) (k : KB p H H') : TxAt pc l X H' := ⟨sx_lst x k h.el, h.ne⟩
theorem TxAt.same {pc l : Addr} {X : Txs} {H H' : Hp} (h : TxAt pc l X H) (s : Same H H') : TxAt pc l X H' := ⟨s _ _ h.el, h.ne⟩
theorem TxAt.set {pc l : Addr} {X : Txs} {H : Hp} (h : TxAt pc l X H) (k : Nat) (x : List Nat × List Nat) : TxAt pc l (X.set k x) (upd H l (.lst ((txV X).set k (.str (mS (x.1 ++ x.2)))))) := by
  refine ⟨?_, h.ne⟩
  rw [upd_same, txV_set]
theorem RwAt.off {n : Nat} {pc l D : Addr} {R : RLs} {H : Hp} {xs : List V} {ys : List V} (h : RwAt n pc l R H) (e : H D = some (.lst xs)) (ne : l ≠ D) : RwAt n pc l R (upd H D (.lst ys)) := ⟨(upd_ne ne).trans h.el, RsAt.put e h.at', h.lo, h.ne⟩
theorem ixN_k {n j : Nat} (hj : j < n) : ixN n (j : Int) = some j := by
  unfold ixN
  rw [if_pos (by omega), if_pos (by omega), Int.toNat_natCast]
theorem txV_in {X : Txs} {k : Nat} {x : List Nat × List Nat} (h : X[k]? = some x) : atI (txV X) ((k : Nat) : Int) = some (.str (mS (x.1 ++ x.2))) := atI_nat (by unfold txV; rw [List.getElem?_map, h]; rfl)
theorem strip_m {h L : List Nat} (hh : h = [] ∨ h = [45]) (hL : Lts8 L) : (h ++ L).dropWhile (#[45] : Array Nat).contains = L := by
  have key : L.dropWhile (#[45] : Array Nat).contains = L := by
    cases L with
    | nil => rfl
    | cons c L =>
      have := isL_iff.mp (hL c (List.mem_cons_self ..))
      rw [List.dropWhile_cons_of_neg]
      rcases this with rfl | rfl | rfl | rfl <;> decide +kernel
  rcases hh with rfl | rfl
  · exact key
  · show (45 :: L).dropWhile _ = L
    rw [List.dropWhile_cons_of_pos (by decide +kernel)]
    exact key
theorem cut_last {L : List Nat} (h : L ≠ []) : cutS (mS L) none (some (-1)) = mS L.dropLast := by
  have h1 : 1 ≤ L.length := by
    cases L with
    | nil => exact absurd rfl h
    | cons a L => simp
  rw [mS_cut]
  have e : HT.sIx L.length L.length (some (-1)) = L.length - 1 := by
    show (if (-1 : Int) < 0 then ((-1 : Int) + (L.length : Int)).toNat else min (-1 : Int).toNat L.length) = _
    rw [if_pos (by decide)]
    omega
  rw [e, HT.sIx_none, List.drop_zero, Nat.sub_zero, List.dropLast_eq_take]
/-- what is no size -/
def OddV (H : Hp) (v : V) : Prop := v = .int 0 ∨ v = .int (-3) ∨ v = .non ∨ v = .bl true ∨ v = .str "2" ∨ ∃ l, v = .ref l ∧ H l = some (.lst [.int 3])
theorem OddV.ext {H H' : Hp} {v : V} (h : OddV H v) (x : ExtN H H') : OddV H' v := by
  rcases h with h | h | h | h | h | ⟨l, h, e⟩
  · exact .inl h
  · exact .inr (.inl h)
  · exact .inr (.inr (.inl h))
  · exact .inr (.inr (.inr (.inl h)))
  · exact .inr (.inr (.inr (.inr (.inl h))))
  · exact .inr (.inr (.inr (.inr (.inr ⟨l, h, x _ _ e (fun ps z => by cases z)⟩))))
theorem OddV.odd {H : Hp} {v : V} (h : OddV H v) : OddS H v := by
  rcases h with rfl | rfl | rfl | rfl | rfl | ⟨l, rfl, e⟩
  · exact ⟨.inl ⟨_, rfl⟩, fun i z => by cases z; decide⟩
  · exact ⟨.inl ⟨_, rfl⟩, fun i z => by cases z; decide⟩
  · exact ⟨.inr (.inl rfl), fun i z => by cases z⟩
  · exact ⟨.inr (.inr (.inl ⟨_, rfl⟩)), fun i z => by cases z⟩
  · exact ⟨.inr (.inr (.inr (.inl ⟨_, rfl⟩))), fun i z => by cases z⟩
  · exact ⟨.inr (.inr (.inr (.inr ⟨l, _, rfl, e⟩))), fun i z => by cases z⟩
def oddT (d : PyData) : PyData := .tuple [.str "number", .str "size", d]
theorem OddV.dp {H : Hp} {v : V} (h : OddV H v) : ∃ d, SeqAt.shaped (oddT d) = true ∧ PyData.eqv (oddT d) (oddT d) = true ∧ ∀ (K : PySem.W.Frag) (H' : Hp) (a : Addr), ExtN H H' → H' a = some (.tup [.str "number", .str "size", v]) → Dp K H' (.ref a) (oddT d) := by
  have mk : ∀ {v : V} {d : PyData} (K : PySem.W.Frag) (H' : Hp) (a : Addr), Dp K H' v d → H' a = some (.tup [.str "number", .str "size", v]) → Dp K H' (.ref a) (oddT d) := fun K H' a dv e => .tup (SqT.of e) (.cons (.str _) (.cons (.str _) (.cons dv .nil)))
  rcases h with rfl | rfl | rfl | rfl | rfl | ⟨l, rfl, e⟩
  · exact ⟨.int 0, by decide +kernel, by decide +kernel, fun K H' a _ => mk K H' a (.int _)⟩
  · exact ⟨.int (-3), by decide +kernel, by decide +kernel, fun K H' a _ => mk K H' a (.int _)⟩
  · exact ⟨.none, by decide +kernel, by decide +kernel, fun K H' a _ => mk K H' a .non⟩
  · exact ⟨.bool true, by decide +kernel, by decide +kernel, fun K H' a _ => mk K H' a (.bl _)⟩
  · exact ⟨.str "2", by decide +kernel, by decide +kernel, fun K H' a _ => mk K H' a (.str _)⟩
  · exact ⟨.list [.int 3], by decide +kernel, by decide +kernel, fun K H' a x => mk K H' a (.lst (SqL.of (x _ _ e (fun ps z => by cases z))) (.cons (.int _) .nil))⟩
theorem PauliAt.ext {C : Addr} {H H' : Hp} {a : Addr} {R : List Nat} {p : Nat} (s : ExtN H H') (h : PauliAt C H a R p) : PauliAt C H' a R p := by
  obtain ⟨dx, fs, e, r⟩ := h
  exact ⟨dx, fs, s _ _ e (fun ps z => by cases z), r⟩
theorem RwAt.ext {n : Nat} {pc l : Addr} {R : RLs} {H H' : Hp} (h : RwAt n pc l R H) (s : ExtN H H') : RwAt n pc l R H' := ⟨s _ _ h.el (fun ps z => by cases z), fun r hr => ⟨s _ _ (h.at' r hr).1 (fun ps z => by cases z), (h.at' r hr).2⟩, h.lo, h.ne⟩
end KQ

namespace KQ
open PySem PySem.Spec PyProof.Rows L2 LamX
/-! ### the law -/
theorem scLaw : FnScope ["_law_script", "_law_pen_here", "_law_lap", "_law_way", "_law_rows", "_law_at", "_law_plain", "_law_texts", "_law_due_here", "_law_told", "_law_given", "_law_odd", "_law_size", "_law_row", "_law_text_here"] ["_law_script"] (defScope sLaw) := ⟨rfl, rfl, rfl, by decide +kernel, rfl, by decide +kernel, by decide +kernel⟩
/-- all that the program's top has left -/
structure Top (K : PySem.W.Frag) (w : World) (mg : Str → Option Value) (C CT CB CU CA CM fI fE fB fU fA fM fBN hA lA fIs fHo fBo fHp fPa fCr fSh fBt fLg fIx fCo fLn fCk fRt fSo fFr fLo fC CG fGI fPn fDr fPk fSu fOn fCx fPr fLe fTx fOt fSm fGa fCd fWy fSt fMi fDu : Addr) (dB dBN dU dA dM dI dIs dHo dBo dHp dPa dCr dSh dBt dLg dIx dCo dLn dCk dRt dSo dFr dLo dC dGI dE dPn dDr dPk dSu dOn dCx dPr dLe dTx dOt dSm dGa dCd dWy dSt dMi dDu : FuncData) : Prop where
  G : GEnv K w mg C CT CB CU CA CM fI fE fB fU fA fM fBN hA lA dB dBN dU dA dM fIs fHo fBo fHp fPa fCr fSh fBt fLg fIx fCo fLn fCk fRt fSo fFr fLo fC dI dIs dHo dBo dHp dPa dCr dSh dBt dLg dIx dCo dLn dCk dRt dSo dFr dLo dC
  FGI : Fun K "__init__" "Group.__init__" sGI fGI dGI
  bGI : Binds K dGI ["self", "size", "strings"] []
  GC : GCl K mg CG fGI
  cne : C ≠ CG
  FE : Fun K "__eq__" "Pauli.__eq__" sEq fE dE
  bE : Binds K dE ["self", "other"] []
  V : Four K mg CT CB CU CA CM
  FPn : Fun K "_law_pen" "_law_pen" sPen fPn dPn
  bPn : Binds K dPn ["_law_script"] []
  gPn : mg "_law_pen" = some (.ref fPn)
  FDr : Fun K "_law_draw" "_law_draw" sDraw fDr dDr
  bDr : Binds K dDr ["_law_pen_here", "_law_many"] []
  gDr : mg "_law_draw" = some (.ref fDr)
  FPk : Fun K "_law_pick" "_law_pick" sPick fPk dPk
  bPk : Binds K dPk ["_law_pen_here", "_law_some"] []
  gPk : mg "_law_pick" = some (.ref fPk)
  FSu : Fun K "_law_shuffled" "_law_shuffled" sShuf fSu dSu
  bSu : Binds K dSu ["_law_pen_here", "_law_some"] []
  gSu : mg "_law_shuffled" = some (.ref fSu)
  FOn : Fun K "_law_ones" "_law_ones" sOnes fOn dOn
  bOn : Binds K dOn ["_law_number"] []
  gOn : mg "_law_ones" = some (.ref fOn)
  FCx : Fun K "_law_crosses" "_law_crosses" sCross fCx dCx
  bCx : Binds K dCx ["_law_one", "_law_two"] []
  gCx : mg "_law_crosses" = some (.ref fCx)
  FPr : Fun K "_law_product" "_law_product" sProd fPr dPr
  bPr : Binds K dPr ["_law_one", "_law_two"] []
  gPr : mg "_law_product" = some (.ref fPr)
  FLe : Fun K "_law_letters" "_law_letters" sLett fLe dLe
  bLe : Binds K dLe ["_law_string", "_law_size"] []
  gLe : mg "_law_letters" = some (.ref fLe)
  FTx : Fun K "_law_text" "_law_text" sText fTx dTx
  bTx : Binds K dTx ["_law_string", "_law_size"] []
  gTx : mg "_law_text" = some (.ref fTx)
  FOt : Fun K "_law_of_text" "_law_of_text" sOfT fOt dOt
  bOt : Binds K dOt ["_law_text_here"] []
  gOt : mg "_law_of_text" = some (.ref fOt)
  FSm : Fun K "_law_some_string" "_law_some_string" sSome fSm dSm
  bSm : Binds K dSm ["_law_pen_here", "_law_size"] []
  gSm : mg "_law_some_string" = some (.ref fSm)
  FGa : Fun K "_law_gate" "_law_gate" sGate fGa dGa
  bGa : Binds K dGa ["_law_string", "_law_kind", "_law_places"] []
  gGa : mg "_law_gate" = some (.ref fGa)
  FCd : Fun K "_law_drawn_code" "_law_drawn_code" sCode fCd dCd
  bCd : Binds K dCd ["_law_pen_here", "_law_size", "_law_rank", "_law_gauged"] []
  gCd : mg "_law_drawn_code" = some (.ref fCd)
  FWy : Fun K "_law_why" "_law_why" sWhy fWy dWy
  bWy : Binds K dWy ["_law_call"] []
  gWy : mg "_law_why" = some (.ref fWy)
  FSt : Fun K "_law_strings" "_law_strings" sStrs fSt dSt
  bSt : Binds K dSt ["_law_pen_here", "_law_size", "_law_many"] []
  gSt : mg "_law_strings" = some (.ref fSt)
  FMi : Fun K "_law_minus" "_law_minus" sMinus fMi dMi
  bMi : Binds K dMi ["_law_rows"] []
  gMi : mg "_law_minus" = some (.ref fMi)
  FDu : Fun K "_law_due" "_law_due" sDue fDu dDu
  bDu : Binds K dDu ["_law_size", "_law_texts", "_law_rows"] []
  gDu : mg "_law_due" = some (.ref fDu)
def spLawT (K : PySem.W.Frag) (P : Addr) : Sp := fun vs H Q _ => ∃ (a : Addr) (ns : List Int), vs = [.ref a] ∧ SqL K H a (ns.map V.int) ∧ ns.length ≤ 63 ∧ H P = some (.tbl #[]) ∧ ∀ H', Q (.bl true) H'
/-- as Fun.ok, the code object told -/
theorem ok_lawcode {P : Program} {w : World} {K : PySem.W.Frag} {mg : Str → Option Value} {base : Heap} {x qual : Str} {st : Stmt} {f c : Addr} {N ps : List Str} {k : Nat} {sp : Sp} {oc : Value} {od an : Option Addr} {osl : Array (Option Value)} {kV doc pm ct : Value}
    (lk : K.lookup f = some ⟨oc, od, .func (PySem.W.fnOf x qual (defArgs st) (defBody st) (defScope st) .none kV doc pm an (.ref c) ct), osl⟩) (hcd : PySem.W.codeIn K (.ref c) qual = true) (S : FnScope N ps (defScope st)) (len : ∀ vs H Q E, sp vs H Q E → vs.length = ps.length)
    (body : ∀ (A : Around) (outer : List Env) (s : Shared) (H : Hp) (vs : List V) (Q : VK) (E : XK), Room k (A.deeper (envOfC qual (defScope st) s.heap.objs.size f (.ref c))) → sp vs H Q E →
      ∃ t, PSs (cxOf CX0 P w K mg base N qual (defScope st) f (.ref c) A outer s H E).nox (defBody st) t ∧ t { nx := fun _ H' => Q .non H', rt := Q } (L2.start N vs) H) :
    FnOk P w K mg base CX0 (k + 1) f (PySem.W.fnOf x qual (defArgs st) (defBody st) (defScope st) .none kV doc pm an (.ref c) ct) ps sp := by
  refine fn_of lk hcd S len fun A outer s H vs Q E hr want => ?_
  obtain ⟨t, fits, rd⟩ := body A outer s H vs Q E hr want
  exact ⟨t, fits.nox, rd⟩
section
variable {P : Program} {w : World} {K : PySem.W.Frag} {mg : Str → Option Value} {base : Heap}
theorem ok_law {f c tP C CT CB CU CA CM fI fE fB fU fA fM fBN hA lA fIs fHo fBo fHp fPa fCr fSh fBt fLg fIx fCo fLn fCk fRt fSo fFr fLo fC CG fGI fPn fDr fPk fSu fOn fCx fPr fLe fTx fOt fSm fGa fCd fWy fSt fMi fDu : Addr} {dB dBN dU dA dM dI dIs dHo dBo dHp dPa dCr dSh dBt dLg dIx dCo dLn dCk dRt dSo dFr dLo dC dGI dE dPn dDr dPk dSu dOn dCx dPr dLe dTx dOt dSm dGa dCd dWy dSt dMi dDu : FuncData} {oc : Value} {od an : Option Addr} {osl : Array (Option Value)} {kV doc pm ct : Value}
    (lk : K.lookup f = some ⟨oc, od, .func (PySem.W.fnOf "law" "law" (defArgs sLaw) (defBody sLaw) (defScope sLaw) .none kV doc pm an (.ref c) ct), osl⟩) (hcd : PySem.W.codeIn K (.ref c) "law" = true) (TB : TabB base mg c tP)
    (T : Top K w mg C CT CB CU CA CM fI fE fB fU fA fM fBN hA lA fIs fHo fBo fHp fPa fCr fSh fBt fLg fIx fCo fLn fCk fRt fSo fFr fLo fC CG fGI fPn fDr fPk fSu fOn fCx fPr fLe fTx fOt fSm fGa fCd fWy fSt fMi fDu dB dBN dU dA dM dI dIs dHo dBo dHp dPa dCr dSh dBt dLg dIx dCo dLn dCk dRt dSo dFr dLo dC dGI dE dPn dDr dPk dSu dOn dCx dPr dLe dTx dOt dSm dGa dCd dWy dSt dMi dDu) : FnOk P w K mg base CX0 13 f (PySem.W.fnOf "law" "law" (defArgs sLaw) (defBody sLaw) (defScope sLaw) .none kV doc pm an (.ref c) ct) ["_law_script"] (spLawT K tP) := by
  have GG : FnOk P w K mg base (L2.CX P w) 8 fGI dGI ["self", "size", "strings"] (spGI K C CG CB CU CA CM) := ok_ginit T.FGI T.GC T.cne T.G
  have GI : FnOk P w K mg base (L2.CX P w) 4 fI dI ["self", "text"] (spInit C CT) := ok_init T.G.FI T.G.N T.G.FC T.G.bC T.G.gC T.G.TT T.G.hd T.G.B
  have GE : FnOk P w K mg base CX0 1 fE dE ["self", "other"] (spEqP C) := ok_eq T.FE T.G.N T.G.B
  have GPn : FnOk P w K mg base CX0 1 fPn dPn ["_law_script"] (spPen K) := ok_pen T.FPn T.G.B.int T.G.B.list
  have GDr : FnOk P w K mg base CX0 1 fDr dDr ["_law_pen_here", "_law_many"] (Wr spDraw) := (ok_draw T.FDr T.G.B.int T.G.B.len).imp fun _ _ _ _ h => h.out
  have GPk : FnOk P w K mg base CX0 2 fPk dPk ["_law_pen_here", "_law_some"] (Wr (spPick K)) := (ok_pick T.FPk T.FDr T.bDr T.gDr T.G.B.int T.G.B.len).imp fun _ _ _ _ h => h.out
  have GTx : FnOk P w K mg base CX0 2 fTx dTx ["_law_string", "_law_size"] spText := ok_text T.FTx T.FLe T.bLe T.gLe T.G.B
  have GSm : FnOk P w K mg base CX0 3 fSm dSm ["_law_pen_here", "_law_size"] (Wr spSome) := (ok_some T.FSm T.FDr T.bDr T.gDr T.FPk T.bPk T.gPk T.FOt T.bOt T.gOt T.G.B).imp fun _ _ _ _ h => h.out
  have GSt : FnOk P w K mg base CX0 5 fSt dSt ["_law_pen_here", "_law_size", "_law_many"] (Wr spStrs) := (ok_strs T.FSt T.FCd T.bCd T.gCd T.FDr T.bDr T.gDr T.FPk T.bPk T.gPk T.FSu T.bSu T.gSu T.FOt T.bOt T.gOt T.FGa T.bGa T.gGa T.FPr T.bPr T.gPr T.FOn T.bOn T.gOn T.G.B).imp fun _ _ _ _ h => h.out
  have GDu : FnOk P w K mg base CX0 5 fDu dDu ["_law_size", "_law_texts", "_law_rows"] (Wr (spDue K)) := (ok_due T.FDu T.FCx T.bCx T.gCx T.FMi T.bMi T.gMi T.FPr T.bPr T.gPr T.FOn T.bOn T.gOn T.G.B).imp fun _ _ _ _ h => h.out
  obtain ⟨ocW, odW, kVW, dcW, pmW, anW, cdvW, ctW, oslW, eW, lkW, hcW⟩ := T.FWy.ex
  have bW' := T.bWy
  rw [eW] at bW' lkW
  refine ok_lawcode lk hcd scLaw (fun vs H Q E h => ?_) (fun A outer s H vs Q E hr h => ?_)
  · obtain ⟨a, ns, rfl, _⟩ := h
    rfl
  · obtain ⟨a, ns, rfl, hS, hlen, hTP, q⟩ := h
    have r1 : Room 1 _ := hr.mono (by decide)
    have r2 : Room 2 _ := hr.mono (by decide)
    have r3 : Room 3 _ := hr.mono (by decide)
    have r5 : Room 5 _ := hr.mono (by decide)
    have hu : (A.deeper (envOfC "law" (defScope sLaw) s.heap.objs.size f (.ref c))).units + 64 < cLine := hr.units
    let TT : List (Addr × Str) := [(tP, (envOfC "law" (defScope sLaw) s.heap.objs.size f (.ref c)).qual ++ "<lambda>")]
    refine ⟨_, (C8.pss_cut (ps_set (i := 1) scLaw.nd rfl (.inl rfl) (pe_call GPn r1 (by rfl) T.gPn T.FPn.kp T.bPn .nil pass0 (pa_cons (pv 0) pa_nil)))
      (C8.pss_cut (ps_for PassesOwn.never rfl (pi_range1 (by rfl) T.G.B.range (pa_cons pe_int pa_nil)) (pg_name (i := 2) scLaw.nd rfl (.inl rfl))
        (C8.pss_cut (ps_asg (pe_tup (pa_cons (pe_ifExp (pt_cmpR op_eq (pe_call GDr r1 (by rfl) T.gDr T.FDr.kp T.bDr .nil pass0 (pa_cons (pv 1) (pa_cons pe_int pa_nil))) pe_int (nomark _)) pe_int (pe_op op_add pe_int (pe_call GDr r1 (by rfl) T.gDr T.FDr.kp T.bDr .nil pass0 (pa_cons (pv 1) (pa_cons pe_int pa_nil))))) (pa_cons (pe_call GDr r1 (by rfl) T.gDr T.FDr.kp T.bDr .nil pass0 (pa_cons (pv 1) (pa_cons pe_int pa_nil))) pa_nil))) (pg_tup rfl (pgs_cons (pg_name (i := 12) scLaw.nd rfl (.inr rfl)) (pgs_cons (pg_name (i := 3) scLaw.nd rfl (.inl rfl)) pgs_nil)))) (C8.pss_cut (ps_set (i := 4) scLaw.nd rfl (.inl rfl) (pe_slice sl_list (pe_call GSt r5 (by rfl) T.gSt T.FSt.kp T.bSt .nil pass0 (pa_cons (pv 1) (pa_cons (pv 12) (pa_cons (pe_op op_add pe_int (pe_call GDr r1 (by rfl) T.gDr T.FDr.kp T.bDr .nil pass0 (pa_cons (pv 1) (pa_cons (pe_callB (r := rMin K) (cr_min rfl) (by rfl) T.G.B.min bootMin (pa_cons (pe_lst (pa_cons (pv 12) (pa_cons pe_int pa_nil))) pa_nil)) pa_nil)))) pa_nil)))) po_none (po_some pe_int))) (C8.pss_cut (ps_if (pt_cmpR op_eq (pv 3) pe_int (nomark _)) (C8.pss_cut (ps_set (i := 5) scLaw.nd rfl (.inl rfl) (pe_call GDr r1 (by rfl) T.gDr T.FDr.kp T.bDr .nil pass0 (pa_cons (pv 1) (pa_cons (pe_callB call_len_seq (by rfl) T.G.B.len PySem.boot_len (pa_cons (pv 4) pa_nil)) pa_nil)))) (pss_one (ps_asg (pe_tup (pa_cons (pe_ix ix_tup (pe_ix ix_list (pv 4) (pv 5) (fun _ _ => rfl)) pe_int (fun _ _ => rfl)) (pa_cons (pe_ix ix_tup (pe_ix ix_list (pv 4) (pv 5) (fun _ _ => rfl)) pe_int (fun _ _ => rfl)) (pa_cons (pe_op op_sub pe_int (pe_ix ix_tup (pe_ix ix_list (pv 4) (pv 5) (fun _ _ => rfl)) pe_int (fun _ _ => rfl))) pa_nil)))) (pg_sub (pv 4) (pv 5) set_list)))) pss_nil) (C8.pss_cut (ps_if (pt_cmpR op_eq (pv 3) pe_int (nomark _)) (pss_one (ps_expr (pe_bm PySem.F.plainAttrs_list PySem.F.slot_list_insert PySem.F.type_list_insert mt_insert (pv 4) (pa_cons (pe_call GDr r1 (by rfl) T.gDr T.FDr.kp T.bDr .nil pass0 (pa_cons (pv 1) (pa_cons (pe_op op_add (pe_callB call_len_seq (by rfl) T.G.B.len PySem.boot_len (pa_cons (pv 4) pa_nil)) pe_int) pa_nil))) (pa_cons (pe_tup (pa_cons pe_int (pa_cons pe_int (pa_cons pe_int pa_nil)))) pa_nil))))) pss_nil) (C8.pss_cut (ps_if (pt_cmpR op_eq (pv 3) pe_int (nomark _)) (C8.pss_cut (ps_set (i := 6) scLaw.nd rfl (.inl rfl) (pe_call GSm r3 (by rfl) T.gSm T.FSm.kp T.bSm .nil pass0 (pa_cons (pv 1) (pa_cons (pv 12) pa_nil)))) (pss_one (ps_expr (pe_bm PySem.F.plainAttrs_list PySem.F.slot_list_insert PySem.F.type_list_insert mt_insert (pv 4) (pa_cons (pe_call GDr r1 (by rfl) T.gDr T.FDr.kp T.bDr .nil pass0 (pa_cons (pv 1) (pa_cons (pe_op op_add (pe_callB call_len_seq (by rfl) T.G.B.len PySem.boot_len (pa_cons (pv 4) pa_nil)) pe_int) pa_nil))) (pa_cons (pe_tup (pa_cons (pe_ix ix_tup (pv 6) pe_int (fun _ _ => rfl)) (pa_cons (pe_ix ix_tup (pv 6) pe_int (fun _ _ => rfl)) (pa_cons (pe_call GDr r1 (by rfl) T.gDr T.FDr.kp T.bDr .nil pass0 (pa_cons (pv 1) (pa_cons pe_int pa_nil))) pa_nil)))) pa_nil)))))) pss_nil) (C8.pss_cut (ps_setLc (i := 7) (own := [("_law_row", 13)]) (g := gName 13) (by rfl) scLaw.nd rfl rfl (sw_true rfl rfl rfl (by decide +kernel)) (pi_list (pv 4)) (blkOk_by (own := [("_law_row", 13)]) (N := ["_law_script", "_law_pen_here", "_law_lap", "_law_way", "_law_rows", "_law_at", "_law_plain", "_law_texts", "_law_due_here", "_law_told", "_law_given", "_law_odd", "_law_size", "_law_row", "_law_text_here"]) (sc := defScope sLaw) (by decide +kernel)) (fun _ _ _ _ _ => pg_name (i := 13) scLaw.nd rfl (Or.inl rfl)) (fun _ _ _ _ _ => pts_nil) (fun _ _ _ _ _ => (pe_call GTx r2 (by rfl) T.gTx T.FTx.kp T.bTx .nil pass0 (pa_cons (pv 13) (pa_cons (pv 12) pa_nil))))) (C8.pss_cut (ps_if (pt_mid (PW.pt (pw_or (pt_cmpR op_eq (pv 3) pe_int (nomark _)) (pw_or1 (pt_cmpR op_eq (pe_call GDr r1 (by rfl) T.gDr T.FDr.kp T.bDr .nil pass0 (pa_cons (pv 1) (pa_cons pe_int pa_nil))) pe_int (nomark _)))))) (C8.pss_cut (ps_set (i := 5) scLaw.nd rfl (.inl rfl) (pe_call GDr r1 (by rfl) T.gDr T.FDr.kp T.bDr .nil pass0 (pa_cons (pv 1) (pa_cons (pe_callB call_len_seq (by rfl) T.G.B.len PySem.boot_len (pa_cons (pv 7) pa_nil)) pa_nil)))) (pss_one (ps_asg (pe_op op_add_str (pe_call GPk r2 (by rfl) T.gPk T.FPk.kp T.bPk .nil pass0 (pa_cons (pv 1) (pa_cons (pe_lst (pa_cons pe_str (pa_cons pe_str pa_nil))) pa_nil))) (pe_bm PySem.F.plainAttrs_str PySem.F.slot_str_lstrip PySem.F.type_str_lstrip mt_lstripChars (pe_ix ix_list (pv 7) (pv 5) (fun _ _ => rfl)) (pa_cons pe_str pa_nil))) (pg_sub (pv 7) (pv 5) set_list)))) pss_nil) (C8.pss_cut (ps_if (pt_mid (PW.pt (pw_or (pt_cmpR op_eq (pv 3) pe_int (nomark _)) (pw_or1 (pt_cmpR op_eq (pe_call GDr r1 (by rfl) T.gDr T.FDr.kp T.bDr .nil pass0 (pa_cons (pv 1) (pa_cons pe_int pa_nil))) pe_int (nomark _)))))) (C8.pss_cut (ps_set (i := 5) scLaw.nd rfl (.inl rfl) (pe_call GDr r1 (by rfl) T.gDr T.FDr.kp T.bDr .nil pass0 (pa_cons (pv 1) (pa_cons (pe_callB call_len_seq (by rfl) T.G.B.len PySem.boot_len (pa_cons (pv 7) pa_nil)) pa_nil)))) (pss_one (ps_asg (pe_mid (pe_ifExp (pt_mid (PW.pt (pw_or (pt_cmpR op_eq (pe_call GDr r1 (by rfl) T.gDr T.FDr.kp T.bDr .nil pass0 (pa_cons (pv 1) (pa_cons pe_int pa_nil))) pe_int (nomark _)) (pw_or1 (pt_cmpR op_eq (pv 12) pe_int (nomark _)))))) (pe_op op_add_str (pe_ix ix_list (pv 7) (pv 5) (fun _ _ => rfl)) pe_str) (pe_slice sl_str (pe_ix ix_list (pv 7) (pv 5) (fun _ _ => rfl)) po_none (po_some (pe_un un_neg pe_int))))) (pg_sub (pv 7) (pv 5) set_list)))) pss_nil) (C8.pss_cut (ps_set (i := 10) scLaw.nd rfl (.inr rfl) (pe_lc (own := [("_law_text_here", 14)]) (g := gName 14) (by rfl) scLaw.nd (pi_list (pv 7)) (blkOk_by (own := [("_law_text_here", 14)]) (N := ["_law_script", "_law_pen_here", "_law_lap", "_law_way", "_law_rows", "_law_at", "_law_plain", "_law_texts", "_law_due_here", "_law_told", "_law_given", "_law_odd", "_law_size", "_law_row", "_law_text_here"]) (sc := defScope sLaw) (by decide +kernel)) (fun _ _ _ _ _ => pg_name (i := 14) scLaw.nd rfl (Or.inl rfl)) (fun _ _ _ _ _ => pts_nil) (fun _ _ _ _ _ => (pe_make T.G.N.mkf GI r5 (by rfl) T.G.N.g T.G.bI .nil passL (pa_cons (pv 14) pa_nil))))) (C8.pss_cut (ps_par (i := 8) (j := 9) rfl scLaw.nd rfl rfl (by decide) rfl rfl (pa_cons (pe_mid (pe_call GDu r5 (by rfl) T.gDu T.FDu.kp T.bDu .nil pass0 (pa_cons (pv 12) (pa_cons (pv 7) (pa_cons (pv 4) pa_nil))))) (pa_cons (pe_mid (pe_lamcall (T := TT) (TT := TTg CB CU CA CM) (Ng := ["_law_call", "_law_found", "e"]) (by rfl) T.gWy T.FWy.kp lkW hcW bW' scWhy rfl (.inl rfl) (why_gives T.V) TB rfl (List.mem_singleton.mpr rfl) (fun p hp _ => by rw [List.mem_singleton.mp hp]; rfl) hr (lamS_by (sc := defScope sLaw) (by decide +kernel)) rfl (fun _ _ _ _ _ => rfl) (fun A2 o2 s2 H2 E2 f2 c2 hr2 => pe_make T.GC.mkf GG (hr2.mono (by decide)) (by rfl) T.GC.g T.bGI .nil (passes_call (takes_of rfl rfl rfl rfl) (fun _ _ _ _ h => h)) (pa_cons (pv 12) (pa_cons (pv 10) pa_nil))))) pa_nil)) rfl) (pss_one (ps_if (pt_cmpR (op_eqD hu) (pe_slice sl_tupA (pv 8) po_none (po_some pe_int)) (pe_tup (pa_cons pe_str (pa_cons pe_str pa_nil))) (nomark _)) (pss_one (ps_if (PW.pt (pw_or (pt_cmpR (op_neD hu) (pe_slice sl_tupA (pv 9) po_none (po_some pe_int)) (pe_slice sl_tupA (pv 8) po_none (po_some pe_int)) (nomark _)) (pw_or1 (pt_not (pt_cmpR (op_own GE r1 T.G.N.eq T.G.N.ef T.G.N.en T.bE pass0) (pe_ix ix_tup (pv 9) pe_int (fun _ _ => rfl)) (pe_ix ix_list (pv 10) (pe_ix ix_tup (pv 8) pe_int (fun _ _ => rfl)) (fun _ _ => rfl)) (nomark _)))))) (pss_one (ps_ret pe_bl)) pss_nil)) (pss_one (ps_if (pt_cmpR (op_neD hu) (pv 9) (pv 8) (nomark _)) (pss_one (ps_ret pe_bl)) pss_nil)))))))))))))))
      (C8.pss_cut (ps_set (i := 11) scLaw.nd rfl (.inr rfl) (pe_call GPk r2 (by rfl) T.gPk T.FPk.kp T.bPk .nil pass0 (pa_cons (pv 1) (pa_cons (pe_lst (pa_cons pe_int (pa_cons (pe_un un_neg pe_int) (pa_cons pe_non (pa_cons pe_bl (pa_cons pe_str (pa_cons (pe_lst (pa_cons pe_int pa_nil)) pa_nil))))))) pa_nil))))
      (pss_one (ps_ret (pe_cmpR (op_eqD hu) (pe_mid (pe_lamcall (T := TT) (TT := TTg CB CU CA CM) (Ng := ["_law_call", "_law_found", "e"]) (by rfl) T.gWy T.FWy.kp lkW hcW bW' scWhy rfl (.inl rfl) (why_gives T.V) TB rfl (List.mem_singleton.mpr rfl) (fun p hp _ => by rw [List.mem_singleton.mp hp]; rfl) hr (lamS_by (sc := defScope sLaw) (by decide +kernel)) rfl (fun _ _ _ _ _ => rfl) (fun A2 o2 s2 H2 E2 f2 c2 hr2 => pe_make T.GC.mkf GG (hr2.mono (by decide)) (by rfl) T.GC.g T.bGI .nil (passes_call (takes_of rfl rfl rfl rfl) (fun _ _ _ _ h => h)) (pa_cons (pv 11) (pa_cons (pe_lst (pa_cons (pe_make T.G.N.mkf GI (hr2.mono (by decide)) (by rfl) T.G.N.g T.G.bI .nil (passes_call (takes_of rfl rfl rfl rfl) (fun _ _ _ _ h => h)) (pa_cons pe_str pa_nil)) (pa_cons (pe_make T.G.N.mkf GI (hr2.mono (by decide)) (by rfl) T.G.N.g T.G.bI .nil (passes_call (takes_of rfl rfl rfl rfl) (fun _ _ _ _ h => h)) (pa_cons pe_str pa_nil)) pa_nil))) pa_nil))))) (pe_tup (pa_cons pe_str (pa_cons pe_str (pa_cons (pv 11) pa_nil)))) (nomark _))))))), ?_⟩
    refine ⟨fun σ' H' => ∃ p pc : Addr, σ' = LL a p none none none none none none none none none none none none none ∧ Sx TT p pc 0 H', ?_, ?_⟩
    · refine ⟨_, rfl, a, ns, rfl, hS, hlen, fun H' p pc sm np nc hP => ⟨p, pc, rfl, 0, Nat.le_refl _, hP, fun q hq => ?_⟩⟩
      rw [List.mem_singleton.mp hq]
      exact TabS.nil (sm _ _ hTP)
    rintro _ H1 ⟨p, pc, rfl, x1⟩
    clear hTP hS
    -- five laps
    refine ⟨fun σ' H' => ∃ v2 v3 v4 v5 v6 v7 v8 v9 v10 v11 v12 v13 v14 : Option V, σ' = LL a p v2 v3 v4 v5 v6 v7 v8 v9 v10 v11 v12 v13 v14 ∧ Sx TT p pc 100000 H', ?_, ?_⟩
    · refine ⟨5, rfl, by decide, by decide, for_range (n := 5) (fun i σ' H' => ∃ v2 v3 v4 v5 v6 v7 v8 v9 v10 v11 v12 v13 v14 : Option V, σ' = LL a p v2 v3 v4 v5 v6 v7 v8 v9 v10 v11 v12 v13 v14 ∧ Sx TT p pc (10000 * i) H') ⟨none, none, none, none, none, none, none, none, none, none, none, none, none, rfl, x1⟩ ?_ ?_⟩
      rotate_left
      · rintro _ H3 ⟨v2, v3, v4, v5, v6, v7, v8, v9, v10, v11, v12, v13, v14, rfl, x3⟩
        exact ⟨_, _, _, _, _, _, _, _, _, _, _, _, _, rfl, x3.mono (by decide)⟩
      rintro i _ H3 hi ⟨v2, v3, v4, v5, v6, v7, v8, v9, v10, v11, v12, v13, v14, rfl, x3⟩
      clear x1
      -- size and way
      refine ⟨fun σ' H' => ∃ n way : Nat, 1 ≤ n ∧ n ≤ 23 ∧ σ' = LL a p (some (.int (0 + (i : Nat)))) (some (.int (way : Nat))) v4 v5 v6 v7 v8 v9 v10 v11 (some (.int (n : Nat))) v13 v14 ∧ Sx TT p pc (10000 * i + 3) H', ?_, ?_⟩
      · refine ⟨_, rfl, dr_of x3 (by omega) (by decide) (by decide) fun y H4 hy x4 _ => ⟨rfl, _, rfl, ite2 (fun _ => ?_) (fun _ => ?_)⟩⟩
        · exact ⟨_, rfl, dr_of x4 (by omega) (by decide) (by decide) fun y2 H5 hy2 x5 _ => ⟨by show 2 ≤ sizeLine; decide, fun r nr => ⟨r, _, rfl, .inl (.inl upd_same), rfl, _, _, rfl, _, _, rfl, rfl, 23, y2, by decide, by decide, rfl, (x5.same (same_new nr)).mono (by omega)⟩⟩⟩
        · refine ⟨_, rfl, dr_of x4 (by omega) (by decide) (by decide) fun y1 H5 hy1 x5 _ => ⟨_, _, rfl, rfl, _, rfl, dr_of x5 (by omega) (by decide) (by decide) fun y2 H6 hy2 x6 _ => ⟨by show 2 ≤ sizeLine; decide, fun r nr => ⟨r, _, rfl, .inl (.inl upd_same), rfl, _, _, rfl, _, _, rfl, rfl, 1 + y1, y2, by omega, by omega, ?_, (x6.same (same_new nr)).mono (by omega)⟩⟩⟩⟩
          rw [Int.natCast_add]
          rfl
      clear x3
      rintro _ H4 ⟨n, way, n1, n2, rfl, x4⟩
      -- rows
      refine ⟨fun σ' H' => ∃ (l : Addr) (R : RLs), σ' = LL a p (some (.int (0 + (i : Nat)))) (some (.int (way : Nat))) (some (.ref l)) v5 v6 v7 v8 v9 v10 v11 (some (.int (n : Nat))) v13 v14 ∧ Sx TT p pc (10000 * i + 6004) H' ∧ RwAt n pc l R H' ∧ R.length ≤ 8, ?_, ?_⟩
      · refine ⟨_, rfl, _, rfl, _, rfl, _, rfl, by show 2 ≤ sizeLine; decide, fun lm nm => ⟨lm, [(n : Int), 5], rfl, SqL.of upd_same, by show 0 < 2; decide, fun mn hm1 hm2 => ?_⟩⟩
        have m0 : 0 < mn ∧ mn ≤ 1000000 := by
          simp only [List.mem_cons, List.mem_nil_iff, or_false] at hm1
          rcases hm1 with rfl | rfl <;> omega
        refine dr_of (x4.same (same_new nm)) (by omega) m0.1 m0.2 fun y H5 hy x5 _ => ⟨_, _, rfl, rfl, st_of x5 (by omega) n1 (by omega) (by omega) fun H6 l R kb x6 nl el hR l1 => ⟨_, rfl, l, _, rfl, SqL.of el, fun l2 nl2 => ⟨l2, R.take 8, rfl, ?_, ⟨?_, ?_, ?_, ?_⟩, ?_⟩⟩⟩
        · exact (x6.same (same_new nl2)).mono (by omega)
        · rw [upd_same, show cutV (refR R) none (some 8) = (refR R).take 8 from cutV_to _ 8]
          unfold refR
          rw [List.map_take]
        · exact fun r hr => (hR.same (same_new nl2)) r (List.mem_of_mem_take hr)
        · rw [List.length_take]
          omega
        · exact sx_new x6 nl2
        · rw [List.length_take]
          omega
      clear x4
      rintro _ H5 ⟨l, R, rfl, x5, rw5, l5⟩
      -- one turned
      refine ⟨fun σ' H' => ∃ (R : RLs) (v5 : Option V), σ' = LL a p (some (.int (0 + (i : Nat)))) (some (.int (way : Nat))) (some (.ref l)) v5 v6 v7 v8 v9 v10 v11 (some (.int (n : Nat))) v13 v14 ∧ Sx TT p pc (10000 * i + 6005) H' ∧ RwAt n pc l R H' ∧ R.length ≤ 8, ?_, ?_⟩
      · refine ⟨_, rfl, rfl, _, rfl, ite2 (fun _ => ?_) (fun _ => ⟨R, v5, rfl, x5.mono (by omega), rw5, l5⟩)⟩
        refine ⟨fun σ' H' => ∃ k : Nat, k < R.length ∧ σ' = LL a p (some (.int (0 + (i : Nat)))) (some (.int (way : Nat))) (some (.ref l)) (some (.int (k : Nat))) v6 v7 v8 v9 v10 v11 (some (.int (n : Nat))) v13 v14 ∧ Sx TT p pc (10000 * i + 6005) H' ∧ RwAt n pc l R H', ?_, ?_⟩
        · have := rw5.lo
          refine ⟨_, rfl, _, rfl, l, _, rfl, .inl (SqL.of rw5.el), dr_of x5 (by omega) (by rw [refR_len]; omega) (by rw [refR_len]; omega) fun y H6 hy x6 k6 => ⟨y, ?_, rfl, x6, rw5.kb x5 k6⟩⟩
          rw [refR_len] at hy
          omega
        rintro _ H6 ⟨k, hk, rfl, x6, rw6⟩
        obtain ⟨r, hr, er, fr, ar⟩ := rw6.at hk
        refine ⟨_, rfl, _, rfl, l, _, _, _, rfl, rfl, SqL.of rw6.el, ar, r.1, _, _, _, rfl, rfl, SqT.of er, rfl, _, rfl, _, rfl, l, _, _, _, rfl, rfl, SqL.of rw6.el, ar, r.1, _, _, _, rfl, rfl, SqT.of er, rfl, _, rfl, _, rfl, l, _, _, _, rfl, rfl, SqL.of rw6.el, ar, r.1, _, _, _, rfl, rfl, SqT.of er, rfl, _, _, rfl, rfl, by show 3 ≤ sizeLine; decide, fun r2 nr2 => ⟨_, rfl, _, rfl, l, refR R, k, k, rfl, rfl, (same_new nr2) _ _ rw6.el, ?_, ?_⟩⟩
        · rw [refR_len]
          exact ixN_k hk
        have er2 : TrAt (upd H6 r2 (.tup [.int (r.2.1 : Nat), .int (r.2.2.1 : Nat), .int (1 - (r.2.2.2 : Nat))])) r2 (r.2.1, r.2.2.1, 1 - r.2.2.2) := by
          unfold TrAt
          rw [upd_same]
          have := fr.2.2
          rw [show ((1 - r.2.2.2 : Nat) : Int) = 1 - (r.2.2.2 : Nat) by omega]
        have rw7 := (rw6.same (same_new nr2)).set k er2 ⟨fr.1, fr.2.1, by show 1 - r.2.2.2 < 2; omega⟩
        exact ⟨_, _, rfl, sx_put (x6.same (same_new nr2)) ((same_new nr2) _ _ rw6.el) rw6.ne, rw7, by rw [List.length_set]; exact l5⟩
      clear x5 rw5 l5 R
      rintro _ H6 ⟨R, v5, rfl, x6, rw6, l6⟩
      -- minus one put in
      refine ⟨fun σ' H' => ∃ R : RLs, σ' = LL a p (some (.int (0 + (i : Nat)))) (some (.int (way : Nat))) (some (.ref l)) v5 v6 v7 v8 v9 v10 v11 (some (.int (n : Nat))) v13 v14 ∧ Sx TT p pc (10000 * i + 6006) H' ∧ RwAt n pc l R H' ∧ R.length ≤ 9, ?_, ?_⟩
      · refine ⟨_, rfl, rfl, _, rfl, ite2 (fun _ => ?_) (fun _ => ⟨R, rfl, x6.mono (by omega), rw6, by omega⟩)⟩
        have hlen' : ((refR R).length : Int) = (R.length : Nat) := by rw [refR_len]
        refine ⟨_, rfl, .inl ⟨rfl, _, SqL.of rw6.el⟩, _, rfl, _, rfl, l, _, rfl, .inl (SqL.of rw6.el), _, _, rfl, rfl, dr_of x6 (by omega) (by omega) (by omega) fun y H7 hy x7 k7 => ⟨by show 3 ≤ sizeLine; decide, fun r2 nr2 => ?_⟩⟩
        have rw7 := (rw6.kb x6 k7).same (same_new (o := .tup [.int 0, .int 0, .int 1]) nr2)
        refine ⟨l, refR R, (y : Nat), .ref r2, rfl, rfl, rw7.el, by rw [refR_len]; exact Nat.lt_of_le_of_lt (by omega : R.length ≤ 8) (by decide), by omega, by omega, ⟨_, rfl, sx_put (x7.same (same_new nr2)) rw7.el rw6.ne, rw7.ins y (r := r2) (t := (0, 0, 1)) upd_same ⟨Nat.two_pow_pos n, Nat.two_pow_pos n, by show 1 < 2; decide⟩, by rw [ins_len _ _ _ (by omega)]; omega⟩⟩
      clear x6 rw6 l6 R
      rintro _ H7 ⟨R, rfl, x7, rw7, l7⟩
      -- one put in
      refine ⟨fun σ' H' => ∃ (R : RLs) (v6 : Option V), σ' = LL a p (some (.int (0 + (i : Nat)))) (some (.int (way : Nat))) (some (.ref l)) v5 v6 v7 v8 v9 v10 v11 (some (.int (n : Nat))) v13 v14 ∧ Sx TT p pc (10000 * i + 6200) H' ∧ RwAt n pc l R H' ∧ R.length ≤ 10, ?_, ?_⟩
      · refine ⟨_, rfl, rfl, _, rfl, ite2 (fun _ => ?_) (fun _ => ⟨R, v6, rfl, x7.mono (by omega), rw7, by omega⟩)⟩
        refine ⟨fun σ' H' => ∃ (t : Addr) (T : T3), σ' = LL a p (some (.int (0 + (i : Nat)))) (some (.int (way : Nat))) (some (.ref l)) v5 (some (.ref t)) v7 v8 v9 v10 v11 (some (.int (n : Nat))) v13 v14 ∧ Sx TT p pc (10000 * i + 6106) H' ∧ RwAt n pc l R H' ∧ TrAt H' t T ∧ Fit n T, ?_, ?_⟩
        · exact ⟨_, rfl, _, rfl, sm_of x7 (by omega) (by omega) fun t T H8 f8 _ et x8 k8 => ⟨t, T, rfl, x8, rw7.kb x7 k8, et, f8⟩⟩
        rintro _ H8 ⟨t, T, rfl, x8, rw8, et, ft⟩
        have hlen' : ((refR R).length : Int) = (R.length : Nat) := by rw [refR_len]
        refine ⟨_, rfl, .inl ⟨rfl, _, SqL.of rw8.el⟩, _, rfl, _, rfl, l, _, rfl, .inl (SqL.of rw8.el), _, _, rfl, rfl, dr_of x8 (by omega) (by omega) (by omega) fun y H9 hy x9 k9 => ?_⟩
        have rw9 := rw8.kb x8 k9
        have et9 : TrAt H9 t T := by
          obtain ⟨_, _, hP, _⟩ := x8
          obtain ⟨kv, hp⟩ := pen_dk hP
          exact k9 _ _ et (ne_of et hp (by intro z; cases z))
        refine ⟨_, rfl, t, _, _, _, rfl, rfl, SqT.of et9, rfl, _, rfl, t, _, _, _, rfl, rfl, SqT.of et9, rfl, _, rfl, dr_of x9 (by omega) (by decide) (by decide) fun s HA hs xA kA => ⟨by show 3 ≤ sizeLine; decide, fun r2 nr2 => ?_⟩⟩
        have rwA := (rw9.kb x9 kA).same (same_new (o := .tup [.int (T.1 : Nat), .int (T.2.1 : Nat), .int (s : Nat)]) nr2)
        exact ⟨l, refR R, (y : Nat), .ref r2, rfl, rfl, rwA.el, by rw [refR_len]; exact Nat.lt_of_le_of_lt (by omega : R.length ≤ 9) (by decide), by omega, by omega, ⟨_, _, rfl, (sx_put (xA.same (same_new nr2)) rwA.el rwA.ne).mono (by omega), rwA.ins y (r := r2) (t := (T.1, T.2.1, s)) upd_same ⟨ft.1, ft.2.1, by show s < 2; omega⟩, by rw [ins_len _ _ _ (by omega)]; omega⟩⟩
      clear x7 rw7 l7 R
      rintro _ H8 ⟨R, v6, rfl, x8, rw8, l8⟩
      -- texts
      refine ⟨fun σ' H' => ∃ t : Addr, σ' = LL a p (some (.int (0 + (i : Nat)))) (some (.int (way : Nat))) (some (.ref l)) v5 v6 (some (.ref t)) v8 v9 v10 v11 (some (.int (n : Nat))) v13 v14 ∧ Sx TT p pc (10000 * i + 6200) H' ∧ RwAt n pc l R H' ∧ TxAt pc t (R.map fun r => KQ.base n r.2) H' ∧ l ≠ t, ?_, ?_⟩
      · refine ⟨_, rfl, l, rfl, ⟨_, SqL.of rw8.el⟩, fun D nD => ?_⟩
        refine lc_list (K := K) (a := l) (xs := refR R) (Pv := fun j Hc => Same H8 Hc ∧ Hc D = some (.lst (txV ((R.take j).map fun r => KQ.base n r.2)))) ⟨same_new nD, upd_same⟩ (fun j Hc _ ⟨sc, _⟩ => SqL.of (sc _ _ rw8.el)) ?_ ?_
        · rintro j v Hc hj ⟨sc, eD⟩
          obtain ⟨r, hr, rfl⟩ := refR_at hj
          obtain ⟨er, fr⟩ := rw8.at' r (List.mem_of_getElem? hr)
          have hjl : j < R.length := (List.getElem?_eq_some_iff.mp hr).1
          refine ⟨rfl, _, rfl, _, rfl, r.1, n, r.2, rfl, sc _ _ er, fr, by omega, _, eD, ?_, same_put0 sc nD, ?_⟩
          · rw [txV_len, List.length_map, List.length_take]
            exact Nat.lt_of_le_of_lt (by omega : min j R.length ≤ 10) (by decide)
          · rw [upd_same, take_snoc hr]
            unfold txV
            rw [List.map_append, List.map_append]
            rfl
        · rintro Hc ⟨sc, eD⟩
          rw [refR_len, List.take_length] at eD
          exact ⟨D, rfl, x8.same sc, rw8.same sc, ⟨eD, sx_new x8 nD⟩, ne_of_none rw8.el nD⟩
      clear x8
      rintro _ H9 ⟨t, rfl, x9, rw9, tx9, nlt⟩
      have tw9 := TxW.base rw9.at' n1 (by omega)
      have ln9 : ∀ x ∈ R.map (fun r => KQ.base n r.2), x.2.length = n ∧ (x.1 = [] ∨ x.1 = [45]) := fun x hx => by
        obtain ⟨r, hr, rfl⟩ := List.mem_map.mp hx
        refine ⟨LT_len _ _ _, ?_⟩
        show (if r.2.2.2 = 0 then [] else [45]) = [] ∨ (if r.2.2.2 = 0 then [] else [45]) = [45]
        split
        · exact .inl rfl
        · exact .inr rfl
      generalize hX : (R.map fun r => KQ.base n r.2) = X at tx9 tw9 ln9
      -- a head with i
      refine ⟨fun σ' H' => ∃ (X : Txs) (v5 : Option V), σ' = LL a p (some (.int (0 + (i : Nat)))) (some (.int (way : Nat))) (some (.ref l)) v5 v6 (some (.ref t)) v8 v9 v10 v11 (some (.int (n : Nat))) v13 v14 ∧ Sx TT p pc (10000 * i + 6300) H' ∧ RwAt n pc l R H' ∧ TxAt pc t X H' ∧ TxW n R X ∧ ∀ x ∈ X, x.2.length = n, ?_, ?_⟩
      · refine ⟨fun _ H' => Sx TT p pc (10000 * i + 6201) H' ∧ RwAt n pc l R H' ∧ TxAt pc t X H', ?_, ?_⟩
        · refine ⟨_, rfl, rfl, _, rfl, ite2 (fun _ => ?_) (fun _ => ?_)⟩
          · exact ⟨x9.mono (by omega), rw9, tx9⟩
          · exact ⟨_, rfl, dr_of x9 (by omega) (by decide) (by decide) fun y HA hy xA kA => ⟨rfl, _, rfl, xA, rw9.kb x9 kA, tx9.kb x9 kA⟩⟩
        rintro b HA ⟨xA, rwA, txA⟩
        cases b
        · exact iteF ⟨X, v5, rfl, xA.mono (by omega), rwA, txA, tw9, fun x hx => (ln9 x hx).1⟩
        refine iteT ?_
        have lX := tw9.len
        have lo := rwA.lo
        refine ⟨fun σ' H' => ∃ k : Nat, k < X.length ∧ σ' = LL a p (some (.int (0 + (i : Nat)))) (some (.int (way : Nat))) (some (.ref l)) (some (.int (k : Nat))) v6 (some (.ref t)) v8 v9 v10 v11 (some (.int (n : Nat))) v13 v14 ∧ Sx TT p pc (10000 * i + 6202) H' ∧ RwAt n pc l R H' ∧ TxAt pc t X H', ?_, ?_⟩
        · refine ⟨_, rfl, _, rfl, t, _, rfl, .inl (SqL.of txA.el), dr_of xA (by omega) (by rw [txV_len]; omega) (by rw [txV_len]; omega) fun y HB hy xB kB => ⟨y, ?_, rfl, xB, rwA.kb xA kB, txA.kb xA kB⟩⟩
          rw [txV_len] at hy
          omega
        rintro _ HB ⟨k, hk, rfl, xB, rwB, txB⟩
        have hx : X[k]? = some (X[k]'hk) := List.getElem?_eq_getElem hk
        generalize X[k]'hk = x at hx
        have mx := List.mem_of_getElem? hx
        refine ⟨_, rfl, by show 2 ≤ sizeLine; decide, fun lp np => pk_of (xB.same (same_new np)) (by omega) upd_same (by simp) (by show 2 ≤ 1000; decide) fun v HC hv xC kC => ?_⟩
        have rwC := (rwB.same (same_new np)).kb (xB.same (same_new np)) kC
        have txC := (txB.same (same_new np)).kb (xB.same (same_new np)) kC
        obtain ⟨h, hh, hi, rfl⟩ : ∃ h, Hd4L h ∧ 105 ∈ h ∧ v = .str (mS h) := by
          simp only [List.mem_cons, List.mem_nil_iff, or_false] at hv
          rcases hv with rfl | rfl
          · exact ⟨[105], .inr (.inr (.inl rfl)), by decide, by decide +kernel⟩
          · exact ⟨[45, 105], .inr (.inr (.inr rfl)), by decide, by decide +kernel⟩
        have hz : (mS (x.1 ++ x.2)).length ≤ sizeLine := by
          rw [mS_len, List.length_append]
          have := (tw9.hd x mx).few.2
          have := tw9.ln x mx
          exact sizeBig (by omega)
        have st : Txt.lstripChars (mS (x.1 ++ x.2)) ("-" : Str) = mS x.2 := by
          rw [show ("-" : Str) = mS [45] from e_minus, lstrip_eq, strip_m (ln9 x mx).2 (tw9.lt x mx)]
        refine ⟨_, rfl, _, rfl, t, _, _, _, rfl, rfl, SqL.of txC.el, txV_in hx, rfl, _, _, rfl, rfl, hz, ?_⟩
        rw [st]
        refine ⟨_, _, rfl, rfl, ?_, _, rfl, _, rfl, t, txV X, k, k, rfl, rfl, txC.el, by rw [txV_len]; exact ixN_k hk, ?_⟩
        · rw [mS_len, mS_len]
          have := hh.few.2
          have := tw9.ln x mx
          exact sizeBig (by omega)
        rw [mS_app]
        exact ⟨X.set k (h, x.2), _, rfl, (sx_put xC txC.el txC.ne).mono (by omega), rwC.off txC.el nlt, txC.set k (h, x.2), tw9.head hx hh hi, fun y hy => by
          rcases mem_set hy with rfl | hy
          · exact (ln9 x mx).1
          · exact (ln9 y hy).1⟩
      clear x9 rw9 tx9 tw9 ln9
      subst hX
      rintro _ HA ⟨X, v5, rfl, xA, rwA, txA, twA, lnA⟩
      -- a text longer or shorter
      refine ⟨fun σ' H' => ∃ (X : Txs) (v5 : Option V), σ' = LL a p (some (.int (0 + (i : Nat)))) (some (.int (way : Nat))) (some (.ref l)) v5 v6 (some (.ref t)) v8 v9 v10 v11 (some (.int (n : Nat))) v13 v14 ∧ Sx TT p pc (10000 * i + 6400) H' ∧ RwAt n pc l R H' ∧ TxAt pc t X H' ∧ TxW n R X, ?_, ?_⟩
      · refine ⟨fun _ H' => Sx TT p pc (10000 * i + 6301) H' ∧ RwAt n pc l R H' ∧ TxAt pc t X H', ?_, ?_⟩
        · refine ⟨_, rfl, rfl, _, rfl, ite2 (fun _ => ?_) (fun _ => ?_)⟩
          · exact ⟨xA.mono (by omega), rwA, txA⟩
          · exact ⟨_, rfl, dr_of xA (by omega) (by decide) (by decide) fun y HB hy xB kB => ⟨rfl, _, rfl, xB, rwA.kb xA kB, txA.kb xA kB⟩⟩
        rintro b HB ⟨xB, rwB, txB⟩
        cases b
        · exact iteF ⟨X, v5, rfl, xB.mono (by omega), rwB, txB, twA⟩
        refine iteT ?_
        have lX := twA.len
        have lo := rwB.lo
        refine ⟨fun σ' H' => ∃ k : Nat, k < X.length ∧ σ' = LL a p (some (.int (0 + (i : Nat)))) (some (.int (way : Nat))) (some (.ref l)) (some (.int (k : Nat))) v6 (some (.ref t)) v8 v9 v10 v11 (some (.int (n : Nat))) v13 v14 ∧ Sx TT p pc (10000 * i + 6302) H' ∧ RwAt n pc l R H' ∧ TxAt pc t X H', ?_, ?_⟩
        · refine ⟨_, rfl, _, rfl, t, _, rfl, .inl (SqL.of txB.el), dr_of xB (by omega) (by rw [txV_len]; omega) (by rw [txV_len]; omega) fun y HC hy xC kC => ⟨y, ?_, rfl, xC, rwB.kb xB kC, txB.kb xB kC⟩⟩
          rw [txV_len] at hy
          omega
        rintro _ HC ⟨k, hk, rfl, xC, rwC, txC⟩
        have hx : X[k]? = some (X[k]'hk) := List.getElem?_eq_getElem hk
        generalize X[k]'hk = x at hx
        have mx := List.mem_of_getElem? hx
        have hz : (mS (x.1 ++ x.2)).length + 1 ≤ sizeLine := by
          rw [mS_len, List.length_append]
          have := (twA.hd x mx).few.2
          have := twA.ln x mx
          exact sizeBig (by omega)
        have nx := twA.ne x mx
        have lx' := lnA x mx
        refine ⟨fun v H' => ∃ L, v = .str (mS (x.1 ++ L)) ∧ Lts8 L ∧ L ≠ [] ∧ L.length ≤ 30 ∧ L.length ≠ n ∧ Sx TT p pc (10000 * i + 6303) H' ∧ RwAt n pc l R H' ∧ TxAt pc t X H', ?_, ?_⟩
        · refine ⟨fun b H' => (b = false → n ≠ 1) ∧ Sx TT p pc (10000 * i + 6303) H' ∧ RwAt n pc l R H' ∧ TxAt pc t X H', ?_, ?_⟩
          · refine ⟨_, rfl, dr_of xC (by omega) (by decide) (by decide) fun y HD hy xD kD => ⟨rfl, _, rfl, ite2 (fun _ => ?_) (fun _ => ?_)⟩⟩
            · exact ⟨(fun z => nomatch z), xD, rwC.kb xC kD, txC.kb xC kD⟩
            refine ⟨_, rfl, rfl, _, rfl, ?_, xD, rwC.kb xC kD, txC.kb xC kD⟩
            intro z e
            rw [e] at z
            exact absurd z (by decide)
          rintro b HD ⟨hb, xD, rwD, txD⟩
          cases b
          · refine iteF ⟨_, rfl, _, rfl, t, _, _, _, rfl, rfl, SqL.of txD.el, txV_in hx, _, rfl, _, rfl, _, rfl, by omega, ?_⟩
            have n1' := hb rfl
            rw [show (-(1 : Int)) = -1 from rfl, cut_last (by intro z; exact nx (List.append_eq_nil_iff.mp z).2), List.dropLast_append_of_ne_nil nx]
            refine ⟨x.2.dropLast, rfl, fun c hc => twA.lt x mx c (List.dropLast_subset _ hc), fun z => ?_, ?_, ?_, xD, rwD, txD⟩
            · have := congrArg List.length z
              rw [List.length_dropLast, List.length_nil] at this
              omega
            · rw [List.length_dropLast]
              omega
            · rw [List.length_dropLast]
              omega
          · refine iteT ⟨_, rfl, _, rfl, t, _, _, _, rfl, rfl, SqL.of txD.el, txV_in hx, _, _, rfl, rfl, hz, ?_⟩
            rw [show ("I" : Str) = mS [73] by decide +kernel, mS_app, List.append_assoc]
            refine ⟨x.2 ++ [73], rfl, fun c hc => ?_, fun z => by simp at z, ?_, ?_, xD, rwD, txD⟩
            · rcases List.mem_append.mp hc with hc | hc
              · exact twA.lt x mx c hc
              · rw [List.mem_singleton.mp hc]
                exact isL_iff.mpr (.inl rfl)
            · rw [List.length_append, lx']
              show n + 1 ≤ 30
              omega
            · rw [List.length_append, lx']
              show n + 1 ≠ n
              omega
        rintro v HD ⟨L, rfl, hL, L0, L1, L2', xD, rwD, txD⟩
        exact ⟨_, rfl, _, rfl, t, txV X, k, k, rfl, rfl, txD.el, by rw [txV_len]; exact ixN_k hk, X.set k (x.1, L), _, rfl, (sx_put xD txD.el txD.ne).mono (by omega), rwD.off txD.el nlt, txD.set k (x.1, L), twA.body hx hL L0 L1 L2'⟩
      clear xA rwA txA twA lnA X v5
      rintro _ HB ⟨X, v5, rfl, xB, rwB, txB, twB⟩
      -- the strings
      have sz : ∀ x ∈ X, (x.1 ++ x.2).length ≤ 1000 ∧ Hd4L x.1 ∧ Lts8 x.2 ∧ x.2 ≠ [] := fun x hx => by
        have := (twB.hd x hx).few.2
        have := twB.ln x hx
        exact ⟨by rw [List.length_append]; omega, twB.hd x hx, twB.lt x hx, twB.ne x hx⟩
      have lXR := twB.len
      refine ⟨fun σ' H' => ∃ (g : Addr) (L : PLs), σ' = LL a p (some (.int (0 + (i : Nat)))) (some (.int (way : Nat))) (some (.ref l)) v5 v6 (some (.ref t)) v8 v9 (some (.ref g)) v11 (some (.int (n : Nat))) v13 v14 ∧ Sx TT p pc (10000 * i + 6400) H' ∧ RwAt n pc l R H' ∧ TxAt pc t X H' ∧ H' g = some (.lst (refP L)) ∧ PsAt C H' L ∧ OfX L X, ?_, ?_⟩
      · refine ⟨_, rfl, t, rfl, ⟨_, SqL.of txB.el⟩, fun D nD => ?_⟩
        refine lc_list (K := K) (a := t) (xs := txV X) (Pv := fun j Hc => Same HB Hc ∧ ∃ L : PLs, Hc D = some (.lst (refP L)) ∧ PsAt C Hc L ∧ OfX L (X.take j)) ⟨same_new nD, [], upd_same, fun q hq => (by cases hq), rfl⟩ (fun j Hc _ ⟨sc, _⟩ => SqL.of (sc _ _ txB.el)) ?_ ?_
        · rintro j v Hc hj ⟨sc, L, eD, hP, hL⟩
          have hjl : j < X.length := by
            have := (List.getElem?_eq_some_iff.mp hj).1
            rw [txV_len] at this
            exact this
          have hx : X[j]? = some (X[j]'hjl) := List.getElem?_eq_getElem hjl
          generalize X[j]'hjl = x at hx
          obtain ⟨z1, z2, z3, z4⟩ := sz x (List.mem_of_getElem? hx)
          obtain ⟨u1, u2, u3⟩ := read_tx z2 z3 z4
          have ev : v = .str (mS (x.1 ++ x.2)) := by
            unfold txV at hj
            rw [List.getElem?_map, hx] at hj
            injection hj with hj
            exact hj.symm
          subst ev
          refine ⟨rfl, _, rfl, fun y dx ny nd ne => ⟨y, dx, _, rfl, upd_same, .inl ⟨_, rfl, z1, .inl ⟨u3, fun H' PX k => ⟨rfl, ?_⟩⟩⟩⟩⟩
          rw [u1, u2] at PX
          have s1 : Same Hc H' := made_same ny nd k
          have eD' := s1 _ _ eD
          have lL : L.length ≤ 10 := by
            have := of_len hL
            rw [List.length_take] at this
            omega
          refine ⟨_, eD', ?_, same_put0 (sc.trans s1) nD, L ++ [(y, x.2, phH x.1)], ?_, fun q hq => ?_, ?_⟩
          · rw [refP_len]
            exact Nat.lt_of_le_of_lt lL (by decide)
          · rw [upd_same]
            unfold refP
            rw [List.map_append]
            rfl
          · rcases List.mem_append.mp hq with hq | hq
            · exact PauliAt.put eD' ((hP q hq).same s1)
            · rw [List.mem_singleton.mp hq]
              exact PauliAt.put eD' PX
          · unfold OfX at hL ⊢
            rw [take_snoc hx, List.map_append, List.map_append, hL]
            rfl
        · rintro Hc ⟨sc, L, eD, hP, hL⟩
          rw [txV_len, List.take_length] at hL
          exact ⟨D, L, rfl, xB.same sc, rwB.same sc, txB.same sc, eD, hP, hL⟩
      clear xB rwB txB
      rintro _ HC ⟨g, L, rfl, xC, rwC, txC, eg, hP, hL⟩
      have pok : PsOk L := by
        have get : ∀ q ∈ L, ∃ x ∈ X, q.2.1 = x.2 ∧ q.2.2 = phH x.1 := fun q hq => by
          obtain ⟨j, hj⟩ := List.getElem?_of_mem hq
          obtain ⟨x, hx, e1, e2⟩ := of_at hL hj
          exact ⟨x, List.mem_of_getElem? hx, e1, e2⟩
        refine ⟨fun q hq => ?_, fun q hq => ?_, fun q hq => ?_, fun q hq => ?_, by rw [of_len hL]; omega⟩
        all_goals obtain ⟨x, hx, e1, e2⟩ := get q hq
        · rw [e1]
          exact twB.lt x hx
        · rw [e1]
          exact twB.ne x hx
        · rw [e1]
          have := twB.ln x hx
          omega
        · rw [e2]
          exact phH_lt (twB.hd x hx)
      -- what is due, what is told
      refine ⟨fun σ' H' => ∃ (td tt : Addr) (D : Out), σ' = LL a p (some (.int (0 + (i : Nat)))) (some (.int (way : Nat))) (some (.ref l)) v5 v6 (some (.ref t)) (some (.ref td)) (some (.ref tt)) (some (.ref g)) v11 (some (.int (n : Nat))) v13 v14 ∧ Sx TT p pc (10000 * i + 6400) H' ∧ H' g = some (.lst (refP L)) ∧ PsAt C H' L ∧ DueR n X R D ∧ OutAt H' td D ∧ OutT H' tt L D, ?_, ?_⟩
      · refine ⟨fun v H' => ∃ td D, v = .ref td ∧ DueR n X R D ∧ OutAt H' td D ∧ Same HC H', ?_, ?_⟩
        · exact ⟨_, rfl, _, rfl, _, rfl, due_of txC.el twB.ok (by omega) rwC.el rwC.at' l8 (by omega) fun D H' b hD s oa => ⟨b, D, rfl, hD, oa, s⟩⟩
        rintro v HD ⟨td, D, rfl, hD, oD, sD⟩
        refine ⟨fun v H' => ∃ tt, v = .ref tt ∧ OutT H' tt L D ∧ ExtN HD H' ∧ Tabs TT H', ?_, ?_⟩
        · obtain ⟨m, hm, hPn, tb⟩ := xC.same sD
          refine ⟨tb, fun Ha xa tba p0 np0 => ⟨_, rfl, _, rfl, fun y dx ny nd ne => ?_⟩⟩
          have sa : Same Ha (upd Ha p0 (.tup [.str "none"])) := same_new np0
          have sy := made_sm (C := CG) ny nd
          have eg' := sy _ _ (sa _ _ (xa _ _ (sD _ _ eg) (fun ps z => by cases z)))
          refine ⟨y, dx, .int (n : Nat), g, L, rfl, upd_same, SqL.of eg', fun q hq => (((hP q hq).same sD).ext xa).same (sa.trans sy), pok, .inr ⟨n, rfl, n1, by omega, ?_⟩⟩
          have ex : ∀ {H'}, Same (upd Ha p0 (.tup [.str "none"])) H' → ExtN HD H' := fun s => xa.trans (ExtN.of (sa.trans s))
          exact told_of hD (rwC.at') hL twB.key twB.hd lXR ny nd (fun H' pp s o => ⟨pp, rfl, o, ex s, Tabs.ext tba (sa.trans s)⟩) (fun e H' s => ⟨rfl, _, rfl, p0, rfl, by subst e; exact s _ _ upd_same, ex s, Tabs.ext tba (sa.trans s)⟩)
        rintro v HE ⟨tt, rfl, oT, xE, tE⟩
        exact ⟨_, _, rfl, td, tt, D, rfl, (xC.same sD).ext xE tE, xE _ _ (sD _ _ eg) (fun ps z => by cases z), fun q hq => ((hP q hq).same sD).ext xE, hD, oD.ext xE, oT⟩
      clear xC rwC txC eg hP
      rintro _ HD ⟨td, tt, D, rfl, xD, eg, hP, hD, oD, oT⟩
      refine ⟨_, rfl, _, rfl, out_cut oD fun H1' p1 s1 d1 => ⟨by show 2 ≤ sizeLine; decide, fun p2 np2 => ⟨Out2 D, signD, d1 _ (same_new np2), .tup (SqT.of upd_same) (.cons (.str _) (.cons (.str _) .nil)), out2_sh D, by decide +kernel, ?_⟩⟩⟩
      have s2 := s1.trans (same_new (o := .tup [.str "number", .str "sign"]) np2)
      generalize upd H1' p2 (.tup [.str "number", .str "sign"]) = HE at s2
      clear s1 d1 np2
      rw [out2_eqv]
      refine ⟨_, rfl, ?_⟩
      have fin : ∀ {H'}, Same HE H' → ∃ v2 v3 v4 v5' v6' v7 v8 v9 v10 v11' v12 v13' v14' : Option V, LL a p (some (.int (0 + (i : Nat)))) (some (.int (way : Nat))) (some (.ref l)) v5 v6 (some (.ref t)) (some (.ref td)) (some (.ref tt)) (some (.ref g)) v11 (some (.int (n : Nat))) v13 v14 = LL a p v2 v3 v4 v5' v6' v7 v8 v9 v10 v11' v12 v13' v14' ∧ Sx TT p pc (10000 * (i + 1)) H' := fun s => ⟨_, _, _, _, _, _, _, _, _, _, _, _, _, rfl, (xD.same (s2.trans s)).mono (by omega)⟩
      have plain : isSign D = false → OutAt HD tt D := fun z => by
        cases D with
        | sign i => cases z
        | unlike => exact oT
        | anti i j => exact oT
        | minus ks => exact oT
        | none => exact oT
      cases hs : isSign D with
      | false =>
        refine iteF ⟨_, rfl, _, rfl, OutD D, OutD D, out_dp ((plain hs).ext (ExtN.of s2)), out_dp (oD.ext (ExtN.of s2)), out_sh D, out_sh D, ?_⟩
        rw [out_eqv]
        exact ⟨_, rfl, iteF (fin (Same.refl _))⟩
      | true =>
        cases D with
        | unlike => cases hs
        | anti i j => cases hs
        | minus ks => cases hs
        | none => cases hs
        | sign j =>
          obtain ⟨q, hq, eT⟩ := oT
          have eT2 := s2 _ _ eT
          have eD2 := s2 _ _ oD
          refine iteT ?_
          refine ⟨_, rfl, _, rfl, two_tup (r := some (.ref q.1)) eT2 fun H3' p3 s3 e3 => ⟨_, rfl, _, rfl, out_cut (D := .sign j) (s3 _ _ eD2) fun H4' p4 s4 d4 => ⟨signD, Out2 (.sign j), .tup (SqT.of (s4 _ _ e3)) (.cons (.str _) (.cons (.str _) .nil)), d4 _ (Same.refl _), by decide +kernel, out2_sh _, ?_⟩⟩⟩
          have s5 := s3.trans s4
          rw [show PyData.eqv signD (Out2 (.sign j)) = true by show PyData.eqv signD (Out2 (.sign 0)) = true; decide +kernel]
          refine ⟨_, rfl, iteF ?_⟩
          obtain ⟨dx, fs, eq1, rq⟩ := ((hP q (List.mem_of_getElem? hq)).same s2).same s5
          have aq : atI (refP L) ((j : Nat) : Int) = some (.ref q.1) := atI_nat (by unfold refP; rw [List.getElem?_map, hq]; rfl)
          refine ⟨_, rfl, tt, _, _, _, rfl, rfl, SqT.of (s5 _ _ eT2), rfl, _, rfl, _, rfl, td, _, _, _, rfl, rfl, SqT.of (s5 _ _ eD2), rfl, g, _, _, _, rfl, rfl, SqL.of (s5 _ _ (s2 _ _ eg)), aq, q.1, dx, fs, rfl, eq1, .inl ⟨q.1, dx, fs, rfl, eq1⟩, q.1, .ref q.1, q.2.1, q.2.2, rfl, ⟨dx, fs, eq1, rq⟩, .inl ⟨q.1, q.2.1, q.2.2, rfl, ⟨dx, fs, eq1, rq⟩, ⟨_, rfl⟩, ?_⟩⟩
          rw [decide_eq_true rfl, decide_eq_true rfl]
          exact ⟨_, rfl, iteF (fin s5)⟩
    clear x1
    rintro _ H2 ⟨v2, v3, v4, v5, v6, v7, v8, v9, v10, v11, v12, v13, v14, rfl, x2⟩
    -- what is no size
    refine ⟨fun σ' H' => ∃ odd : V, σ' = LL a p v2 v3 v4 v5 v6 v7 v8 v9 v10 (some odd) v12 v13 v14 ∧ OddV H' odd ∧ Sx TT p pc 100001 H', ?_, ?_⟩
    · refine ⟨_, rfl, _, rfl, by show 1 ≤ sizeLine; decide, fun l1 n1 => ⟨by show 6 ≤ sizeLine; decide, fun l2 n2 => pk_of ((x2.same (same_new n1)).same (same_new n2)) (by decide) upd_same (by simp) (by show 6 ≤ 1000; decide) fun v H3 hv x3 k3 => ⟨v, rfl, ?_, x3⟩⟩⟩
      simp only [List.mem_cons, List.mem_nil_iff, or_false] at hv
      rcases hv with rfl | rfl | rfl | rfl | rfl | rfl
      · exact .inl rfl
      · exact .inr (.inl rfl)
      · exact .inr (.inr (.inl rfl))
      · exact .inr (.inr (.inr (.inl rfl)))
      · exact .inr (.inr (.inr (.inr (.inl rfl))))
      · exact .inr (.inr (.inr (.inr (.inr ⟨l1, rfl, sx_lst ((x2.same (same_new n1)).same (same_new n2)) k3 ((same_new n2) _ _ upd_same)⟩))))
    rintro _ H3 ⟨odd, rfl, ho, x3⟩
    obtain ⟨dd, sh, eqv, dp⟩ := ho.dp
    refine ⟨fun v H' => ∃ tt, v = .ref tt ∧ H' tt = some (.tup [.str "number", .str "size", odd]) ∧ ExtN H3 H', ?_, ?_⟩
    · obtain ⟨m, hm, hPn, tb⟩ := x3
      have u1 := read_tx (h := [105]) (L := [88]) (.inr (.inr (.inl rfl))) (by intro c hc; rw [List.mem_singleton.mp hc]; decide +kernel) (by decide)
      have u2 := read_tx (h := []) (L := [90, 90]) (.inl rfl) (by intro c hc; simp at hc; subst hc; decide +kernel) (by decide)
      refine ⟨tb, fun Ha xa tba p0 np0 => ⟨_, rfl, fun y1 dx1 ny1 nd1 ne1 => ⟨y1, dx1, _, rfl, upd_same, .inl ⟨[105, 88], by decide +kernel, by decide, .inl ⟨u1.2.2, fun Hb PX1 k1 => ⟨rfl, fun y2 dx2 ny2 nd2 ne2 => ⟨y2, dx2, _, rfl, upd_same, .inl ⟨[90, 90], by decide +kernel, by decide, .inl ⟨u2.2.2, fun Hc PX2 k2 => ⟨rfl, by show 2 ≤ sizeLine; decide, fun lg ng y3 dx3 ny3 nd3 ne3 => ?_⟩⟩⟩⟩⟩⟩⟩⟩⟩⟩
      have sb : Same (upd Ha p0 (.tup [.str "none"])) Hb := made_same ny1 nd1 k1
      have sc : Same Hb Hc := made_same ny2 nd2 k2
      have sd : Same Hc (upd Hc lg (.lst [.ref y1, .ref y2])) := same_new ng
      have sy := made_sm (C := CG) ny3 nd3
      rw [show ([105, 88] : List Nat) = [105] ++ [88] from rfl, u1.1, u1.2.1] at PX1
      rw [show ([90, 90] : List Nat) = [] ++ [90, 90] from rfl, u2.1, u2.2.1] at PX2
      have s0 : Same Ha (upd Ha p0 (.tup [.str "none"])) := same_new np0
      have sall := s0.trans (sb.trans (sc.trans (sd.trans sy)))
      refine ⟨y3, dx3, odd, lg, [(y1, [88], phH [105]), (y2, [90, 90], phH [])], rfl, upd_same, SqL.of (sy _ _ upd_same), fun q hq => ?_, ⟨fun q hq => ?_, fun q hq => ?_, fun q hq => ?_, fun q hq => ?_, by show 2 ≤ 100; decide⟩, .inl ⟨((ho.ext xa).ext (ExtN.of sall)).odd, fun d H' s' e' => ⟨d, rfl, .inl ⟨_, _, rfl, e', fun pp npp => ⟨pp, rfl, upd_same, xa.trans (ExtN.of (sall.trans (s'.trans (same_new npp))))⟩⟩⟩⟩⟩
      all_goals
        simp only [List.mem_cons, List.mem_nil_iff, or_false] at hq
        rcases hq with rfl | rfl
      · exact PX1.same (sc.trans (sd.trans sy))
      · exact PX2.same (sd.trans sy)
      · intro c hc
        rw [List.mem_singleton.mp hc]
        decide +kernel
      · intro c hc
        simp at hc
        subst hc
        decide +kernel
      · exact fun z => nomatch z
      · exact fun z => nomatch z
      · show 1 ≤ 300
        decide
      · show 2 ≤ 300
        decide
      · show phH [105] < 4
        decide +kernel
      · show phH [] < 4
        decide +kernel
    rintro v H4 ⟨tt, rfl, eT, x4⟩
    refine ⟨_, rfl, by show 3 ≤ sizeLine; decide, fun td nd => ⟨oddT dd, oddT dd, dp K _ tt (x4.trans (ExtN.of (same_new nd))) ((same_new nd) _ _ eT), dp K _ td (x4.trans (ExtN.of (same_new nd))) upd_same, sh, sh, ?_⟩⟩
    rw [eqv]
    exact q _
end
end KQ

namespace KQ
open PySem PySem.Spec PyProof.Rows L2 LamX

/-! ### what the top has written -/
/-- an own exception class straight over the class at cK, which is straight over ValueError -/
structure KC (K : PySem.W.Frag) (cK C : Addr) : Prop where
  l : ∃ nm q N bs sn sub ab col dd k0 k1 k2 k3 k5, K.lookup C = some (excClassObj nm q C N bs [.ref cK, .type "ValueError", .type "Exception", .type "BaseException", .type "object"] true sn sub ab col dd k0 k1 k2 k3 k5 "ValueError.__new__")
  sa : PySem.W.findIn K (Value.ref C) "__setattr__" = some (some (.builtin "object.__setattr__"))
  ty : PySem.W.typeIn K (.ref C) = some (.type "type")
  kp : PySem.W.keepIn K (Value.ref C) = true
  hg : PySem.W.findIn K (.ref C) "__getattribute__" = some (some (.builtin "BaseException.__getattribute__"))
  hk : PySem.W.findIn K (.ref C) "__getattr__" = some none
  ha : PySem.W.findIn K (Value.ref C) "__class__" = some (some (.builtin "object.__class__"))
theorem KC.of {K : PySem.W.Frag} {cK C N : Addr} {nm q : Str} {bs : List Value} {sn : List Str} {sub : List Value} {ab : Bool} {col : Option Bool} {dd : Option Addr} {k0 k1 k2 k3 k5 : Option Value}
    (l : K.lookup C = some (excClassObj nm q C N bs [.ref cK, .type "ValueError", .type "Exception", .type "BaseException", .type "object"] true sn sub ab col dd k0 k1 k2 k3 k5 "ValueError.__new__"))
    (sa : PySem.W.findIn K (.ref C) "__setattr__" = some (some (.builtin "object.__setattr__"))) (ty : PySem.W.typeIn K (.ref C) = some (.type "type")) (kp : PySem.W.keepIn K (.ref C) = true)
    (hg : PySem.W.findIn K (.ref C) "__getattribute__" = some (some (.builtin "BaseException.__getattribute__"))) (hk : PySem.W.findIn K (.ref C) "__getattr__" = some none)
    (ha : PySem.W.findIn K (.ref C) "__class__" = some (some (.builtin "object.__class__"))) : KC K cK C := ⟨⟨_, _, _, _, _, _, _, _, _, _, _, _, _, _, l⟩, sa, ty, kp, hg, hk, ha⟩
theorem fun_ex {K : PySem.W.Frag} {x qual : Str} {st : Stmt} {f : Addr} {oc : Value} {od an : Option Addr} {osl : Array (Option Value)} {kV doc pm cdv ct : Value} (l : K.lookup f = some ⟨oc, od, .func (PySem.W.fnOf x qual (defArgs st) (defBody st) (defScope st) .none kV doc pm an cdv ct), osl⟩)
    (c : PySem.W.codeIn K cdv qual = true) (k : PySem.W.keepIn K (.ref f) = true) : ∃ d, Fun K x qual st f d := ⟨_, L2.fun_mk l c k⟩
theorem KC.cls {K : PySem.W.Frag} {cK C : Addr} (h : KC K cK C) : ∃ cd, PySem.W.clsIn K C = some cd ∧ cd.mro = [.ref C, .ref cK, .type "ValueError", .type "Exception", .type "BaseException", .type "object"] ∧ cd.hasDict = true := by
  obtain ⟨nm, q, N, bs, sn, sub, ab, col, dd, k0, k1, k2, k3, k5, hl⟩ := h.l
  refine ⟨_, by unfold PySem.W.clsIn; rw [hl] <;> rfl, rfl, rfl⟩
theorem KC.mro {K : PySem.W.Frag} {cK C : Addr} (h : KC K cK C) (b : Value) : PySem.W.mroIn K C b = some ([Value.ref C, .ref cK, .type "ValueError", .type "Exception", .type "BaseException", .type "object"].contains b) := by
  obtain ⟨cd, e, m, _⟩ := h.cls
  unfold PySem.W.mroIn
  rw [e, Option.bind_some, m]
  rfl
theorem KC.exC {K : PySem.W.Frag} {cK C : Addr} (h : KC K cK C) : PySem.W.subIn K (.ref C) (.type "BaseException") = some true := by
  show PySem.W.mroIn K C _ = _
  rw [h.mro]
  rfl
theorem KC.ox {K : PySem.W.Frag} {cK C : Addr} (h : KC K cK C) : OexC K C := by
  obtain ⟨nm, q, N, bs, sn, sub, ab, col, dd, k0, k1, k2, k3, k5, hl⟩ := h.l
  exact ⟨⟨nm, q, N, bs, _, sn, sub, ab, col, dd, k0, k1, k2, k3, k5, hl, rfl⟩, h.sa, h.exC, h.ty, h.kp⟩

theorem KC.hd {K : PySem.W.Frag} {cK C : Addr} (h : KC K cK C) : PySem.W.hasDictIn K C = true := by
  obtain ⟨cd, e, _, d⟩ := h.cls
  show (PySem.W.clsIn K C).any _ = true
  rw [e]
  exact d
theorem KC.xf {K : PySem.W.Frag} {cK C : Addr} (h : KC K cK C) : XfC K C := ⟨h.hg, h.hk, h.exC, h.hd⟩
theorem KC.ex {K : PySem.W.Frag} {cK C : Addr} (h : KC K cK C) : PySem.W.exmOne K (.ref C) (.ref C) = some true := by
  refine PySem.W.exm_ref h.exC h.hd h.ty ?_
  show PySem.W.mroIn K C _ = _
  rw [h.mro, List.contains_cons, beq_self_eq_true, Bool.true_or]


theorem hd_ex {K : PySem.W.Frag} {A : Addr} {t0 t1 t2 t3 : Tok} {n : Nat} {sl : Array (Option Value)} (l : K.lookup A = some ⟨.type "tuple", none, .seq #[.str "" t0, .str "i" t1, .str "-" t2, .str "-i" t3] n, sl⟩) : ∃ t0 t1 t2 t3 n sl, K.lookup A = some ⟨.type "tuple", none, .seq #[.str "" t0, .str "i" t1, .str "-" t2, .str "-i" t3] n, sl⟩ := ⟨_, _, _, _, _, _, l⟩
theorem lett_one {K : PySem.W.Frag} {w : World} {A : Addr} {es : Array DictEntry} {n : Nat} {x y : Str} {L M : List Nat} {t : Tok} (hl : K.lookup A = some ⟨.type "dict", none, .dict es n, #[]⟩) (hk : PySem.W.KeysLit w.params es.toList)
    (hx : x = mS L) (hy : y = mS M) (e : PySem.W.nsIn K A x = some (some (.str y t))) : KDct K w A (mS L) (.str (mS M)) := by
  subst hx hy
  exact ⟨es, n, _, hl, hk, e, ⟨t, rfl⟩⟩

theorem all_mk {l : PySem.W.OpenLaw} {w : World} {K : PySem.W.Frag} {h : Heap} {mg : Str → Option Value} {fa : Addr} {CX : CXT} (eCX : CX = CX0) (X : K.In h) (G : h.Ns mainGlobals mg) (hfa : mg "law" = some (.ref fa)) {ts : List Addr} (hTs : ∀ R ∈ ts, h.get? R = some (PySem.W.tabObj #[]))
    {cK C CT CB CU CA CM fI fE fB fU fA fM fBN hA lA fIs fHo fBo fHp fPa fCr fSh fBt fLg fIx fCo fLn fCk fRt fSo fFr fLo fC CG fGI fPn fDr fPk fSu fOn fCx fPr fLe fTx fOt fSm fGa fCd fWy fSt fMi fDu fLa c tP : Addr} {es : Array DictEntry} {pn : Nat} {t00 t10 t11 t01 : Tok} {oc ec kV doc pm ct : Value} {od an dc : Option Addr} {osl sc : Array (Option Value)} {vc : Array Value}
    (aK : PySem.W.nsIn K mainGlobals "KeptError" = some (some (.ref cK)))
    (aT : PySem.W.nsIn K mainGlobals "BadText" = some (some (.ref CT)))
    (aB : PySem.W.nsIn K mainGlobals "BadNumber" = some (some (.ref CB)))
    (aU : PySem.W.nsIn K mainGlobals "Unlike" = some (some (.ref CU)))
    (aA : PySem.W.nsIn K mainGlobals "Anticommute" = some (some (.ref CA)))
    (aM : PySem.W.nsIn K mainGlobals "MinusOne" = some (some (.ref CM)))
    (aP : PySem.W.nsIn K mainGlobals "Pauli" = some (some (.ref C)))
    (aG : PySem.W.nsIn K mainGlobals "Group" = some (some (.ref CG)))
    (aH : PySem.W.nsIn K mainGlobals "HEADS" = some (some (.ref hA)))
    (kcT : KC K cK CT)
    (icT : PySem.W.findIn K (.ref CT) "__init__" = some (some (.ref fB)))
    (tiT : PySem.W.typeIn K (.ref fB) = some (.type "function"))
    (nT0 : PySem.W.findIn K (.ref CT) "line" = some none)
    (nT1 : PySem.W.findIn K (.ref CT) "column" = some none)
    (F_T : ∃ d, Fun K "__init__" "BadText.__init__" sInitT fB d)
    (kcB : KC K cK CB)
    (icB : PySem.W.findIn K (.ref CB) "__init__" = some (some (.ref fBN)))
    (tiB : PySem.W.typeIn K (.ref fBN) = some (.type "function"))
    (nB0 : PySem.W.findIn K (.ref CB) "what" = some none)
    (nB1 : PySem.W.findIn K (.ref CB) "number" = some none)
    (F_B : ∃ d, Fun K "__init__" "BadNumber.__init__" sIBadNumber fBN d)
    (kcU : KC K cK CU)
    (icU : PySem.W.findIn K (.ref CU) "__init__" = some (some (.ref fU)))
    (tiU : PySem.W.typeIn K (.ref fU) = some (.type "function"))
    (nU0 : PySem.W.findIn K (.ref CU) "what" = some none)
    (F_U : ∃ d, Fun K "__init__" "Unlike.__init__" sIUnlike fU d)
    (kcA : KC K cK CA)
    (icA : PySem.W.findIn K (.ref CA) "__init__" = some (some (.ref fA)))
    (tiA : PySem.W.typeIn K (.ref fA) = some (.type "function"))
    (nA0 : PySem.W.findIn K (.ref CA) "one" = some none)
    (nA1 : PySem.W.findIn K (.ref CA) "other" = some none)
    (F_A : ∃ d, Fun K "__init__" "Anticommute.__init__" sIAnticommute fA d)
    (kcM : KC K cK CM)
    (icM : PySem.W.findIn K (.ref CM) "__init__" = some (some (.ref fM)))
    (tiM : PySem.W.typeIn K (.ref fM) = some (.type "function"))
    (nM0 : PySem.W.findIn K (.ref CM) "indices" = some none)
    (F_M : ∃ d, Fun K "__init__" "MinusOne.__init__" sIMinusOne fM d)
    (nUl : PySem.W.findIn K (.ref CU) "line" = some none)
    (nUc : PySem.W.findIn K (.ref CU) "column" = some none)
    (exBT : PySem.W.exmOne K (.ref CB) (.ref CT) = some false)
    (exUT : PySem.W.exmOne K (.ref CU) (.ref CT) = some false)
    (exUB : PySem.W.exmOne K (.ref CU) (.ref CB) = some false)
    (exAT : PySem.W.exmOne K (.ref CA) (.ref CT) = some false)
    (exAB : PySem.W.exmOne K (.ref CA) (.ref CB) = some false)
    (exAU : PySem.W.exmOne K (.ref CA) (.ref CU) = some false)
    (exMT : PySem.W.exmOne K (.ref CM) (.ref CT) = some false)
    (exMB : PySem.W.exmOne K (.ref CM) (.ref CB) = some false)
    (exMU : PySem.W.exmOne K (.ref CM) (.ref CU) = some false)
    (exMA : PySem.W.exmOne K (.ref CM) (.ref CA) = some false)
    (pgP : PySem.W.plainGet K C Str.empty = true)
    (hdiP : PySem.W.hasDictIn K C = true)
    (poP : PySem.W.plainOver K C = true)
    (saP : PySem.W.findIn K (.ref C) "__setattr__" = some (some (.builtin "object.__setattr__")))
    (nP0 : PySem.W.findIn K (.ref C) "letters" = some none)
    (nP1 : PySem.W.findIn K (.ref C) "phase" = some none)
    (nP2 : PySem.W.findIn K (.ref C) "size" = some none)
    (nP3 : PySem.W.findIn K (.ref C) "weight" = some none)
    (mkP : PySem.W.makesIn K C = true)
    (icP : PySem.W.findIn K (.ref C) "__init__" = some (some (.ref fI)))
    (ifP : PySem.W.isFn K (.ref fI) = true)
    (kpP : PySem.W.keepIn K (.ref C) = true)
    (pgG : PySem.W.plainGet K CG Str.empty = true)
    (hdiG : PySem.W.hasDictIn K CG = true)
    (poG : PySem.W.plainOver K CG = true)
    (saG : PySem.W.findIn K (.ref CG) "__setattr__" = some (some (.builtin "object.__setattr__")))
    (nG0 : PySem.W.findIn K (.ref CG) "size" = some none)
    (nG1 : PySem.W.findIn K (.ref CG) "held" = some none)
    (nG2 : PySem.W.findIn K (.ref CG) "bits" = some none)
    (nG3 : PySem.W.findIn K (.ref CG) "rows" = some none)
    (nG4 : PySem.W.findIn K (.ref CG) "rank" = some none)
    (mkG : PySem.W.makesIn K CG = true)
    (icG : PySem.W.findIn K (.ref CG) "__init__" = some (some (.ref fGI)))
    (ifG : PySem.W.isFn K (.ref fGI) = true)
    (kpG : PySem.W.keepIn K (.ref CG) = true)
    (haP : PySem.W.findIn K (.ref C) "__class__" = some (some (.builtin "object.__class__")))
    (hnP : PySem.W.specialIn K (.builtin "object.__class__") "__get__" = some (some (.builtin "getset_descriptor.__get__")))
    (htP : PySem.W.takesIn K (.builtin "object.__class__") = some true)
    (hmP : PySem.W.mroIn K C (.type "object") = some true)
    (kCP : PySem.W.kitOne K (.ref C) (.ref C) = some true)
    (kSP : PySem.W.kitOne K (.type "str") (.ref C) = some false)
    (eqP : PySem.W.findIn K (.ref C) "__eq__" = some (some (.ref fE)))
    (efP : PySem.W.isFn K (.ref fE) = true)
    (enP : PySem.W.notFirst K C (.type "str") = true)
    (hl : ∃ t0 t1 t2 t3 n sl, K.lookup hA = some ⟨.type "tuple", none, .seq #[.str "" t0, .str "i" t1, .str "-" t2, .str "-i" t3] n, sl⟩)
    (aL : PySem.W.nsIn K mainGlobals "LETTERS" = some (some (.ref lA)))
    (ll : K.lookup lA = some ⟨.type "dict", none, .dict es pn, #[]⟩)
    (lkk : PySem.W.KeysLit w.params es.toList)
    (l00 : PySem.W.nsIn K lA "00" = some (some (.str "I" t00)))
    (l10 : PySem.W.nsIn K lA "10" = some (some (.str "X" t10)))
    (l11 : PySem.W.nsIn K lA "11" = some (some (.str "Y" t11)))
    (l01 : PySem.W.nsIn K lA "01" = some (some (.str "Z" t01)))
    (FI : ∃ d, Fun K "__init__" "Pauli.__init__" sInit fI d)
    (FE : ∃ d, Fun K "__eq__" "Pauli.__eq__" sEq fE d)
    (FGI : ∃ d, Fun K "__init__" "Group.__init__" sGI fGI d)
    (cne : C ≠ CG)
    (gC : PySem.W.nsIn K mainGlobals "_cut_text" = some (some (.ref fC)))
    (FC : ∃ d, Fun K "_cut_text" "_cut_text" sCut fC d)
    (gIs : PySem.W.nsIn K mainGlobals "is_integer" = some (some (.ref fIs)))
    (FIs : ∃ d, Fun K "is_integer" "is_integer" sIsI fIs d)
    (gHo : PySem.W.nsIn K mainGlobals "held_of" = some (some (.ref fHo)))
    (FHo : ∃ d, Fun K "held_of" "held_of" sHeld fHo d)
    (gBo : PySem.W.nsIn K mainGlobals "bits_of" = some (some (.ref fBo)))
    (FBo : ∃ d, Fun K "bits_of" "bits_of" sBof fBo d)
    (gHp : PySem.W.nsIn K mainGlobals "held_product" = some (some (.ref fHp)))
    (FHp : ∃ d, Fun K "held_product" "held_product" sHprod fHp d)
    (gPa : PySem.W.nsIn K mainGlobals "parity" = some (some (.ref fPa)))
    (FPa : ∃ d, Fun K "parity" "parity" sPar fPa d)
    (gCr : PySem.W.nsIn K mainGlobals "crossing" = some (some (.ref fCr)))
    (FCr : ∃ d, Fun K "crossing" "crossing" sCrossg fCr d)
    (gSh : PySem.W.nsIn K mainGlobals "second_half" = some (some (.ref fSh)))
    (FSh : ∃ d, Fun K "second_half" "second_half" sHalf fSh d)
    (gBt : PySem.W.nsIn K mainGlobals "bit_tuple" = some (some (.ref fBt)))
    (FBt : ∃ d, Fun K "bit_tuple" "bit_tuple" sBits fBt d)
    (gIx : PySem.W.nsIn K mainGlobals "_indices" = some (some (.ref fIx)))
    (FIx : ∃ d, Fun K "_indices" "_indices" sIdx fIx d)
    (gCo : PySem.W.nsIn K mainGlobals "combination" = some (some (.ref fCo)))
    (FCo : ∃ d, Fun K "combination" "combination" sComb fCo d)
    (gCk : PySem.W.nsIn K mainGlobals "_check_commuting" = some (some (.ref fCk)))
    (FCk : ∃ d, Fun K "_check_commuting" "_check_commuting" sChk fCk d)
    (gRt : PySem.W.nsIn K mainGlobals "_reduced_table" = some (some (.ref fRt)))
    (FRt : ∃ d, Fun K "_reduced_table" "_reduced_table" sRedT fRt d)
    (gSo : PySem.W.nsIn K mainGlobals "string_of" = some (some (.ref fSo)))
    (FSo : ∃ d, Fun K "string_of" "string_of" sSof fSo d)
    (gFr : PySem.W.nsIn K mainGlobals "string_from" = some (some (.ref fFr)))
    (FFr : ∃ d, Fun K "string_from" "string_from" sFrom fFr d)
    (gLo : PySem.W.nsIn K mainGlobals "letters_of" = some (some (.ref fLo)))
    (FLo : ∃ d, Fun K "letters_of" "letters_of" sLof fLo d)
    (gLg : PySem.W.nsIn K mainGlobals "lowered_groups" = some (some (.ref fLg)))
    (FLg : ∃ d, Fun K "_lowered" "_lowered" sLowG fLg d)
    (gLn : PySem.W.nsIn K mainGlobals "lowered_bitnumbers" = some (some (.ref fLn)))
    (FLn : ∃ d, Fun K "_lowered" "_lowered" sLow fLn d)
    (gPn : PySem.W.nsIn K mainGlobals "_law_pen" = some (some (.ref fPn)))
    (FPn : ∃ d, Fun K "_law_pen" "_law_pen" sPen fPn d)
    (gDr : PySem.W.nsIn K mainGlobals "_law_draw" = some (some (.ref fDr)))
    (FDr : ∃ d, Fun K "_law_draw" "_law_draw" sDraw fDr d)
    (gPk : PySem.W.nsIn K mainGlobals "_law_pick" = some (some (.ref fPk)))
    (FPk : ∃ d, Fun K "_law_pick" "_law_pick" sPick fPk d)
    (gSu : PySem.W.nsIn K mainGlobals "_law_shuffled" = some (some (.ref fSu)))
    (FSu : ∃ d, Fun K "_law_shuffled" "_law_shuffled" sShuf fSu d)
    (gOn : PySem.W.nsIn K mainGlobals "_law_ones" = some (some (.ref fOn)))
    (FOn : ∃ d, Fun K "_law_ones" "_law_ones" sOnes fOn d)
    (gCx : PySem.W.nsIn K mainGlobals "_law_crosses" = some (some (.ref fCx)))
    (FCx : ∃ d, Fun K "_law_crosses" "_law_crosses" sCross fCx d)
    (gPr : PySem.W.nsIn K mainGlobals "_law_product" = some (some (.ref fPr)))
    (FPr : ∃ d, Fun K "_law_product" "_law_product" sProd fPr d)
    (gLe : PySem.W.nsIn K mainGlobals "_law_letters" = some (some (.ref fLe)))
    (FLe : ∃ d, Fun K "_law_letters" "_law_letters" sLett fLe d)
    (gTx : PySem.W.nsIn K mainGlobals "_law_text" = some (some (.ref fTx)))
    (FTx : ∃ d, Fun K "_law_text" "_law_text" sText fTx d)
    (gOt : PySem.W.nsIn K mainGlobals "_law_of_text" = some (some (.ref fOt)))
    (FOt : ∃ d, Fun K "_law_of_text" "_law_of_text" sOfT fOt d)
    (gSm : PySem.W.nsIn K mainGlobals "_law_some_string" = some (some (.ref fSm)))
    (FSm : ∃ d, Fun K "_law_some_string" "_law_some_string" sSome fSm d)
    (gGa : PySem.W.nsIn K mainGlobals "_law_gate" = some (some (.ref fGa)))
    (FGa : ∃ d, Fun K "_law_gate" "_law_gate" sGate fGa d)
    (gCd : PySem.W.nsIn K mainGlobals "_law_drawn_code" = some (some (.ref fCd)))
    (FCd : ∃ d, Fun K "_law_drawn_code" "_law_drawn_code" sCode fCd d)
    (gWy : PySem.W.nsIn K mainGlobals "_law_why" = some (some (.ref fWy)))
    (FWy : ∃ d, Fun K "_law_why" "_law_why" sWhy fWy d)
    (gSt : PySem.W.nsIn K mainGlobals "_law_strings" = some (some (.ref fSt)))
    (FSt : ∃ d, Fun K "_law_strings" "_law_strings" sStrs fSt d)
    (gMi : PySem.W.nsIn K mainGlobals "_law_minus" = some (some (.ref fMi)))
    (FMi : ∃ d, Fun K "_law_minus" "_law_minus" sMinus fMi d)
    (gDu : PySem.W.nsIn K mainGlobals "_law_due" = some (some (.ref fDu)))
    (FDu : ∃ d, Fun K "_law_due" "_law_due" sDue fDu d)
    (z_isinstance : PySem.W.nsIn K mainGlobals "isinstance" = some none)
    (z_int : PySem.W.nsIn K mainGlobals "int" = some none)
    (z_bool : PySem.W.nsIn K mainGlobals "bool" = some none)
    (z_str : PySem.W.nsIn K mainGlobals "str" = some none)
    (z_len : PySem.W.nsIn K mainGlobals "len" = some none)
    (z_range : PySem.W.nsIn K mainGlobals "range" = some none)
    (z_list : PySem.W.nsIn K mainGlobals "list" = some none)
    (z_enumerate : PySem.W.nsIn K mainGlobals "enumerate" = some none)
    (z_tuple : PySem.W.nsIn K mainGlobals "tuple" = some none)
    (z_min : PySem.W.nsIn K mainGlobals "min" = some none)
    (z_sorted : PySem.W.nsIn K mainGlobals "sorted" = some none)
    (z_reversed : PySem.W.nsIn K mainGlobals "reversed" = some none)
    (z_zip : PySem.W.nsIn K mainGlobals "zip" = some none)
    (gLa : PySem.W.nsIn K mainGlobals "law" = some (some (.ref fLa)))
    (lk : K.lookup fLa = some ⟨oc, od, .func (PySem.W.fnOf "law" "law" (defArgs sLaw) (defBody sLaw) (defScope sLaw) .none kV doc pm an (.ref c) ct), osl⟩)
    (hcd : PySem.W.codeIn K (.ref c) "law" = true)
    (lc : K.lookup c = some ⟨ec, dc, .fields vc, sc⟩)
    (h11 : vc[11]? = some (.ref tP))
    (nP_ : K.lookup tP = none)
    (hb : PySem.W.codeHdIn K c tP = true)
    (mem : tP ∈ ts) :
    LawAtS l w K CX 13 63 "_law_script" mg fa h := by
  subst eCX
  have e := hfa.symm.trans (PySem.W.mg_of X G gLa)
  cases e
  obtain ⟨dB, F_T⟩ := F_T
  have b_T := F_T.binds (ps := ["self", "line", "column"]) fun _ _ _ _ _ _ us hl => match us, hl with | [_, _, _], _ => rfl
  obtain ⟨dBN, F_B⟩ := F_B
  have b_B := F_B.binds (ps := ["self", "what", "number"]) fun _ _ _ _ _ _ us hl => match us, hl with | [_, _, _], _ => rfl
  obtain ⟨dU, F_U⟩ := F_U
  have b_U := F_U.binds (ps := ["self", "what"]) fun _ _ _ _ _ _ us hl => match us, hl with | [_, _], _ => rfl
  obtain ⟨dA, F_A⟩ := F_A
  have b_A := F_A.binds (ps := ["self", "one", "other"]) fun _ _ _ _ _ _ us hl => match us, hl with | [_, _, _], _ => rfl
  obtain ⟨dM, F_M⟩ := F_M
  have b_M := F_M.binds (ps := ["self", "indices"]) fun _ _ _ _ _ _ us hl => match us, hl with | [_, _], _ => rfl
  obtain ⟨dI, FI⟩ := FI
  have bI := FI.binds (ps := ["self", "text"]) fun _ _ _ _ _ _ us hl => match us, hl with | [_, _], _ => rfl
  obtain ⟨dE, FE⟩ := FE
  have bE := FE.binds (ps := ["self", "other"]) fun _ _ _ _ _ _ us hl => match us, hl with | [_, _], _ => rfl
  obtain ⟨dGI, FGI⟩ := FGI
  have bGI := FGI.binds (ps := ["self", "size", "strings"]) fun _ _ _ _ _ _ us hl => match us, hl with | [_, _, _], _ => rfl
  obtain ⟨dC, FC⟩ := FC
  have bC := FC.binds (ps := ["text"]) fun _ _ _ _ _ _ us hl => match us, hl with | [_], _ => rfl
  obtain ⟨dIs, FIs⟩ := FIs
  have bIs := FIs.binds (ps := ["value"]) fun _ _ _ _ _ _ us hl => match us, hl with | [_], _ => rfl
  obtain ⟨dHo, FHo⟩ := FHo
  have bHo := FHo.binds (ps := ["string"]) fun _ _ _ _ _ _ us hl => match us, hl with | [_], _ => rfl
  obtain ⟨dBo, FBo⟩ := FBo
  have bBo := FBo.binds (ps := ["string"]) fun _ _ _ _ _ _ us hl => match us, hl with | [_], _ => rfl
  obtain ⟨dHp, FHp⟩ := FHp
  have bHp := FHp.binds (ps := ["size", "one", "other"]) fun _ _ _ _ _ _ us hl => match us, hl with | [_, _, _], _ => rfl
  obtain ⟨dPa, FPa⟩ := FPa
  have bPa := FPa.binds (ps := ["number"]) fun _ _ _ _ _ _ us hl => match us, hl with | [_], _ => rfl
  obtain ⟨dCr, FCr⟩ := FCr
  have bCr := FCr.binds (ps := ["size", "bits", "others"]) fun _ _ _ _ _ _ us hl => match us, hl with | [_, _, _], _ => rfl
  obtain ⟨dSh, FSh⟩ := FSh
  have bSh := FSh.binds (ps := ["size", "bits"]) fun _ _ _ _ _ _ us hl => match us, hl with | [_, _], _ => rfl
  obtain ⟨dBt, FBt⟩ := FBt
  have bBt := FBt.binds (ps := ["number", "many"]) fun _ _ _ _ _ _ us hl => match us, hl with | [_, _], _ => rfl
  obtain ⟨dIx, FIx⟩ := FIx
  have bIx := FIx.binds (ps := ["given", "kept", "index"]) fun _ _ _ _ _ _ us hl => match us, hl with | [_, _, _], _ => rfl
  obtain ⟨dCo, FCo⟩ := FCo
  have bCo := FCo.binds (ps := ["numbers", "number"]) fun _ _ _ _ _ _ us hl => match us, hl with | [_, _], _ => rfl
  obtain ⟨dCk, FCk⟩ := FCk
  have bCk := FCk.binds (ps := ["size", "rows"]) fun _ _ _ _ _ _ us hl => match us, hl with | [_, _], _ => rfl
  obtain ⟨dRt, FRt⟩ := FRt
  have bRt := FRt.binds (ps := ["size", "given"]) fun _ _ _ _ _ _ us hl => match us, hl with | [_, _], _ => rfl
  obtain ⟨dSo, FSo⟩ := FSo
  have bSo := FSo.binds (ps := ["size", "held"]) fun _ _ _ _ _ _ us hl => match us, hl with | [_, _], _ => rfl
  obtain ⟨dFr, FFr⟩ := FFr
  have bFr := FFr.binds (ps := ["letters", "phase"]) fun _ _ _ _ _ _ us hl => match us, hl with | [_, _], _ => rfl
  obtain ⟨dLo, FLo⟩ := FLo
  have bLo := FLo.binds (ps := ["size", "bits"]) fun _ _ _ _ _ _ us hl => match us, hl with | [_, _], _ => rfl
  obtain ⟨dLg, FLg⟩ := FLg
  have bLg := FLg.binds (ps := ["size", "held", "table"]) fun _ _ _ _ _ _ us hl => match us, hl with | [_, _, _], _ => rfl
  obtain ⟨dLn, FLn⟩ := FLn
  have bLn := FLn.binds (ps := ["number", "marks", "table"]) fun _ _ _ _ _ _ us hl => match us, hl with | [_, _, _], _ => rfl
  obtain ⟨dPn, FPn⟩ := FPn
  have bPn := FPn.binds (ps := ["_law_script"]) fun _ _ _ _ _ _ us hl => match us, hl with | [_], _ => rfl
  obtain ⟨dDr, FDr⟩ := FDr
  have bDr := FDr.binds (ps := ["_law_pen_here", "_law_many"]) fun _ _ _ _ _ _ us hl => match us, hl with | [_, _], _ => rfl
  obtain ⟨dPk, FPk⟩ := FPk
  have bPk := FPk.binds (ps := ["_law_pen_here", "_law_some"]) fun _ _ _ _ _ _ us hl => match us, hl with | [_, _], _ => rfl
  obtain ⟨dSu, FSu⟩ := FSu
  have bSu := FSu.binds (ps := ["_law_pen_here", "_law_some"]) fun _ _ _ _ _ _ us hl => match us, hl with | [_, _], _ => rfl
  obtain ⟨dOn, FOn⟩ := FOn
  have bOn := FOn.binds (ps := ["_law_number"]) fun _ _ _ _ _ _ us hl => match us, hl with | [_], _ => rfl
  obtain ⟨dCx, FCx⟩ := FCx
  have bCx := FCx.binds (ps := ["_law_one", "_law_two"]) fun _ _ _ _ _ _ us hl => match us, hl with | [_, _], _ => rfl
  obtain ⟨dPr, FPr⟩ := FPr
  have bPr := FPr.binds (ps := ["_law_one", "_law_two"]) fun _ _ _ _ _ _ us hl => match us, hl with | [_, _], _ => rfl
  obtain ⟨dLe, FLe⟩ := FLe
  have bLe := FLe.binds (ps := ["_law_string", "_law_size"]) fun _ _ _ _ _ _ us hl => match us, hl with | [_, _], _ => rfl
  obtain ⟨dTx, FTx⟩ := FTx
  have bTx := FTx.binds (ps := ["_law_string", "_law_size"]) fun _ _ _ _ _ _ us hl => match us, hl with | [_, _], _ => rfl
  obtain ⟨dOt, FOt⟩ := FOt
  have bOt := FOt.binds (ps := ["_law_text_here"]) fun _ _ _ _ _ _ us hl => match us, hl with | [_], _ => rfl
  obtain ⟨dSm, FSm⟩ := FSm
  have bSm := FSm.binds (ps := ["_law_pen_here", "_law_size"]) fun _ _ _ _ _ _ us hl => match us, hl with | [_, _], _ => rfl
  obtain ⟨dGa, FGa⟩ := FGa
  have bGa := FGa.binds (ps := ["_law_string", "_law_kind", "_law_places"]) fun _ _ _ _ _ _ us hl => match us, hl with | [_, _, _], _ => rfl
  obtain ⟨dCd, FCd⟩ := FCd
  have bCd := FCd.binds (ps := ["_law_pen_here", "_law_size", "_law_rank", "_law_gauged"]) fun _ _ _ _ _ _ us hl => match us, hl with | [_, _, _, _], _ => rfl
  obtain ⟨dWy, FWy⟩ := FWy
  have bWy := FWy.binds (ps := ["_law_call"]) fun _ _ _ _ _ _ us hl => match us, hl with | [_], _ => rfl
  obtain ⟨dSt, FSt⟩ := FSt
  have bSt := FSt.binds (ps := ["_law_pen_here", "_law_size", "_law_many"]) fun _ _ _ _ _ _ us hl => match us, hl with | [_, _, _], _ => rfl
  obtain ⟨dMi, FMi⟩ := FMi
  have bMi := FMi.binds (ps := ["_law_rows"]) fun _ _ _ _ _ _ us hl => match us, hl with | [_], _ => rfl
  obtain ⟨dDu, FDu⟩ := FDu
  have bDu := FDu.binds (ps := ["_law_size", "_law_texts", "_law_rows"]) fun _ _ _ _ _ _ us hl => match us, hl with | [_, _, _], _ => rfl
  have B : Bl mg := ⟨PySem.W.mg_none_of X G z_isinstance, PySem.W.mg_none_of X G z_int, PySem.W.mg_none_of X G z_bool, PySem.W.mg_none_of X G z_str, PySem.W.mg_none_of X G z_len, PySem.W.mg_none_of X G z_range, PySem.W.mg_none_of X G z_list, PySem.W.mg_none_of X G z_enumerate, PySem.W.mg_none_of X G z_tuple, PySem.W.mg_none_of X G z_min, PySem.W.mg_none_of X G z_sorted, PySem.W.mg_none_of X G z_reversed⟩
  have TT : BT K mg CT fB dB := ⟨kcT.ox, icT, tiT, nT0, nT1, PySem.W.mg_of X G aT, F_T, b_T⟩
  have XB : EX2 K mg "BadNumber" "BadNumber.__init__" "what" "number" sIBadNumber CB fBN dBN := ⟨kcB.ox, icB, tiB, nB0, nB1, PySem.W.mg_of X G aB, F_B, b_B⟩
  have XU : EX1 K mg "Unlike" "Unlike.__init__" "what" sIUnlike CU fU dU := ⟨kcU.ox, icU, tiU, nU0, PySem.W.mg_of X G aU, F_U, b_U⟩
  have XA : EX2 K mg "Anticommute" "Anticommute.__init__" "one" "other" sIAnticommute CA fA dA := ⟨kcA.ox, icA, tiA, nA0, nA1, PySem.W.mg_of X G aA, F_A, b_A⟩
  have XM : EX1 K mg "MinusOne" "MinusOne.__init__" "indices" sIMinusOne CM fM dM := ⟨kcM.ox, icM, tiM, nM0, PySem.W.mg_of X G aM, F_M, b_M⟩
  have N : PCl K mg C fI fE := ⟨⟨pgP, hdiP, poP, saP⟩, nP0, nP1, nP2, nP3, ⟨mkP, icP, ifP, kpP⟩, haP, hnP, htP, hmP, kCP, kSP, eqP, efP, enP, PySem.W.mg_of X G aP⟩
  have hd : Hd4 K mg hA := ⟨hl, PySem.W.mg_of X G aH⟩
  have lt : Lets K w mg lA := by
    refine ⟨PySem.W.mg_of X G aL, fun x z hx hz => ?_⟩
    have hx' : x = 0 ∨ x = 1 := by omega
    have hz' : z = 0 ∨ z = 1 := by omega
    rcases hx' with rfl | rfl <;> rcases hz' with rfl | rfl
    · exact lett_one ll lkk (by decide +kernel) (by decide +kernel) l00
    · exact lett_one ll lkk (by decide +kernel) (by decide +kernel) l01
    · exact lett_one ll lkk (by decide +kernel) (by decide +kernel) l10
    · exact lett_one ll lkk (by decide +kernel) (by decide +kernel) l11
  have GC : GCl K mg CG fGI := ⟨⟨pgG, hdiG, poG, saG⟩, nG0, nG1, nG2, nG3, nG4, ⟨mkG, icG, ifG, kpG⟩, PySem.W.mg_of X G aG⟩
  have V : Four K mg CT CB CU CA CM := ⟨PySem.W.mg_of X G aT, PySem.W.mg_of X G aB, PySem.W.mg_of X G aU, PySem.W.mg_of X G aA, PySem.W.mg_of X G aM, nUl, nUc, nB0, nB1, nU0, nA0, nA1, nM0, kcB.xf, kcU.xf, kcA.xf, kcM.xf, exBT, kcB.ex, exUT, exUB, kcU.ex, exAT, exAB, exAU, kcA.ex, exMT, exMB, exMU, exMA, kcM.ex⟩
  have GE : GEnv K w mg C CT CB CU CA CM fI fE fB fU fA fM fBN hA lA dB dBN dU dA dM fIs fHo fBo fHp fPa fCr fSh fBt fLg fIx fCo fLn fCk fRt fSo fFr fLo fC dI dIs dHo dBo dHp dPa dCr dSh dBt dLg dIx dCo dLn dCk dRt dSo dFr dLo dC := ⟨N, FI, bI, FC, bC, PySem.W.mg_of X G gC, TT, XB, XU, XA, XM, hd, lt, PySem.W.mg_none_of X G z_zip, B, FIs, bIs, PySem.W.mg_of X G gIs, FHo, bHo, PySem.W.mg_of X G gHo, FBo, bBo, PySem.W.mg_of X G gBo, FHp, bHp, PySem.W.mg_of X G gHp, FPa, bPa, PySem.W.mg_of X G gPa, FCr, bCr, PySem.W.mg_of X G gCr, FSh, bSh, PySem.W.mg_of X G gSh, FBt, bBt, PySem.W.mg_of X G gBt, FLg, bLg, PySem.W.mg_of X G gLg, FIx, bIx, PySem.W.mg_of X G gIx, FCo, bCo, PySem.W.mg_of X G gCo, FLn, bLn, PySem.W.mg_of X G gLn, FCk, bCk, PySem.W.mg_of X G gCk, FRt, bRt, PySem.W.mg_of X G gRt, FSo, bSo, PySem.W.mg_of X G gSo, FFr, bFr, PySem.W.mg_of X G gFr, FLo, bLo, PySem.W.mg_of X G gLo⟩
  have T : Top K w mg C CT CB CU CA CM fI fE fB fU fA fM fBN hA lA fIs fHo fBo fHp fPa fCr fSh fBt fLg fIx fCo fLn fCk fRt fSo fFr fLo fC CG fGI fPn fDr fPk fSu fOn fCx fPr fLe fTx fOt fSm fGa fCd fWy fSt fMi fDu dB dBN dU dA dM dI dIs dHo dBo dHp dPa dCr dSh dBt dLg dIx dCo dLn dCk dRt dSo dFr dLo dC dGI dE dPn dDr dPk dSu dOn dCx dPr dLe dTx dOt dSm dGa dCd dWy dSt dMi dDu := ⟨GE, FGI, bGI, GC, cne, FE, bE, V, FPn, bPn, PySem.W.mg_of X G gPn, FDr, bDr, PySem.W.mg_of X G gDr, FPk, bPk, PySem.W.mg_of X G gPk, FSu, bSu, PySem.W.mg_of X G gSu, FOn, bOn, PySem.W.mg_of X G gOn, FCx, bCx, PySem.W.mg_of X G gCx, FPr, bPr, PySem.W.mg_of X G gPr, FLe, bLe, PySem.W.mg_of X G gLe, FTx, bTx, PySem.W.mg_of X G gTx, FOt, bOt, PySem.W.mg_of X G gOt, FSm, bSm, PySem.W.mg_of X G gSm, FGa, bGa, PySem.W.mg_of X G gGa, FCd, bCd, PySem.W.mg_of X G gCd, FWy, bWy, PySem.W.mg_of X G gWy, FSt, bSt, PySem.W.mg_of X G gSt, FMi, bMi, PySem.W.mg_of X G gMi, FDu, bDu, PySem.W.mg_of X G gDu⟩
  refine ⟨PySem.W.fnOf "law" "law" (defArgs sLaw) (defBody sLaw) (defScope sLaw) .none kV doc pm an (.ref c) ct, [(c, tP)], spLawT K tP, fun p hp => ?_, fun p hp => ?_, fun p hp => ?_, fun s v => .of_eq rfl, ?_, ?_⟩
  · rw [List.mem_singleton.mp hp]
    exact hTs tP mem
  · rw [List.mem_singleton.mp hp]
    exact nP_
  · rw [List.mem_singleton.mp hp]
    exact PySem.W.codeHd_of_K X hb
  · intro H a ns hl _ hT hS
    exact ⟨a, ns, rfl, hS, hl, hT (c, tP) (List.mem_singleton.mpr rfl), fun _ => rfl⟩
  · intro base _ _ TB
    exact ok_law lk hcd (TB (c, tP) (List.mem_singleton.mpr rfl)) T
theorem walk {l : PySem.W.OpenLaw} {q : Program} {loose : List Str} {XP : (Str → Option Value) → Heap → Prop} {YP : World → Heap → Prop} {d : DefRec} {K : Params → PySem.W.Frag} (hn : l.most = some 63) (hdf : d.params.defaults = [])
    (ts : List Addr) (hY : ∀ (w : World) (h : Heap), YP w h → (K w.params).In h) (hT : ∀ (w : World) (h : Heap), YP w h → ∀ R ∈ ts, h.get? R = some (PySem.W.tabObj #[]))
    (F : ∀ (w : World) (mg : Str → Option Value) (fa : Addr) (h : Heap), (K w.params).In h → h.Ns mainGlobals mg → mg d.name = some (.ref fa) → (∀ R ∈ ts, h.get? R = some (PySem.W.tabObj #[])) → LawAtS l w (K w.params) CX0 13 63 "_law_script" mg fa h) :
    PySem.W.WalkO q loose XP YP l.row.toRowW d [] (fun f vs => PySem.call f vs) :=
  walk_ofTs (n := 63) (k := 13) (x := "_law_script") (CX := fun _ => CX0) hn (by decide) hdf ⟨rfl, by decide, by decide⟩ hY (fun w mg fa h Y X G e => F w mg fa h X G e (hT w h Y)) (fun _ _ _ _ _ z => z)
end KQ
open PySem PySem.W PyProof.Rows
set_option maxRecDepth 100000 in
set_option maxHeartbeats 0 in
theorem PySem.Challenge.cw_keptqubits_k11_whole_strings_that_make_n_holds : PySem.Challenge.rw_keptqubits_k11_whole_strings_that_make_n.Holds := by
  w_on; o_law; k_head; (case hw => w_witness2)
  k_fill
  refine KQ.walk (l := PySem.Challenge.rw_keptqubits_k11_whole_strings_that_make_n) rfl rfl _ (fun w h Y => PySem.W.km_in_of Y) (fun w h Y => PySem.W.km_tabs_of Y) ?F
  case F =>
    intro w mg fa h KX G hmg own
    refine' KQ.all_mk rfl KX G hmg own ?zq_aK ?zq_aT ?zq_aB ?zq_aU ?zq_aA ?zq_aM ?zq_aP ?zq_aG ?zq_aH ?zq_kcT ?zq_icT ?zq_tiT ?zq_nT0 ?zq_nT1 ?zq_F_T ?zq_kcB ?zq_icB ?zq_tiB ?zq_nB0 ?zq_nB1 ?zq_F_B ?zq_kcU ?zq_icU ?zq_tiU ?zq_nU0 ?zq_F_U ?zq_kcA ?zq_icA ?zq_tiA ?zq_nA0 ?zq_nA1 ?zq_F_A ?zq_kcM ?zq_icM ?zq_tiM ?zq_nM0 ?zq_F_M ?zq_nUl ?zq_nUc ?zq_exBT ?zq_exUT ?zq_exUB ?zq_exAT ?zq_exAB ?zq_exAU ?zq_exMT ?zq_exMB ?zq_exMU ?zq_exMA ?zq_pgP ?zq_hdiP ?zq_poP ?zq_saP ?zq_nP0 ?zq_nP1 ?zq_nP2 ?zq_nP3 ?zq_mkP ?zq_icP ?zq_ifP ?zq_kpP ?zq_pgG ?zq_hdiG ?zq_poG ?zq_saG ?zq_nG0 ?zq_nG1 ?zq_nG2 ?zq_nG3 ?zq_nG4 ?zq_mkG ?zq_icG ?zq_ifG ?zq_kpG ?zq_haP ?zq_hnP ?zq_htP ?zq_hmP ?zq_kCP ?zq_kSP ?zq_eqP ?zq_efP ?zq_enP ?zq_hl ?zq_aL ?zq_ll ?zq_lkk ?zq_l00 ?zq_l10 ?zq_l11 ?zq_l01 ?zq_FI ?zq_FE ?zq_FGI ?zq_cne ?zq_gC ?zq_FC ?zq_gIs ?zq_FIs ?zq_gHo ?zq_FHo ?zq_gBo ?zq_FBo ?zq_gHp ?zq_FHp ?zq_gPa ?zq_FPa ?zq_gCr ?zq_FCr ?zq_gSh ?zq_FSh ?zq_gBt ?zq_FBt ?zq_gIx ?zq_FIx ?zq_gCo ?zq_FCo ?zq_gCk ?zq_FCk ?zq_gRt ?zq_FRt ?zq_gSo ?zq_FSo ?zq_gFr ?zq_FFr ?zq_gLo ?zq_FLo ?zq_gLg ?zq_FLg ?zq_gLn ?zq_FLn ?zq_gPn ?zq_FPn ?zq_gDr ?zq_FDr ?zq_gPk ?zq_FPk ?zq_gSu ?zq_FSu ?zq_gOn ?zq_FOn ?zq_gCx ?zq_FCx ?zq_gPr ?zq_FPr ?zq_gLe ?zq_FLe ?zq_gTx ?zq_FTx ?zq_gOt ?zq_FOt ?zq_gSm ?zq_FSm ?zq_gGa ?zq_FGa ?zq_gCd ?zq_FCd ?zq_gWy ?zq_FWy ?zq_gSt ?zq_FSt ?zq_gMi ?zq_FMi ?zq_gDu ?zq_FDu ?zq_z_isinstance ?zq_z_int ?zq_z_bool ?zq_z_str ?zq_z_len ?zq_z_range ?zq_z_list ?zq_z_enumerate ?zq_z_tuple ?zq_z_min ?zq_z_sorted ?zq_z_reversed ?zq_z_zip ?zq_gLa ?zq_lk ?zq_hcd ?zq_lc ?zq_h11 ?zq_nP_ ?zq_hb ?zq_mem
    (case zq_aK => k_is)
    (case zq_aT => k_is)
    (case zq_aB => k_is)
    (case zq_aU => k_is)
    (case zq_aA => k_is)
    (case zq_aM => k_is)
    (case zq_aP => k_is)
    (case zq_aG => k_is)
    (case zq_aH => k_is)
    (case zq_kcT => refine' KQ.KC.of ?l ?sa ?ty ?kp ?hg ?hk ?ha; (case l => k_is); (case sa => k_is); (case ty => k_is); (case kp => k_is); (case hg => k_is); (case hk => k_is); (case ha => k_is))
    (case zq_icT => k_is)
    (case zq_tiT => k_is)
    (case zq_nT0 => k_is)
    (case zq_nT1 => k_is)
    (case zq_F_T => refine' KQ.fun_ex ?l ?c ?k; (case l => k_is); (case c => k_is); (case k => k_is))
    (case zq_kcB => refine' KQ.KC.of ?l ?sa ?ty ?kp ?hg ?hk ?ha; (case l => k_is); (case sa => k_is); (case ty => k_is); (case kp => k_is); (case hg => k_is); (case hk => k_is); (case ha => k_is))
    (case zq_icB => k_is)
    (case zq_tiB => k_is)
    (case zq_nB0 => k_is)
    (case zq_nB1 => k_is)
    (case zq_F_B => refine' KQ.fun_ex ?l ?c ?k; (case l => k_is); (case c => k_is); (case k => k_is))
    (case zq_kcU => refine' KQ.KC.of ?l ?sa ?ty ?kp ?hg ?hk ?ha; (case l => k_is); (case sa => k_is); (case ty => k_is); (case kp => k_is); (case hg => k_is); (case hk => k_is); (case ha => k_is))
    (case zq_icU => k_is)
    (case zq_tiU => k_is)
    (case zq_nU0 => k_is)
    (case zq_F_U => refine' KQ.fun_ex ?l ?c ?k; (case l => k_is); (case c => k_is); (case k => k_is))
    (case zq_kcA => refine' KQ.KC.of ?l ?sa ?ty ?kp ?hg ?hk ?ha; (case l => k_is); (case sa => k_is); (case ty => k_is); (case kp => k_is); (case hg => k_is); (case hk => k_is); (case ha => k_is))
    (case zq_icA => k_is)
    (case zq_tiA => k_is)
    (case zq_nA0 => k_is)
    (case zq_nA1 => k_is)
    (case zq_F_A => refine' KQ.fun_ex ?l ?c ?k; (case l => k_is); (case c => k_is); (case k => k_is))
    (case zq_kcM => refine' KQ.KC.of ?l ?sa ?ty ?kp ?hg ?hk ?ha; (case l => k_is); (case sa => k_is); (case ty => k_is); (case kp => k_is); (case hg => k_is); (case hk => k_is); (case ha => k_is))
    (case zq_icM => k_is)
    (case zq_tiM => k_is)
    (case zq_nM0 => k_is)
    (case zq_F_M => refine' KQ.fun_ex ?l ?c ?k; (case l => k_is); (case c => k_is); (case k => k_is))
    (case zq_nUl => k_is)
    (case zq_nUc => k_is)
    (case zq_exBT => first | k_is | kernel_rfl | decide +kernel)
    (case zq_exUT => first | k_is | kernel_rfl | decide +kernel)
    (case zq_exUB => first | k_is | kernel_rfl | decide +kernel)
    (case zq_exAT => first | k_is | kernel_rfl | decide +kernel)
    (case zq_exAB => first | k_is | kernel_rfl | decide +kernel)
    (case zq_exAU => first | k_is | kernel_rfl | decide +kernel)
    (case zq_exMT => first | k_is | kernel_rfl | decide +kernel)
    (case zq_exMB => first | k_is | kernel_rfl | decide +kernel)
    (case zq_exMU => first | k_is | kernel_rfl | decide +kernel)
    (case zq_exMA => first | k_is | kernel_rfl | decide +kernel)
    (case zq_pgP => k_is)
    (case zq_hdiP => k_is)
    (case zq_poP => k_is)
    (case zq_saP => k_is)
    (case zq_nP0 => k_is)
    (case zq_nP1 => k_is)
    (case zq_nP2 => k_is)
    (case zq_nP3 => k_is)
    (case zq_mkP => k_is)
    (case zq_icP => k_is)
    (case zq_ifP => first | k_is | kernel_rfl | decide +kernel)
    (case zq_kpP => k_is)
    (case zq_pgG => k_is)
    (case zq_hdiG => k_is)
    (case zq_poG => k_is)
    (case zq_saG => k_is)
    (case zq_nG0 => k_is)
    (case zq_nG1 => k_is)
    (case zq_nG2 => k_is)
    (case zq_nG3 => k_is)
    (case zq_nG4 => k_is)
    (case zq_mkG => k_is)
    (case zq_icG => k_is)
    (case zq_ifG => first | k_is | kernel_rfl | decide +kernel)
    (case zq_kpG => k_is)
    (case zq_haP => k_is)
    (case zq_hnP => first | k_is | kernel_rfl | decide +kernel)
    (case zq_htP => first | k_is | kernel_rfl | decide +kernel)
    (case zq_hmP => first | k_is | kernel_rfl | decide +kernel)
    (case zq_kCP => first | k_is | kernel_rfl | decide +kernel)
    (case zq_kSP => first | k_is | kernel_rfl | decide +kernel)
    (case zq_eqP => k_is)
    (case zq_efP => first | k_is | kernel_rfl | decide +kernel)
    (case zq_enP => first | k_is | kernel_rfl | decide +kernel)
    (case zq_hl => refine' KQ.hd_ex ?l; (case l => k_is))
    (case zq_aL => k_is)
    (case zq_ll => k_is)
    (case zq_lkk => first | k_is | exact ⟨⟨_, _, rfl, rfl⟩, ⟨_, _, rfl, rfl⟩, ⟨_, _, rfl, rfl⟩, ⟨_, _, rfl, rfl⟩, trivial⟩)
    (case zq_l00 => k_is)
    (case zq_l10 => k_is)
    (case zq_l11 => k_is)
    (case zq_l01 => k_is)
    (case zq_FI => refine' KQ.fun_ex ?l ?c ?k; (case l => k_is); (case c => k_is); (case k => k_is))
    (case zq_FE => refine' KQ.fun_ex ?l ?c ?k; (case l => k_is); (case c => k_is); (case k => k_is))
    (case zq_FGI => refine' KQ.fun_ex ?l ?c ?k; (case l => k_is); (case c => k_is); (case k => k_is))
    (case zq_cne => first | decide | decide +kernel | simp)
    (case zq_gC => k_is)
    (case zq_FC => refine' KQ.fun_ex ?l ?c ?k; (case l => k_is); (case c => k_is); (case k => k_is))
    (case zq_gIs => k_is)
    (case zq_FIs => refine' KQ.fun_ex ?l ?c ?k; (case l => k_is); (case c => k_is); (case k => k_is))
    (case zq_gHo => k_is)
    (case zq_FHo => refine' KQ.fun_ex ?l ?c ?k; (case l => k_is); (case c => k_is); (case k => k_is))
    (case zq_gBo => k_is)
    (case zq_FBo => refine' KQ.fun_ex ?l ?c ?k; (case l => k_is); (case c => k_is); (case k => k_is))
    (case zq_gHp => k_is)
    (case zq_FHp => refine' KQ.fun_ex ?l ?c ?k; (case l => k_is); (case c => k_is); (case k => k_is))
    (case zq_gPa => k_is)
    (case zq_FPa => refine' KQ.fun_ex ?l ?c ?k; (case l => k_is); (case c => k_is); (case k => k_is))
    (case zq_gCr => k_is)
    (case zq_FCr => refine' KQ.fun_ex ?l ?c ?k; (case l => k_is); (case c => k_is); (case k => k_is))
    (case zq_gSh => k_is)
    (case zq_FSh => refine' KQ.fun_ex ?l ?c ?k; (case l => k_is); (case c => k_is); (case k => k_is))
    (case zq_gBt => k_is)
    (case zq_FBt => refine' KQ.fun_ex ?l ?c ?k; (case l => k_is); (case c => k_is); (case k => k_is))
    (case zq_gIx => k_is)
    (case zq_FIx => refine' KQ.fun_ex ?l ?c ?k; (case l => k_is); (case c => k_is); (case k => k_is))
    (case zq_gCo => k_is)
    (case zq_FCo => refine' KQ.fun_ex ?l ?c ?k; (case l => k_is); (case c => k_is); (case k => k_is))
    (case zq_gCk => k_is)
    (case zq_FCk => refine' KQ.fun_ex ?l ?c ?k; (case l => k_is); (case c => k_is); (case k => k_is))
    (case zq_gRt => k_is)
    (case zq_FRt => refine' KQ.fun_ex ?l ?c ?k; (case l => k_is); (case c => k_is); (case k => k_is))
    (case zq_gSo => k_is)
    (case zq_FSo => refine' KQ.fun_ex ?l ?c ?k; (case l => k_is); (case c => k_is); (case k => k_is))
    (case zq_gFr => k_is)
    (case zq_FFr => refine' KQ.fun_ex ?l ?c ?k; (case l => k_is); (case c => k_is); (case k => k_is))
    (case zq_gLo => k_is)
    (case zq_FLo => refine' KQ.fun_ex ?l ?c ?k; (case l => k_is); (case c => k_is); (case k => k_is))
    (case zq_gLg => k_is)
    (case zq_FLg => refine' KQ.fun_ex ?l ?c ?k; (case l => k_is); (case c => k_is); (case k => k_is))
    (case zq_gLn => k_is)
    (case zq_FLn => refine' KQ.fun_ex ?l ?c ?k; (case l => k_is); (case c => k_is); (case k => k_is))
    (case zq_gPn => k_is)
    (case zq_FPn => refine' KQ.fun_ex ?l ?c ?k; (case l => k_is); (case c => k_is); (case k => k_is))
    (case zq_gDr => k_is)
    (case zq_FDr => refine' KQ.fun_ex ?l ?c ?k; (case l => k_is); (case c => k_is); (case k => k_is))
    (case zq_gPk => k_is)
    (case zq_FPk => refine' KQ.fun_ex ?l ?c ?k; (case l => k_is); (case c => k_is); (case k => k_is))
    (case zq_gSu => k_is)
    (case zq_FSu => refine' KQ.fun_ex ?l ?c ?k; (case l => k_is); (case c => k_is); (case k => k_is))
    (case zq_gOn => k_is)
    (case zq_FOn => refine' KQ.fun_ex ?l ?c ?k; (case l => k_is); (case c => k_is); (case k => k_is))
    (case zq_gCx => k_is)
    (case zq_FCx => refine' KQ.fun_ex ?l ?c ?k; (case l => k_is); (case c => k_is); (case k => k_is))
    (case zq_gPr => k_is)
    (case zq_FPr => refine' KQ.fun_ex ?l ?c ?k; (case l => k_is); (case c => k_is); (case k => k_is))
    (case zq_gLe => k_is)
    (case zq_FLe => refine' KQ.fun_ex ?l ?c ?k; (case l => k_is); (case c => k_is); (case k => k_is))
    (case zq_gTx => k_is)
    (case zq_FTx => refine' KQ.fun_ex ?l ?c ?k; (case l => k_is); (case c => k_is); (case k => k_is))
    (case zq_gOt => k_is)
    (case zq_FOt => refine' KQ.fun_ex ?l ?c ?k; (case l => k_is); (case c => k_is); (case k => k_is))
    (case zq_gSm => k_is)
    (case zq_FSm => refine' KQ.fun_ex ?l ?c ?k; (case l => k_is); (case c => k_is); (case k => k_is))
    (case zq_gGa => k_is)
    (case zq_FGa => refine' KQ.fun_ex ?l ?c ?k; (case l => k_is); (case c => k_is); (case k => k_is))
    (case zq_gCd => k_is)
    (case zq_FCd => refine' KQ.fun_ex ?l ?c ?k; (case l => k_is); (case c => k_is); (case k => k_is))
    (case zq_gWy => k_is)
    (case zq_FWy => refine' KQ.fun_ex ?l ?c ?k; (case l => k_is); (case c => k_is); (case k => k_is))
    (case zq_gSt => k_is)
    (case zq_FSt => refine' KQ.fun_ex ?l ?c ?k; (case l => k_is); (case c => k_is); (case k => k_is))
    (case zq_gMi => k_is)
    (case zq_FMi => refine' KQ.fun_ex ?l ?c ?k; (case l => k_is); (case c => k_is); (case k => k_is))
    (case zq_gDu => k_is)
    (case zq_FDu => refine' KQ.fun_ex ?l ?c ?k; (case l => k_is); (case c => k_is); (case k => k_is))
    (case zq_z_isinstance => k_is)
    (case zq_z_int => k_is)
    (case zq_z_bool => k_is)
    (case zq_z_str => k_is)
    (case zq_z_len => k_is)
    (case zq_z_range => k_is)
    (case zq_z_list => k_is)
    (case zq_z_enumerate => k_is)
    (case zq_z_tuple => k_is)
    (case zq_z_min => k_is)
    (case zq_z_sorted => k_is)
    (case zq_z_reversed => k_is)
    (case zq_z_zip => k_is)
    (case zq_gLa => k_is)
    (case zq_lk => k_is)
    (case zq_hcd => k_is)
    (case zq_lc => k_is)
    (case zq_h11 => rfl)
    (case zq_nP_ => kernel_rfl)
    (case zq_hb => kernel_rfl)
    (case zq_mem => simp)
