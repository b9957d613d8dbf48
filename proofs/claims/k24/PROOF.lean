import PyProof.Rows.All
import Wide.All
import OpenK.AllK
import Wide.FinOn
import HandS.Base
import HandS.Call
import HandS.List
import PyProof.Rows.SeqCalls
import HandS.ForMost
import HandS.Wide
import HandS.Codes
import HandS.Text
import HandS.StrMore
import PyProof.Rows.StrStrike
import PyProof.Rows.StrCountLaw
import HandS.OwnEq
import HandS.Exc
import HandS.TryMany
import HandS.Strs
import HandS.Replace
import HandS.ReplaceLit
import HandS.Comp
import HandS.IsInst
import HandS.ExcInit
import HandS.ExcField
import HandS.WordsExc
import HandS.Style
import HandS.DeepEq
import HandS.CallLocal
import HandS.Lambda
import HandS.EndOwn
import HandS.Walk
import HandS.ExcIs
import PyProof.ListStr
import HandS.Translate
import HandS.IntHex
import HandS.Dict
import HandS.FStr
import HandS.Iter
import HandS.WideBits
import HandS.AnyAll
import HandS.Conv
import HandS.RevRange
import HandS.SortKw
import PyProof.FString3
import PyProof.Rows.StrIntSpec
import PyProof.Rows.StrRev
import PyProof.StrBlock2
import PyProof.ZipIter
import PyProof.Draws
import PyProof.EnumMake
import PyProof.EnumFor
import KE.GoesEnum
import KE.GoesMore
import PyProof.StrOps2
import HandS.NoneIn
import HandS.Star
import HandS.Defaults
import KE.KDictDisplayH
import PyProof.DictDisplay
import HandS.TupLen
import HandS.TupAny
import PySem.Challenge.RW_keptqubits_k24_whole_numbers_of_all_lots
set_option Elab.async false
set_option linter.all false
set_option maxRecDepth 100000
set_option maxHeartbeats 4000000
namespace KQ
open PySem PySem.Spec PyProof.Rows L2
theorem ints_are : ∀ {ns : List Int} {us : List Value}, Vals (ns.map V.int) us → IntsAre us ns
  | [], _, .nil => .nil
  | n :: ns, _, .cons r t => by
    obtain ⟨k, rfl⟩ := r
    exact .cons n k (ints_are t)
theorem call_maxInts {X : Cx} (calm : X.calm = true) : CallR X (.builtin "max") (fun xs H Q => ∃ (p : Addr) (ns : List Int), xs = [.ref p] ∧ SqL X.K H p (ns.map V.int) ∧ ns ≠ [] ∧ ∀ M, M ∈ ns → (∀ a ∈ ns, a ≤ M) → Q (.int M) H) := by
  intro pins s σ H xs us Q I r want
  obtain ⟨p, ns, rfl, hs, h0, q⟩ := want
  obtain ⟨its, rv, hl, _⟩ := I.list hs
  rw [Vals.ref1 r]
  have ia := ints_are rv
  obtain ⟨ys, ey⟩ := ia.allInts.items
  have nums : numsOf its.toArray.toList = ns := by rw [show its.toArray.toList = its from rfl, ia.numsOf]
  rw [ey, nums_intItems] at nums
  have hl' := hl.isList
  rw [ey] at hl'
  have hsz : 0 < ys.size := by
    have h1 := congrArg List.length nums
    rw [List.length_map, Array.length_toList] at h1
    have := List.length_pos_iff.mpr h0
    omega
  refine max_intList (I.ok.hd calm) hl' hsz fun v h' tk hv hk => ?_
  obtain ⟨t, rfl⟩ := intItems_at hv
  obtain ⟨h1, h2⟩ := argBest_gt (numAt ys) (ys.size - 1)
  refine ⟨.int _, H, I.kept hk, ⟨t, rfl⟩, q _ ?_ fun a ha => ?_⟩
  · rw [← nums, numAt_eq]
    exact getD_mem (by rw [List.length_map, Array.length_toList]; omega)
  · rw [← nums] at ha
    obtain ⟨j, hj, rfl⟩ := mem_getD ha
    rw [List.length_map, Array.length_toList] at hj
    rw [← numAt_eq]
    exact h2 j (by omega)
end KQ
namespace KQ
open PySem PySem.Spec PyProof.Rows L2
def topS (i : Nat) : Stmt := PySem.Challenge.pw_keptqubits_k24_whole_numbers_of_all_lots.main.body.getD i (.Pass ⟨0, 0, 0, 0⟩)
abbrev sPen : Stmt := topS 63
abbrev sDraw : Stmt := topS 64
abbrev sPick : Stmt := topS 65
theorem scPen : FnScope ["_law_script", "_law_fold", "_law_cell"] ["_law_script"] (defScope sPen) := ⟨rfl, rfl, rfl, by decide +kernel, rfl, by decide +kernel, by decide +kernel⟩
theorem scDraw : FnScope ["_law_pen_here", "_law_many", "_law_cell", "_law_digit", "_law_mixed"] ["_law_pen_here", "_law_many"] (defScope sDraw) := ⟨rfl, rfl, rfl, by decide +kernel, rfl, by decide +kernel, by decide +kernel⟩
theorem scPick : FnScope ["_law_pen_here", "_law_some"] ["_law_pen_here", "_law_some"] (defScope sPick) := ⟨rfl, rfl, rfl, by decide +kernel, rfl, by decide +kernel, by decide +kernel⟩
theorem k12 : ¬ ("cells" : Str) = "at" := by decide +kernel
theorem k13 : ¬ ("cells" : Str) = "digits" := by decide +kernel
theorem k14 : ¬ ("cells" : Str) = "count" := by decide +kernel
theorem k15 : ¬ ("cells" : Str) = "fold" := by decide +kernel
theorem k23 : ¬ ("at" : Str) = "digits" := by decide +kernel
theorem k24 : ¬ ("at" : Str) = "count" := by decide +kernel
theorem k25 : ¬ ("at" : Str) = "fold" := by decide +kernel
theorem k32 : ¬ ("digits" : Str) = "at" := by decide +kernel
theorem k34 : ¬ ("digits" : Str) = "count" := by decide +kernel
theorem k35 : ¬ ("digits" : Str) = "fold" := by decide +kernel
theorem k42 : ¬ ("count" : Str) = "at" := by decide +kernel
theorem k43 : ¬ ("count" : Str) = "digits" := by decide +kernel
theorem k45 : ¬ ("count" : Str) = "fold" := by decide +kernel
theorem k52 : ¬ ("fold" : Str) = "at" := by decide +kernel
theorem k53 : ¬ ("fold" : Str) = "digits" := by decide +kernel
theorem k54 : ¬ ("fold" : Str) = "count" := by decide +kernel
def kvsP (c : Addr) (a d n f : Int) : List (Key × V) := [(.inr "cells", .ref c), (.inr "at", .int a), (.inr "digits", .int d), (.inr "count", .int n), (.inr "fold", .int f)]
section
variable (c : Addr) (a d n f z : Int)
theorem vCells : valV (kvsP c a d n f) (.inr "cells" : Key) = some (.ref c) := by simp [kvsP, valV, List.find?]
theorem vAt : valV (kvsP c a d n f) (.inr "at" : Key) = some (.int a) := by simp [kvsP, valV, List.find?, k12]
theorem vDigits : valV (kvsP c a d n f) (.inr "digits" : Key) = some (.int d) := by simp [kvsP, valV, List.find?, k13, k23]
theorem vCount : valV (kvsP c a d n f) (.inr "count" : Key) = some (.int n) := by simp [kvsP, valV, List.find?, k14, k24, k34]
theorem vFold : valV (kvsP c a d n f) (.inr "fold" : Key) = some (.int f) := by simp [kvsP, valV, List.find?, k15, k25, k35, k45]
theorem pAt : putK (kvsP c a d n f) (.inr "at" : Key) (.int z) = kvsP c z d n f := by simp [kvsP, putK, k12, k32, k42, k52]
theorem pDigits : putK (kvsP c a d n f) (.inr "digits" : Key) (.int z) = kvsP c a z n f := by simp [kvsP, putK, k13, k23, k43, k53]
theorem pCount : putK (kvsP c a d n f) (.inr "count" : Key) (.int z) = kvsP c a d z f := by simp [kvsP, putK, k14, k24, k34, k54]
theorem pFold : putK (kvsP c a d n f) (.inr "fold" : Key) (.int z) = kvsP c a d n z := by simp [kvsP, putK, k15, k25, k35, k45]
theorem mPen : mergeK [] [((.inr "cells" : Key), V.ref c), (.inr "at", .int a), (.inr "digits", .int d), (.inr "count", .int n), (.inr "fold", .int f)] = kvsP c a d n f := by
  simp [mergeK, kvsP, putK, k12, k13, k14, k15, k23, k24, k25, k34, k35, k45]
end
theorem getS {H : Hp} {a : Addr} {kvs : List (Key × V)} {x : Str} {v : V} (e : H a = some (.dK kvs)) (h : valV kvs (.inr x : Key) = some v) : DGet H a (.str x) (some v) := .inl ⟨kvs, .inr x, .inl e, rfl, h.symm⟩
theorem putS {H : Hp} {a : Addr} {kvs kvs' : List (Key × V)} {x : Str} {v : V} (e : H a = some (.dK kvs)) (hl : kvs.length < sizeLine) (h : putK kvs (.inr x : Key) v = kvs') : DPut H a (.str x) v (upd H a (.dK kvs')) := .inl ⟨kvs, .inr x, e, rfl, hl, by rw [h]⟩
theorem lenP {c : Addr} {a d n f : Int} : (kvsP c a d n f).length < sizeLine := small1000 (by show 5 ≤ 1000; decide)
/-- a pen stands at p, its cells at c, n draws so far -/
def PenAt (H : Hp) (p c : Addr) (n : Nat) : Prop := ∃ (ns : List Int) (a d f : Int), H p = some (.dK (kvsP c a d n f)) ∧ H c = some (.lst (ns.map V.int)) ∧ ns.length ≤ 63 ∧ 0 ≤ a ∧ 0 ≤ d ∧ 0 ≤ f ∧ f < 2147483587
theorem PenAt.ne {H : Hp} {p c : Addr} {n : Nat} (h : PenAt H p c n) : p ≠ c := by
  obtain ⟨ns, a, d, f, hp, hc, _⟩ := h
  exact ne_of hp hc (by intro z; cases z)
theorem PenAt.same {H H' : Hp} {p c : Addr} {n : Nat} (h : PenAt H p c n) (hp : H' p = H p) (hc : H' c = H c) : PenAt H' p c n := by
  obtain ⟨ns, a, d, f, e1, e2, r⟩ := h
  exact ⟨ns, a, d, f, hp.trans e1, hc.trans e2, r⟩
theorem PenAt.some {H : Hp} {p c : Addr} {n : Nat} (h : PenAt H p c n) : (∃ o, H p = some o) ∧ ∃ o, H c = some o := by
  obtain ⟨ns, a, d, f, e1, e2, r⟩ := h
  exact ⟨⟨_, e1⟩, ⟨_, e2⟩⟩
theorem PenAt.ext {H H' : Hp} {p c : Addr} {n : Nat} (h : PenAt H p c n) (s : Same H H') : PenAt H' p c n := by
  obtain ⟨⟨o, e1⟩, o', e2⟩ := h.some
  exact h.same ((s _ _ e1).trans e1.symm) ((s _ _ e2).trans e2.symm)
theorem sqL_pen {K : PySem.W.Frag} {H H' : Hp} {p y : Addr} {xs : List V} {kv : List (Key × V)} (hk : ∀ b, b ≠ p → H' b = H b) (hp : H p = some (.dK kv)) (h : SqL K H y xs) : SqL K H' y xs := by
  rcases h with (h | ⟨ob, h⟩) | h
  · exact .inl (.inl ((hk y (ne_of h hp (by intro z; cases z))).trans h))
  · exact .inl (.inr ⟨ob, (hk y (ne_of h hp (by intro z; cases z))).trans h⟩)
  · exact .inr h
theorem sqT_pen {K : PySem.W.Frag} {H H' : Hp} {p y : Addr} {xs : List V} {kv : List (Key × V)} (hk : ∀ b, b ≠ p → H' b = H b) (hp : H p = some (.dK kv)) (h : SqT K H y xs) : SqT K H' y xs := by
  rcases h with (h | ⟨ob, h⟩) | h
  · exact .inl (.inl ((hk y (ne_of h hp (by intro z; cases z))).trans h))
  · exact .inl (.inr ⟨ob, (hk y (ne_of h hp (by intro z; cases z))).trans h⟩)
  · exact .inr h
theorem ix_or {X : Cx} {r1 r2 : R2} (h1 : IxR X r1) (h2 : IxR X r2) : IxR X (fun x y H Q => r1 x y H Q ∨ r2 x y H Q) := by
  intro val sl pins st σ G x y v u Q J rx ry h hs
  rcases h with h | h
  · exact h1 val sl pins st σ G x y v u Q J rx ry h hs
  · exact h2 val sl pins st σ G x y v u Q J rx ry h hs
def spPen (K : PySem.W.Frag) : Sp := fun vs H Q _ => ∃ (a : Addr) (ns : List Int), vs = [.ref a] ∧ SqL K H a (ns.map V.int) ∧ ns.length ≤ 63 ∧
  ∀ H' p c, Same H H' → H p = none → H c = none → PenAt H' p c 0 → Q (.ref p) H'
def spDraw : Sp := fun vs H Q _ => ∃ (p c : Addr) (n : Nat) (m : Int), vs = [.ref p, .int m] ∧ PenAt H p c n ∧ n < 1000000 ∧ 0 < m ∧ m.natAbs < 2 ^ 200 ∧
  ∀ (r : Int) H', 0 ≤ r → r < m → PenAt H' p c (n + 1) → (∀ b, b ≠ p → H' b = H b) → Q (.int r) H'
def spPick (K : PySem.W.Frag) : Sp := fun vs H Q _ => ∃ (p c q : Addr) (n : Nat) (xs : List V), vs = [.ref p, .ref q] ∧ PenAt H p c n ∧ n < 1000000 ∧ (SqL K H q xs ∨ SqT K H q xs) ∧ xs ≠ [] ∧ xs.length ≤ 1000 ∧
  ∀ (i : Nat) (v : V) H', xs[i]? = some v → PenAt H' p c (n + 1) → (∀ b, b ≠ p → H' b = H b) → Q v H'
section
variable {P : Program} {w : World} {K : PySem.W.Frag} {mg : Str → Option Value} {base : Heap}
theorem ok_pen {f : Addr} {fd : FuncData} {k : Nat} (F : Fun K "_law_pen" "_law_pen" sPen f fd) (mi : mg "int" = none) (ml : mg "list" = none) : FnOk P w K mg base CX0 (k + 1) f fd ["_law_script"] (spPen K) := by
  refine F.ok scPen (fun vs H Q E h => ?_) (fun cdv A outer s H vs Q E hr h => ?_)
  · obtain ⟨a, ns, rfl, _⟩ := h
    rfl
  · obtain ⟨a, ns, rfl, hS, hlen, q⟩ := h
    refine ⟨_, pss_cons (ps_set (i := 1) scPen.nd rfl (.inl rfl) pe_int)
      (pss_cons (ps_for PassesOwn.never rfl (pi_list (pv 0)) (pg_name (i := 2) scPen.nd rfl (.inl rfl))
        (pss_one (ps_set (i := 1) scPen.nd rfl (.inl rfl) (pe_op op_mod (pe_callTy call_int1 (by rfl) mi (by decide +kernel) (pa_cons (pe_op op_add (pe_op op_mul (pv 1) pe_int) (pv 2)) pa_nil)) pe_int))))
      (pss_one (ps_ret (pe_disp (pps_cons pe_str (pe_callTy call_list_of (by rfl) ml (by decide +kernel) (pa_cons (pv 0) pa_nil)) (pps_cons pe_str pe_int (pps_cons pe_str pe_int (pps_cons pe_str pe_int (pps_cons pe_str (pv 1) pps_nil))))) (by rfl) (by rfl) (fun z => by cases z) (by decide))))), ?_⟩
    refine ⟨_, rfl, a, rfl, ⟨_, hS⟩, for_list (K := K) (a := a) (xs := ns.map V.int) (fun i σ H2 => ∃ (g : Int) (v : Option V), σ = [some (.ref a), some (.int g), v] ∧ H2 = H ∧ 0 ≤ g ∧ g < 1000000007)
      ⟨0, none, rfl, rfl, by decide, by decide⟩ (fun i σ H2 _ ⟨_, _, _, e, _⟩ => by rw [e]; exact hS) ?_ ?_⟩
    · rintro i y σ H2 hi ⟨g, v, rfl, rfl, h0, h1⟩
      obtain ⟨z, rfl⟩ : ∃ z, y = V.int z := by
        rw [List.getElem?_map] at hi
        cases e : ns[i]? with
        | none => rw [e] at hi; cases hi
        | some z => rw [e] at hi; exact ⟨z, (Option.some.inj hi).symm⟩
      refine ⟨_, rfl, _, _, rfl, rfl, .inr ⟨by decide, by decide⟩, _, rfl, _, _, rfl, rfl, .inl ⟨_, rfl, _, _, rfl, rfl, (by show (0 : Int) < 1000000007; decide), ?_⟩⟩
      exact ⟨_, _, rfl, rfl, Int.emod_nonneg _ (by decide), Int.emod_lt_of_pos _ (by decide)⟩
    · rintro σ H2 ⟨g, v, rfl, rfl, h0, h1⟩
      intro p np
      refine ⟨.ref a, rfl, a, ns.map V.int, rfl, .inl ?_, fun c nc => ?_⟩
      · exact Same.seq (H := H2) (fun b o e => by rw [upd_ne (ne_of_none e np)]; exact e) hS
      have ncp : c ≠ p := fun e => by rw [e, upd_same] at nc; cases nc
      have nc2 : H2 c = none := by rw [upd_ne ncp] at nc; exact nc
      refine ⟨_, rfl, ?_⟩
      refine ⟨by rw [upd_ne ncp.symm, upd_same], [((.inr "cells" : Key), V.ref c), (.inr "at", .int 0), (.inr "digits", .int 0), (.inr "count", .int 0), (.inr "fold", .int g)], rfl, (by show 5 ≤ 15; decide), ?_⟩
      rw [mPen]
      refine q _ p c (fun b o e => ?_) np nc2 ⟨ns, 0, 0, g, upd_same, ?_, hlen, by decide, by decide, h0, by omega⟩
      · rw [upd_ne (ne_of_none e np), upd_ne (ne_of_none e nc2), upd_ne (ne_of_none e np)]
        exact e
      · rw [upd_ne ncp, upd_same]
theorem ok_draw {f : Addr} {fd : FuncData} {k : Nat} (F : Fun K "_law_draw" "_law_draw" sDraw f fd) (mi : mg "int" = none) (ml : mg "len" = none) : FnOk P w K mg base CX0 (k + 1) f fd ["_law_pen_here", "_law_many"] spDraw := by
  refine F.ok scDraw (fun vs H Q E h => ?_) (fun cdv A outer s H vs Q E hr h => ?_)
  · obtain ⟨p, c, n, m, rfl, _⟩ := h
    rfl
  · obtain ⟨p, c, n, m, rfl, hP, hn, hm, hm9, q⟩ := h
    have hu := hu_of hr
    have hpc := hP.ne
    obtain ⟨ns, a0, d0, f0, hp, hc, hlen, ha, hd, hf0, hf1⟩ := hP
    refine ⟨_, pss_cons (ps_dput hu (pv 0) pe_str (pe_op op_add (pe_dget hu (pv 0) pe_str (fun _ _ => rfl)) pe_int) rfl)
      (C8.pss_cut (ps_if (pw_and (pt_cmpR op_eq (pe_dget hu (pv 0) pe_str (fun _ _ => rfl)) pe_int (nomark _))
            (pw_and1 (pt_cmpR op_lt (pe_dget hu (pv 0) pe_str (fun _ _ => rfl)) (pe_callB call_len_seq (by rfl) ml PySem.boot_len (pa_cons (pe_dget hu (pv 0) pe_str (fun _ _ => rfl)) pa_nil)) (nomark _)))).pt
          (pss_cons (ps_set (i := 2) scDraw.nd rfl (.inl rfl) (pe_ix ix_list (pe_dget hu (pv 0) pe_str (fun _ _ => rfl)) (pe_dget hu (pv 0) pe_str (fun _ _ => rfl)) (fun _ _ => rfl)))
          (pss_cons (ps_dput hu (pv 0) pe_str (pe_op op_add (pe_dget hu (pv 0) pe_str (fun _ _ => rfl)) pe_int) rfl)
          (pss_one (ps_if (pt_cmpR op_ge (pv 2) (pe_op op_pow pe_int pe_int) (nomark _))
            (pss_one (ps_dput hu (pv 0) pe_str (pe_op op_sub (pv 2) (pe_op op_pow pe_int pe_int)) rfl))
            (pss_one (ps_dput hu (pv 0) pe_str (pe_op op_mod (pe_callTy call_int1 (by rfl) mi (by decide +kernel) (pa_cons (pe_op op_add (pe_op op_mul (pe_dget hu (pv 0) pe_str (fun _ _ => rfl)) pe_int) (pv 2)) pa_nil)) pe_int) rfl))))))
          pss_nil)
      (pss_cons (ps_if (pt_cmpR op_gt (pe_dget hu (pv 0) pe_str (fun _ _ => rfl)) pe_int (nomark _))
          (pss_cons (ps_set (i := 3) scDraw.nd rfl (.inl rfl) (pe_op op_mod (pe_callTy call_int1 (by rfl) mi (by decide +kernel) (pa_cons (pe_dget hu (pv 0) pe_str (fun _ _ => rfl)) pa_nil)) (pv 1)))
          (pss_cons (ps_dput hu (pv 0) pe_str (pe_op op_fdivW (pe_dget hu (pv 0) pe_str (fun _ _ => rfl)) (pv 1)) rfl)
          (pss_one (ps_ret (pv 3)))))
          pss_nil)
      (pss_cons (ps_set (i := 4) scDraw.nd rfl (.inl rfl) (pe_op op_add (pe_op op_add (pe_dget hu (pv 0) pe_str (fun _ _ => rfl)) (pe_op op_mul (pe_dget hu (pv 0) pe_str (fun _ _ => rfl)) pe_int)) pe_int))
      (pss_one (ps_ret (pe_op op_mod (pe_op op_fdivW (pe_callTy call_int1 (by rfl) mi (by decide +kernel) (pa_cons (pe_op op_mod (pe_op op_pow (pv 4) pe_int) pe_int) pa_nil)) pe_int) (pv 1))))))), ?_⟩
    -- count
    refine ⟨_, rfl, p, _, rfl, getS hp (vCount ..), _, _, rfl, rfl, _, rfl, p, _, rfl, putS hp lenP (pCount ..), ?_⟩
    have up : ∀ {o : HO}, (upd H p o) p = some o := fun {o} => upd_same
    have uc : ∀ {o : HO}, (upd H p o) c = some (.lst (ns.map V.int)) := fun {o} => by rw [upd_ne hpc.symm]; exact hc
    -- the cell
    refine ⟨fun σ' H' => ∃ (a d g : Int) (v2 : Option V), σ' = [some (.ref p), some (.int m), v2, none, none] ∧ H' = upd H p (.dK (kvsP c a d ((n : Int) + 1) g)) ∧ 0 ≤ a ∧ 0 ≤ d ∧ 0 ≤ g ∧ g < 2147483587, ?_, ?_⟩
    · refine ⟨_, rfl, p, _, rfl, getS up (vDigits ..), rfl, _, rfl, ite2 (fun e1 => ?_) (fun e1 => ?_)⟩
      · refine ⟨_, rfl, p, _, rfl, getS up (vAt ..), _, rfl, p, _, rfl, getS up (vCells ..), c, _, rfl, .inl (SqL.of uc), _, _, rfl, rfl, _, rfl, ite2 (fun e2 => ?_) (fun e2 => ?_)⟩
        · have e2' : a0 < (ns.length : Int) := by
            have z := of_decide_eq_true e2
            rw [List.length_map] at z
            exact z
          have hat : (ns.map V.int)[a0.toNat]? = some (V.int (ns[a0.toNat]'(by omega))) := by
            rw [List.getElem?_map, List.getElem?_eq_getElem (by omega)]
            rfl
          refine ⟨_, rfl, p, _, rfl, getS up (vCells ..), _, rfl, p, _, rfl, getS up (vAt ..), c, _, _, _, rfl, rfl, SqL.of uc, at_of (by omega) hat, ?_⟩
          refine ⟨_, rfl, p, _, rfl, getS up (vAt ..), _, _, rfl, rfl, _, rfl, p, _, rfl, putS up lenP (pAt ..), ?_⟩
          rw [upd_upd]
          refine ⟨_, rfl, _, _, rfl, rfl, ⟨by decide, by decide, by decide⟩, _, _, rfl, rfl, _, rfl, ite2 (fun e3 => ?_) (fun e3 => ?_)⟩
          · refine ⟨_, rfl, _, _, rfl, rfl, ⟨by decide, by decide, by decide⟩, _, _, rfl, rfl, _, rfl, p, _, rfl, putS up lenP (pDigits ..), ?_⟩
            rw [upd_upd]
            have e3' := of_decide_eq_true e3
            exact ⟨_, _, _, _, rfl, rfl, by omega, by omega, hf0, hf1⟩
          · refine ⟨_, rfl, p, _, rfl, getS up (vFold ..), _, _, rfl, rfl, .inr ⟨by decide, by decide⟩, _, rfl, _, _, rfl, rfl, .inl ⟨_, rfl, _, _, rfl, rfl, (by show (0 : Int) < 2147483587; decide), _, rfl, p, _, rfl, putS up lenP (pFold ..), ?_⟩⟩
            rw [upd_upd]
            exact ⟨_, _, _, _, rfl, rfl, by omega, hd, Int.emod_nonneg _ (by decide), Int.emod_lt_of_pos _ (by decide)⟩
        · exact ⟨_, _, _, _, rfl, rfl, ha, hd, hf0, hf1⟩
      · refine iteF ?_
        exact ⟨_, _, _, _, rfl, rfl, ha, hd, hf0, hf1⟩
    · rintro σ' H' ⟨a, d, g, v2, rfl, rfl, ha', hd', hg0, hg1⟩
      have fin : ∀ (r a d g : Int), 0 ≤ r → r < m → 0 ≤ a → 0 ≤ d → 0 ≤ g → g < 2147483587 → Q (.int r) (upd H p (.dK (kvsP c a d ((n : Int) + 1) g))) := fun r a d g r0 r1 a0 d0 g0 g1 =>
        q r _ r0 r1 ⟨ns, a, d, g, up, uc, hlen, a0, d0, g0, g1⟩ fun b hb => upd_ne hb
      refine ⟨_, rfl, p, _, rfl, getS up (vDigits ..), _, _, rfl, rfl, _, rfl, ite2 (fun e1 => ?_) (fun e1 => ?_)⟩
      · refine ⟨_, rfl, p, _, rfl, getS up (vDigits ..), .inl ⟨_, rfl, _, rfl, _, _, rfl, rfl, hm, ?_⟩⟩
        refine ⟨_, rfl, p, _, rfl, getS up (vDigits ..), _, rfl, _, _, rfl, rfl, wide_div hm hm9 (by decide) (by decide), _, rfl, p, _, rfl, putS up lenP (pDigits ..), ?_⟩
        rw [upd_upd]
        refine ⟨_, rfl, ?_⟩
        exact fin _ _ _ _ (Int.emod_nonneg _ (by omega)) (Int.emod_lt_of_pos _ hm) ha' (Int.ediv_nonneg hd' (by omega)) hg0 hg1
      · refine ⟨_, rfl, p, _, rfl, getS up (vFold ..), _, rfl, p, _, rfl, getS up (vCount ..), _, _, rfl, rfl, .inr ⟨by decide, by decide⟩, _, _, rfl, rfl, _, _, rfl, rfl, ?_⟩
        refine ⟨_, rfl, _, _, rfl, rfl, ⟨by decide, by decide, ?_⟩, _, _, rfl, rfl, (by show (0 : Int) < 2305843009213693951; decide), .inl ⟨_, rfl, _, _, rfl, rfl, wide_div (b := 200) (by decide) (by decide) (by decide) (by decide), _, rfl, _, _, rfl, rfl, hm, ?_⟩⟩
        · omega
        · exact fin _ _ _ _ (Int.emod_nonneg _ (by omega)) (Int.emod_lt_of_pos _ hm) ha' hd' hg0 hg1
theorem ok_pick {f fD : Addr} {fd fdD : FuncData} {k : Nat} (F : Fun K "_law_pick" "_law_pick" sPick f fd) (FD : Fun K "_law_draw" "_law_draw" sDraw fD fdD) (bD : Binds K fdD ["_law_pen_here", "_law_many"] []) (gD : mg "_law_draw" = some (.ref fD)) (mi : mg "int" = none) (ml : mg "len" = none) :
    FnOk P w K mg base CX0 (k + 2) f fd ["_law_pen_here", "_law_some"] (spPick K) := by
  have GD : FnOk P w K mg base CX0 (k + 1) fD fdD ["_law_pen_here", "_law_many"] spDraw := ok_draw FD mi ml
  refine F.ok scPick (fun vs H Q E h => ?_) (fun cdv A outer s H vs Q E hr h => ?_)
  · obtain ⟨p, c, y, n, xs, rfl, _⟩ := h
    rfl
  · obtain ⟨p, c, y, n, xs, rfl, hP, hn, hS, h0, hl, q⟩ := h
    refine ⟨_, pss_one (ps_ret (pe_ix (ix_or ix_list ix_tup) (pv 1) (pe_call GD hr (by rfl) gD FD.kp bD .nil pass0 (pa_cons (pv 0) (pa_cons (pe_callB call_len_seq (by rfl) ml PySem.boot_len (pa_cons (pv 1) pa_nil)) pa_nil))) (fun _ _ => rfl))), ?_⟩
    have hpos : 0 < xs.length := List.length_pos_iff.mpr h0
    refine ⟨_, rfl, _, rfl, _, rfl, y, xs, rfl, hS, p, c, n, _, rfl, hP, hn, by omega, ?_, fun r H' r0 r1 hP' hk => ?_⟩
    · have e : (xs.length : Int).natAbs = xs.length := by omega
      rw [e]
      exact Nat.lt_of_le_of_lt hl (by decide)
    · obtain ⟨j, rfl⟩ : ∃ j : Nat, r = (j : Int) := ⟨r.toNat, by omega⟩
      have hj : j < xs.length := by omega
      have hx : xs[j]? = some xs[j] := List.getElem?_eq_getElem hj
      obtain ⟨ns, a0, d0, f0, ep, _⟩ := hP
      rcases hS with hS | hS
      · exact .inl ⟨y, xs, _, _, rfl, rfl, sqL_pen hk ep hS, atI_nat hx, q j _ H' hx hP' hk⟩
      · exact .inr ⟨y, xs, _, _, rfl, rfl, sqT_pen hk ep hS, atI_nat hx, q j _ H' hx hP' hk⟩
end
end KQ
namespace KQ
open PySem PySem.Spec PyProof.Rows L2
abbrev mS (L : List Nat) : Str := ⟨L.toArray⟩
theorem mS_len (L : List Nat) : (mS L).length = L.length := by simp [Str.length]
theorem mS_inj {L M : List Nat} (h : mS L = mS M) : L = M := by
  have := congrArg (fun x : Str => x.cps.toList) h
  simpa using this
theorem mS_app (L M : List Nat) : mS L ++ mS M = mS (L ++ M) := by
  show Str.mk (L.toArray ++ M.toArray) = _
  simp
theorem mS_eta (x : Str) : x = mS x.cps.toList := by
  show x = Str.mk x.cps.toList.toArray
  simp
theorem mS_of {x : Str} {L : List Nat} (h : x.cps.toList = L) : x = mS L := by rw [mS_eta x, h]
theorem mS_cut (L : List Nat) (lo hi : Option Int) : cutS (mS L) lo hi = mS ((L.drop (HT.sIx L.length 0 lo)).take (HT.sIx L.length L.length hi - HT.sIx L.length 0 lo)) := by
  unfold cutS
  rw [mS_len]
theorem cut_from (L : List Nat) (k : Nat) : cutS (mS L) (some (k : Int)) none = mS (L.drop k) := by
  rw [mS_cut, HT.sIx_nat, HT.sIx_none]
  by_cases h : k ≤ L.length
  · rw [Nat.min_eq_left h, List.take_of_length_le (by simp)]
  · rw [Nat.min_eq_right (by omega), List.drop_of_length_le (Nat.le_refl _), List.drop_of_length_le (by omega)]
    simp
theorem cut_to (L : List Nat) (k : Nat) : cutS (mS L) none (some (k : Int)) = mS (L.take k) := by
  rw [mS_cut, HT.sIx_nat, HT.sIx_none, List.drop_zero, Nat.sub_zero]
  by_cases h : k ≤ L.length
  · rw [Nat.min_eq_left h]
  · rw [Nat.min_eq_right (by omega), List.take_of_length_le (Nat.le_refl _), List.take_of_length_le (by omega)]
theorem sw_one (L : List Nat) (c : Nat) : Txt.startswith (mS L) ⟨#[c]⟩ = decide (L.head? = some c) := by
  cases L with
  | nil => rfl
  | cons a L =>
    unfold Txt.startswith Builtin.Str.subAt
    show (decide (0 + 1 ≤ (mS (a :: L)).length) && ((a :: L).toArray.extract 0 (0 + 1) == #[c])) = _
    rw [mS_len]
    by_cases h : a = c
    · subst h
      simp
    · have : ¬ (some a = some c) := fun e => h (Option.some.inj e)
      simp [h]
theorem drop_take {p : Nat → Bool} (L : List Nat) : L.drop (L.takeWhile p).length = L.dropWhile p := by
  have h := List.takeWhile_append_dropWhile (p := p) (l := L)
  have h2 : (L.takeWhile p ++ L.dropWhile p).drop (L.takeWhile p).length = L.dropWhile p := List.drop_left
  rw [h] at h2
  exact h2
theorem lstrip_eq (L S : List Nat) : Txt.lstripChars (mS L) (mS S) = mS (L.dropWhile S.toArray.contains) := by
  have key : Builtin.Str.strSub (mS L) (L.takeWhile S.toArray.contains).length L.length = mS (L.dropWhile S.toArray.contains) := by
    refine mS_of ?_
    rw [PySem.StrLaws.strSub_toList]
    show ((L.drop _).take _) = _
    rw [drop_take, List.take_of_length_le]
    have h := congrArg List.length (List.takeWhile_append_dropWhile (p := S.toArray.contains) (l := L))
    rw [List.length_append] at h
    omega
  unfold Txt.lstripChars Txt.stripBy
  split
  · rename_i h
    have h0 : (L.takeWhile S.toArray.contains).length = 0 := by
      exact eq_of_beq ((Bool.and_eq_true _ _).mp h).1
    rw [← drop_take, h0, List.drop_zero]
  · show Builtin.Str.strSub (mS L) _ (mS L).length = _
    rw [mS_len]
    exact key
theorem strike (L : List Nat) (c : Nat) : Txt.replace (mS L) ⟨#[c]⟩ ⟨#[]⟩ = mS (L.filter (· != c)) := mS_of (by rw [replace_strikes])
def isL (c : Nat) : Bool := (#[73, 88, 89, 90] : Array Nat).contains c
theorem isL_iff {c : Nat} : isL c = true ↔ c = 73 ∨ c = 88 ∨ c = 89 ∨ c = 90 := by
  unfold isL
  simp
def lx (c : Nat) : Nat := if c = 88 ∨ c = 89 then 1 else 0
def lz (c : Nat) : Nat := if c = 90 ∨ c = 89 then 1 else 0
def bv (f : Nat → Nat) : List Nat → Nat
  | [] => 0
  | c :: L => f c + 2 * bv f L
theorem bv_app (f : Nat → Nat) : ∀ (L : List Nat) (c : Nat), bv f (L ++ [c]) = bv f L + 2 ^ L.length * f c
  | [], c => by simp [bv]
  | a :: L, c => by
    show f a + 2 * bv f (L ++ [c]) = f a + 2 * bv f L + 2 ^ (L.length + 1) * f c
    rw [bv_app f L c, Nat.pow_succ, Nat.mul_add, Nat.add_assoc, Nat.mul_comm (2 ^ L.length) 2, Nat.mul_assoc]
theorem bv_take (f : Nat → Nat) {L : List Nat} {k c : Nat} (h : L[k]? = some c) : bv f (L.take (k + 1)) = bv f (L.take k) + 2 ^ k * f c := by
  have hk : k < L.length := by
    rcases Nat.lt_or_ge k L.length with h' | h'
    · exact h'
    · rw [List.getElem?_eq_none h'] at h; cases h
  have e : L.take (k + 1) = L.take k ++ [c] := by
    rw [List.take_succ, h]
    rfl
  rw [e, bv_app, List.length_take, Nat.min_eq_left (by omega)]
theorem bv_bit {f : Nat → Nat} (hf : ∀ c, f c < 2) : ∀ {L : List Nat} {k c : Nat}, L[k]? = some c → bv f L / 2 ^ k % 2 = f c
  | [], k, c, h => by simp at h
  | a :: L, 0, c, h => by
    have e : a = c := by simpa using h
    subst e
    have := hf a
    show (f a + 2 * bv f L) / 2 ^ 0 % 2 = f a
    rw [Nat.pow_zero, Nat.div_one]
    omega
  | a :: L, k + 1, c, h => by
    have h' : L[k]? = some c := by simpa using h
    have := hf a
    show (f a + 2 * bv f L) / 2 ^ (k + 1) % 2 = f c
    rw [Nat.pow_succ, Nat.mul_comm (2 ^ k) 2, ← Nat.div_div_eq_div_mul, show (f a + 2 * bv f L) / 2 = bv f L from by omega]
    exact bv_bit hf h'
theorem bv_lt {f : Nat → Nat} (hf : ∀ c, f c < 2) : ∀ L : List Nat, bv f L < 2 ^ L.length
  | [] => Nat.one_pos
  | a :: L => by
    have := bv_lt hf L
    have := hf a
    show f a + 2 * bv f L < 2 ^ (L.length + 1)
    rw [Nat.pow_succ]
    omega
theorem lx_lt (c : Nat) : lx c < 2 := by unfold lx; split <;> omega
theorem lz_lt (c : Nat) : lz c < 2 := by unfold lz; split <;> omega
theorem letter_back {c : Nat} (h : isL c = true) : ([73, 88, 90, 89] : List Nat)[lx c + 2 * lz c]? = some c := by
  rcases isL_iff.mp h with rfl | rfl | rfl | rfl <;> decide
def pc (n : Nat) : Nat := if h : n = 0 then 0 else n % 2 + pc (n / 2)
termination_by n
decreasing_by omega
theorem pc_zero : pc 0 = 0 := by unfold pc; rfl
theorem pc_two (m b : Nat) (hb : b < 2) : pc (2 * m + b) = b + pc m := by
  by_cases h : 2 * m + b = 0
  · have h1 : m = 0 := by omega
    have h2 : b = 0 := by omega
    subst h1 h2
    rw [pc_zero]
  · rw [pc, dif_neg h, show (2 * m + b) % 2 = b from by omega, show (2 * m + b) / 2 = m from by omega]
theorem and_two (a b i j : Nat) (hi : i < 2) (hj : j < 2) : (2 * a + i) &&& (2 * b + j) = 2 * (a &&& b) + (i &&& j) := by
  have h1 : ((2 * a + i) &&& (2 * b + j)) / 2 = a &&& b := by
    rw [Nat.and_div_two, show (2 * a + i) / 2 = a from by omega, show (2 * b + j) / 2 = b from by omega]
  have h2 : ((2 * a + i) &&& (2 * b + j)) % 2 = i &&& j := by
    have := Nat.and_mod_two_pow (a := 2 * a + i) (b := 2 * b + j) (n := 1)
    rw [Nat.pow_one] at this
    rw [this, show (2 * a + i) % 2 = i from by omega, show (2 * b + j) % 2 = j from by omega]
  omega
theorem or_two (a b i j : Nat) (hi : i < 2) (hj : j < 2) : (2 * a + i) ||| (2 * b + j) = 2 * (a ||| b) + (i ||| j) := by
  have h1 : ((2 * a + i) ||| (2 * b + j)) / 2 = a ||| b := by
    rw [Nat.or_div_two, show (2 * a + i) / 2 = a from by omega, show (2 * b + j) / 2 = b from by omega]
  have h2 : ((2 * a + i) ||| (2 * b + j)) % 2 = i ||| j := by
    have := Nat.or_mod_two_pow (a := 2 * a + i) (b := 2 * b + j) (n := 1)
    rw [Nat.pow_one] at this
    rw [this, show (2 * a + i) % 2 = i from by omega, show (2 * b + j) % 2 = j from by omega]
  omega
theorem pc_step : ∀ (n : Nat), 0 < n → pc (n &&& (n - 1)) + 1 = pc n := by
  intro n
  induction n using Nat.strongRecOn with
  | ind n ih =>
    intro hn
    by_cases h : n % 2 = 1
    · have e : n = 2 * (n / 2) + 1 := by omega
      have e2 : n - 1 = 2 * (n / 2) + 0 := by omega
      have e3 : n &&& (n - 1) = 2 * (n / 2) + 0 := by
        rw [e2]
        conv => lhs; lhs; rw [e]
        rw [and_two _ _ _ _ (by decide) (by decide), Nat.and_self]
        rfl
      rw [e3, pc_two _ _ (by decide)]
      conv => rhs; rw [e]
      rw [pc_two _ _ (by decide)]
      omega
    · have e : n = 2 * (n / 2) + 0 := by omega
      have e2 : n - 1 = 2 * (n / 2 - 1) + 1 := by omega
      have e3 : n &&& (n - 1) = 2 * (n / 2 &&& (n / 2 - 1)) + 0 := by
        rw [e2]
        conv => lhs; lhs; rw [e]
        rw [and_two _ _ _ _ (by decide) (by decide)]
        rfl
      have := ih (n / 2) (by omega) (by omega)
      rw [e3, pc_two _ _ (by decide)]
      conv => rhs; rw [e]
      rw [pc_two _ _ (by decide)]
      omega
def st1 (B : List Nat) : Nat := if B.head? = some 43 ∨ B.head? = some 45 then 1 else 0
def start (B : List Nat) : Nat := st1 B + (if (B.drop (st1 B)).head? = some 105 then 1 else 0)
def rest (B : List Nat) : List Nat := B.drop (start B)
def fine (B : List Nat) : Prop := (rest B).dropWhile isL = [] ∧ rest B ≠ []
instance (B : List Nat) : Decidable (fine B) := inferInstanceAs (Decidable (_ ∧ _))
def col (B : List Nat) : Nat := if fine B then 0 else B.length - ((rest B).dropWhile isL).length + 1
def ph (B : List Nat) : Nat := (if B.head? = some 45 then 2 else 0) + (if (B.drop (st1 B)).head? = some 105 then 1 else 0)
def headL : Nat → List Nat
  | 0 => []
  | 1 => [105]
  | 2 => [45]
  | _ => [45, 105]
theorem ph_lt (B : List Nat) : ph B < 4 := by
  unfold ph
  split <;> split <;> omega
theorem head_of (B : List Nat) : (B.take (start B)).filter (· != 43) = headL (ph B) := by
  cases B with
  | nil => rfl
  | cons a B =>
    unfold start ph
    by_cases h1 : a = 43
    · subst h1
      have e : st1 (43 :: B) = 1 := rfl
      rw [e]
      cases B with
      | nil => rfl
      | cons b B =>
        by_cases h2 : b = 105
        · subst h2
          rfl
        · have e2 : ((43 :: b :: B).drop 1).head? ≠ some 105 := fun z => h2 (Option.some.inj z)
          rw [if_neg e2, if_neg (by simp : ¬ ((43 :: b :: B).head? = some 45))]
          rfl
    · by_cases h3 : a = 45
      · subst h3
        have e : st1 (45 :: B) = 1 := rfl
        rw [e]
        cases B with
        | nil => rfl
        | cons b B =>
          by_cases h2 : b = 105
          · subst h2
            rfl
          · have e2 : ((45 :: b :: B).drop 1).head? ≠ some 105 := fun z => h2 (Option.some.inj z)
            rw [if_neg e2]
            rfl
      · have e : st1 (a :: B) = 0 := by
          unfold st1
          rw [if_neg]
          rintro (z | z)
          · exact h1 (Option.some.inj z)
          · exact h3 (Option.some.inj z)
        have e3 : ¬ ((a :: B).head? = some 45) := fun z => h3 (Option.some.inj z)
        rw [e, if_neg e3]
        by_cases h2 : a = 105
        · subst h2
          rfl
        · have e2 : ¬ (((a :: B).drop 0).head? = some 105) := fun z => h2 (Option.some.inj z)
          rw [if_neg e2]
          rfl
theorem start_le (B : List Nat) : start B ≤ B.length := by
  unfold start
  cases B with
  | nil => decide
  | cons a B =>
    have h1 : st1 (a :: B) ≤ 1 := by unfold st1; split <;> omega
    split
    · rename_i h
      have : st1 (a :: B) < (a :: B).length := by
        rcases Nat.lt_or_ge (st1 (a :: B)) (a :: B).length with z | z
        · exact z
        · rw [List.drop_of_length_le z] at h
          cases h
      omega
    · show _ ≤ B.length + 1
      omega
theorem dw_all : ∀ {L : List Nat}, (∀ c ∈ L, isL c = true) → L.dropWhile isL = []
  | [], _ => rfl
  | c :: L, h => by
    rw [List.dropWhile_cons_of_pos (h c List.mem_cons_self)]
    exact dw_all fun d hd => h d (List.mem_cons_of_mem _ hd)
/-- a head before letters -/
theorem read_head {L : List Nat} (hL : ∀ c ∈ L, isL c = true) (h0 : L ≠ []) (i : Nat) (T : List Nat) (p : Nat) (hT : ([([], 0), ([43], 0), ([45], 2), ([105], 1), ([43, 105], 1), ([45, 105], 3)] : List (List Nat × Nat))[i]? = some (T, p)) :
    rest (T ++ L) = L ∧ ph (T ++ L) = p ∧ fine (T ++ L) := by
  have hd : ∃ a M, L = a :: M ∧ a ≠ 43 ∧ a ≠ 45 ∧ a ≠ 105 := by
    cases L with
    | nil => exact absurd rfl h0
    | cons a M =>
      refine ⟨a, M, rfl, ?_, ?_, ?_⟩ <;> rintro rfl <;> have := isL_iff.mp (hL _ List.mem_cons_self) <;> omega
  obtain ⟨a, M, rfl, n1, n2, n3⟩ := hd
  have dw : (a :: M).dropWhile isL = [] := by
    exact dw_all hL
  have go : ∀ T p, start (T ++ (a :: M)) = T.length → ph (T ++ (a :: M)) = p → rest (T ++ (a :: M)) = a :: M ∧ ph (T ++ (a :: M)) = p ∧ fine (T ++ (a :: M)) := by
    intro T p hs hp
    have hr : rest (T ++ (a :: M)) = a :: M := by
      unfold rest
      rw [hs]
      exact List.drop_left
    refine ⟨hr, hp, ?_⟩
    unfold fine
    rw [hr]
    exact ⟨dw, by simp⟩
  have s1 : ∀ x : Nat, x ≠ 43 → x ≠ 45 → ∀ M, st1 (x :: M) = 0 := by
    intro x h1 h2 M
    unfold st1
    rw [if_neg]
    rintro (z | z)
    · exact h1 (Option.some.inj z)
    · exact h2 (Option.some.inj z)
  have no : ∀ M : List Nat, ¬ ((a :: M).head? = some 105) := fun M z => n3 (Option.some.inj z)
  match i, hT with
  | 0, e =>
    cases e
    refine go [] 0 ?_ ?_
    · show st1 (a :: M) + (if ((a :: M).drop (st1 (a :: M))).head? = some 105 then 1 else 0) = 0
      rw [s1 a n1 n2, List.drop_zero, if_neg (no M)]
    · have n4 : ¬ ((a :: M).head? = some 45) := fun z => n2 (Option.some.inj z)
      show (if (a :: M).head? = some 45 then 2 else 0) + (if ((a :: M).drop (st1 (a :: M))).head? = some 105 then 1 else 0) = 0
      rw [s1 a n1 n2, if_neg n4, List.drop_zero, if_neg (no M)]
  | 1, e =>
    cases e
    refine go [43] 0 ?_ ?_
    · show 1 + (if (a :: M).head? = some 105 then 1 else 0) = 1
      rw [if_neg (no M)]
    · show 0 + (if (a :: M).head? = some 105 then 1 else 0) = 0
      rw [if_neg (no M)]
  | 2, e =>
    cases e
    refine go [45] 2 ?_ ?_
    · show 1 + (if (a :: M).head? = some 105 then 1 else 0) = 1
      rw [if_neg (no M)]
    · show 2 + (if (a :: M).head? = some 105 then 1 else 0) = 2
      rw [if_neg (no M)]
  | 3, e =>
    cases e
    exact go [105] 1 rfl rfl
  | 4, e =>
    cases e
    exact go [43, 105] 1 rfl rfl
  | 5, e =>
    cases e
    exact go [45, 105] 3 rfl rfl
theorem len_split (B : List Nat) : B.length = start B + ((rest B).takeWhile isL).length + ((rest B).dropWhile isL).length := by
  have h := congrArg List.length (List.takeWhile_append_dropWhile (p := isL) (l := rest B))
  rw [List.length_append] at h
  have h2 : (rest B).length = B.length - start B := List.length_drop
  have := start_le B
  omega
end KQ
namespace KQ
open PySem PySem.Spec PyProof.Rows L2
def lw (n r : Nat) : Nat := if n.testBit r.log2 then n ^^^ r else n
def rst (T : List Nat) (n : Nat) : Nat := T.foldl lw n
def Sub (S : Nat → Prop) : Prop := S 0 ∧ ∀ x y, S x → S y → S (x ^^^ y)
def Spn (T : List Nat) (x : Nat) : Prop := ∀ S, Sub S → (∀ a ∈ T, S a) → S x
theorem spn_sub (T : List Nat) : Sub (Spn T) := ⟨fun _ h _ => h.1, fun x y hx hy S h m => h.2 x y (hx S h m) (hy S h m)⟩
theorem spn_mem {T : List Nat} {a : Nat} (h : a ∈ T) : Spn T a := fun _ _ m => m a h
theorem spn_le {T U : List Nat} {x : Nat} (h : ∀ a ∈ T, Spn U a) (hx : Spn T x) : Spn U x := hx _ (spn_sub U) h
theorem spn_iff_of {T U : List Nat} (h : ∀ a ∈ T, Spn U a) (k : ∀ a ∈ U, Spn T a) (x : Nat) : Spn T x ↔ Spn U x := ⟨spn_le h, spn_le k⟩
theorem log_of {n : Nat} (h : n ≠ 0) : 2 ^ n.log2 ≤ n ∧ n < 2 ^ (n.log2 + 1) := ⟨Nat.log2_self_le h, Nat.lt_log2_self⟩
theorem bit_top {n : Nat} (h : n ≠ 0) : n.testBit n.log2 = true := by
  obtain ⟨h1, h2⟩ := log_of h
  rw [Nat.testBit_eq_decide_div_mod_eq]
  have e : n / 2 ^ n.log2 = 1 := by
    apply Nat.div_eq_of_lt_le
    · omega
    · rw [Nat.pow_succ] at h2
      omega
  rw [e]
  rfl
theorem bit_above {n j : Nat} (h : n.log2 < j) : n.testBit j = false := by
  by_cases z : n = 0
  · subst z
    exact Nat.zero_testBit j
  · exact Nat.testBit_lt_two_pow (Nat.lt_of_lt_of_le (log_of z).2 (Nat.pow_le_pow_right (by decide) h))
theorem bit_high {n k j : Nat} (h : n < 2 ^ k) (hj : k ≤ j) : n.testBit j = false := Nat.testBit_lt_two_pow (Nat.lt_of_lt_of_le h (Nat.pow_le_pow_right (by decide) hj))
theorem log_of_bits {n t : Nat} (h : n.testBit t = true) (k : ∀ j, t < j → n.testBit j = false) : n.log2 = t := by
  have n0 : n ≠ 0 := fun z => by
    subst z
    rw [Nat.zero_testBit] at h
    cases h
  rcases Nat.lt_trichotomy n.log2 t with a | a | a
  · rw [bit_above a] at h
    cases h
  · exact a
  · have := k _ a
    rw [bit_top n0] at this
    cases this
theorem bit_lt {n m : Nat} (t : Nat) (hn : n.testBit t = false) (hm : m.testBit t = true) (h : ∀ j, t < j → n.testBit j = m.testBit j) : n < m := by
  have e : n / 2 ^ (t + 1) = m / 2 ^ (t + 1) := by
    apply Nat.eq_of_testBit_eq
    intro j
    rw [Nat.testBit_div_two_pow, Nat.testBit_div_two_pow]
    exact h _ (by omega)
  rw [Nat.testBit_eq_decide_div_mod_eq] at hn hm
  have hn' := of_decide_eq_false hn
  have hm' := of_decide_eq_true hm
  rw [Nat.pow_succ, ← Nat.div_div_eq_div_mul, ← Nat.div_div_eq_div_mul] at e
  have l : n / 2 ^ t < m / 2 ^ t := by omega
  exact Nat.lt_of_not_le fun z => absurd (Nat.div_le_div_right (c := 2 ^ t) z) (by omega)
theorem lt_iff {n r : Nat} (hr : r ≠ 0) : n ^^^ r < n ↔ n.testBit r.log2 = true := by
  have up : ∀ j, r.log2 < j → (n ^^^ r).testBit j = n.testBit j := fun j hj => by
    rw [Nat.testBit_xor, bit_above hj, Bool.xor_false]
  constructor
  · intro h
    rcases Bool.eq_false_or_eq_true (n.testBit r.log2) with e | e
    · exact e
    · have : n < n ^^^ r := by
        refine bit_lt r.log2 e ?_ fun j hj => (up j hj).symm
        rw [Nat.testBit_xor, e, bit_top hr]
        rfl
      omega
  · intro e
    refine bit_lt r.log2 ?_ e up
    rw [Nat.testBit_xor, e, bit_top hr]
    rfl
/-- min(n, n ^ r) -/
theorem min_lw {n r : Nat} (hr : r ≠ 0) : (if ((n ^^^ r : Nat) : Int) < (n : Int) then ((n ^^^ r : Nat) : Int) else (n : Int)) = ((lw n r : Nat) : Int) := by
  unfold lw
  by_cases h : n ^^^ r < n
  · rw [if_pos (by omega), if_pos ((lt_iff hr).mp h)]
  · rw [if_neg (by omega), if_neg (fun z => h ((lt_iff hr).mpr z))]
theorem lw_lin (x y r : Nat) : lw (x ^^^ y) r = lw x r ^^^ lw y r := by
  unfold lw
  rw [Nat.testBit_xor]
  rcases Bool.eq_false_or_eq_true (x.testBit r.log2) with a | a <;> rcases Bool.eq_false_or_eq_true (y.testBit r.log2) with b | b <;> rw [a, b] <;> simp
  · rw [Nat.xor_assoc x r, ← Nat.xor_assoc r y, Nat.xor_comm r y, Nat.xor_assoc y r, Nat.xor_self, Nat.xor_zero]
  · rw [Nat.xor_assoc, Nat.xor_comm y, ← Nat.xor_assoc]
  · rw [Nat.xor_assoc]
theorem rst_lin (T : List Nat) : ∀ x y, rst T (x ^^^ y) = rst T x ^^^ rst T y := by
  induction T with
  | nil => intro x y; rfl
  | cons r T ih =>
    intro x y
    show rst T (lw (x ^^^ y) r) = rst T (lw x r) ^^^ rst T (lw y r)
    rw [lw_lin, ih]
theorem lw_zero (r : Nat) : lw 0 r = 0 := by
  unfold lw
  rw [Nat.zero_testBit]
  rfl
theorem rst_zero (T : List Nat) : rst T 0 = 0 := by
  induction T with
  | nil => rfl
  | cons r T ih =>
    show rst T (lw 0 r) = 0
    rw [lw_zero, ih]
structure Ec (T : List Nat) : Prop where
  nz : ∀ r ∈ T, r ≠ 0
  pw : T.Pairwise fun a b => b.testBit a.log2 = false
theorem lw_bit {n r t : Nat} (h : r.testBit t = false) : (lw n r).testBit t = n.testBit t := by
  unfold lw
  split
  · rw [Nat.testBit_xor, h, Bool.xor_false]
  · rfl
theorem rst_bit {t : Nat} : ∀ {T : List Nat} {n : Nat}, (∀ r ∈ T, r.testBit t = false) → (rst T n).testBit t = n.testBit t
  | [], _, _ => rfl
  | r :: T, n, h => by
    show (rst T (lw n r)).testBit t = _
    rw [rst_bit fun q hq => h q (List.mem_cons_of_mem _ hq), lw_bit (h r List.mem_cons_self)]
theorem Ec.tail {r : Nat} {T : List Nat} (E : Ec (r :: T)) : Ec T := ⟨fun q hq => E.nz q (List.mem_cons_of_mem _ hq), (List.pairwise_cons.mp E.pw).2⟩
theorem lw_clear {n r : Nat} (hr : r ≠ 0) : (lw n r).testBit r.log2 = false := by
  unfold lw
  split
  · rename_i h
    rw [Nat.testBit_xor, h, bit_top hr]
    rfl
  · rename_i h
    exact Bool.eq_false_iff.mpr h
theorem rst_clear : ∀ {T : List Nat} {n : Nat}, Ec T → ∀ r ∈ T, (rst T n).testBit r.log2 = false
  | r :: T, n, E, q, hq => by
    rcases List.mem_cons.mp hq with rfl | hq
    · show (rst T (lw n q)).testBit _ = _
      rw [rst_bit (List.pairwise_cons.mp E.pw).1, lw_clear (E.nz q List.mem_cons_self)]
    · exact rst_clear (T := T) E.tail q hq
theorem lw_self {r : Nat} (hr : r ≠ 0) : lw r r = 0 := by
  unfold lw
  rw [bit_top hr, if_pos rfl, Nat.xor_self]
theorem rst_mem : ∀ {T : List Nat}, Ec T → ∀ r ∈ T, rst T r = 0
  | a :: T, E, r, hr => by
    show rst T (lw r a) = 0
    rcases List.mem_cons.mp hr with rfl | hr
    · rw [lw_self (E.nz r List.mem_cons_self), rst_zero]
    · have e : lw r a = r := by
        unfold lw
        rw [(List.pairwise_cons.mp E.pw).1 r hr]
        rfl
      rw [e]
      exact rst_mem E.tail r hr
theorem rst_spn : ∀ {T : List Nat} (n : Nat), Spn T (n ^^^ rst T n)
  | [], n => by
    show Spn [] (n ^^^ n)
    rw [Nat.xor_self]
    exact (spn_sub _).1
  | r :: T, n => by
    show Spn (r :: T) (n ^^^ rst T (lw n r))
    have h1 : Spn (r :: T) (lw n r ^^^ rst T (lw n r)) := spn_le (fun a ha => spn_mem (List.mem_cons_of_mem _ ha)) (rst_spn (T := T) (lw n r))
    have h2 : Spn (r :: T) (n ^^^ lw n r) := by
      unfold lw
      split
      · rw [← Nat.xor_assoc, Nat.xor_self, Nat.zero_xor]
        exact spn_mem List.mem_cons_self
      · rw [Nat.xor_self]
        exact (spn_sub _).1
    have h3 := (spn_sub _).2 _ _ h2 h1
    rw [Nat.xor_assoc, ← Nat.xor_assoc (lw n r) (lw n r), Nat.xor_self, Nat.zero_xor] at h3
    exact h3
theorem spn_rst {T : List Nat} (E : Ec T) (x : Nat) : Spn T x ↔ rst T x = 0 := by
  constructor
  · intro h
    exact h (fun x => rst T x = 0) ⟨rst_zero T, fun x y a b => by show rst T (x ^^^ y) = 0; rw [rst_lin, show rst T x = 0 from a, show rst T y = 0 from b]; rfl⟩ (rst_mem E)
  · intro h
    have := rst_spn (T := T) x
    rw [h, Nat.xor_zero] at this
    exact this
theorem rst_top : ∀ {T : List Nat} {n t : Nat}, (∀ r ∈ T, r.log2 ≠ t) → n.testBit t = true → (∀ j, t < j → n.testBit j = false) → (rst T n).testBit t = true
  | [], _, _, _, h, _ => h
  | r :: T, n, t, hT, h, k => by
    show (rst T (lw n r)).testBit t = true
    have ne := hT r List.mem_cons_self
    refine rst_top (fun q hq => hT q (List.mem_cons_of_mem _ hq)) ?_ ?_
    · unfold lw
      split
      · rename_i hb
        rcases Nat.lt_or_ge t r.log2 with a | a
        · rw [k _ a] at hb
          cases hb
        · rw [Nat.testBit_xor, h, bit_above (by omega)]
          rfl
      · exact h
    · intro j hj
      unfold lw
      split
      · rename_i hb
        rcases Nat.lt_or_ge t r.log2 with a | a
        · rw [k _ a] at hb
          cases hb
        · rw [Nat.testBit_xor, k j hj, bit_above (by omega)]
          rfl
      · exact k j hj
theorem top_mem {T : List Nat} (E : Ec T) {x : Nat} (h : Spn T x) (x0 : x ≠ 0) : ∃ r ∈ T, r.log2 = x.log2 := by
  refine Classical.byContradiction fun no => ?_
  have := rst_top (T := T) (n := x) (t := x.log2) (fun r hr e => no ⟨r, hr, e⟩) (bit_top x0) fun j hj => bit_above hj
  rw [(spn_rst E x).mp h, Nat.zero_testBit] at this
  cases this
theorem nodup_le {α : Type} [DecidableEq α] : ∀ {l m : List α}, l.Nodup → (∀ a ∈ l, a ∈ m) → l.length ≤ m.length
  | [], _, _, _ => Nat.zero_le _
  | a :: l, m, hn, h => by
    have ha := h a List.mem_cons_self
    have n2 := List.nodup_cons.mp hn
    have k := nodup_le (l := l) (m := m.erase a) n2.2 fun b hb => (List.mem_erase_of_ne (fun e => n2.1 (by rw [← e]; exact hb))).mpr (h b (List.mem_cons_of_mem _ hb))
    rw [List.length_erase_of_mem ha] at k
    have : 0 < m.length := List.length_pos_of_mem ha
    show l.length + 1 ≤ _
    omega
theorem Ec.tops {T : List Nat} (E : Ec T) : (T.map Nat.log2).Nodup := by
  refine List.pairwise_map.mpr ?_
  refine List.Pairwise.imp_of_mem (fun {a b} ha hb h e => ?_) E.pw
  rw [e, bit_top (E.nz b hb)] at h
  cases h
theorem Ec.nodup {T : List Nat} (E : Ec T) : T.Nodup := List.Pairwise.of_map Nat.log2 (fun _ _ h e => h (e ▸ rfl)) E.tops
theorem len_le {T U : List Nat} (E : Ec T) (F : Ec U) (h : ∀ x ∈ T, Spn U x) : T.length ≤ U.length := by
  have := nodup_le (l := T.map Nat.log2) (m := U.map Nat.log2) E.tops fun a ha => by
    obtain ⟨r, hr, rfl⟩ := List.mem_map.mp ha
    obtain ⟨q, hq, e⟩ := top_mem F (h r hr) (E.nz r hr)
    exact List.mem_map.mpr ⟨q, hq, e⟩
  rwa [List.length_map, List.length_map] at this
theorem len_eq {T U : List Nat} (E : Ec T) (F : Ec U) (h : ∀ x, Spn T x ↔ Spn U x) : T.length = U.length :=
  Nat.le_antisymm (len_le E F fun x hx => (h x).mp (spn_mem hx)) (len_le F E fun x hx => (h x).mpr (spn_mem hx))
/-- a reduced table, in any order -/
structure Red (T : List Nat) : Prop where
  nz : ∀ r ∈ T, r ≠ 0
  pw : T.Pairwise fun a b => b.testBit a.log2 = false ∧ a.testBit b.log2 = false
theorem Red.ec {T : List Nat} (R : Red T) : Ec T := ⟨R.nz, R.pw.imp fun h => h.1⟩
theorem Red.perm {T U : List Nat} (R : Red T) (p : T.Perm U) : Red U := ⟨fun r hr => R.nz r (p.mem_iff.mpr hr), (p.pairwise_iff fun h => ⟨h.2, h.1⟩).mp R.pw⟩
theorem Red.nil : Red [] := ⟨fun _ h => (by cases h), List.Pairwise.nil⟩
/-- a new row put to it -/
theorem lw_log {r v : Nat} (hr : r ≠ 0) (h : v.testBit r.log2 = false) : (lw r v).log2 = r.log2 ∧ lw r v ≠ 0 := by
  have b : (lw r v).testBit r.log2 = true := by rw [lw_bit h, bit_top hr]
  refine ⟨log_of_bits b fun j hj => ?_, fun z => ?_⟩
  · unfold lw
    split
    · rename_i hb
      rcases Nat.lt_or_ge r.log2 v.log2 with a | a
      · rw [bit_above a] at hb
        cases hb
      · rw [Nat.testBit_xor, bit_above hj, bit_above (by omega)]
        rfl
    · exact bit_above hj
  · rw [z, Nat.zero_testBit] at b
    cases b
theorem Red.add {T : List Nat} {v : Nat} (R : Red T) (v0 : v ≠ 0) (h : ∀ r ∈ T, v.testBit r.log2 = false) : Red (T.map (lw · v) ++ [v]) := by
  refine ⟨fun r hr => ?_, List.pairwise_append.mpr ⟨List.pairwise_map.mpr (R.pw.imp_of_mem fun {a b} ha hb k => ?_), List.pairwise_singleton _ _, fun a ha b hb => ?_⟩⟩
  · rcases List.mem_append.mp hr with q | q
    · obtain ⟨a, ha, rfl⟩ := List.mem_map.mp q
      exact (lw_log (R.nz a ha) (h a ha)).2
    · rw [List.mem_singleton.mp q]
      exact v0
  · rw [(lw_log (R.nz a ha) (h a ha)).1, (lw_log (R.nz b hb) (h b hb)).1, lw_bit (h a ha), lw_bit (h b hb)]
    exact k
  · obtain ⟨c, hc, rfl⟩ := List.mem_map.mp ha
    rw [List.mem_singleton.mp hb, (lw_log (R.nz c hc) (h c hc)).1]
    exact ⟨h c hc, lw_clear v0⟩
theorem spn_add {T ns : List Nat} {g : Nat} (hT : ∀ x, Spn T x ↔ Spn ns x) (v0 : rst T g ≠ 0) (x : Nat) : Spn (T.map (lw · (rst T g)) ++ [rst T g]) x ↔ Spn (ns ++ [g]) x := by
  have left : ∀ a, Spn T a → Spn (ns ++ [g]) a := fun a ha => spn_le (fun b hb => spn_mem (List.mem_append_left _ hb)) ((hT a).mp ha)
  have hv : Spn (ns ++ [g]) (rst T g) := by
    have h1 := left _ (rst_spn (T := T) g)
    have h2 := (spn_sub _).2 _ _ (spn_mem (T := ns ++ [g]) (List.mem_append_right _ (List.mem_singleton_self g))) h1
    rwa [← Nat.xor_assoc, Nat.xor_self, Nat.zero_xor] at h2
  have vm : Spn (T.map (lw · (rst T g)) ++ [rst T g]) (rst T g) := spn_mem (List.mem_append_right _ (List.mem_singleton_self _))
  have old : ∀ r ∈ T, Spn (T.map (lw · (rst T g)) ++ [rst T g]) r := fun r hr => by
    have h1 : Spn (T.map (lw · (rst T g)) ++ [rst T g]) (lw r (rst T g)) := spn_mem (List.mem_append_left _ (List.mem_map.mpr ⟨r, hr, rfl⟩))
    unfold lw at h1
    split at h1
    · have := (spn_sub _).2 _ _ h1 vm
      unfold lw at this
      rwa [Nat.xor_assoc, Nat.xor_self, Nat.xor_zero] at this
    · unfold lw
      exact h1
  refine spn_iff_of (fun a ha => ?_) (fun a ha => ?_) x
  · rcases List.mem_append.mp ha with q | q
    · obtain ⟨r, hr, rfl⟩ := List.mem_map.mp q
      have hr' := left r (spn_mem hr)
      show Spn _ (lw r (rst T g))
      unfold lw
      split
      · exact (spn_sub _).2 _ _ hr' hv
      · exact hr'
    · rw [List.mem_singleton.mp q]
      exact hv
  · rcases List.mem_append.mp ha with q | q
    · exact spn_le old ((hT a).mpr (spn_mem q))
    · rw [List.mem_singleton.mp q]
      have h1 := spn_le old (rst_spn (T := T) g)
      have := (spn_sub _).2 _ _ h1 vm
      rwa [Nat.xor_assoc, Nat.xor_self, Nat.xor_zero] at this
theorem spn_skip {T ns : List Nat} {g : Nat} (E : Ec T) (hT : ∀ x, Spn T x ↔ Spn ns x) (v0 : rst T g = 0) (x : Nat) : Spn T x ↔ Spn (ns ++ [g]) x := by
  refine spn_iff_of (fun a ha => spn_le (fun b hb => spn_mem (List.mem_append_left _ hb)) ((hT a).mp (spn_mem ha))) (fun a ha => ?_) x
  rcases List.mem_append.mp ha with q | q
  · exact (hT a).mpr (spn_mem q)
  · rw [List.mem_singleton.mp q]
    exact (spn_rst E g).mpr v0
theorem spn_perm {T U : List Nat} (p : T.Perm U) (x : Nat) : Spn T x ↔ Spn U x := spn_iff_of (fun a ha => spn_mem (p.mem_iff.mp ha)) (fun a ha => spn_mem (p.mem_iff.mpr ha)) x
theorem lw_lt {n r k : Nat} (hn : n < 2 ^ k) (hr : r < 2 ^ k) : lw n r < 2 ^ k := by
  unfold lw
  split
  · exact Nat.xor_lt_two_pow hn hr
  · exact hn
theorem rst_lt : ∀ {T : List Nat} {n k : Nat}, n < 2 ^ k → (∀ r ∈ T, r < 2 ^ k) → rst T n < 2 ^ k
  | [], _, _, h, _ => h
  | r :: T, n, k, h, hT => rst_lt (T := T) (lw_lt h (hT r List.mem_cons_self)) fun q hq => hT q (List.mem_cons_of_mem _ hq)
end KQ
namespace KQ
open PySem PySem.Spec PyProof.Rows L2
def rowOf (W m : Nat) : List Nat := (List.range W).map fun k => (m.testBit (W - 1 - k)).toNat
theorem rowOf_len (W m : Nat) : (rowOf W m).length = W := by
  unfold rowOf
  rw [List.length_map, List.length_range]
theorem rowOf_at {W m k : Nat} (h : k < W) : (rowOf W m)[k]? = some (m.testBit (W - 1 - k)).toNat := by
  unfold rowOf
  rw [List.getElem?_map, List.getElem?_range h]
  rfl
theorem rowOf_succ (W m : Nat) : rowOf (W + 1) m = (m.testBit W).toNat :: rowOf W m := by
  unfold rowOf
  rw [List.range_succ_eq_map, List.map_cons, List.map_map]
  congr 1
  refine List.map_congr_left fun k _ => ?_
  show (m.testBit (W + 1 - 1 - (k + 1))).toNat = _
  rw [show W + 1 - 1 - (k + 1) = W - 1 - k by omega]
theorem rowOf_bit {W m b : Nat} (h : b ∈ rowOf W m) : b < 2 := by
  unfold rowOf at h
  obtain ⟨k, _, rfl⟩ := List.mem_map.mp h
  exact Bool.toNat_lt _
/-- the number of bits, the first one the highest -/
def nb (t : Nat) (bs : List Nat) : Nat := bs.foldl (fun t b => 2 * t + b) t
theorem nb_eq : ∀ (bs : List Nat) (t : Nat), nb t bs = t * 2 ^ bs.length + nb 0 bs
  | [], t => by
    show t = t * 1 + 0
    omega
  | b :: bs, t => by
    show nb (2 * t + b) bs = _ + nb (2 * 0 + b) bs
    rw [nb_eq bs, nb_eq bs (2 * 0 + b), List.length_cons, Nat.pow_succ, Nat.mul_zero, Nat.zero_add, Nat.add_mul]
    rw [show 2 * t * 2 ^ bs.length = t * (2 ^ bs.length * 2) by rw [Nat.mul_comm 2 t, Nat.mul_assoc, Nat.mul_comm 2]]
    omega
theorem nb_lt : ∀ (bs : List Nat), (∀ b ∈ bs, b < 2) → nb 0 bs < 2 ^ bs.length
  | [], _ => by
    show 0 < 1
    decide
  | b :: bs, h => by
    show nb (2 * 0 + b) bs < _
    have h1 := nb_lt bs fun c hc => h c (List.mem_cons_of_mem _ hc)
    have h2 := h b List.mem_cons_self
    rw [nb_eq, Nat.mul_zero, Nat.zero_add, List.length_cons, Nat.pow_succ]
    have : b = 0 ∨ b = 1 := by omega
    rcases this with rfl | rfl <;> omega
theorem rowOf_mod (W m : Nat) : rowOf W (m % 2 ^ W) = rowOf W m := by
  unfold rowOf
  refine List.map_congr_left fun k hk => ?_
  have := List.mem_range.mp hk
  rw [Nat.testBit_mod_two_pow, decide_eq_true (by omega : W - 1 - k < W), Bool.true_and]
theorem row_nb : ∀ (bs : List Nat), (∀ b ∈ bs, b < 2) → rowOf bs.length (nb 0 bs) = bs
  | [], _ => rfl
  | b :: bs, h => by
    have hb := h b List.mem_cons_self
    have ht := fun c hc => h c (List.mem_cons_of_mem b hc)
    have lt := nb_lt bs ht
    have e : nb 0 (b :: bs) = b * 2 ^ bs.length + nb 0 bs := by
      show nb (2 * 0 + b) bs = _
      rw [nb_eq, Nat.mul_zero, Nat.zero_add]
    rw [List.length_cons, rowOf_succ, e]
    have e2 : rowOf bs.length (b * 2 ^ bs.length + nb 0 bs) = bs := by
      rw [← rowOf_mod, Nat.add_comm, Nat.add_mul_mod_self_right, Nat.mod_eq_of_lt lt]
      exact row_nb bs ht
    rw [e2, Nat.testBit_eq_decide_div_mod_eq, Nat.add_comm, Nat.add_mul_div_right _ _ (Nat.two_pow_pos _), Nat.div_eq_of_lt lt, Nat.zero_add]
    have : b = 0 ∨ b = 1 := by omega
    rcases this with rfl | rfl <;> rfl
theorem row_zero (W : Nat) : rowOf W 0 = List.replicate W 0 := by
  unfold rowOf
  refine List.ext_getElem (by simp) fun k h1 h2 => ?_
  simp
def XS {α : Type} (l : List α) (f : α → Nat) : Nat := l.foldr (fun k t => f k ^^^ t) 0
theorem xs_lin {α : Type} (l : List α) (f g : α → Nat) : XS l (fun k => f k ^^^ g k) = XS l f ^^^ XS l g := by
  induction l with
  | nil => exact (Nat.xor_self 0).symm
  | cons a l ih =>
    show f a ^^^ g a ^^^ XS l _ = f a ^^^ XS l f ^^^ (g a ^^^ XS l g)
    rw [ih, Nat.xor_assoc, Nat.xor_assoc, ← Nat.xor_assoc (g a), Nat.xor_comm (g a), Nat.xor_assoc (XS l f)]
theorem xs_congr {α : Type} {l : List α} {f g : α → Nat} (h : ∀ a ∈ l, f a = g a) : XS l f = XS l g := by
  induction l with
  | nil => rfl
  | cons a l ih =>
    show f a ^^^ XS l f = g a ^^^ XS l g
    rw [h a List.mem_cons_self, ih fun b hb => h b (List.mem_cons_of_mem _ hb)]
theorem xs_zero {α : Type} (l : List α) : XS l (fun _ => 0) = 0 := by
  induction l with
  | nil => rfl
  | cons a l ih =>
    show 0 ^^^ XS l _ = 0
    rw [ih]
    rfl
theorem xs_one {α : Type} [DecidableEq α] (f : α → Nat) (i : α) : ∀ {l : List α}, l.Nodup → i ∈ l → XS l (fun k => if k = i then f k else 0) = f i
  | a :: l, hn, hi => by
    show (if a = i then f a else 0) ^^^ XS l _ = f i
    have n2 := List.nodup_cons.mp hn
    by_cases e : a = i
    · subst e
      rw [if_pos rfl, xs_congr (g := fun _ => 0) (fun b hb => if_neg (fun z => n2.1 (by rw [← z]; exact hb))), xs_zero, Nat.xor_zero]
    · rw [if_neg e, xs_one f i n2.2 ((List.mem_cons.mp hi).resolve_left (Ne.symm e)), Nat.zero_xor]
theorem xs_spn {α : Type} {T : List Nat} {l : List α} {f : α → Nat} (h : ∀ a ∈ l, Spn T (f a)) : Spn T (XS l f) := by
  induction l with
  | nil => exact (spn_sub T).1
  | cons a l ih => exact (spn_sub T).2 _ _ (h a List.mem_cons_self) (ih fun b hb => h b (List.mem_cons_of_mem _ hb))
def sx (ns : List Nat) (m : Nat) : Nat := XS (List.range ns.length) fun k => if m.testBit k then ns.getD k 0 else 0
theorem sx_lin (ns : List Nat) (a b : Nat) : sx ns (a ^^^ b) = sx ns a ^^^ sx ns b := by
  unfold sx
  rw [← xs_lin]
  refine xs_congr fun k _ => ?_
  rw [Nat.testBit_xor]
  cases a.testBit k <;> cases b.testBit k <;> simp
theorem sx_zero (ns : List Nat) : sx ns 0 = 0 := by
  unfold sx
  rw [xs_congr (g := fun _ => 0) (fun k _ => by rw [Nat.zero_testBit]; rfl), xs_zero]
theorem sx_pow {ns : List Nat} {i : Nat} (h : i < ns.length) : sx ns (2 ^ i) = ns.getD i 0 := by
  unfold sx
  rw [xs_congr (g := fun k => if k = i then ns.getD k 0 else 0) (fun k _ => ?_), xs_one _ i List.nodup_range (List.mem_range.mpr h)]
  rw [Nat.testBit_two_pow]
  by_cases e : k = i
  · rw [e, decide_eq_true rfl, if_pos rfl, if_pos rfl]
  · rw [decide_eq_false (Ne.symm e), if_neg e]
    rfl
theorem sx_spn (ns : List Nat) (m : Nat) : Spn ns (sx ns m) := by
  refine xs_spn fun k hk => ?_
  split
  · have := List.mem_range.mp hk
    rw [List.getD_eq_getElem?_getD, List.getElem?_eq_getElem this]
    exact spn_mem (List.getElem_mem _)
  · exact (spn_sub ns).1
theorem spn_snoc_skip {ns : List Nat} {g x : Nat} (h : Spn ns x) : Spn (ns ++ [g]) x := spn_le (fun b hb => spn_mem (List.mem_append_left _ hb)) h
/-- marks of a shorter list -/
theorem sx_more {ns : List Nat} {m g : Nat} (h : m < 2 ^ ns.length) : sx (ns ++ [g]) m = sx ns m := by
  unfold sx XS
  rw [List.length_append, List.length_singleton, List.range_succ, List.foldr_append]
  show List.foldr _ ((if m.testBit ns.length then _ else 0) ^^^ 0) _ = _
  rw [Nat.testBit_lt_two_pow h, if_neg (by decide), Nat.xor_zero]
  refine xs_congr (l := List.range ns.length) fun k hk => ?_
  have := List.mem_range.mp hk
  rw [List.getD_eq_getElem?_getD, List.getD_eq_getElem?_getD, List.getElem?_append_left this]
end KQ
namespace KQ
open PySem PySem.Spec PyProof.Rows L2
theorem log_lt {r W : Nat} (h0 : r ≠ 0) (h : r < 2 ^ W) : r.log2 < W := (Nat.log2_lt h0).mpr h
def Indep (ns : List Nat) : Prop := ∀ i x, ns[i]? = some x → ¬ Spn (ns.take i) x
def free (T : List Nat) (W : Nat) : List Nat := (List.range W).filter fun p => !(T.map Nat.log2).contains p
theorem filter_two (p : Nat → Bool) : ∀ l : List Nat, (l.filter p).length + (l.filter fun a => !p a).length = l.length
  | [] => rfl
  | a :: l => by
    have ih := filter_two p l
    rcases Bool.eq_false_or_eq_true (p a) with e | e
    · rw [List.filter_cons_of_pos e, List.filter_cons_of_neg (by rw [e]; decide), List.length_cons, List.length_cons]
      omega
    · rw [List.filter_cons_of_neg (by rw [e]; decide), List.filter_cons_of_pos (by rw [e]; decide), List.length_cons, List.length_cons]
      omega
theorem free_len {T : List Nat} {W : Nat} (E : Ec T) (hT : ∀ r ∈ T, r < 2 ^ W) : (free T W).length + T.length = W := by
  have h := filter_two (fun p => (T.map Nat.log2).contains p) (List.range W)
  rw [List.length_range] at h
  have e : ((List.range W).filter fun p => (T.map Nat.log2).contains p).length = T.length := by
    rw [← List.length_map (f := Nat.log2) (as := T)]
    refine Nat.le_antisymm (nodup_le (List.Pairwise.filter _ List.nodup_range) fun a ha => List.contains_iff_mem.mp (List.mem_filter.mp ha).2) (nodup_le E.tops fun a ha => ?_)
    refine List.mem_filter.mpr ⟨?_, List.contains_iff_mem.mpr ha⟩
    obtain ⟨r, hr, rfl⟩ := List.mem_map.mp ha
    exact List.mem_range.mpr (log_lt (E.nz r hr) (hT r hr))
  unfold free
  omega
end KQ
namespace KQ
open PySem PySem.Spec PyProof.Rows L2
def SqLT (K : PySem.W.Frag) (H : Hp) (a : Addr) (xs : List V) : Prop := SqL K H a xs ∨ SqT K H a xs
theorem Same.seqT {K : PySem.W.Frag} {H H' : Hp} {a : Addr} {xs : List V} (e : Same H H') (h : SqT K H a xs) : SqT K H' a xs := by
  rcases h with (h | ⟨o, h⟩) | h
  · exact .inl (.inl (e _ _ h))
  · exact .inl (.inr ⟨o, by first | exact h | exact e _ _ h⟩)
  · exact .inr h
theorem SqLT.same {K : PySem.W.Frag} {H H' : Hp} {a : Addr} {xs : List V} (e : Same H H') (h : SqLT K H a xs) : SqLT K H' a xs := by
  rcases h with h | h
  · exact .inl (Same.seq e h)
  · exact .inr (Same.seqT e h)
/-- what walks xs, S holding -/
structure ItSq (J : It) (S : Hp → Prop) (xs : List V) : Prop where
  go : ∀ i H, S H → i < xs.length → J.go i H
  yld : ∀ i H x H', S H → J.yld i H x H' → H' = H ∧ xs[i]? = some x
  stop : ∀ i H, S H → xs.length ≤ i → J.stop i H
theorem itsq_list {K : PySem.W.Frag} {a : Addr} {xs : List V} : ItSq (Itl K a) (fun H => SqL K H a xs) xs :=
  ⟨fun i H s h => ⟨xs, xs[i], s, List.getElem?_eq_getElem h⟩, fun i H x H' s y => ⟨y.1, y.2 xs s⟩, fun i H s h => ⟨xs, s, h⟩⟩
theorem itsq_tup {K : PySem.W.Frag} {a : Addr} {xs : List V} : ItSq (Itt K a) (fun H => SqT K H a xs) xs :=
  ⟨fun i H s h => ⟨xs, xs[i], s, List.getElem?_eq_getElem h⟩, fun i H x H' s y => ⟨y.1, y.2 xs s⟩, fun i H s h => ⟨xs, s, h⟩⟩
def iSeq (K : PySem.W.Frag) (tl : TE) : TI := fun σ H R => tl σ H fun x H1 => ∃ a xs, x = .ref a ∧ SqLT K H1 a xs ∧ ∀ J S, ItSq J S xs → S H1 → (∀ G G', Same G G' → S G → S G') → R J H1
theorem pi_seq {X : Cx} {tg l : Expr} {tl : TE} (hl : PE X l tl) : PI X tg l (iSeq X.K tl) := by
  refine ⟨fun pins s σ H R I h => ?_⟩
  refine thn (hl.run pins s σ H _ I h) fun v s1 ⟨x, H1, I1, r1, q1⟩ => ?_
  obtain ⟨a, xs, e, hq, q⟩ := q1
  subst e
  cases r1
  rcases hq with hq | hq
  · obtain ⟨its, rv, p, hz⟩ := I1.list hq
    refine wpAny_pyIter_list p.isList (pi_one (tk := s1.toks) I1 _ (turn_list a _) ⟨_, Heap.get?_push_size _ rfl, rfl, rfl⟩ (q _ _ itsq_list hq fun G G' s h => Same.seq s h))
  · obtain ⟨its, rv, p, hz⟩ := I1.tuple hq
    refine wpAny_pyIter_tuple (show s1.heap.IsTuple a its.toArray from p) (pi_one (tk := s1.toks) I1 _ (turn_tuple a _) ⟨_, Heap.get?_push_size _ rfl, rfl, rfl⟩ (q _ _ itsq_tup hq fun G G' s h => Same.seqT s h))
/-- .. a range from its end -/
theorem lc_down {n : Nat} {lo : Int} {g : TG} {tt : TT} {te : TE} {vs : List Nat} {σ : L2.St} {H1 : Hp} {D : Addr} {Qd : Hp → Prop} (Pv : Nat → Hp → Prop) (h0 : Pv 0 (upd H1 D (.lst [])))
    (hs : ∀ i H, i < n → Pv i H → g (.int (lo + (i : Nat) * (-1))) (wipe σ vs) H fun σ2 H2 => wipe σ2 vs = wipe σ vs ∧ tt σ2 H2 fun b H3 =>
      if b = true then te σ2 H3 fun y H4 => ∃ acc, H4 D = some (.lst acc) ∧ acc.length < sizeLine ∧ Pv (i + 1) (upd H4 D (.lst (acc ++ [y]))) else Pv (i + 1) H3) (hd : ∀ H, Pv n H → Qd H) :
    ∃ W : Nat → Nat → Hp → Prop, (∃ m, W 0 m (upd H1 D (.lst []))) ∧ ∀ i m H, W i m H →
      ((Itc lo (-1) n).stop i H ∧ Qd H) ∨ ((Itc lo (-1) n).go i H ∧ ∃ Nx : Hp → Prop, (∀ H', Nx H' → ∃ m', m' < m ∧ W (i + 1) m' H') ∧ ∀ x H', (Itc lo (-1) n).yld i H x H' → g x (wipe σ vs) H' fun σ2 H2 => wipe σ2 vs = wipe σ vs ∧ tt σ2 H2 fun b H3 =>
        if b = true then te σ2 H3 fun y H4 => ∃ acc, H4 D = some (.lst acc) ∧ acc.length < sizeLine ∧ Nx (upd H4 D (.lst (acc ++ [y]))) else Nx H3) := by
  refine ⟨fun i m H => m + i = n ∧ Pv i H, ⟨n, rfl, h0⟩, fun i m H ⟨e, p⟩ => ?_⟩
  rcases Nat.lt_or_ge i n with lt | ge
  · refine .inr ⟨lt, Pv (i + 1), fun H' p' => ⟨m - 1, by omega, by omega, p'⟩, fun x H' y => ?_⟩
    obtain ⟨rfl, rfl⟩ := y
    exact hs i _ lt p
  · obtain rfl : i = n := by omega
    exact .inl ⟨Nat.le_refl _, hd H p⟩
/-- a loop over such -/
theorem for_sq {J : It} {S : Hp → Prop} {xs : List V} (hJ : ItSq J S xs) {g : TG} {tb : TS} {D : Ends} {σ : L2.St} {H : Hp} (Pv : Nat → L2.St → Hp → Prop) (h0 : Pv 0 σ H) (hl : ∀ i σ H, Pv i σ H → S H)
    (hs : ∀ i x σ H, xs[i]? = some x → Pv i σ H → g x σ H fun σ2 H2 => tb { D with nx := Pv (i + 1), ct := Pv (i + 1), bk := D.nx } σ2 H2) (hd : ∀ σ H, Pv xs.length σ H → D.nx σ H) :
    ∃ W : Nat → Nat → L2.St → Hp → Prop, (∃ m, W 0 m σ H) ∧ ∀ i m σ H, W i m σ H →
      (J.stop i H ∧ D.nx σ H) ∨ (J.go i H ∧ ∃ N : L2.St → Hp → Prop, (∀ σ' H', N σ' H' → ∃ m', m' < m ∧ W (i + 1) m' σ' H') ∧ ∀ x H', J.yld i H x H' → g x σ H' fun σ2 H2 => tb { D with nx := N, ct := N, bk := D.nx } σ2 H2) := by
  refine ⟨fun i m σ H => m + i = xs.length ∧ Pv i σ H, ⟨xs.length, rfl, h0⟩, fun i m σ H ⟨e, p⟩ => ?_⟩
  rcases Nat.lt_or_ge i xs.length with lt | ge
  · refine .inr ⟨hJ.go i H (hl i σ H p) lt, Pv (i + 1), fun σ' H' p' => ⟨m - 1, by omega, by omega, p'⟩, fun x H' y => ?_⟩
    obtain ⟨rfl, hx⟩ := hJ.yld i H x H' (hl i σ H p) y
    exact hs i x σ _ hx p
  · obtain rfl : i = xs.length := by omega
    exact .inl ⟨hJ.stop _ H (hl _ σ H p) (Nat.le_refl _), hd σ H p⟩
/-- a filter by truth, in a block (K told) -/
def tTr (K : PySem.W.Frag) (ta : TE) : TT := fun σ H Q => ta σ H fun x H' => ∃ k, TruV K x H' k ∧ Q k H'
theorem pts_tr {X : Cx} {c : Expr} {ta : TE} (K : PySem.W.Frag) (hK : X.K = K) (ha : PE X c ta) (he : ∀ whole, isTrue c X.env whole = (do let v ← whole; standAt c.pos; holding [v] (truthy v))) : PTs X [c] (tTr K ta) := by
  subst hK
  exact pts_one (pt_truth ha he)
def FzT (H : Hp) (a : Addr) (xs : List V) : Prop := ∃ o : Obj, o.dict = none ∧ o.cls = .type "tuple" ∧ H a = some (.frz o (.tup xs))
def TupIs (H : Hp) (a : Addr) (xs : List V) : Prop := H a = some (.tup xs) ∨ FzT H a xs
theorem FzT.same {H H' : Hp} {a : Addr} {xs : List V} (s : Same H H') (h : FzT H a xs) : FzT H' a xs := let ⟨o, h1, h2, h3⟩ := h; ⟨o, h1, h2, s _ _ h3⟩
theorem TupIs.same {H H' : Hp} {a : Addr} {xs : List V} (s : Same H H') (h : TupIs H a xs) : TupIs H' a xs := h.elim (fun z => .inl (s _ _ z)) fun z => .inr (z.same s)
theorem TupIs.sq {K : PySem.W.Frag} {H : Hp} {a : Addr} {xs : List V} (h : TupIs H a xs) : SqT K H a xs := h.elim (fun z => SqT.of z) fun ⟨o, _, _, z⟩ => .inl (.inr ⟨o, z⟩)
theorem TupIs.ob {H : Hp} {a : Addr} {xs : List V} (h : TupIs H a xs) : ∃ o, H a = some o ∧ ∀ ys, o ≠ .lst ys := h.elim (fun z => ⟨_, z, fun _ y => by cases y⟩) fun ⟨_, _, _, z⟩ => ⟨_, z, fun _ y => by cases y⟩
theorem TupIs.keep {H H' : Hp} {a : Addr} {xs : List V} (h : TupIs H a xs) (k : ∀ o, H a = some o → H' a = some o) : TupIs H' a xs := h.elim (fun z => .inl (k _ z)) fun ⟨o, h1, h2, z⟩ => .inr ⟨o, h1, h2, k _ z⟩
theorem TupIs.ty {K : PySem.W.Frag} {H : Hp} {a : Addr} {xs : List V} (h : TupIs H a xs) : TyX K H (.ref a) (.type "tuple") := h.elim (fun z => .base (.tup z)) fun ⟨_, _, _, z⟩ => .fTuple z
theorem call_tupF {X : Cx} : CallR X (.type "tuple") (fun xs H Q => ∃ p ys, xs = [.ref p] ∧ SqL X.K H p ys ∧ ∀ l H', H l = none → Same H H' → FzT H' l ys → Q (.ref l) H') := by
  intro pins s σ H xs us Q I r h
  obtain ⟨p, ys, rfl, hq, q⟩ := h
  obtain ⟨u, rfl, rx⟩ := vals1 r
  cases rx
  obtain ⟨its, r', pl, hz⟩ := I.list hq
  have hlen := r'.length
  refine call_tuple_list pl.isList (fun h' kp => ?_) (by simp only [List.size_toArray] <;> omega)
  have I1 : Inv X pins σ H { s with heap := h' } := I.kept (t' := s.toks) kp
  have I2 : Inv X pins σ (upd H h'.objs.size (.frz { cls := .type "tuple", data := .seq its.toArray } (.tup ys))) { s with heap := h'.push { cls := .type "tuple", data := .seq its.toArray } } :=
    I1.laid (t' := s.toks) (fun b o e => Heap.get?_push_of_some _ e) (Nat.le_refl _) ⟨Heap.get?_push_size _ rfl, hz, its, r', IsTup.new _ _⟩
  have nf := I1.hok.fresh (Nat.le_refl h'.objs.size)
  refine ⟨.ref h'.objs.size, _, I2, rfl, q _ _ nf (fun b u e => ?_) ⟨_, rfl, rfl, upd_same⟩⟩
  rw [upd_ne (ne_of_none e nf)]
  exact e
end KQ
namespace KQ
open PySem PySem.Spec PyProof.Rows L2
def PEk (X : Cx) (e : Expr) (t : TE) : Prop :=
  ∀ (pins : List (Addr × Obj)) (s : Shared) (σ : L2.St) (H : Hp) (Q : VK), Inv X pins σ H s → t σ H Q → wpAny (model X.prog X.w) X.A (eval e X.env) (fun v s' => 1 ≤ s'.toks ∧ EP X pins σ Q v s') X.xe s
section
variable {X : Cx} {rest : List Stmt} {u : TS} {e : Expr} {te : TE}
theorem pss_tok {i : Nat} {x : Str} {pos' pos : Pos} (he : PEk X e te) (nd : X.N.Nodup) (hi : X.N[i]? = some x) (hx : Loc X.env.scope x) (h2 : PSsT X rest u)
    (hs : swapsWith e (some (.Name x pos')) pos.line X.env = pure false := by rfl) (hf : X.fn x = true ∨ X.env.scope.names.lookup x = some .local := by first | exact .inl rfl | exact .inr rfl | assumption) :
    PSs X (.Assign [.Name x pos'] e pos :: rest) (tSeq (tAsg te (gName i)) u) := by
  refine ⟨fun pins s σ H D I want => ?_⟩
  refine wpAny_execs_cons (wpAny_Assign_Name (wpAny_mono (he pins s σ H _ I want) (fun v s1 q => ?_) fun _ _ z => z) hs)
  obtain ⟨hk, z, H1, I1, r1, q1⟩ := q
  refine wpAny_mono (PySem.wpAny_toks (store_ok (v := z) (u := v) (Q := fun _ s2 => Inv X pins (σ.set i (some z)) H1 s2) I1 nd hi hx r1 (fun _ I2 => I2) hf)) (fun _ s2 q => ?_) fun _ _ z => z.2
  exact h2 pins s2 _ H1 D (Nat.le_trans hk q.1) q.2 q1
def tStrip (to : TE) (c : Str) : TE := fun σ H Q => to σ H fun v H1 => ∃ x, v = .str x ∧ x.length ≤ sizeLine ∧ Q (.str (Txt.lstripChars x c)) H1
theorem pek_strip {o : Expr} {to : TE} {c : Str} {j : Nat} {cpos apos pos : Pos} (ho : PE X o to)
    (hst : starEach [.Constant (.str c) j cpos] X.env = [(false, eval (.Constant (.str c) j cpos) X.env)] := by rfl)
    (hbase : attributeBase o "lstrip" X.env (eval o X.env) = eval o X.env := by rfl) (hline : (apos.endLine == pos.line) = true := by rfl) :
    PEk X (.Call (.Attribute o "lstrip" apos) [.Constant (.str c) j cpos] [] pos) (tStrip to c) := by
  intro pins s σ H Q I want
  refine PySem.Call_method1 hbase hst hline (wpAny_mono (ho.run pins s σ H _ I want) (fun v s1 q => ?_) fun _ _ z => z)
  obtain ⟨v', H1, I1, r1, x, rfl, hz, q⟩ := q
  obtain ⟨tx, rfl⟩ := r1
  refine ⟨"str", _, PySem.F.plainAttrs_str, PySem.F.slot_str_lstrip, PySem.F.type_str_lstrip, typeIs_str _ _ _, (fun _ e => nomatch e), Calls.callWith_builtin rfl (Calls.evalArgs_plain (Calls.spliced_cons ?_))⟩
  refine Calls.Constant_str (Calls.spliced_nil ?_)
  refine wpAny_mono (PySem.wpAny_toks_of (n := 1) (by show 1 ≤ s1.toks + 1; omega) (PySem.SC.lstripChars (Q := EP X pins σ Q) (fun t' k => ⟨.str _, H1, I1.tok k, ⟨t', rfl⟩, q⟩) hz)) (fun _ _ z => z) fun _ _ z => z.2
/-- a written pair, one token out -/
theorem pet_tup {es : List Expr} {ta : TA} {pos : Pos} {x1} (h : PAT X es ta) : PET X (.Tuple es x1 pos) (tTup ta) := by
  intro pins s σ H Q h0 I hq
  refine wpAny_Tuple_spliced (thn (h pos pins s σ H _ h0 I hq) fun us s1 ⟨xs, H1, I1, r, z, q⟩ => ⟨by rw [← r.length]; exact z, ?_⟩)
  refine ⟨.ref s1.heap.objs.size, upd H1 s1.heap.objs.size (.tup xs), I1.laid (t' := s1.toks) (fun b u e => Heap.get?_push_of_some _ e) (Nat.le_refl _) ?_, rfl, q _ (I1.hok.fresh (Nat.le_refl _))⟩
  exact ⟨z, us, r, ⟨_, Heap.get?_push_size _ rfl, rfl, _, rfl⟩⟩
end
abbrev sInit : Stmt := inClass (topS 23) 0
abbrev sCut : Stmt := topS 24
abbrev sInitT : Stmt := inClass (topS 10) 0
theorem scInitT : FnScope ["self", "line", "column"] ["self", "line", "column"] (defScope sInitT) := ⟨rfl, rfl, rfl, by decide +kernel, rfl, by decide +kernel, by decide +kernel⟩
theorem scCut : FnScope ["text", "start", "letters", "wrong"] ["text"] (defScope sCut) := ⟨rfl, rfl, rfl, by decide +kernel, rfl, by decide +kernel, by decide +kernel⟩
theorem scInit : FnScope ["self", "text", "head", "letters"] ["self", "text"] (defScope sInit) := ⟨rfl, rfl, rfl, by decide +kernel, rfl, by decide +kernel, by decide +kernel⟩
/-- built-in names -/
structure Bl (mg : Str → Option Value) : Prop where
  isi : mg "isinstance" = none
  int : mg "int" = none
  bool : mg "bool" = none
  str : mg "str" = none
  len : mg "len" = none
  range : mg "range" = none
  list : mg "list" = none
  enum : mg "enumerate" = none
  tuple : mg "tuple" = none
  min : mg "min" = none
  sorted : mg "sorted" = none
  reversed : mg "reversed" = none
/-- no text -/
def Odd (H : Hp) (v : V) : Prop := v = .non ∨ (∃ b, v = .bl b) ∨ (∃ i, v = .int i) ∨ (∃ p xs, v = .ref p ∧ H p = some (.lst xs)) ∨ (∃ p xs, v = .ref p ∧ H p = some (.tup xs)) ∨ ∃ p kv, v = .ref p ∧ H p = some (.dK kv)
theorem Odd.ty {H : Hp} {v : V} (h : Odd H v) : ∃ n : String, (∀ K, TyX K H v (.type n)) ∧ kitB n "str" = some false := by
  rcases h with h | ⟨b, h⟩ | ⟨i, h⟩ | ⟨p, xs, h, e⟩ | ⟨p, xs, h, e⟩ | ⟨p, kv, h, e⟩ <;> subst h
  · exact ⟨_, fun K => .base .non, by decide +kernel⟩
  · exact ⟨_, fun K => .base (.bl b), by decide +kernel⟩
  · exact ⟨_, fun K => .base (.int i), by decide +kernel⟩
  · exact ⟨_, fun K => .base (.lst e), by decide +kernel⟩
  · exact ⟨_, fun K => .base (.tup e), by decide +kernel⟩
  · exact ⟨_, fun K => .base (.dK e), by decide +kernel⟩
theorem Odd.same {H H' : Hp} {v : V} (s : Same H H') (h : Odd H v) : Odd H' v := by
  rcases h with h | h | h | ⟨p, xs, h, e⟩ | ⟨p, xs, h, e⟩ | ⟨p, kv, h, e⟩
  · exact .inl h
  · exact .inr (.inl h)
  · exact .inr (.inr (.inl h))
  · exact .inr (.inr (.inr (.inl ⟨p, xs, h, s _ _ e⟩)))
  · exact .inr (.inr (.inr (.inr (.inl ⟨p, xs, h, s _ _ e⟩))))
  · exact .inr (.inr (.inr (.inr (.inr ⟨p, kv, h, s _ _ e⟩))))
def xdT (l c : V) : List (Str × V) := [("column", c), ("line", l)]
/-- BadText(l, c) leaves the call -/
def Rz (C : Addr) (l c : V) (H : Hp) (E : XK) : Prop := ∀ d H', Same H H' → H' d = some (.xd (xdT l c)) → E (.ref C) (some d) H'
def spInitT (C : Addr) : Sp := fun vs H Q _ => ∃ (a : Addr) (y0 y1 : V), vs = [.ref a, y0, y1] ∧ H a = some (exo a C none) ∧
  ∀ H' d, H d = none → d ≠ a → H' a = some (exo a C (some d)) → H' d = some (exd d (xdT y0 y1)) → (∀ b o, H b = some o → b ≠ a → H' b = some o) → Q .non H'
def Telling (C : Addr) (B : List Nat) (H : Hp) (Q : VK) (E : XK) : Prop := (fine B ∧ ∀ H' p, Same H H' → H p = none → H' p = some (.tup [.str (mS (headL (ph B))), .str (mS (rest B))]) → Q (.ref p) H') ∨ (¬ fine B ∧ Rz C (.int 1) (.int (col B)) H E)
def spCut (C : Addr) : Sp := fun vs H Q E => ∃ v, vs = [v] ∧ ((∃ B : List Nat, v = .str (mS B) ∧ B.length ≤ 1000 ∧ Telling C B H Q E) ∨ (Odd H v ∧ Rz C (.int 0) (.int 0) H E))
theorem same_new {H : Hp} {r : Addr} {o : HO} (n : H r = none) : Same H (upd H r o) := fun b u e => by
  rw [upd_ne (ne_of_none e n)]
  exact e
/-- what the top has written of BadText -/
structure BT (K : PySem.W.Frag) (mg : Str → Option Value) (C fB : Addr) (dB : FuncData) : Prop where
  ox : OexC K C
  ic : PySem.W.findIn K (.ref C) "__init__" = some (some (.ref fB))
  ti : PySem.W.typeIn K (.ref fB) = some (.type "function")
  n0 : PySem.W.findIn K (.ref C) "line" = some none
  n1 : PySem.W.findIn K (.ref C) "column" = some none
  g : mg "BadText" = some (.ref C)
  F : Fun K "__init__" "BadText.__init__" sInitT fB dB
  b : Binds K dB ["self", "line", "column"] []
theorem bootS : bootBuiltins "str" = some (.type "str") := by decide +kernel
theorem bootI : bootBuiltins "int" = some (.type "int") := by decide +kernel
theorem e_plus : ("+" : Str) = ⟨#[43]⟩ := by decide +kernel
theorem e_minus : ("-" : Str) = ⟨#[45]⟩ := by decide +kernel
theorem e_i : ("i" : Str) = ⟨#[105]⟩ := by decide +kernel
theorem e_all : ("IXYZ" : Str) = mS [73, 88, 89, 90] := by decide +kernel
theorem e_no : ("" : Str) = ⟨#[]⟩ := by decide +kernel
theorem e_I : ("I" : Str) = ⟨#[73]⟩ := by decide +kernel
section
variable {P : Program} {w : World} {K : PySem.W.Frag} {mg : Str → Option Value} {base : Heap}
theorem ok_initT {f C : Addr} {fd : FuncData} {k : Nat} (F : Fun K "__init__" "BadText.__init__" sInitT f fd) (T : OexC K C) (n0 : PySem.W.findIn K (.ref C) "line" = some none) (n1 : PySem.W.findIn K (.ref C) "column" = some none) :
    FnOk P w K mg base CX0 (k + 1) f fd ["self", "line", "column"] (spInitT C) := by
  refine F.ok scInitT (fun vs H Q E h => ?_) (fun cdv A outer s H vs Q E hr h => ?_)
  · obtain ⟨a, y0, y1, rfl, _⟩ := h
    rfl
  · obtain ⟨a, y0, y1, rfl, ha, q⟩ := h
    refine ⟨_, pss_cons (ps_ost (pv 0) (pv 1) rfl) (pss_one (ps_ost (pv 0) (pv 2) rfl)), ?_⟩
    refine ⟨_, rfl, _, rfl, a, C, rfl, T, n0, .inl ⟨ha, fun dx nx dne => ?_⟩⟩
    refine ⟨_, rfl, _, rfl, a, C, rfl, T, n1, .inr ⟨dx, _, upd_same, by rw [upd_ne dne]; exact upd_same, by show _ ≤ 900; exact Nat.le_of_ble_eq_true rfl, ?_⟩⟩
    exact q _ dx nx dne (by rw [upd_ne dne.symm]; exact upd_same) upd_same (fun b o e hb => by rw [upd_ne (ne_of_none e nx), upd_ne hb, upd_ne (ne_of_none e nx)]; exact e)
theorem raise_rd {C : Addr} {y0 y1 : V} {H : Hp} {W : XK} (h : Rz C y0 y1 H W) : ∀ a, H a = none → spInitT C (.ref a :: ([y0, y1] ++ [])) (upd H a (exo a C none))
    (fun v H2 => v = .non ∧ ∃ (d : Addr) (fs : List (Str × V)), H2 a = some (exo a C (some d)) ∧ H2 d = some (exd d fs) ∧ H d = none ∧ W (.ref C) (some d) (upd (del H2 a) d (.xd fs))) (fun _ _ _ => False) := by
  intro a na
  refine ⟨a, y0, y1, rfl, upd_same, fun H' d nd dne e1 e2 kp => ⟨rfl, d, _, e1, e2, ?_, ?_⟩⟩
  · rw [upd_ne dne] at nd
    exact nd
  · have nd' : H d = none := by
      rw [upd_ne dne] at nd
      exact nd
    refine h d _ (fun b o e => ?_) upd_same
    have hba : b ≠ a := ne_of_none e na
    rw [upd_ne (ne_of_none e nd'), del_ne hba]
    exact kp b o (by rw [upd_ne hba]; exact e) hba
theorem sizeBig {n : Nat} (h : n ≤ 1000) : n ≤ sizeLine := Nat.le_trans h (by decide)
theorem ok_cut {f C fB : Addr} {fd dB : FuncData} (F : Fun K "_cut_text" "_cut_text" sCut f fd) (T : BT K mg C fB dB) (B : Bl mg) : FnOk P w K mg base (L2.CX P w) 3 f fd ["text"] (spCut C) := by
  have GB : FnOk P w K mg base CX0 1 fB dB ["self", "line", "column"] (spInitT C) := ok_initT T.F T.ox T.n0 T.n1
  refine F.okX scCut (fun vs H Q E h => ?_) (fun cdv A outer s H vs Q E hr h => ?_)
  · obtain ⟨v, rfl, _⟩ := h
    rfl
  · obtain ⟨v, rfl, h⟩ := h
    have hr1 : Room 1 _ := hr.mono (by decide)
    refine ⟨_, C8.pss_cut (ps_if (pt_not (pt_val (pe_callB call_isi (by rfl) B.isi PyProof.Rows.boot_isinstance (pa_cons (pv 0) (pa_cons (pe_bltn (v := .ty "str") (by rfl) B.str bootS rfl) pa_nil)))))
        (pss_one (ps_raise rfl (takes_of rfl rfl rfl rfl) (pmk_oex T.ox T.ic T.ti GB hr T.b .nil pass0 (by rfl) T.g (pa_cons pe_int (pa_cons pe_int pa_nil))))) pss_nil)
      (C8.pss_cut (ps_set (i := 1) scCut.nd rfl (.inl rfl) pe_int)
      (C8.pss_cut (ps_if (pw_or (pt_val (pe_bm PySem.F.plainAttrs_str PySem.F.slot_str_startswith PySem.F.type_str_startswith mt_startswith (pv 0) (pa_cons pe_str pa_nil))) (pw_or1 (pt_val (pe_bm PySem.F.plainAttrs_str PySem.F.slot_str_startswith PySem.F.type_str_startswith mt_startswith (pv 0) (pa_cons pe_str pa_nil))))).pt
        (pss_one (ps_set (i := 1) scCut.nd rfl (.inl rfl) pe_int)) pss_nil)
      (C8.pss_cut (ps_if (pt_val (pe_bm PySem.F.plainAttrs_str PySem.F.slot_str_startswith PySem.F.type_str_startswith mt_startswith (pe_slice sl_str (pv 0) (po_some (pv 1)) po_none) (pa_cons pe_str pa_nil)))
        (pss_one (ps_aug (i := 1) scCut.nd rfl (.inl rfl) pe_int ip_add)) pss_nil)
      (C8.pss_cut (ps_set (i := 2) scCut.nd rfl (.inl rfl) (pe_slice sl_str (pv 0) (po_some (pv 1)) po_none))
      (pss_tok (i := 3) (pek_strip (pv 2)) scCut.nd rfl (.inl rfl)
        (psst_cons (PST.of (ps_if (pw_or (pt_truth (pv 3) (by intro _; rfl)) (pw_or1 (pt_not (pt_truth (pv 2) (by intro _; rfl))))).pt
          (pss_one (ps_raise rfl (takes_of rfl rfl rfl rfl) (pmk_oex T.ox T.ic T.ti GB hr T.b .nil pass0 (by rfl) T.g (pa_cons pe_int (pa_cons (pe_op op_add (pe_op op_sub (pe_callB call_len_str (by rfl) B.len PySem.boot_len (pa_cons (pv 0) pa_nil)) (pe_callB call_len_str (by rfl) B.len PySem.boot_len (pa_cons (pv 3) pa_nil))) pe_int) pa_nil))))) pss_nil))
        (CwR.psst_one (CwR.pst_ret (pet_tup (pat_cons (CwR.pet_replC (pe_slice sl_str (pv 0) po_none (po_some (pv 1)))) (pat_cons (CwR.PET.of (pv 2)) pat_nil)))))))))))  , ?_⟩
    refine ⟨fun σ' H' => σ' = [some v, none, none, none] ∧ H' = H ∧ ∃ B : List Nat, v = .str (mS B) ∧ B.length ≤ 1000 ∧ Telling C B H Q E, ?_, ?_⟩
    · rcases h with ⟨B, rfl, hl, t⟩ | ⟨ho, q⟩
      · exact ⟨_, rfl, _, _, _, _, true, rfl, .ty "str", .base (.str _), kit_ty (by decide +kernel), _, rfl, iteF ⟨rfl, rfl, B, rfl, hl, t⟩⟩
      · obtain ⟨n, ty, kt⟩ := ho.ty
        refine ⟨_, rfl, v, _, _, _, false, rfl, .ty "str", ty K, kit_ty kt, _, rfl, iteT ⟨by show 2 ≤ 1000; decide, raise_rd q⟩⟩
    rintro _ H1 ⟨rfl, rfl, B, rfl, hl, t⟩
    have hz : (mS B).length ≤ sizeLine := by rw [mS_len]; exact sizeBig hl
    refine ⟨fun σ' H' => σ' = [some (.str (mS B)), some (.int 0), none, none] ∧ H' = H1, ⟨rfl, rfl⟩, ?_⟩
    rintro _ H2 ⟨rfl, rfl⟩
    refine ⟨fun σ' H' => σ' = [some (.str (mS B)), some (.int ((st1 B : Nat) : Int)), none, none] ∧ H' = H2, ?_, ?_⟩
    · have s1 := sw_one B 43
      have s2 := sw_one B 45
      rw [← e_plus] at s1
      rw [← e_minus] at s2
      refine ⟨_, rfl, rfl, _, _, rfl, rfl, _, rfl, ite2 (fun e => ?_) (fun e => ⟨_, rfl, rfl, _, _, rfl, rfl, _, rfl, ite2 (fun e2 => ?_) (fun e2 => ?_)⟩)⟩
      · have h1 : B.head? = some 43 := of_decide_eq_true (s1.symm.trans e)
        have : st1 B = 1 := if_pos (.inl h1)
        rw [this]
        exact ⟨rfl, rfl⟩
      · have h1 : B.head? = some 45 := of_decide_eq_true (s2.symm.trans e2)
        have : st1 B = 1 := if_pos (.inr h1)
        rw [this]
        exact ⟨rfl, rfl⟩
      · have h1 : ¬ B.head? = some 43 := fun z => e (s1.trans (decide_eq_true z))
        have h2 : ¬ B.head? = some 45 := fun z => e2 (s2.trans (decide_eq_true z))
        have : st1 B = 0 := if_neg (fun z => z.elim h1 h2)
        rw [this]
        exact ⟨rfl, rfl⟩
    rintro _ H3 ⟨rfl, rfl⟩
    refine ⟨fun σ' H' => σ' = [some (.str (mS B)), some (.int ((start B : Nat) : Int)), none, none] ∧ H' = H3, ?_, ?_⟩
    · have s1 := sw_one (B.drop (st1 B)) 105
      rw [← e_i, ← cut_from] at s1
      refine ⟨_, rfl, _, rfl, _, rfl, _, rfl, hz, rfl, _, _, rfl, rfl, _, rfl, ite2 (fun e => ?_) (fun e => ?_)⟩
      · have h1 : (B.drop (st1 B)).head? = some 105 := of_decide_eq_true (s1.symm.trans e)
        have : start B = st1 B + 1 := by unfold start; rw [if_pos h1]
        rw [this]
        exact ⟨_, rfl, _, _, rfl, rfl, rfl, rfl⟩
      · have h1 : ¬ (B.drop (st1 B)).head? = some 105 := fun z => e (s1.trans (decide_eq_true z))
        have : start B = st1 B := by unfold start; rw [if_neg h1]; rfl
        rw [this]
        exact ⟨rfl, rfl⟩
    rintro _ H4 ⟨rfl, rfl⟩
    refine ⟨fun σ' H' => σ' = [some (.str (mS B)), some (.int ((start B : Nat) : Int)), some (.str (mS (rest B))), none] ∧ H' = H4, ?_, ?_⟩
    · refine ⟨_, rfl, _, rfl, _, rfl, _, rfl, hz, ?_⟩
      rw [cut_from]
      exact ⟨rfl, rfl⟩
    rintro _ H5 ⟨rfl, rfl⟩
    have hzr : (mS (rest B)).length ≤ sizeLine := by
      rw [mS_len]
      refine sizeBig (Nat.le_trans ?_ hl)
      rw [show rest B = B.drop (start B) from rfl, List.length_drop]
      omega
    have hst : Txt.lstripChars (mS (rest B)) ("IXYZ" : Str) = mS ((rest B).dropWhile isL) := by
      rw [e_all, lstrip_eq]
      rfl
    refine ⟨_, rfl, _, rfl, hzr, ?_⟩
    rw [hst]
    have hw : ((rest B).dropWhile isL).length ≤ B.length := by
      have := len_split B
      omega
    have hzw : (mS ((rest B).dropWhile isL)).length ≤ sizeLine := by rw [mS_len]; exact sizeBig (Nat.le_trans hw hl)
    have no_fine : ¬ fine B → Rz C (.int 1) (.int (((mS B).length : Int) - ((mS ((rest B).dropWhile isL)).length : Int) + 1)) H5 E := by
      intro nf
      rcases t with ⟨y, _⟩ | ⟨_, q⟩
      · exact absurd y nf
      · have e : (((mS B).length : Int) - ((mS ((rest B).dropWhile isL)).length : Int) + 1) = ((col B : Nat) : Int) := by
          rw [mS_len, mS_len]
          unfold col
          rw [if_neg nf]
          omega
        rw [e]
        exact q
    refine ⟨_, rfl, _, ⟨hzw, rfl⟩, ite2 (fun e => ?_) (fun e => ⟨_, rfl, _, ⟨hzr, rfl⟩, ite2 (fun e2 => ?_) (fun e2 => ?_)⟩)⟩
    · have nf : ¬ fine B := by
        rintro ⟨z, _⟩
        rw [z] at e
        revert e
        decide
      refine ⟨_, rfl, _, rfl, hz, _, rfl, _, rfl, hzw, _, _, rfl, rfl, _, _, rfl, rfl, by show 2 ≤ 1000; decide, raise_rd (no_fine nf)⟩
    · have nf : ¬ fine B := by
        rintro ⟨_, z⟩
        have : ((mS (rest B)).length : Int) ≠ 0 := by
          rw [mS_len]
          have := List.length_pos_iff.mpr z
          omega
        rw [(bne_iff_ne).mpr this] at e2
        cases e2
      refine ⟨_, rfl, _, rfl, hz, _, rfl, _, rfl, hzw, _, _, rfl, rfl, _, _, rfl, rfl, by show 2 ≤ 1000; decide, raise_rd (no_fine nf)⟩
    · have f1 : (rest B).dropWhile isL = [] := by
        have : ¬ ((mS ((rest B).dropWhile isL)).length : Int) ≠ 0 := fun z => e ((bne_iff_ne).mpr z)
        rw [mS_len] at this
        exact List.length_eq_zero_iff.mp (by omega)
      have f2 : rest B ≠ [] := by
        intro z
        rw [z] at e2
        exact e2 rfl
      rcases t with ⟨_, q⟩ | ⟨nf, _⟩
      · refine ⟨_, rfl, _, rfl, _, rfl, _, rfl, hz, ?_⟩
        rw [cut_to]
        have l1 : (mS (B.take (start B))).length ≤ 1000 := by
          rw [mS_len, List.length_take]
          omega
        refine ⟨_, rfl, ?_, ?_⟩
        · have : ("" : Str).length = 0 := by decide +kernel
          rw [this, Nat.mul_zero]
          omega
        · rw [show ("+" : Str) = ⟨#[43]⟩ from e_plus, show ("" : Str) = ⟨#[]⟩ from e_no, strike, head_of]
          refine ⟨_, rfl, by show 2 ≤ sizeLine; decide, fun p np => ?_⟩
          exact q _ p (same_new np) np upd_same
      · exact absurd ⟨f1, f2⟩ nf
end
end KQ
namespace KQ
open PySem PySem.Spec PyProof.Rows L2
def PauliAt (C : Addr) (H : Hp) (a : Addr) (R : List Nat) (p : Nat) : Prop := ∃ dx fs, H a = some (.ins C dx fs) ∧ fs.lookup ("letters" : Str) = some (.str (mS R)) ∧ fs.lookup ("phase" : Str) = some (.int (p : Int)) ∧
  fs.lookup ("size" : Str) = some (.int (R.length : Int)) ∧ fs.lookup ("weight" : Str) = some (.int ((R.length : Int) - (R.count 73 : Int)))
/-- the tuple of heads -/
structure Hd4 (K : PySem.W.Frag) (mg : Str → Option Value) (A : Addr) : Prop where
  l : ∃ t0 t1 t2 t3 n sl, K.lookup A = some ⟨.type "tuple", none, .seq #[.str "" t0, .str "i" t1, .str "-" t2, .str "-i" t3] n, sl⟩
  g : mg "HEADS" = some (.ref A)
theorem e_mi : ("-i" : Str) = mS [45, 105] := by decide +kernel
theorem Hd4.sq {K : PySem.W.Frag} {mg : Str → Option Value} {A : Addr} (h : Hd4 K mg A) (H : Hp) : SqT K H A ([mS [], mS [105], mS [45], mS [45, 105]].map V.str) := by
  obtain ⟨t0, t1, t2, t3, n, sl, e⟩ := h.l
  refine .inr ⟨_, _, n, e, rfl, rfl, by show 4 ≤ sizeLine; decide, ?_⟩
  refine .cons ⟨t0, ?_⟩ (.cons ⟨t1, ?_⟩ (.cons ⟨t2, ?_⟩ (.cons ⟨t3, ?_⟩ .nil)))
  · rw [e_no]
  · rw [e_i]
  · rw [e_minus]
  · rw [e_mi]
theorem Hd4.ty {K : PySem.W.Frag} {mg : Str → Option Value} {A : Addr} (h : Hd4 K mg A) (H : Hp) : tyV K "tuple" (.ref A) H := by
  obtain ⟨t0, t1, t2, t3, n, sl, e⟩ := h.l
  exact .inr (.inl ⟨rfl, _, e, rfl, rfl⟩)
/-- what the top has written of Pauli -/
structure PCl (K : PySem.W.Frag) (mg : Str → Option Value) (C fI fE : Addr) : Prop where
  cl : Cls K C
  nL : NoAttr K C "letters"
  nP : NoAttr K C "phase"
  nS : NoAttr K C "size"
  nW : NoAttr K C "weight"
  mkf : Mk K C fI
  ha : PySem.W.findIn K (.ref C) "__class__" = some (some (.builtin "object.__class__"))
  hn : PySem.W.specialIn K (.builtin "object.__class__") "__get__" = some (some (.builtin "getset_descriptor.__get__"))
  ht : PySem.W.takesIn K (.builtin "object.__class__") = some true
  hm : PySem.W.mroIn K C (.type "object") = some true
  kC : PySem.W.kitOne K (.ref C) (.ref C) = some true
  kS : PySem.W.kitOne K (.type "str") (.ref C) = some false
  eq : PySem.W.findIn K (.ref C) "__eq__" = some (some (.ref fE))
  ef : PySem.W.isFn K (.ref fE) = true
  en : PySem.W.notFirst K C (.type "str") = true
  g : mg "Pauli" = some (.ref C)
def spInit (C CT : Addr) : Sp := fun vs H Q E => ∃ (a dx : Addr) (v : V), vs = [.ref a, v] ∧ H a = some (.ins C dx []) ∧
  ((∃ B : List Nat, v = .str (mS B) ∧ B.length ≤ 1000 ∧ ((fine B ∧ ∀ H', PauliAt C H' a (rest B) (ph B) → (∀ b o, b ≠ a → H b = some o → H' b = some o) → Q .non H') ∨ (¬ fine B ∧ Rz CT (.int 1) (.int (col B)) H E))) ∨ (Odd H v ∧ Rz CT (.int 0) (.int 0) H E))
theorem cnt_count (c : Nat) : ∀ L : List Nat, countIn (.str ⟨#[c]⟩) (L.map fun n => PyData.str ⟨#[n]⟩) = (L.count c : Int)
  | [] => rfl
  | a :: L => by
    show (if same (.str ⟨#[a]⟩) (.str ⟨#[c]⟩) then 1 else 0) + countIn (.str ⟨#[c]⟩) (L.map fun n => PyData.str ⟨#[n]⟩) = _
    rw [cnt_count c L, List.count_cons]
    have e : same (.str ⟨#[a]⟩) (.str ⟨#[c]⟩) = (a == c) := by
      show ((⟨#[a]⟩ : Str) == ⟨#[c]⟩) = _
      by_cases h : a = c
      · subst h
        simp
      · have : (⟨#[a]⟩ : Str) ≠ ⟨#[c]⟩ := fun z => h (by injection z with z; simpa using z)
        rw [beq_eq_false_iff_ne.mpr this, beq_eq_false_iff_ne.mpr h]
    rw [e]
    by_cases h : a = c
    · subst h
      simp
      omega
    · rw [beq_eq_false_iff_ne.mpr h]
      simp
theorem head_at {p : Nat} (h : p < 4) : ([mS [], mS [105], mS [45], mS [45, 105]] : List Str)[p]? = some (mS (headL p)) := by
  match p, h with
  | 0, _ => rfl
  | 1, _ => rfl
  | 2, _ => rfl
  | 3, _ => rfl
theorem head_first {p : Nat} (h : p < 4) : ∀ m, m < p → ([mS [], mS [105], mS [45], mS [45, 105]] : List Str)[m]? ≠ some (mS (headL p)) := by
  match p, h with
  | 0, _ => exact fun m hm => by omega
  | 1, _ => 
    intro m hm
    match m, hm with
    | 0, _ => decide
  | 2, _ =>
    intro m hm
    match m, hm with
    | 0, _ => decide
    | 1, _ => decide
  | 3, _ =>
    intro m hm
    match m, hm with
    | 0, _ => decide
    | 1, _ => decide
    | 2, _ => decide
section
variable {P : Program} {w : World} {K : PySem.W.Frag} {mg : Str → Option Value} {base : Heap}
theorem ok_init {f fC C CT fE fB A : Addr} {fd dC dB : FuncData} (F : Fun K "__init__" "Pauli.__init__" sInit f fd) (N : PCl K mg C f fE) (FC : Fun K "_cut_text" "_cut_text" sCut fC dC) (bC : Binds K dC ["text"] []) (gC : mg "_cut_text" = some (.ref fC))
    (T : BT K mg CT fB dB) (hd : Hd4 K mg A) (B : Bl mg) : FnOk P w K mg base (L2.CX P w) 4 f fd ["self", "text"] (spInit C CT) := by
  have GC : FnOk P w K mg base (L2.CX P w) 3 fC dC ["text"] (spCut CT) := ok_cut FC T B
  refine F.okX scInit (fun vs H Q E h => ?_) (fun cdv A' outer s H vs Q E hr h => ?_)
  · obtain ⟨a, dx, v, rfl, _⟩ := h
    rfl
  · obtain ⟨a, dx, v, rfl, ea, h⟩ := h
    refine ⟨_, C8.pss_cut (ps_asg (pe_call GC hr (by rfl) gC FC.kp bC .nil (passes_call (takes_of rfl rfl rfl rfl) (fun _ _ _ _ h => h)) (pa_cons (pv 1) pa_nil)) (pg_tup rfl (pgs_cons (pg_name (i := 2) scInit.nd rfl (.inl rfl)) (pgs_cons (pg_name (i := 3) scInit.nd rfl (.inl rfl)) pgs_nil))))
      (pss_cons (ps_fld (pv 0) (pv 3) rfl)
      (pss_cons (ps_fld (pv 0) (pe_bm PySem.F.plainAttrs_tuple PySem.F.slot_tuple_index PySem.F.type_tuple_index mt_tup_index (pe_glob (v := .ref A) (by rfl) hd.g rfl) (pa_cons (pv 2) pa_nil)) rfl)
      (pss_cons (ps_fld (pv 0) (pe_callB call_len_str (by rfl) B.len PySem.boot_len (pa_cons (pv 3) pa_nil)) rfl)
      (pss_one (ps_fld (pv 0) (pe_op op_sub (pe_callB call_len_str (by rfl) B.len PySem.boot_len (pa_cons (pv 3) pa_nil)) (pe_bm PySem.F.plainAttrs_str PySem.F.slot_str_count PySem.F.type_str_count mt_count (pv 3) (pa_cons pe_str pa_nil))) rfl))))), ?_⟩
    refine ⟨fun σ' H' => ∃ B : List Nat, fine B ∧ B.length ≤ 1000 ∧ σ' = [some (.ref a), some v, some (.str (mS (headL (ph B)))), some (.str (mS (rest B)))] ∧ Same H H' ∧ ∀ H', PauliAt C H' a (rest B) (ph B) → (∀ b o, b ≠ a → H b = some o → H' b = some o) → Q .non H', ?_, ?_⟩
    · refine ⟨_, rfl, v, rfl, ?_⟩
      rcases h with ⟨B, rfl, hl, h⟩ | ⟨ho, q⟩
      · refine .inl ⟨B, rfl, hl, ?_⟩
        rcases h with ⟨hf, q⟩ | ⟨hf, q⟩
        · exact .inl ⟨hf, fun H' p s np ep => ⟨p, _, rfl, .inl (.inl ep), rfl, _, _, rfl, _, _, rfl, rfl, B, hf, hl, rfl, s, q⟩⟩
        · exact .inr ⟨hf, q⟩
      · exact .inr ⟨ho, q⟩
    rintro _ H1 ⟨B, hf, hl, rfl, s1, q⟩
    have ea1 := s1 _ _ ea
    have hlr : (rest B).length ≤ 1000 := by
      refine Nat.le_trans ?_ hl
      rw [show rest B = B.drop (start B) from rfl, List.length_drop]
      omega
    have hz : (mS (rest B)).length ≤ sizeLine := by rw [mS_len]; exact sizeBig hlr
    refine ⟨_, rfl, _, rfl, a, C, dx, _, rfl, ea1, N.cl, N.nL, by show 0 < 1000; decide, ?_⟩
    refine ⟨hd.ty _, _, rfl, A, _, _, _, rfl, rfl, hd.sq _, head_at (ph_lt B), head_first (ph_lt B), _, rfl, a, C, dx, _, rfl, upd_same, N.cl, N.nP, by show 1 < 1000; decide, ?_⟩
    refine ⟨_, rfl, _, rfl, hz, _, rfl, a, C, dx, _, rfl, upd_same, N.cl, N.nS, by show 2 < 1000; decide, ?_⟩
    refine ⟨_, rfl, _, rfl, hz, _, rfl, rfl, _, _, rfl, rfl, _, _, rfl, rfl, _, rfl, a, C, dx, _, rfl, upd_same, N.cl, N.nW, by show 3 < 1000; decide, ?_⟩
    refine q _ ⟨dx, _, upd_same, ?_, ?_, ?_, ?_⟩ (fun b o hb e => by rw [upd_ne hb, upd_ne hb, upd_ne hb, upd_ne hb]; exact s1 _ _ e)
    · rw [lookup_putF, if_neg (by decide +kernel), lookup_putF, if_neg (by decide +kernel), lookup_putF, if_neg (by decide +kernel), lookup_putF, if_pos rfl]
    · rw [lookup_putF, if_neg (by decide +kernel), lookup_putF, if_neg (by decide +kernel), lookup_putF, if_pos rfl]
    · rw [lookup_putF, if_neg (by decide +kernel), lookup_putF, if_pos rfl, mS_len]
    · rw [lookup_putF, if_pos rfl, mS_len, e_I]
      have : Txt.count (mS (rest B)) ⟨#[73]⟩ = ((rest B).count 73 : Int) := (PyProof.Rows.count_is _ _).trans (cnt_count 73 _)
      rw [this]
theorem PauliAt.ty {C : Addr} {fI fE : Addr} (N : PCl K mg C fI fE) {H : Hp} {a : Addr} {R : List Nat} {p : Nat} (h : PauliAt C H a R p) : TyX K H (.ref a) (.ref C) := by
  obtain ⟨dx, fs, e, _⟩ := h
  exact .base (.ins e N.cl N.ha N.hn N.ht N.hm)
end
end KQ
namespace KQ
open PySem PySem.Spec PyProof.Rows L2
theorem band (a b : Nat) : Builtin.bitAnd (a : Int) (b : Int) = ((a &&& b : Nat) : Int) := by
  unfold Builtin.bitAnd
  rw [decide_eq_true (Int.natCast_nonneg a), decide_eq_true (Int.natCast_nonneg b)]
  rfl
theorem bor (a b : Nat) : Builtin.bitOr (a : Int) (b : Int) = ((a ||| b : Nat) : Int) := by
  have n1 : ∀ n : Nat, Builtin.bitNot (n : Int) = -(n : Int) - 1 := fun n => by
    unfold Builtin.bitNot
    omega
  have n2 : ∀ n : Nat, Builtin.bitNot (-(n : Int) - 1) = (n : Int) := fun n => by
    unfold Builtin.bitNot
    omega
  unfold Builtin.bitOr
  rw [n1, n1]
  unfold Builtin.bitAnd
  rw [decide_eq_false (by omega : ¬ (0 ≤ -(a : Int) - 1)), decide_eq_false (by omega : ¬ (0 ≤ -(b : Int) - 1))]
  show Builtin.bitNot (Builtin.bitNot (((Builtin.bitNot (-(a : Int) - 1)).toNat ||| (Builtin.bitNot (-(b : Int) - 1)).toNat : Nat) : Int)) = _
  rw [n2, n2, n1, n2]
  rfl
theorem xor_two (a b i j : Nat) (hi : i < 2) (hj : j < 2) : (2 * a + i) ^^^ (2 * b + j) = 2 * (a ^^^ b) + (i ^^^ j) := by
  have h1 : ((2 * a + i) ^^^ (2 * b + j)) / 2 = a ^^^ b := by
    rw [Nat.xor_div_two, show (2 * a + i) / 2 = a from by omega, show (2 * b + j) / 2 = b from by omega]
  have h2 : ((2 * a + i) ^^^ (2 * b + j)) % 2 = i ^^^ j := by
    have := Nat.xor_mod_two_pow (a := 2 * a + i) (b := 2 * b + j) (n := 1)
    rw [Nat.pow_one] at this
    rw [this, show (2 * a + i) % 2 = i from by omega, show (2 * b + j) % 2 = j from by omega]
  omega
theorem or_sub_and : ∀ (n m : Nat), (n ||| m) = (n ^^^ m) + (n &&& m) := by
  intro n
  induction n using Nat.strongRecOn with
  | ind n ih =>
    intro m
    by_cases h : n = 0
    · subst h
      rw [Nat.zero_or, Nat.zero_xor, Nat.zero_and]
      rfl
    · have e : n = 2 * (n / 2) + n % 2 := by omega
      have e2 : m = 2 * (m / 2) + m % 2 := by omega
      have k := ih (n / 2) (by omega) (m / 2)
      have l1 : n % 2 < 2 := Nat.mod_lt _ (by decide)
      have l2 : m % 2 < 2 := Nat.mod_lt _ (by decide)
      rw [e, e2, or_two _ _ _ _ l1 l2, xor_two _ _ _ _ l1 l2, and_two _ _ _ _ l1 l2, k]
      have hb : ∀ i j : Nat, i < 2 → j < 2 → (i ||| j) = (i ^^^ j) + (i &&& j) := by
        intro i j hi hj
        match i, j, hi, hj with
        | 0, 0, _, _ => rfl
        | 0, 1, _, _ => rfl
        | 1, 0, _, _ => rfl
        | 1, 1, _, _ => rfl
      rw [hb _ _ l1 l2]
      omega
theorem bxor (a b : Nat) : Builtin.bitXor (a : Int) (b : Int) = ((a ^^^ b : Nat) : Int) := by
  unfold Builtin.bitXor
  rw [bor, band, or_sub_and]
  omega
abbrev sBits : Stmt := topS 38
abbrev sLow : Stmt := topS 6
theorem bootT : bootBuiltins "tuple" = some (.type "tuple") := by decide +kernel
def rowV (W m : Nat) : List V := (rowOf W m).map fun b => V.int (b : Nat)
theorem rowV_len (W m : Nat) : (rowV W m).length = W := by
  unfold rowV
  rw [List.length_map, rowOf_len]
def natV (ns : List Nat) : List V := ns.map fun n => V.int (n : Nat)
theorem natV_int (ns : List Nat) : natV ns = (ns.map fun n => ((n : Nat) : Int)).map V.int := by
  unfold natV
  rw [List.map_map]
  rfl
theorem natV_at {ns : List Nat} {i : Nat} {v : V} (h : (natV ns)[i]? = some v) : ∃ n, ns[i]? = some n ∧ v = .int (n : Nat) := by
  unfold natV at h
  rw [List.getElem?_map] at h
  obtain ⟨n, hn, rfl⟩ := Option.map_eq_some_iff.mp h
  exact ⟨n, hn, rfl⟩
theorem natV_len (ns : List Nat) : (natV ns).length = ns.length := List.length_map ..
theorem take_snoc {α : Type} {l : List α} {i : Nat} {x : α} (h : l[i]? = some x) : l.take (i + 1) = l.take i ++ [x] := by
  rw [List.take_succ, h]
  rfl
theorem natV_app (T U : List Nat) : natV (T ++ U) = natV T ++ natV U := List.map_append ..
def spBits : Sp := fun vs H Q _ => ∃ m W : Nat, vs = [.int (m : Nat), .int (W : Nat)] ∧ W ≤ 100 ∧ ∀ p H', Same H H' → H p = none → FzT H' p (rowV W m) → Q (.ref p) H'
theorem scBits : FnScope ["number", "many", "place"] ["number", "many"] (defScope sBits) := ⟨rfl, rfl, rfl, by decide +kernel, rfl, by decide +kernel, by decide +kernel⟩
section
variable {P : Program} {w : World} {K : PySem.W.Frag} {mg : Str → Option Value} {base : Heap}
theorem ok_bits {f : Addr} {fd : FuncData} {k : Nat} (F : Fun K "bit_tuple" "bit_tuple" sBits f fd) (B : Bl mg) : FnOk P w K mg base CX0 (k + 1) f fd ["number", "many"] spBits := by
  refine F.ok scBits (fun vs H Q E h => ?_) (fun cdv A outer s H vs Q E hr h => ?_)
  · obtain ⟨m, W, rfl, _⟩ := h
    rfl
  · obtain ⟨m, W, rfl, hW, q⟩ := h
    refine ⟨_, pss_one (ps_ret (pe_callTy call_tupF (by rfl) B.tuple bootT (pa_cons (pe_lc (own := [("place", 2)]) (g := gName 2) (by rfl) scBits.nd (pi_revR (by rfl) B.reversed (prg_1 (by rfl) B.range (pv 1))) (blkOk_by (own := [("place", 2)]) (N := ["number", "many", "place"]) (sc := defScope sBits) (by decide +kernel))
          (fun _ _ _ _ _ => pg_name (i := 2) scBits.nd rfl (Or.inl rfl)) (fun _ _ _ _ _ => pts_nil) (fun _ _ _ _ _ => pe_op op_odd (pe_op op_shrN (pv 0) (pv 2)) pe_int)) pa_nil))), ?_⟩
    refine ⟨_, rfl, _, rfl, by omega, by omega, by omega, by omega, ?_⟩

    intro D nD
    refine lc_down (Pv := fun i Hc => Hc D = some (.lst ((rowV W m).take i)) ∧ Same H Hc) ⟨upd_same, same_new nD⟩ ?_ ?_
    · rintro i Hc hi ⟨eD, sc⟩
      have hi' : i < W := by omega
      have hb := rowOf_at (m := m) hi'
      refine ⟨rfl, _, rfl, _, rfl, (m : Int), W - 1 - i, rfl, ?_, m / 2 ^ (W - 1 - i), ?_, rfl, _, eD, ?_, ?_, ?_⟩
      · show V.int (0 + (((W : Int) - 0).toNat : Int) - 1 + (i : Nat) * (-1)) = _
        rw [show (0 : Int) + (((W : Int) - 0).toNat : Int) - 1 + (i : Nat) * (-1) = ((W - 1 - i : Nat) : Int) by omega]
      · push_cast
        rfl
      · rw [List.length_take, rowV_len]
        exact Nat.lt_of_le_of_lt (by omega : _ ≤ 100) (by decide)
      · rw [upd_same, take_snoc (x := V.int ((m / 2 ^ (W - 1 - i) % 2 : Nat) : Int))]
        unfold rowV
        rw [List.getElem?_map, hb]
        show some (V.int _) = _
        rw [Nat.testBit_eq_decide_div_mod_eq]
        have : m / 2 ^ (W - 1 - i) % 2 < 2 := Nat.mod_lt _ (by decide)
        by_cases e : m / 2 ^ (W - 1 - i) % 2 = 1
        · rw [decide_eq_true e, e]
          rfl
        · rw [decide_eq_false e, show m / 2 ^ (W - 1 - i) % 2 = 0 by omega]
          rfl
      · intro b o e
        rw [upd_ne (ne_of_none e nD)]
        exact sc _ _ e
    · rintro Hc ⟨eD, sc⟩
      rw [List.take_of_length_le (by rw [rowV_len]; omega)] at eD
      refine ⟨D, _, rfl, SqL.of eD, fun l H' nl s' fz => ?_⟩
      have nl' : H l = none := by
        cases e : H l with
        | none => rfl
        | some o => rw [sc _ _ e] at nl; cases nl
      exact q l H' (sc.trans s') nl' fz
end
/-- the marked rows at a list's items -/
def MkAt (H : Hp) (L : List (Addr × Nat × Nat)) : Prop := ∀ p ∈ L, H p.1 = some (.tup [.int (p.2.1 : Nat), .int (p.2.2 : Nat)])
def refV (L : List (Addr × Nat × Nat)) : List V := L.map fun p => V.ref p.1
def numL (L : List (Addr × Nat × Nat)) : List Nat := L.map fun p => p.2.1
theorem MkAt.same {H H' : Hp} {L : List (Addr × Nat × Nat)} (s : Same H H') (h : MkAt H L) : MkAt H' L := fun p hp => s _ _ (h p hp)
/-- a number and its marks behind the adding of each row that lowers it -/
def lowS (n m : Nat) (l : List (Nat × Nat)) : Nat × Nat := l.foldl (fun s p => if s.1.testBit p.1.log2 then (s.1 ^^^ p.1, s.2 ^^^ p.2) else s) (n, m)
theorem lowS_fst (l : List (Nat × Nat)) : ∀ n m, (lowS n m l).1 = rst (l.map Prod.fst) n := by
  induction l with
  | nil => exact fun _ _ => rfl
  | cons p l ih =>
    intro n m
    show (lowS (if n.testBit p.1.log2 then (n ^^^ p.1, m ^^^ p.2) else (n, m)).1 (if n.testBit p.1.log2 then (n ^^^ p.1, m ^^^ p.2) else (n, m)).2 l).1 = rst (l.map Prod.fst) (lw n p.1)
    rw [ih]
    unfold lw
    split <;> rfl
/-- what the marks keep -/
structure MkRel (L : List (Addr × Nat × Nat)) (n m mk : Nat) : Prop where
  lin : ∀ φ : Nat → Nat, (∀ x y, φ (x ^^^ y) = φ x ^^^ φ y) → (∀ p ∈ L, φ p.2.2 = p.2.1) → rst (numL L) n ^^^ φ mk = n ^^^ φ m
  lt : ∀ B, m < 2 ^ B → (∀ p ∈ L, p.2.2 < 2 ^ B) → mk < 2 ^ B
  sp : Spn (L.map fun p => p.2.2) (mk ^^^ m)
  fn : mk = (lowS n m (L.map fun p => p.2)).2
def spLow : Sp := fun vs H Q _ => ∃ (n m : Nat) (t : Addr) (L : List (Addr × Nat × Nat)), vs = [.int (n : Nat), .int (m : Nat), .ref t] ∧ H t = some (.lst (refV L)) ∧ MkAt H L ∧ (∀ r ∈ numL L, r ≠ 0) ∧
  ∀ mk H' p, MkRel L n m mk → Same H H' → H p = none → H' p = some (.tup [.int (rst (numL L) n : Nat), .int (mk : Nat)]) → Q (.ref p) H'
theorem scLow : FnScope ["number", "marks", "table", "row", "row_marks"] ["number", "marks", "table"] (defScope sLow) := ⟨rfl, rfl, rfl, by decide +kernel, rfl, by decide +kernel, by decide +kernel⟩
theorem spn_add0 {T ns : List Nat} {g : Nat} (hT : ∀ x, Spn T x ↔ Spn ns x) (x : Nat) : Spn (T ++ [rst T g]) x ↔ Spn (ns ++ [g]) x := by
  refine spn_iff_of (fun a ha => ?_) (fun a ha => ?_) x
  · rcases List.mem_append.mp ha with q | q
    · exact spn_le (fun b hb => spn_mem (List.mem_append_left _ hb)) ((hT a).mp (spn_mem q))
    · rw [List.mem_singleton.mp q]
      have h1 : Spn (ns ++ [g]) (g ^^^ rst T g) := spn_le (fun b hb => spn_mem (List.mem_append_left _ hb)) ((hT _).mp (rst_spn (T := T) g))
      have h2 := (spn_sub _).2 _ _ (spn_mem (T := ns ++ [g]) (List.mem_append_right _ (List.mem_singleton_self g))) h1
      rwa [← Nat.xor_assoc, Nat.xor_self, Nat.zero_xor] at h2
  · rcases List.mem_append.mp ha with q | q
    · exact spn_le (fun b hb => spn_mem (List.mem_append_left _ hb)) ((hT a).mpr (spn_mem q))
    · rw [List.mem_singleton.mp q]
      have h1 : Spn (T ++ [rst T g]) (g ^^^ rst T g) := spn_le (fun b hb => spn_mem (List.mem_append_left _ hb)) (rst_spn (T := T) g)
      have := (spn_sub _).2 _ _ h1 (spn_mem (T := T ++ [rst T g]) (List.mem_append_right _ (List.mem_singleton_self _)))
      rwa [Nat.xor_assoc, Nat.xor_self, Nat.xor_zero] at this
theorem Ec.snoc {T : List Nat} {v : Nat} (E : Ec T) (v0 : v ≠ 0) (h : ∀ r ∈ T, v.testBit r.log2 = false) : Ec (T ++ [v]) := by
  refine ⟨fun r hr => ?_, List.pairwise_append.mpr ⟨E.pw, List.pairwise_singleton _ _, fun a ha b hb => ?_⟩⟩
  · rcases List.mem_append.mp hr with q | q
    · exact E.nz r q
    · rw [List.mem_singleton.mp q]
      exact v0
  · rw [List.mem_singleton.mp hb]
    exact h a ha
section
variable {P : Program} {w : World} {K : PySem.W.Frag} {mg : Str → Option Value} {base : Heap}
theorem ok_low {f : Addr} {fd : FuncData} {k : Nat} (F : Fun K "_lowered" "_lowered" sLow f fd) : FnOk P w K mg base CX0 (k + 1) f fd ["number", "marks", "table"] spLow := by
  refine F.ok scLow (fun vs H Q E h => ?_) (fun cdv A outer s H vs Q E hr h => ?_)
  · obtain ⟨n, m, t, L, rfl, _⟩ := h
    rfl
  · obtain ⟨n, m, t, L, rfl, hS, hM, hz, q⟩ := h
    refine ⟨_, C8.pss_cut (ps_for PassesOwn.never rfl (pi_list (pv 2)) (pg_tup rfl (pgs_cons (pg_name (i := 3) scLow.nd rfl (.inl rfl)) (pgs_cons (pg_name (i := 4) scLow.nd rfl (.inl rfl)) pgs_nil)))
        (pss_one (ps_if (pt_cmpR op_lt (pe_op op_xor (pv 0) (pv 3)) (pv 0) (nomark _))
          (C8.pss_cut (ps_set (i := 0) scLow.nd rfl (.inl rfl) (pe_op op_xor (pv 0) (pv 3))) (pss_one (ps_set (i := 1) scLow.nd rfl (.inl rfl) (pe_op op_xor (pv 1) (pv 4))))) pss_nil)))
      (pss_one (ps_ret (pe_tup (pa_cons (pv 0) (pa_cons (pv 1) pa_nil))))), ?_⟩
    have key : ∀ {i : Nat} {p : Addr × Nat × Nat} {mk : Nat}, L[i]? = some p → MkRel (L.take i) n m mk → MkRel (L.take (i + 1)) n m (if (rst (numL (L.take i)) n).testBit p.2.1.log2 then mk ^^^ p.2.2 else mk) ∧ rst (numL (L.take (i + 1))) n = lw (rst (numL (L.take i)) n) p.2.1 := by
      intro i p mk hp R
      have tk := take_snoc hp
      have e : rst (numL (L.take (i + 1))) n = lw (rst (numL (L.take i)) n) p.2.1 := by
        rw [tk]
        unfold numL rst
        rw [List.map_append, List.foldl_append]
        rfl
      refine ⟨⟨fun φ lin hφ => ?_, fun B hm hB => ?_, ?_, ?_⟩, e⟩
      · have h1 := R.lin φ lin fun q hq => hφ q (by rw [tk]; exact List.mem_append_left _ hq)
        have h2 := hφ p (by rw [tk]; exact List.mem_append_right _ (List.mem_singleton_self _))
        rw [e]
        unfold lw
        split
        · rw [lin, h2, Nat.xor_assoc, Nat.xor_comm (φ mk), ← Nat.xor_assoc p.2.1, Nat.xor_self, Nat.zero_xor]
          exact h1
        · exact h1
      · have h1 := R.lt B hm fun q hq => hB q (by rw [tk]; exact List.mem_append_left _ hq)
        split
        · exact Nat.xor_lt_two_pow h1 (hB p (by rw [tk]; exact List.mem_append_right _ (List.mem_singleton_self _)))
        · exact h1
      · have old : Spn ((L.take (i + 1)).map fun p => p.2.2) (mk ^^^ m) := spn_le (fun a ha => spn_mem (by rw [tk, List.map_append]; exact List.mem_append_left _ ha)) R.sp
        split
        · have one : Spn ((L.take (i + 1)).map fun p => p.2.2) p.2.2 := spn_mem (by rw [tk, List.map_append]; exact List.mem_append_right _ (List.mem_singleton_self _))
          have := (spn_sub _).2 _ _ old one
          rw [Nat.xor_assoc, Nat.xor_comm m, ← Nat.xor_assoc] at this
          exact this
        · exact old
      · have h1 : (lowS n m ((L.take i).map fun p => p.2)).1 = rst (numL (L.take i)) n := by
          rw [lowS_fst, List.map_map]
          rfl
        have h2 : lowS n m ((L.take (i + 1)).map fun p => p.2) = (if (lowS n m ((L.take i).map fun p => p.2)).1.testBit p.2.1.log2 then ((lowS n m ((L.take i).map fun p => p.2)).1 ^^^ p.2.1, (lowS n m ((L.take i).map fun p => p.2)).2 ^^^ p.2.2) else lowS n m ((L.take i).map fun p => p.2)) := by
          rw [tk, List.map_append]
          unfold lowS
          rw [List.foldl_append]
          rfl
        rw [h2]
        show _ = (if (lowS n m ((L.take i).map fun p => p.2)).1.testBit p.2.1.log2 then ((lowS n m ((L.take i).map fun p => p.2)).1 ^^^ p.2.1, (lowS n m ((L.take i).map fun p => p.2)).2 ^^^ p.2.2) else lowS n m ((L.take i).map fun p => p.2)).2
        rw [h1, R.fn]
        split <;> rfl
    refine ⟨fun σ' H' => ∃ mk v3 v4, σ' = [some (.int (rst (numL L) n : Nat)), some (.int (mk : Nat)), some (.ref t), v3, v4] ∧ H' = H ∧ MkRel L n m mk, ?_, ?_⟩
    · refine ⟨_, rfl, t, rfl, ⟨_, SqL.of hS⟩, for_list (K := K) (a := t) (xs := refV L) (fun i σ H2 => ∃ mk v3 v4, σ = [some (.int (rst (numL (L.take i)) n : Nat)), some (.int (mk : Nat)), some (.ref t), v3, v4] ∧ H2 = H ∧ MkRel (L.take i) n m mk)
        ⟨m, none, none, rfl, rfl, ⟨fun _ _ _ => rfl, fun _ h _ => h, by rw [Nat.xor_self]; exact (spn_sub _).1, rfl⟩⟩ (fun i σ H2 _ ⟨_, _, _, _, e, _⟩ => by rw [e]; exact SqL.of hS) ?_ ?_⟩
      · rintro i y σ H2 hi ⟨mk, v3, v4, rfl, rfl, R⟩
        unfold refV at hi
        rw [List.getElem?_map] at hi
        obtain ⟨p, hp, rfl⟩ := Option.map_eq_some_iff.mp hi
        obtain ⟨R', e⟩ := key hp R
        have pz : p.2.1 ≠ 0 := hz _ (List.mem_map.mpr ⟨p, List.mem_of_getElem? hp, rfl⟩)
        refine ⟨_, _, rfl, .inl (.inl (hM p (List.mem_of_getElem? hp))), rfl, _, _, rfl, _, _, rfl, rfl, ?_⟩
        refine ⟨_, rfl, _, rfl, _, _, rfl, rfl, _, rfl, _, _, rfl, rfl, _, rfl, ?_⟩
        rw [bxor]
        by_cases c : rst (numL (L.take i)) n ^^^ p.2.1 < rst (numL (L.take i)) n
        · rw [decide_eq_true (by omega)]
          have c' := (lt_iff pz).mp c
          rw [if_pos c'] at R'
          refine iteT ⟨fun σ' H' => σ' = [some (.int (rst (numL (L.take i)) n ^^^ p.2.1 : Nat)), some (.int (mk : Nat)), some (.ref t), some (.int (p.2.1 : Nat)), some (.int (p.2.2 : Nat))] ∧ H' = H2, ?_, ?_⟩
          · refine ⟨_, rfl, _, rfl, _, _, rfl, rfl, ?_, rfl⟩
            show [some (V.int (Builtin.bitXor ((rst (numL (L.take i)) n : Nat) : Int) ((p.2.1 : Nat) : Int))), _, _, _, _] = _
            rw [bxor]
          rintro _ H3 ⟨rfl, rfl⟩
          refine ⟨_, rfl, _, rfl, _, _, rfl, rfl, mk ^^^ p.2.2, some (.int (p.2.1 : Nat)), some (.int (p.2.2 : Nat)), ?_, rfl, R'⟩
          show [_, some (V.int (Builtin.bitXor ((mk : Nat) : Int) ((p.2.2 : Nat) : Int))), _, _, _] = _
          rw [bxor, e]
          unfold lw
          rw [if_pos c']
        · rw [decide_eq_false (by omega)]
          have c' : ¬ (rst (numL (L.take i)) n).testBit p.2.1.log2 = true := fun z => c ((lt_iff pz).mpr z)
          rw [if_neg c'] at R'
          refine iteF ⟨mk, some (.int (p.2.1 : Nat)), some (.int (p.2.2 : Nat)), ?_, rfl, R'⟩
          rw [e]
          unfold lw
          rw [if_neg c']
          rfl
      · rintro σ H2 ⟨mk, v3, v4, rfl, rfl, R⟩
        have l : L.take (refV L).length = L := List.take_of_length_le (by unfold refV; rw [List.length_map]; exact Nat.le_refl _)
        rw [l] at R ⊢
        exact ⟨mk, v3, v4, rfl, rfl, R⟩
    rintro _ H2 ⟨mk, v3, v4, rfl, rfl, R⟩
    exact ⟨_, rfl, _, rfl, by show 2 ≤ sizeLine; decide, fun p np => q mk _ p R (same_new np) np upd_same⟩
end
end KQ
namespace KQ
theorem pc_xor : ∀ (a b : Nat), pc (a ^^^ b) % 2 = (pc a + pc b) % 2 := by
  intro a
  induction a using Nat.strongRecOn with
  | _ a ih =>
    intro b
    by_cases h : a = 0
    · subst h
      rw [Nat.zero_xor, pc_zero, Nat.zero_add]
    · have ha : a = 2 * (a / 2) + a % 2 := by omega
      have hb : b = 2 * (b / 2) + b % 2 := by omega
      have hx : a ^^^ b = 2 * (a / 2 ^^^ b / 2) + (a % 2 ^^^ b % 2) := by
        apply Nat.eq_of_testBit_eq
        intro j
        cases j with
        | zero =>
          rw [Nat.testBit_xor, Nat.testBit_zero, Nat.testBit_zero, Nat.testBit_zero]
          rcases Nat.mod_two_eq_zero_or_one a with e | e <;> rcases Nat.mod_two_eq_zero_or_one b with e' | e' <;> rw [e, e'] <;> simp [Nat.add_mod]
        | succ j =>
          have lt : (a % 2 ^^^ b % 2) < 2 := by
            rcases Nat.mod_two_eq_zero_or_one a with e | e <;> rcases Nat.mod_two_eq_zero_or_one b with e' | e' <;> rw [e, e'] <;> decide
          rw [Nat.testBit_xor, Nat.testBit_succ, Nat.testBit_succ, Nat.testBit_succ, show (2 * (a / 2 ^^^ b / 2) + (a % 2 ^^^ b % 2)) / 2 = a / 2 ^^^ b / 2 by omega, Nat.testBit_xor]
      have i2 := ih (a / 2) (by omega) (b / 2)
      have p1 := pc_two (a / 2) (a % 2) (by omega)
      have p2 := pc_two (b / 2) (b % 2) (by omega)
      rw [← ha] at p1
      rw [← hb] at p2
      have lt : (a % 2 ^^^ b % 2) < 2 ∧ (a % 2 ^^^ b % 2) = (a % 2 + b % 2) % 2 := by
        rcases Nat.mod_two_eq_zero_or_one a with e | e <;> rcases Nat.mod_two_eq_zero_or_one b with e' | e' <;> rw [e, e'] <;> decide
      rw [hx, pc_two _ _ lt.1, p1, p2]
      omega
/-- does the second one's front meet the first one's back oddly -/
def tw (n a b : Nat) : Nat := pc (a &&& (b >>> n)) % 2
theorem tw_xl (n a b c : Nat) : tw n (a ^^^ b) c = (tw n a c + tw n b c) % 2 := by
  unfold tw
  rw [Nat.and_xor_distrib_right, pc_xor]
  omega
theorem tw_xr (n a b c : Nat) : tw n a (b ^^^ c) = (tw n a b + tw n a c) % 2 := by
  unfold tw
  rw [Nat.shiftRight_xor_distrib, Nat.and_xor_distrib_left, pc_xor]
  omega
theorem tw_zl (n c : Nat) : tw n 0 c = 0 := by
  unfold tw
  rw [Nat.zero_and, pc_zero]
theorem tw_zr (n c : Nat) : tw n c 0 = 0 := by
  unfold tw
  rw [Nat.zero_shiftRight, Nat.and_zero, pc_zero]
abbrev Hl := Nat × Nat
def hp (n : Nat) (h g : Hl) : Hl := (h.1 ^^^ g.1, (h.2 + g.2 + 2 * tw n h.1 g.1) % 4)
def lwH (n : Nat) (h r : Hl) : Hl := if h.1 ^^^ r.1 < h.1 then hp n h r else h
def rsH (n : Nat) (T : List Hl) (h : Hl) : Hl := T.foldl (lwH n) h
theorem lwH_fst {n : Nat} {h r : Hl} (r0 : r.1 ≠ 0) : (lwH n h r).1 = lw h.1 r.1 := by
  unfold lwH lw
  by_cases c : h.1.testBit r.1.log2 = true
  · rw [if_pos ((lt_iff r0).mpr c), if_pos c]
    rfl
  · rw [if_neg (fun z => c ((lt_iff r0).mp z)), if_neg c]
theorem rsH_fst {n : Nat} : ∀ {T : List Hl} {h : Hl}, (∀ r ∈ T, r.1 ≠ 0) → (rsH n T h).1 = rst (T.map Prod.fst) h.1
  | [], _, _ => rfl
  | r :: T, h, z => by
    show (rsH n T (lwH n h r)).1 = rst (T.map Prod.fst) (lw h.1 r.1)
    rw [rsH_fst (fun q m => z q (List.mem_cons_of_mem _ m)), lwH_fst (z r (List.mem_cons_self ..))]
theorem hp_assoc (n : Nat) (a b c : Hl) : hp n (hp n a b) c = hp n a (hp n b c) := by
  unfold hp
  refine Prod.ext (Nat.xor_assoc ..) ?_
  show ((a.2 + b.2 + 2 * tw n a.1 b.1) % 4 + c.2 + 2 * tw n (a.1 ^^^ b.1) c.1) % 4 = (a.2 + (b.2 + c.2 + 2 * tw n b.1 c.1) % 4 + 2 * tw n a.1 (b.1 ^^^ c.1)) % 4
  rw [tw_xl, tw_xr]
  omega
theorem hp_zr {n : Nat} {a : Hl} (h : a.2 < 4) : hp n a (0, 0) = a := by
  unfold hp
  refine Prod.ext (Nat.xor_zero _) ?_
  show (a.2 + 0 + 2 * tw n a.1 0) % 4 = a.2
  rw [tw_zr]
  omega
theorem hp_zl {n : Nat} {a : Hl} (h : a.2 < 4) : hp n (0, 0) a = a := by
  unfold hp
  refine Prod.ext (Nat.zero_xor _) ?_
  show (0 + a.2 + 2 * tw n 0 a.1) % 4 = a.2
  rw [tw_zl]
  omega
theorem hp_lt (n : Nat) (a b : Hl) : (hp n a b).2 < 4 := Nat.mod_lt _ (by decide)
def Com (n : Nat) (a b : Hl) : Prop := tw n a.1 b.1 = tw n b.1 a.1
def Sg (n : Nat) (h : Hl) : Prop := h.2 < 4 ∧ h.2 % 2 = tw n h.1 h.1
theorem Com.symm {n : Nat} {a b : Hl} (h : Com n a b) : Com n b a := Eq.symm h
theorem Com.self (n : Nat) (a : Hl) : Com n a a := rfl
theorem hp_comm {n : Nat} {a b : Hl} (h : Com n a b) : hp n a b = hp n b a := by
  unfold hp Com at *
  refine Prod.ext (Nat.xor_comm ..) ?_
  show (a.2 + b.2 + 2 * tw n a.1 b.1) % 4 = (b.2 + a.2 + 2 * tw n b.1 a.1) % 4
  rw [h]
  omega
theorem hp_sq {n : Nat} {a : Hl} (h : Sg n a) : hp n a a = (0, 0) := by
  obtain ⟨h1, h2⟩ := h
  unfold hp
  refine Prod.ext (Nat.xor_self _) ?_
  show (a.2 + a.2 + 2 * tw n a.1 a.1) % 4 = 0
  omega
theorem com_hp {n : Nat} {a b c : Hl} (h : Com n a b) (k : Com n a c) : Com n a (hp n b c) := by
  unfold Com hp at *
  show tw n a.1 (b.1 ^^^ c.1) = tw n (b.1 ^^^ c.1) a.1
  rw [tw_xr, tw_xl, h, k]
theorem com_z (n : Nat) (a : Hl) : Com n a (0, 0) := by
  unfold Com
  show tw n a.1 0 = tw n 0 a.1
  rw [tw_zr, tw_zl]
theorem sg_z (n : Nat) : Sg n (0, 0) := ⟨by decide, by show 0 % 2 = tw n 0 0; rw [tw_zl]⟩
theorem sg_hp {n : Nat} {a b : Hl} (ha : Sg n a) (hb : Sg n b) (h : Com n a b) : Sg n (hp n a b) := by
  obtain ⟨a1, a2⟩ := ha
  obtain ⟨b1, b2⟩ := hb
  refine ⟨hp_lt .., ?_⟩
  unfold Com at h
  show (a.2 + b.2 + 2 * tw n a.1 b.1) % 4 % 2 = tw n (a.1 ^^^ b.1) (a.1 ^^^ b.1)
  rw [tw_xl, tw_xr, tw_xr]
  omega
/-- the product of those of the first k whose mark is set, in their order -/
def pr (n : Nat) (hs : List Hl) (m : Nat) : Nat → Hl
  | 0 => (0, 0)
  | k + 1 => if m.testBit k = true then hp n (pr n hs m k) (hs.getD k (0, 0)) else pr n hs m k
/-- signed ones that commute -/
structure CS (n : Nat) (hs : List Hl) : Prop where
  sg : ∀ a ∈ hs, Sg n a
  com : ∀ a ∈ hs, ∀ b ∈ hs, Com n a b
theorem getD_mem {hs : List Hl} {k : Nat} (h : k < hs.length) : hs.getD k (0, 0) ∈ hs := by
  rw [List.getD_eq_getElem?_getD, List.getElem?_eq_getElem h]
  exact List.getElem_mem h
theorem pr_lt (n : Nat) (hs : List Hl) (m : Nat) : ∀ k, (pr n hs m k).2 < 4
  | 0 => by show 0 < 4; decide
  | k + 1 => by
    unfold pr
    split
    · exact hp_lt ..
    · exact pr_lt n hs m k
theorem pr_com {n : Nat} {hs : List Hl} {g : Hl} (m : Nat) (h : ∀ a ∈ hs, Com n g a) : ∀ {k}, k ≤ hs.length → Com n g (pr n hs m k)
  | 0, _ => com_z n g
  | k + 1, hk => by
    unfold pr
    split
    · exact com_hp (pr_com m h (by omega)) (h _ (getD_mem hk))
    · exact pr_com m h (by omega)
theorem pr_sg {n : Nat} {hs : List Hl} (C : CS n hs) (m : Nat) : ∀ {k}, k ≤ hs.length → Sg n (pr n hs m k)
  | 0, _ => sg_z n
  | k + 1, hk => by
    unfold pr
    split
    · exact sg_hp (pr_sg C m (by omega)) (C.sg _ (getD_mem hk)) ((pr_com m (fun a ha => C.com _ (getD_mem hk) a ha) (by omega)).symm)
    · exact pr_sg C m (by omega)
theorem pr_xor {n : Nat} {hs : List Hl} (C : CS n hs) (m m' : Nat) : ∀ {k}, k ≤ hs.length → pr n hs (m ^^^ m') k = hp n (pr n hs m k) (pr n hs m' k)
  | 0, _ => by
    show ((0, 0) : Hl) = hp n (0, 0) (0, 0)
    rw [hp_zr (by decide)]
  | k + 1, hk => by
    have ih := pr_xor C m m' (k := k) (by omega)
    have g := getD_mem (hs := hs) hk
    generalize hs.getD k (0, 0) = r at g
    have c1 : Com n r (pr n hs m' k) := pr_com m' (fun a ha => C.com _ g a ha) (by omega)
    have s1 := C.sg _ g
    show (if (m ^^^ m').testBit k = true then hp n (pr n hs (m ^^^ m') k) (hs.getD k (0, 0)) else pr n hs (m ^^^ m') k) = hp n (if m.testBit k = true then hp n (pr n hs m k) (hs.getD k (0, 0)) else pr n hs m k) (if m'.testBit k = true then hp n (pr n hs m' k) (hs.getD k (0, 0)) else pr n hs m' k)
    have g' := getD_mem (hs := hs) hk
    generalize hs.getD k (0, 0) = q at g'
    have c2 : Com n q (pr n hs m' k) := pr_com m' (fun a ha => C.com _ g' a ha) (by omega)
    have s2 := C.sg _ g'
    rw [Nat.testBit_xor, ih]
    cases m.testBit k <;> cases m'.testBit k
    · rfl
    · exact hp_assoc ..
    · show hp n (hp n (pr n hs m k) (pr n hs m' k)) q = hp n (hp n (pr n hs m k) q) (pr n hs m' k)
      rw [hp_assoc, hp_assoc, hp_comm c2]
    · show hp n (pr n hs m k) (pr n hs m' k) = hp n (hp n (pr n hs m k) q) (hp n (pr n hs m' k) q)
      rw [hp_assoc, ← hp_assoc n q, hp_comm c2, hp_assoc n _ q q, hp_sq s2, hp_zr (pr_lt ..)]
theorem pr_take {n : Nat} {hs : List Hl} {g : Hl} (m : Nat) : ∀ {k}, k ≤ hs.length → pr n (hs ++ [g]) m k = pr n hs m k
  | 0, _ => rfl
  | k + 1, hk => by
    unfold pr
    rw [pr_take m (by omega), show (hs ++ [g]).getD k (0, 0) = hs.getD k (0, 0) by
      rw [List.getD_eq_getElem?_getD, List.getD_eq_getElem?_getD, List.getElem?_append_left hk]]
theorem pr_bits {n : Nat} {hs : List Hl} {m m' : Nat} : ∀ {k}, (∀ j, j < k → m.testBit j = m'.testBit j) → pr n hs m k = pr n hs m' k
  | 0, _ => rfl
  | k + 1, h => by
    unfold pr
    rw [pr_bits (k := k) (fun j hj => h j (by omega)), h k (by omega)]
theorem pr_snoc0 {n : Nat} {hs : List Hl} {g : Hl} {m : Nat} (h : m < 2 ^ hs.length) : pr n (hs ++ [g]) m (hs.length + 1) = pr n hs m hs.length := by
  show (if m.testBit hs.length = true then _ else _) = _
  rw [bit_high h (Nat.le_refl _), if_neg (by decide), pr_take m (Nat.le_refl _)]
theorem pr_snoc1 {n : Nat} {hs : List Hl} {g : Hl} {m : Nat} (h : m < 2 ^ hs.length) : pr n (hs ++ [g]) (2 ^ hs.length ^^^ m) (hs.length + 1) = hp n (pr n hs m hs.length) g := by
  show (if (2 ^ hs.length ^^^ m).testBit hs.length = true then _ else _) = _
  rw [Nat.testBit_xor, bit_high h (Nat.le_refl _), Nat.testBit_two_pow_self, if_pos (show (true ^^ false) = true from rfl), pr_take _ (Nat.le_refl _)]
  congr 1
  · refine pr_bits fun j hj => ?_
    rw [Nat.testBit_xor, Nat.testBit_two_pow_of_ne (by omega), Bool.false_xor]
  · rw [List.getD_eq_getElem?_getD, List.getElem?_append_right (Nat.le_refl _), Nat.sub_self] <;> rfl
theorem pr_zero {n : Nat} {hs : List Hl} : ∀ k, pr n hs 0 k = (0, 0)
  | 0 => rfl
  | k + 1 => by
    unfold pr
    rw [Nat.zero_testBit, if_neg (by decide), pr_zero k]
theorem xs_app {α : Type} (l : List α) (a : α) (f : α → Nat) : XS (l ++ [a]) f = XS l f ^^^ f a := by
  induction l with
  | nil =>
    show f a ^^^ 0 = 0 ^^^ f a
    rw [Nat.xor_zero, Nat.zero_xor]
  | cons b l ih =>
    show f b ^^^ XS (l ++ [a]) f = (f b ^^^ XS l f) ^^^ f a
    rw [ih, Nat.xor_assoc]
theorem pr_fst {n : Nat} {hs : List Hl} (m : Nat) : (pr n hs m hs.length).1 = sx (hs.map Prod.fst) m := by
  have go : ∀ k, (pr n hs m k).1 = XS (List.range k) fun j => if m.testBit j then (hs.map Prod.fst).getD j 0 else 0 := by
    intro k
    induction k with
    | zero => rfl
    | succ k ih =>
      rw [List.range_succ, xs_app, ← ih]
      show (if m.testBit k = true then hp n (pr n hs m k) (hs.getD k (0, 0)) else pr n hs m k).1 = _
      have e : (hs.map Prod.fst).getD k 0 = (hs.getD k (0, 0)).1 := by
        rw [List.getD_eq_getElem?_getD, List.getD_eq_getElem?_getD, List.getElem?_map]
        cases hs[k]? <;> rfl
      rw [e]
      cases m.testBit k
      · exact (Nat.xor_zero _).symm
      · rfl
  rw [go, sx, List.length_map]
theorem indep_sx {ns : List Nat} (I : Indep ns) {m : Nat} (h : m < 2 ^ ns.length) (z : sx ns m = 0) : m = 0 := by
  by_cases m0 : m = 0
  · exact m0
  · refine absurd ?_ (I m.log2 (ns.getD m.log2 0) ?_)
    · have ht := bit_top m0
      have hl : m.log2 < ns.length := (Nat.log2_lt m0).mpr h
      have e : m = 2 ^ m.log2 ^^^ (m ^^^ 2 ^ m.log2) := by
        rw [Nat.xor_comm m, ← Nat.xor_assoc, Nat.xor_self, Nat.zero_xor]
      have e2 : sx ns (m ^^^ 2 ^ m.log2) = ns.getD m.log2 0 := by
        rw [sx_lin, z, Nat.zero_xor, sx_pow hl]
      have lt : m ^^^ 2 ^ m.log2 < 2 ^ m.log2 := by
        apply Nat.lt_pow_two_of_testBit
        intro j hj
        rw [Nat.testBit_xor]
        by_cases e : j = m.log2
        · subst e
          rw [ht, Nat.testBit_two_pow_self]
          rfl
        · rw [bit_above (by omega), Nat.testBit_two_pow_of_ne (by omega)]
          rfl
      rw [← e2]
      have e3 : ns = ns.take m.log2 ++ ns.drop m.log2 := (List.take_append_drop ..).symm
      have go : ∀ (us vs : List Nat) (x : Nat), x < 2 ^ us.length → sx (us ++ vs) x = sx us x := by
        intro us vs
        induction vs generalizing us with
        | nil => intro x _; rw [List.append_nil]
        | cons v vs ih =>
          intro x hx
          have l2 : x < 2 ^ (us ++ [v]).length := Nat.lt_of_lt_of_le hx (Nat.pow_le_pow_right (by decide) (by rw [List.length_append]; omega))
          rw [show us ++ v :: vs = (us ++ [v]) ++ vs by simp, ih (us ++ [v]) x l2, sx_more hx]
      rw [e3, go (ns.take m.log2) (ns.drop m.log2) _ (by rw [List.length_take, Nat.min_eq_left (by omega)]; exact lt)]
      rw [List.take_left' (by rw [List.length_take, Nat.min_eq_left (by omega)])]
      exact sx_spn (ns.take m.log2) _
    · have hl : m.log2 < ns.length := (Nat.log2_lt m0).mpr h
      rw [List.getD_eq_getElem?_getD, List.getElem?_eq_getElem hl]
      rfl
theorem indep_one {ns : List Nat} (I : Indep ns) {m m' : Nat} (h : m < 2 ^ ns.length) (h' : m' < 2 ^ ns.length) (e : sx ns m = sx ns m') : m = m' := by
  have z := indep_sx I (m := m ^^^ m') (Nat.xor_lt_two_pow h h') (by rw [sx_lin, e, Nat.xor_self])
  have : m ^^^ (m ^^^ m') = m ^^^ 0 := by rw [z]
  rw [← Nat.xor_assoc, Nat.xor_self, Nat.zero_xor, Nat.xor_zero] at this
  exact this.symm
end KQ
namespace KQ
structure TabG (n : Nat) (hs T : List Hl) : Prop where
  red : Red (T.map Prod.fst)
  spn : ∀ x, Spn (T.map Prod.fst) x ↔ Spn (hs.map Prod.fst) x
  of : ∀ r ∈ T, ∃ m, m < 2 ^ hs.length ∧ r = pr n hs m hs.length
theorem TabG.nil (n : Nat) : TabG n [] [] := ⟨Red.nil, fun _ => Iff.rfl, fun _ h => by cases h⟩
theorem TabG.nz {n : Nat} {hs T : List Hl} (t : TabG n hs T) : ∀ r ∈ T, r.1 ≠ 0 := fun r hr => t.red.nz _ (List.mem_map_of_mem hr)
theorem rsH_pr {n : Nat} {hs : List Hl} (C : CS n hs) {g : Hl} : ∀ {T : List Hl} (m : Nat), m < 2 ^ hs.length → (∀ r ∈ T, ∃ m, m < 2 ^ hs.length ∧ r = pr n hs m hs.length) →
    ∃ m', m' < 2 ^ hs.length ∧ rsH n T (hp n g (pr n hs m hs.length)) = hp n g (pr n hs m' hs.length)
  | [], m, hm, _ => ⟨m, hm, rfl⟩
  | r :: T, m, hm, h => by
    obtain ⟨m1, l1, e1⟩ := h r (List.mem_cons_self ..)
    have h' := fun q hq => h q (List.mem_cons_of_mem _ hq)
    show ∃ m', _ ∧ rsH n T (lwH n (hp n g (pr n hs m hs.length)) r) = _
    unfold lwH
    split
    · rw [hp_assoc, e1, ← pr_xor C m m1 (Nat.le_refl _)]
      exact rsH_pr C _ (Nat.xor_lt_two_pow hm l1) h'
    · exact rsH_pr C m hm h'
theorem TabG.rest {n : Nat} {hs T : List Hl} (t : TabG n hs T) (C : CS n hs) {g : Hl} (hg : g.2 < 4) : ∃ m, m < 2 ^ hs.length ∧ rsH n T g = hp n g (pr n hs m hs.length) := by
  have h := rsH_pr C (g := g) (T := T) 0 (Nat.two_pow_pos _) t.of
  rwa [pr_zero, hp_zr hg] at h
theorem CS.snoc {n : Nat} {hs : List Hl} (C : CS n hs) {g : Hl} (hg : Sg n g) (cg : ∀ a ∈ hs, Com n g a) : CS n (hs ++ [g]) := by
  refine ⟨fun a ha => ?_, fun a ha b hb => ?_⟩
  · rcases List.mem_append.mp ha with h | h
    · exact C.sg a h
    · rw [List.mem_singleton.mp h]; exact hg
  · rcases List.mem_append.mp ha with h | h <;> rcases List.mem_append.mp hb with k | k
    · exact C.com a h b k
    · rw [List.mem_singleton.mp k]; exact (cg a h).symm
    · rw [List.mem_singleton.mp h]; exact cg b k
    · rw [List.mem_singleton.mp h, List.mem_singleton.mp k]; exact Com.self n g
theorem Indep.snoc {ns : List Nat} (I : Indep ns) {g : Nat} (h : ¬ Spn ns g) : Indep (ns ++ [g]) := by
  intro i x hx
  by_cases hi : i < ns.length
  · rw [List.getElem?_append_left hi] at hx
    rw [List.take_append_of_le_length (by omega)]
    exact I i x hx
  · rw [List.getElem?_append_right (by omega)] at hx
    have e : i = ns.length := by
      cases k : i - ns.length with
      | zero => omega
      | succ j => rw [k] at hx; cases hx
    subst e
    rw [Nat.sub_self] at hx
    cases hx
    rw [List.take_left' rfl]
    exact h
theorem TabG.out {n : Nat} {hs T : List Hl} (t : TabG n hs T) {g : Hl} : (rsH n T g).1 = 0 ↔ Spn (hs.map Prod.fst) g.1 := by
  rw [rsH_fst t.nz, ← t.spn, spn_rst t.red.ec]
theorem TabG.add {n : Nat} {hs T : List Hl} (t : TabG n hs T) (C : CS n hs) {g : Hl} (hg : Sg n g) (cg : ∀ a ∈ hs, Com n g a) (v0 : (rsH n T g).1 ≠ 0) :
    TabG n (hs ++ [g]) (T.map (lwH n · (rsH n T g)) ++ [rsH n T g]) := by
  obtain ⟨m0, l0, e0⟩ := t.rest C hg.1
  have ef : (T.map (lwH n · (rsH n T g)) ++ [rsH n T g]).map Prod.fst = (T.map Prod.fst).map (lw · (rst (T.map Prod.fst) g.1)) ++ [rst (T.map Prod.fst) g.1] := by
    rw [List.map_append, List.map_map, List.map_map, ← rsH_fst t.nz]
    congr 1
    exact List.map_congr_left fun r _ => lwH_fst v0
  have v0' : rst (T.map Prod.fst) g.1 ≠ 0 := by rw [← rsH_fst t.nz]; exact v0
  have ev : rsH n T g = hp n (pr n hs m0 hs.length) g := by rw [e0, hp_comm (pr_com m0 cg (Nat.le_refl _))]
  have up : 2 ^ (hs ++ [g]).length = 2 * 2 ^ hs.length := by rw [List.length_append, List.length_singleton, Nat.pow_succ]; omega
  have top : ∀ m, m < 2 ^ hs.length → 2 ^ hs.length ^^^ m < 2 ^ (hs ++ [g]).length := fun m hm => by
    refine Nat.xor_lt_two_pow ?_ ?_
    · rw [up]; have := Nat.two_pow_pos hs.length; omega
    · rw [up]; omega
  refine ⟨?_, fun x => ?_, fun r hr => ?_⟩
  · rw [ef]
    exact t.red.add v0' fun r hr => rst_clear t.red.ec r hr
  · rw [ef, List.map_append]
    exact spn_add t.spn v0' x
  · rw [show (hs ++ [g]).length = hs.length + 1 by simp] at top ⊢
    rcases List.mem_append.mp hr with h | h
    · obtain ⟨q, hq, e⟩ := List.mem_map.mp h
      obtain ⟨m1, l1, e1⟩ := t.of q hq
      subst e
      show ∃ m, _ ∧ lwH n q (rsH n T g) = _
      unfold lwH
      split
      · refine ⟨2 ^ hs.length ^^^ (m1 ^^^ m0), top _ (Nat.xor_lt_two_pow l1 l0), ?_⟩
        rw [pr_snoc1 (Nat.xor_lt_two_pow l1 l0), ev, e1, pr_xor C m1 m0 (Nat.le_refl _), hp_assoc]
      · exact ⟨m1, by rw [Nat.pow_succ]; omega, by rw [pr_snoc0 l1]; exact e1⟩
    · rw [List.mem_singleton.mp h]
      exact ⟨2 ^ hs.length ^^^ m0, top m0 l0, by rw [pr_snoc1 l0]; exact ev⟩
/-- one that is a product of kept ones, up to its sign -/
theorem TabG.hit {n : Nat} {hs T : List Hl} (t : TabG n hs T) (C : CS n hs) {g : Hl} (hg : Sg n g) (cg : ∀ a ∈ hs, Com n g a) (v0 : (rsH n T g).1 = 0) :
    ∃ m, m < 2 ^ hs.length ∧ (pr n hs m hs.length).1 = g.1 ∧ ((rsH n T g).2 = 0 ↔ (pr n hs m hs.length).2 = g.2) := by
  obtain ⟨m0, l0, e0⟩ := t.rest C hg.1
  have e1 : (pr n hs m0 hs.length).1 = g.1 := by
    rw [e0] at v0
    have z : g.1 ^^^ (pr n hs m0 hs.length).1 = 0 := v0
    have : g.1 ^^^ (g.1 ^^^ (pr n hs m0 hs.length).1) = g.1 ^^^ 0 := by rw [z]
    rw [← Nat.xor_assoc, Nat.xor_self, Nat.zero_xor, Nat.xor_zero] at this
    exact this
  refine ⟨m0, l0, e1, ?_⟩
  rw [e0]
  show (g.2 + (pr n hs m0 hs.length).2 + 2 * tw n g.1 (pr n hs m0 hs.length).1) % 4 = 0 ↔ _
  have s2 := pr_sg C m0 (Nat.le_refl _)
  obtain ⟨s1, s2⟩ := s2
  obtain ⟨g1, g2⟩ := hg
  rw [e1] at s2 ⊢
  omega
end KQ
namespace KQ
open PySem PySem.Spec PyProof.Rows
open PySem.Builtin PySem.Builtin.Str PySem.Builtin.Int PySem.Builtin.Float
/-- the digits of n to the base 2, as a text -/
def binT (n : Nat) : Str := ⟨((Nat.toDigits 2 n).map Char.toNat).toArray⟩
theorem spec_b (name : String) : parseFormatSpec ("b" : Str).cps.toList name 62 = .ok { align := 62, type := some 98 } := by
  rw [show ("b" : Str).cps.toList = [98] from by decide +kernel]
  rfl
theorem gives_bin (n : Nat) (t u : Tok) : Gives («int.__format__» ⟨[.int (n : Int) t, .str "b" u], []⟩) (.str (binT n)) := by
  intro prog w A R s hq
  unfold Builtin.«int.__format__»
  have h1 : (("b" : Str).length == 0) = false := by decide +kernel
  have h2 : ((("b" : Str).cps.toList.drop 1).any (· ≥ 128) || (("b" : Str).cps.getD 0 0 ≥ 128 && !([60, 62, 61, 94] : List Nat).contains (("b" : Str).cps.getD 1 0))) = false := by decide +kernel
  simp only [selfAndOne, noKeywords, Int.intOfSelf, asInt?, asStr?, List.isEmpty_nil, if_true, pure_bind, bind_pure, bind_assoc, h1, h2, Bool.false_eq_true, if_false,
    show (Value.str ("b" : Str) u == Value.none) = false from rfl]
  refine wpAny_bind (wpAny_typeNameOf (T := "str") (typeIs_str _ _ _) (by decide) fun _ => ?_)
  refine wpAny_bind (PyProof.Rows.wpAny_typeNameOfCut_int ?_)
  simp only [spec_b]
  simp only [Option.getD_some]
  rw [if_pos]
  case hc => decide +kernel
  show wpAny _ _ (retStr _) _ _ _
  have made : ∀ X : Str, X = binT n → wpAny (model prog w) A.in1 (retStr X) (fun fin s' => match fin with
      | Fin.done f => R (Except.ok f) s'
      | Fin.again c' => c'.quiet = true ∧ codeAny (model prog w) A c' R s') (fun e s' => R (Except.error e) s') s := by
    rintro _ rfl
    unfold retStr
    refine wpAny_bind (wpAny_mkStr (wpAny_pure ?_) ?_)
    · exact hq.2
    · exact hq.1
  refine made _ ?_
  rw [show decide ((n : Int) < 0) = false from decide_eq_false (by omega)]
  generalize hd : List.map (fun c => (if (98 == 88) = true then Char.toUpper c else c).toNat) (Nat.toDigits 2 (n : Int).natAbs) = ds
  conv => lhs; whnf
  have h0 : ds.isEmpty = false := by
    have := tDigits_len_ge 2 n
    rw [← hd, Int.natAbs_natCast]
    cases h : Nat.toDigits 2 n with
    | nil => rw [h] at this; simp at this
    | cons _ _ => rfl
  have hp : ((-1 : Int) - ds.length).toNat = 0 := by omega
  have hb : binT n = ⟨ds.toArray⟩ := by
    unfold binT
    rw [← hd]
    rfl
  rw [hb]
  simp [h0, hp]
/-- the bits of a whole number as a text, the highest one first -/
def tFmtB (te : L2.TE) : L2.TE := fun σ H Q => te σ H fun x H1 => ∃ n : Nat, x = .int (n : Int) ∧ (binT n).length ≤ sizeLine ∧ Q (.str (binT n)) H1
theorem pe_fmtB {X : L2.Cx} {e : Expr} {te : L2.TE} {j : Nat} {p1 p2 pos : Pos} (he : L2.PE X e te) : L2.PE X (.FormattedValue e (-1) (some (.JoinedStr [.Constant (.str "b") j p1] p2)) pos) (tFmtB te) := by
  refine ⟨fun pins s σ H Q I h => ?_⟩
  refine wpAny_FormattedValue_spec (L2.thn (he.run pins s σ H _ I h) fun v s1 hv => ?_)
  obtain ⟨x, H1, I1, r1, n, rfl, hz, q⟩ := hv
  obtain ⟨t, rfl⟩ := r1
  have hs := (L2.pe_joined1 (X := X) (pos := p2) (L2.pe_str (X := X) (x := "b") (j := j) (pos := p1))).run pins s1 σ H1 (fun y H2 => y = .str "b" ∧ H2 = H1) I1 ⟨rfl, rfl⟩
  refine L2.thn hs fun r s2 hr => ?_
  obtain ⟨y, H2, I2, r2, rfl, rfl⟩ := hr
  obtain ⟨u, rfl⟩ := r2
  refine ⟨_, _, rfl, wpAny_formatField_spec (by decide +kernel) (fun s' => typeIs_int s' _ t) slot_int_format entry_int_format args_int_format (fun u => gives_bin n t u) ?_ (by decide +kernel) hz⟩
  exact ⟨.str _, H2, I2.tok _, ⟨_, rfl⟩, q⟩
end KQ
namespace KT
open PySem PySem.Spec PyProof.Rows L2 PySem.NumText PySem.Calls
def IsB (c : Nat) : Prop := c = 48 ∨ c = 49
/-- the number that a list of signs 0 and 1 tells, the highest one first -/
def binN (l : List Nat) : Nat := l.foldl (fun a c => a * 2 + (c - 48)) 0
theorem IsB.hex {c : Nat} (h : IsB c) : Hx.IsHex c := by
  unfold IsB at h
  unfold Hx.IsHex
  omega
theorem IsB.hv {c : Nat} (h : IsB c) : Hx.hv c = c - 48 := if_pos (by unfold IsB at h; omega)
theorem step_b {ds : Array Nat} {b : Bool} {c : Nat} (h : IsB c) : PySem.NumText.step 2 (ds, b) c = some (ds.push (c - 48), true) := by
  unfold PySem.NumText.step
  rw [if_neg (by rw [beq_iff_eq]; exact (Hx.hex_rng h.hex).2.2), Hx.digit_hex h.hex, h.hv]
  exact if_pos (by unfold IsB at h; omega)
theorem steps_b : ∀ (cs : List Nat) (ds : Array Nat) (b : Bool), (∀ c ∈ cs, IsB c) → cs.foldlM (PySem.NumText.step 2) (ds, b) = some (cs.foldl (fun acc c => acc.push (c - 48)) ds, b || !cs.isEmpty)
  | [], _, b, _ => by cases b <;> rfl
  | c :: cs, ds, b, h => by
    rw [List.foldlM_cons, step_b (h c (List.mem_cons_self ..))]
    show cs.foldlM (PySem.NumText.step 2) (ds.push (c - 48), true) = _
    rw [steps_b cs _ true fun d hd => h d (List.mem_cons_of_mem _ hd)]
    cases b <;> rfl
theorem digits_b {cs : List Nat} (h : ∀ c ∈ cs, IsB c) (hne : cs ≠ []) : digits? 2 cs = some (cs.foldl (fun acc c => acc.push (c - 48)) #[]) := by
  unfold digits?
  rw [steps_b cs _ _ h]
  cases cs with
  | nil => exact absurd rfl hne
  | cons c cs => rfl
theorem push_b : ∀ (cs : List Nat) (ds : Array Nat), (cs.foldl (fun acc c => acc.push (c - 48)) ds).foldl (fun acc d => acc * 2 + d) 0 = cs.foldl (fun a c => a * 2 + (c - 48)) (ds.foldl (fun acc d => acc * 2 + d) 0)
  | [], _ => rfl
  | c :: cs, ds => by
    rw [List.foldl_cons, push_b cs, List.foldl_cons]
    simp
theorem based_b {cs : List Nat} (h : ∀ c ∈ cs, IsB c) : based 2 cs = (2, false, cs) := by
  match cs, h with
  | [], _ => rfl
  | [a], h =>
    rcases h a (List.mem_cons_self ..) with rfl | rfl <;> rfl
  | a :: c :: r, h =>
    rcases h a (List.mem_cons_self ..) with rfl | rfl <;> rcases h c (List.mem_cons_of_mem _ (List.mem_cons_self ..)) with rfl | rfl <;> rfl
theorem read_b {cs : List Nat} (h : ∀ c ∈ cs, IsB c) (hne : cs ≠ []) : (int_private% "readNumeral") 0 2 cs = (int_private% "Numeral.value") ((binN cs : Nat) : Int) := by
  have hx : ∀ c ∈ cs, Hx.IsHex c := fun c hc => (h c hc).hex
  have hr : ∀ c ∈ cs.reverse, Hx.IsHex c := fun c hc => hx c (List.mem_reverse.mp hc)
  have eb := based_b h
  refine (readNumeral_eq 0 2 cs).trans ?_
  rw [Hx.dropB hx, Hx.signH hx]
  show judge 0 false (based 2 cs).1 (based 2 cs).2.1 (digits? (based 2 cs).1 (((based 2 cs).2.2.reverse.dropWhile blank).reverse)) = _
  rw [eb]
  show judge 0 false 2 false (digits? 2 ((cs.reverse.dropWhile blank).reverse)) = _
  rw [Hx.dropB hr, List.reverse_reverse, digits_b h hne]
  have z : (#[] : Array Nat).foldl (fun acc d => acc * 2 + d) 0 = 0 := by first | rfl | simp
  have e := push_b cs #[]
  rw [z] at e
  show (int_private% "Numeral.value") (((cs.foldl (fun acc c => acc.push (c - 48)) (#[] : Array Nat)).foldl (fun acc d => acc * 2 + d) 0 : Nat) : Int) = _
  rw [e] <;> rfl
theorem gives_b {x : PySem.Str} {u t : Tok} (hl : x.length ≤ 640) (h : ∀ c ∈ x.cps.toList, IsB c) (hne : x.cps.toList ≠ []) :
    Gives (Builtin.«int.__new__» ⟨[.type "int", .str x u, .int 2 t], []⟩) (.int ((binN x.cps.toList : Nat) : Int)) :=
  .of_wp fun M A E s Q hQ => by
    obtain ⟨hp, g, d, tk, os⟩ := s
    have f1 := F.conv_sub_int
    have f2 := F.madeHere_int
    have f6 : typeOf (.str x u) = pure (.type "str") := rfl
    obtain ⟨e1, e2⟩ := Hx.seen_hex fun c hc => (h c hc).hex
    have hk : Hx.Hid ((numSeenOf x).length ≤ 640 ∧ (int_private% "readNumeral") 0 2 (numSeenOf x) = (int_private% "Numeral.value") ((binN x.cps.toList : Nat) : Int) ∧ ((numSeenOf x).length == (numTextOf x).length) = true) := by
      refine ⟨?_, ?_, ?_⟩
      · rw [e2, Array.length_toList]; exact hl
      · rw [e2]; exact read_b h hne
      · rw [e1, e2]; exact beq_self_eq_true _
    clear e1 e2 hl hne h
    repeat (any_goals (first
      | assumption
      | ((with_reducible show wpAny _ _ ((int_private% "intFromText") _ _ _) _ _ _); refine Hx.wp_textB hk.out.1 hk.out.2.1 hk.out.2.2 ?_)
      | wp_step))
    all_goals first | exact ⟨_, rfl, hQ⟩ | skip
end KT
namespace KQ
open PySem PySem.Spec PyProof.Rows L2
/-- int(t, 2) -/
def rIntB : List V → Hp → VK → Prop := fun xs H Q => ∃ l : List Nat, xs = [.str (SX.S l), .int 2] ∧ l ≠ [] ∧ l.length ≤ 640 ∧ (∀ c ∈ l, KT.IsB c) ∧ Q (.int ((KT.binN l : Nat) : Int)) H
theorem call_int_b {X : Cx} : CallR X (.type "int") rIntB := by
  rintro pins s σ H xs us Q I r ⟨l, rfl, hne, hl, hx, q⟩
  obtain ⟨u, w', rfl, ⟨t1, rfl⟩, ⟨t2, rfl⟩⟩ := vals2 r
  exact callType_new F.called_int F.newNe_int (Hx.typeCall_int_2 _ _) (Hx.newCall_int_2 _ _) (fun obj => F.initArgs_range_2 obj _ _) F.entry_int_new (KT.gives_b (x := SX.S l) (by rw [SX.S_len]; exact hl) hx hne).meets
    (show (Made.int ((KT.binN l : Nat) : Int)).post _ s from ⟨rfl, ⟨.int ((KT.binN l : Nat) : Int), H, I.tok _, ⟨_, rfl⟩, q⟩⟩)
end KQ
namespace KQ
open PySem PySem.Spec PyProof.Rows L2
def lsb (n : Nat) : List Nat := if h : n < 2 then [48 + n] else (48 + n % 2) :: lsb (n / 2)
termination_by n
decreasing_by omega
theorem lsb_small {n : Nat} (h : n < 2) : lsb n = [48 + n] := by rw [lsb, dif_pos h]
theorem lsb_big {n : Nat} (h : ¬ n < 2) : lsb n = (48 + n % 2) :: lsb (n / 2) := by rw [lsb, dif_neg h]
theorem dig_char {b : Nat} (h : b < 2) : (Nat.digitChar b).toNat = 48 + b := by
  have : b = 0 ∨ b = 1 := by omega
  rcases this with rfl | rfl <;> decide
theorem core_two : ∀ (fuel n : Nat) (ds : List Char), n < fuel → (Nat.toDigitsCore 2 fuel n ds).map Char.toNat = (lsb n).reverse ++ ds.map Char.toNat
  | 0, n, ds, h => by omega
  | fuel + 1, n, ds, h => by
    unfold Nat.toDigitsCore
    by_cases h2 : n / 2 = 0
    · simp only [h2, if_true]
      rw [lsb_small (by omega), List.map_cons, dig_char (by omega), show n % 2 = n by omega]
      rfl
    · simp only [h2, if_false]
      have e : lsb n = (48 + n % 2) :: lsb (n / 2) := lsb_big (by omega)
      rw [core_two fuel (n / 2) _ (by omega), e, List.map_cons, dig_char (by omega)]
      simp
theorem bin_eq (n : Nat) : binT n = mS (lsb n).reverse := by
  unfold binT Nat.toDigits
  rw [core_two (n + 1) n [] (by omega)]
  simp
theorem lsb_pc (n : Nat) : (lsb n).count 49 = pc n := by
  induction n using Nat.strongRecOn with
  | _ n ih =>
    by_cases h : n < 2
    · rw [lsb_small h]
      have : n = 0 ∨ n = 1 := by omega
      rcases this with rfl | rfl
      · rw [pc_zero]; decide
      · have := pc_two 0 1 (by decide)
        rw [pc_zero] at this
        rw [show pc 1 = 1 from this]
        decide
    · have e := pc_two (n / 2) (n % 2) (by omega)
      rw [show 2 * (n / 2) + n % 2 = n by omega] at e
      rw [lsb_big h, e, List.count_cons, ih (n / 2) (by omega)]
      rcases Nat.mod_two_eq_zero_or_one n with q | q <;> rw [q] <;> simp <;> omega
/-- n signs, the highest one first -/
def txB (n m : Nat) : List Nat := (rowOf n m).map (48 + ·)
theorem txB_len (n m : Nat) : (txB n m).length = n := by rw [txB, List.length_map, rowOf_len]
theorem rowOf_low (n m : Nat) : rowOf (n + 1) m = rowOf n (m / 2) ++ [m % 2] := by
  unfold rowOf
  rw [List.range_succ, List.map_append, List.map_cons, List.map_nil]
  congr 1
  · refine List.map_congr_left fun k hk => ?_
    have : k < n := List.mem_range.mp hk
    rw [show n + 1 - 1 - k = (n - 1 - k) + 1 by omega, Nat.testBit_succ]
  · rw [show n + 1 - 1 - n = 0 by omega, Nat.testBit_zero]
    rcases Nat.mod_two_eq_zero_or_one m with e | e <;> rw [e] <;> rfl
theorem txB_low (n m : Nat) : txB (n + 1) m = txB n (m / 2) ++ [48 + m % 2] := by
  unfold txB
  rw [rowOf_low, List.map_append] <;> rfl
theorem lsb_pad : ∀ (n m : Nat), m < 2 ^ (n + 1) → (lsb m).length ≤ n + 1 ∧ List.replicate (n + 1 - (lsb m).length) 48 ++ (lsb m).reverse = txB (n + 1) m
  | 0, m, h => by
    rw [lsb_small (by omega)]
    refine ⟨Nat.le_refl _, ?_⟩
    rw [txB_low, show m % 2 = m by omega] <;> rfl
  | n + 1, m, h => by
    have up : 2 ^ (n + 1 + 1) = 2 ^ (n + 1) * 2 := Nat.pow_succ ..
    by_cases h2 : m < 2
    · rw [lsb_small h2, txB_low, show m / 2 = 0 by omega, show m % 2 = m by omega]
      refine ⟨by simp, ?_⟩
      unfold txB
      rw [row_zero, List.map_replicate, List.length_singleton, Nat.add_sub_cancel] <;> rfl
    · obtain ⟨i1, i2⟩ := lsb_pad n (m / 2) (by omega)
      rw [lsb_big h2, txB_low, ← i2]
      refine ⟨by rw [List.length_cons]; omega, ?_⟩
      rw [List.length_cons, List.reverse_cons, List.append_assoc, Nat.add_sub_add_right]
theorem txB_dig (n m : Nat) : ∀ c ∈ txB n m, c = 48 ∨ c = 49 := by
  intro c hc
  obtain ⟨b, hb, rfl⟩ := List.mem_map.mp hc
  have := rowOf_bit hb
  omega
theorem zf_bin {n m : Nat} (hn : 1 ≤ n) (h : m < 2 ^ n) : Txt.zfill (binT m) (n : Int) = mS (txB n m) := by
  obtain ⟨n, rfl⟩ : ∃ k, n = k + 1 := ⟨n - 1, by omega⟩
  obtain ⟨i1, i2⟩ := lsb_pad n m h
  have e0 : ∀ c, (lsb m).reverse.head? = some c → c = 48 ∨ c = 49 := by
    intro c hc
    have : c ∈ txB (n + 1) m := by
      rw [← i2]
      exact List.mem_append_right _ (List.mem_of_mem_head? hc)
    exact txB_dig _ _ c this
  rw [bin_eq]
  unfold Txt.zfill
  by_cases hc : ((n + 1 : Nat) : Int) ≤ ((mS (lsb m).reverse).length : Int)
  · rw [if_pos hc]
    rw [mS_len, List.length_reverse] at hc
    have e : (lsb m).length = n + 1 := by omega
    rw [e, Nat.sub_self] at i2
    exact congrArg mS i2
  · rw [if_neg hc]
    have e9 : (mS (lsb m).reverse).cps[0]? = (lsb m).reverse.head? := by
      rw [List.head?_eq_getElem?]
      simp
    unfold zfilled
    rw [e9]
    have go : ∀ o : Option Nat, (∀ c, o = some c → c = 48 ∨ c = 49) → (match o with
        | some 43 | some 45 => PySem.Builtin.Str.strSub (mS (lsb m).reverse) 0 1 ++ PySem.Builtin.Str.padded (PySem.Builtin.Str.strSub (mS (lsb m).reverse) 1 (mS (lsb m).reverse).length) (((n + 1 : Nat) : Int).toNat - (mS (lsb m).reverse).length) 0 48
        | _ => PySem.Builtin.Str.padded (mS (lsb m).reverse) (((n + 1 : Nat) : Int).toNat - (mS (lsb m).reverse).length) 0 48) = mS (txB (n + 1) m) := by
      intro o ho
      have key : PySem.Builtin.Str.padded (mS (lsb m).reverse) (((n + 1 : Nat) : Int).toNat - (mS (lsb m).reverse).length) 0 48 = mS (txB (n + 1) m) := by
        rw [← i2, mS_len, List.length_reverse, Int.toNat_natCast]
        refine mS_of ?_
        unfold PySem.Builtin.Str.padded
        simp
      split
      · rename_i e; rcases ho 43 rfl with z | z <;> cases z
      · rename_i e; rcases ho 45 rfl with z | z <;> cases z
      · exact key
    exact go _ e0
/-- the number of a list of signs -/
theorem binN_nb : ∀ (bs : List Nat) (t : Nat), (bs.map (48 + ·)).foldl (fun a c => a * 2 + (c - 48)) t = nb t bs
  | [], _ => rfl
  | b :: bs, t => by
    rw [List.map_cons, List.foldl_cons, binN_nb bs]
    show nb (t * 2 + (48 + b - 48)) bs = nb (2 * t + b) bs
    congr 1
    omega
theorem binN_eq (bs : List Nat) : KT.binN (bs.map (48 + ·)) = nb 0 bs := binN_nb bs 0
/-- the bits of x below n, the lowest one first, as a number -/
def rv (n x : Nat) : Nat := nb 0 ((List.range n).map fun k => (x.testBit k).toNat)
theorem nb_bit {bs : List Nat} (h : ∀ b ∈ bs, b < 2) {j : Nat} (hj : j < bs.length) : ((nb 0 bs).testBit (bs.length - 1 - j)).toNat = bs.getD j 0 := by
  have e := rowOf_at (W := bs.length) (m := nb 0 bs) hj
  rw [row_nb bs h] at e
  rw [List.getD_eq_getElem?_getD, e]
  rfl
theorem rv_bit (n x j : Nat) : (rv n x).testBit j = (decide (j < n) && x.testBit (n - 1 - j)) := by
  have hb : ∀ b ∈ ((List.range n).map fun k => (x.testBit k).toNat), b < 2 := fun b hb => by
    obtain ⟨k, _, rfl⟩ := List.mem_map.mp hb
    cases x.testBit k <;> decide
  have hl : ((List.range n).map fun k => (x.testBit k).toNat).length = n := by simp
  by_cases hj : j < n
  · have e := nb_bit hb (j := n - 1 - j) (by rw [hl]; omega)
    rw [hl, show n - 1 - (n - 1 - j) = j by omega, List.getD_eq_getElem?_getD, List.getElem?_map, List.getElem?_range (by omega)] at e
    rw [decide_eq_true hj, Bool.true_and]
    have e2 : ((rv n x).testBit j).toNat = (x.testBit (n - 1 - j)).toNat := e
    cases h1 : (rv n x).testBit j <;> cases h2 : x.testBit (n - 1 - j) <;> rw [h1, h2] at e2 <;> first | rfl | cases e2
  · rw [decide_eq_false hj, Bool.false_and]
    exact bit_high (k := n) (by have := nb_lt _ hb; rw [hl] at this; exact this) (by omega)
theorem rv_lt (n x : Nat) : rv n x < 2 ^ n := by
  apply Nat.lt_pow_two_of_testBit
  intro j hj
  rw [rv_bit, decide_eq_false (by omega), Bool.false_and]
theorem rv_xor (n x y : Nat) : rv n (x ^^^ y) = rv n x ^^^ rv n y := by
  apply Nat.eq_of_testBit_eq
  intro j
  rw [Nat.testBit_xor, rv_bit, rv_bit, rv_bit, Nat.testBit_xor]
  cases decide (j < n) <;> rfl
theorem rv_and (n x y : Nat) : rv n (x &&& y) = rv n x &&& rv n y := by
  apply Nat.eq_of_testBit_eq
  intro j
  rw [Nat.testBit_and, rv_bit, rv_bit, rv_bit, Nat.testBit_and]
  cases decide (j < n) <;> rfl
theorem rv_inj {n x y : Nat} (hx : x < 2 ^ n) (hy : y < 2 ^ n) (e : rv n x = rv n y) : x = y := by
  apply Nat.eq_of_testBit_eq
  intro j
  by_cases hj : j < n
  · have e1 := congrArg (fun z => z.testBit (n - 1 - j)) e
    simp only [rv_bit] at e1
    rwa [decide_eq_true (by omega), Bool.true_and, Bool.true_and, show n - 1 - (n - 1 - j) = j by omega] at e1
  · rw [bit_high hx (by omega), bit_high hy (by omega)]
theorem pc_sum : ∀ (n m : Nat), m < 2 ^ n → pc m = ((List.range n).map fun k => (m.testBit k).toNat).sum
  | 0, m, h => by
    have : m = 0 := by omega
    subst this
    exact pc_zero
  | n + 1, m, h => by
    have up : 2 ^ (n + 1) = 2 ^ n * 2 := Nat.pow_succ ..
    have e := pc_two (m / 2) (m % 2) (by omega)
    rw [show 2 * (m / 2) + m % 2 = m by omega] at e
    rw [e, pc_sum n (m / 2) (by omega), List.range_succ_eq_map, List.map_cons, List.map_map, List.sum_cons, Nat.testBit_zero]
    congr 1
    · rcases Nat.mod_two_eq_zero_or_one m with q | q <;> rw [q] <;> rfl
    · congr 1
      refine List.map_congr_left fun k _ => ?_
      show ((m / 2).testBit k).toNat = (m.testBit (k + 1)).toNat
      rw [Nat.testBit_succ]
theorem sum_flip (n : Nat) (f : Nat → Nat) : ((List.range n).map fun k => f (n - 1 - k)).sum = ((List.range n).map f).sum := by
  have e : ((List.range n).map fun k => f (n - 1 - k)) = ((List.range n).map f).reverse := by
    apply List.ext_getElem?
    intro i
    by_cases hi : i < n
    · rw [List.getElem?_map, List.getElem?_range hi, List.getElem?_reverse (by simpa using hi), List.length_map, List.length_range, List.getElem?_map, List.getElem?_range (by omega)]
      rfl
    · rw [List.getElem?_eq_none (by simpa using hi), List.getElem?_eq_none (by simpa using hi)]
  rw [e, List.sum_reverse]
theorem pc_rv {n x : Nat} (h : x < 2 ^ n) : pc (rv n x) = pc x := by
  rw [pc_sum n (rv n x) (rv_lt n x), pc_sum n x h, ← sum_flip n fun k => (x.testBit k).toNat]
  congr 1
  refine List.map_congr_left fun k hk => ?_
  rw [rv_bit, decide_eq_true (List.mem_range.mp hk), Bool.true_and]
/-- the number of a string: the front's bits x, the back's bits z -/
def fB (n x z : Nat) : Nat := 2 ^ n * rv n x + rv n z
theorem fB_bit (n x z j : Nat) : (fB n x z).testBit j = if j < n then (rv n z).testBit j else (rv n x).testBit (j - n) := Nat.testBit_two_pow_mul_add _ (rv_lt n z) j
theorem fB_xor (n x z x' z' : Nat) : fB n x z ^^^ fB n x' z' = fB n (x ^^^ x') (z ^^^ z') := by
  apply Nat.eq_of_testBit_eq
  intro j
  rw [Nat.testBit_xor, fB_bit, fB_bit, fB_bit, rv_xor, rv_xor]
  split <;> rw [Nat.testBit_xor]
theorem fB_shift (n x z : Nat) : fB n x z >>> n = rv n x := by
  rw [Nat.shiftRight_eq_div_pow, fB, Nat.mul_add_div (Nat.two_pow_pos n), Nat.div_eq_of_lt (rv_lt n z), Nat.add_zero]
theorem fB_mod (n x z : Nat) : fB n x z % 2 ^ n = rv n z := by
  rw [fB, Nat.mul_add_mod, Nat.mod_eq_of_lt (rv_lt n z)]
theorem fB_lt (n x z : Nat) : fB n x z < 2 ^ (2 * n) := by
  have h1 := rv_lt n x
  have h2 := rv_lt n z
  have e : 2 ^ (2 * n) = 2 ^ n * 2 ^ n := by rw [← Nat.pow_add]; congr 1; omega
  have : 2 ^ n * (rv n x + 1) ≤ 2 ^ n * 2 ^ n := Nat.mul_le_mul_left _ h1
  rw [Nat.mul_add, Nat.mul_one] at this
  rw [e, fB]
  omega
theorem fB_inj {n x z x' z' : Nat} (hx : x < 2 ^ n) (hz : z < 2 ^ n) (hx' : x' < 2 ^ n) (hz' : z' < 2 ^ n) (e : fB n x z = fB n x' z') : x = x' ∧ z = z' := by
  refine ⟨rv_inj hx hx' ?_, rv_inj hz hz' ?_⟩
  · rw [← fB_shift n x z, ← fB_shift n x' z', e]
  · rw [← fB_mod n x z, ← fB_mod n x' z', e]
theorem tw_fB {n x z x' z' : Nat} (hz : z < 2 ^ n) : tw n (fB n x z) (fB n x' z') = pc (z &&& x') % 2 := by
  unfold tw
  rw [fB_shift]
  have e : fB n x z &&& rv n x' = rv n (z &&& x') := by
    apply Nat.eq_of_testBit_eq
    intro j
    rw [Nat.testBit_and, fB_bit, rv_and, Nat.testBit_and]
    by_cases hj : j < n
    · rw [if_pos hj]
    · rw [rv_bit n x' j, decide_eq_false hj, Bool.false_and, Bool.and_false, Bool.and_false]
  rw [e, pc_rv (Nat.lt_of_le_of_lt Nat.and_le_left hz)]
end KQ
namespace KT
open PySem PySem.Spec PyProof.Rows L2
open PySem.Builtin PySem.Builtin.Str
/-- the raw dict has one small sign for the sign c -/
def TlD (vs : List (L2.Key × Value)) (f : Nat → Nat) (c : Nat) : Prop := f c < 128 ∧ ∃ t, valueAt vs (.inl (c : Int)) = some (.str (SX.S [f c]) t)
/-- a sign that was looked up stands as it was told -/
def Kn (f : Nat → Nat) (kn : List (Nat × Option Nat)) : Prop := ∀ c a, List.lookup c kn = some a → a = some (f c)
theorem Kn.cons {f : Nat → Nat} {kn : List (Nat × Option Nat)} (h : Kn f kn) (c : Nat) : Kn f ((c, some (f c)) :: kn) := fun c' a z => by
  rcases lookup_new z with ⟨q1, q2⟩ | q
  · rw [q2, q1]
  · exact h c' a q
def bit1 (f : Nat → Nat) (c : Nat) : Str := ⟨#[f c]⟩
theorem bits_join (f : Nat → Nat) : ∀ (l : List Nat) (acc : Array Nat), List.foldl (fun acc (p : Str) => acc ++ p.cps) acc (l.map (bit1 f)) = acc ++ (l.map f).toArray
  | [], acc => by simp
  | c :: l, acc => by
    rw [List.map_cons, List.foldl_cons, bits_join f l]
    exact Array.toList_inj.mp (by simp [bit1])
section
variable {prog : Program} {w : World} {A : Around} {E : Value → Shared → Prop} {s : Shared} {d : Addr} {c : Nat} {vs : List (L2.Key × Value)} {f : Nat → Nat}
theorem look {Q : Mapped → Shared → Prop} (hm : s.heap.DictOf (mixKind prog w) d vs) (hk : TlD vs f c)
    (h : ∀ k, Q (.text (SX.S [f c])) { s with toks := k }) : wpAny (model prog w) A (tableLookup (.ref d) c) Q E s := by
  obtain ⟨hl, t, hv⟩ := hk
  unfold tableLookup
  refine wpAny_bind <| wpAny_attempt <| wpAny_bind <| wpAny_mkInt <| wpAny_getItem_of (knd := mixKind prog w) (k := (.inl (c : Int))) (mixKind_int prog w _ _) hm.mapOf hv ?_
  show wpAny _ _ (do let o ← asInt? (Value.str (SX.S [f c]) t); _) _ _ _
  refine wpAny_bind <| wpAny_of_eq (a := none) rfl ?_
  show wpAny _ _ (do let o ← asStr? (Value.str (SX.S [f c]) t); _) _ _ _
  exact wpAny_bind <| wpAny_of_eq (a := some (SX.S [f c])) rfl <| wpAny_pure (h _)
end
/-- the loop: what is behind, and what was looked up -/
def Lp (x : List Nat) (f : Nat → Nat) (g : Bool) (s : Shared) (rest : List Nat) (st : List Str × Nat × Bool × List (Nat × Option Nat) × Bool) (s' : Shared) : Prop :=
  ∃ (dn : List Nat) (ps : List Str) (kn : List (Nat × Option Nat)) (k : Nat), x = dn ++ rest ∧ st = (ps, dn.length, g, kn, false) ∧ ps.reverse = dn.map (bit1 f) ∧ Kn f kn ∧ s' = { s with toks := k }
theorem Lp.next {x : List Nat} {f : Nat → Nat} {g : Bool} {s : Shared} {rest dn : List Nat} {c : Nat} {ps : List Str} {kn : List (Nat × Option Nat)} {k : Nat} (h1 : x = dn ++ c :: rest)
    (h3 : ps.reverse = dn.map (bit1 f)) (h4 : Kn f kn) : Lp x f g s rest (⟨#[f c]⟩ :: ps, dn.length + 1, g, kn, false) { s with toks := k } :=
  ⟨dn ++ [c], bit1 f c :: ps, kn, k, by simp [h1], by simp [bit1], by simp [h3], h4, rfl⟩
theorem meets {prog : Program} {w : World} (x : List Nat) (t : Tok) (d : Addr) (f : Nat → Nat) (hz : x.length ≤ 16000000) : MeetsIn prog w («str.translate» ⟨[.str (SX.S x) t, .ref d], []⟩) (fun A R s =>
    (∃ vs, s.heap.DictOf (mixKind prog w) d vs ∧ ∀ c ∈ x, TlD vs f c) ∧ ∀ (v : Value) (k : Nat), (∃ t', v = .str (SX.S (x.map f)) t') → R (.ok (.ret v)) { s with toks := k }) := by
  refine .of_wp fun A R s ⟨⟨vs, hm, hk⟩, h⟩ => ?_
  have short : ∀ n, n ≤ x.length → tooLong n = false := fun n hn => PyProof.Rows.short24 (by omega)
  unfold Builtin.«str.translate»
  refine wpAny_bind (wpAny_of_eq (a := (Value.str (SX.S x) t, SX.S x, Value.ref d)) rfl ?_)
  dsimp only
  by_cases h0 : ((SX.S x).length == 0) = true
  · have hx : x = [] := List.length_eq_zero_iff.mp (by rw [beq_iff_eq, SX.S_len] at h0; exact h0)
    subst hx
    rw [if_pos h0]
    exact wpAny_bind (wpAny_rule (wpAny_bind (wpAny_of_eq (a := Value.str (SX.S []) t) rfl (wpAny_pure ⟨_, rfl, h _ s.toks ⟨t, rfl⟩⟩))))
  · rw [if_neg h0]
    generalize ((SX.S x).cps.all fun y => decide (y < 128)) = g
    refine wpAny_bind (MeetsSeq2.wpAny_forIn_array _ (Lp x f g s) _ (fun c rest st s' ⟨dn, ps, kn, k, e1, e2, e3, e4, e5⟩ => ?turn) (fun st s' ⟨dn, ps, kn, k, e1, e2, e3, e4, e5⟩ => ?fin) (SX.S x).cps ([], 0, g, [], false)
      ⟨[], [], [], s.toks, by simp [SX.S], rfl, rfl, (fun c a z => by rw [List.lookup_nil] at z; cases z), rfl⟩)
    all_goals subst e2 e5
    case turn =>
      have hc := hk c (by rw [e1]; simp)
      have hn := short dn.length (by rw [e1, List.length_append]; omega)
      dsimp only
      rw [if_neg (by rw [hn]; decide)]
      cases g
      · rw [if_neg Bool.false_ne_true, if_neg Bool.false_ne_true]
        exact wpAny_bind (look hm hc fun k2 => wpAny_pure (Lp.next e1 e3 e4))
      · rw [if_pos rfl]
        cases hl : List.lookup c kn with
        | some a => exact (e4 c a hl) ▸ wpAny_bind (wpAny_pure (wpAny_pure (Lp.next e1 e3 e4)))
        | none =>
          refine wpAny_bind (look hm hc fun k2 => ?_)
          have e8 : ((SX.S [f c]).length == 1 && (SX.S [f c]).cps.all (fun y => decide (y < 128))) = true := by
            show (true && (#[f c]).all (fun y => decide (y < 128))) = true
            simp [hc.1]
          dsimp only
          rw [if_pos e8]
          exact wpAny_bind (wpAny_pure (wpAny_pure (Lp.next e1 e3 (e4.cons c))))
    case fin =>
      have ex : x = dn := by rw [e1, List.append_nil]
      dsimp only
      rw [if_neg (by rw [short _ (by rw [← ex]; omega)]; decide), e3, bits_join, ← ex, show (⟨#[] ++ (x.map f).toArray⟩ : Str) = SX.S (x.map f) by rw [Array.empty_append]]
      exact wpAny_bind (wpAny_mkStr (wpAny_pure ⟨_, rfl, h _ _ ⟨_, rfl⟩⟩) (by rw [SX.S_len, List.length_map, sizeLine_eq]; omega))
end KT
namespace KQ
open PySem PySem.Spec PyProof.Rows L2
section
variable {X : Cx}
theorem mt_transD : MtR X "str.translate" (fun x xs H Q => ∃ (t : List Nat) (a : Addr) (kvs : List (Key × V)) (f : Nat → Nat), x = .str (SX.S t) ∧ xs = [.ref a] ∧ Rd H a (.dK kvs) ∧
    (∀ c ∈ t, f c < 128 ∧ valV kvs (.inl (c : Int)) = some (.str (SX.S [f c]))) ∧ t.length ≤ 16000000 ∧ Q (.str (SX.S (t.map f))) H) := by
  intro pins s σ H _ _ _ _ Q I rx rs ⟨x, a, kvs, f, e1, e2, hr, hf, h3, h⟩
  subst e1 e2
  obtain ⟨t, rfl⟩ := rx
  cases rs with
  | cons r1 rs =>
    cases rs
    cases r1
    obtain ⟨z, hd, vs, rel, dd⟩ := dk_rd I.hok hr
    refine call_meetsIn F.slot_str_translate (typeIs_str _ _ _) F.entry_str_translate (F.args_str_translate_2 _ _) (KT.meets _ t a f h3) ⟨⟨vs, dd, fun c hc => ⟨(hf c hc).1, ?_⟩⟩, fun v k ⟨t', e⟩ => ?_⟩
    · obtain ⟨w', hw, u, e⟩ := RelO.some_of (v := .str (SX.S [f c])) (o := valueAt vs (.inl (c : Int))) (by rw [← (hf c hc).2]; exact rel.val _)
      exact ⟨u, by rw [hw, e]⟩
    · exact e ▸ ⟨.str _, H, I.tok k, ⟨t', rfl⟩, h⟩
end
end KQ
namespace KZ
open PySem
open PySem.Sem (wp)
section
variable {prog : Program} {w : World} {A : Around} {E : Value → Shared → Prop} {s : Shared}
variable {z TI TO i1 i2 : Addr} {n1 n2 k : Nat} {P1 P2 : Nat → Value → Prop} {S1 S2 : Nat → Heap → Prop} {a b : Value}
theorem go_on {i : Addr} {n k : Nat} {P : Nat → Value → Prop} {S : Nat → Heap → Prop} (D : Draws prog w A i [i] n P S) {h h' : Heap} (st : S k h) (e : ∀ o, h.get? i = some o → h'.get? i = some o) : S k h' :=
  D.frame _ _ _ st fun c hc o q => by
    rw [List.mem_singleton.mp hc] at q ⊢
    exact e o q
theorem zip_item {Q : Value → Shared → Prop} (D : ZipApart z TI TO i1 i2 TI TI) (D1 : Draws prog w A i1 [i1] n1 P1 S1) (D2 : Draws prog w A i2 [i2] n2 P2 S2)
    (hz : IsZip s.heap z TI TO .none) (hTI : IsPair s.heap TI (.ref i1) (.ref i2)) (hTO : IsPair s.heap TO a b) (t1 : S1 k s.heap) (t2 : S2 k s.heap) (l1 : k < n1) (l2 : k < n2)
    (hQ : ∀ x y h' tk, P1 k x → P2 k y → IsZip h' z TI TO (rawInt s.heap.objs.size) → IsPair h' TO x y → S1 (k + 1) h' → S2 (k + 1) h' → IsPair h' s.heap.objs.size x y → h'.objs.size = s.heap.objs.size + 1 →
      (∀ c o, c ≠ z → c ≠ TO → c ≠ i1 → c ≠ i2 → s.heap.get? c = some o → h'.get? c = some o) → Q (.ref s.heap.objs.size) { s with heap := h', toks := tk }) :
    wpAny (model prog w) A (Builtin.«zip.__next__» ⟨[.ref z], []⟩) (fun fin s' => ∃ v, fin = .done (.ret v) ∧ Q v s') E s := by
  obtain ⟨h0, gs, dr, tk0, os0⟩ := s
  show wpAny _ _ (field (.ref z) 2 >>= _) _ _ _
  refine wpAny_bind (wpAny_field hz rfl (x := .bool false) rfl ?_)
  show wpAny _ _ (field (.ref z) 3 >>= _) _ _ _
  refine wpAny_bind (wpAny_field hz rfl (x := .ref TI) rfl (wpAny_bind (wpAny_seqItems hTI rfl ?_)))
  show wpAny _ _ (Builtin.SmallTypes.ownedTupleIsFree (.ref z) >>= _) _ _ _
  refine wpAny_bind ?_
  unfold Builtin.SmallTypes.ownedTupleIsFree
  refine wpAny_bind (wpAny_field hz rfl (x := .none) rfl (wpAny_pure ?_))
  simp only [if_true]
  refine wpAny_bind (wpAny_rule (wpAny_bind (wpAny_field hz rfl (x := .ref TO) rfl ?_)))
  refine wpAny_bind (wpAny_setField_rec hz (by simp) fun ha za sa => ?_)
  have za' : IsZip ha z TI TO .ellipsis := za
  refine wpAny_bind ?_
  simp only [List.zipIdx_cons, List.zipIdx_nil, List.forIn_cons, List.forIn_nil]
  -- the left one
  refine wpAny_bind (wpAny_bind (wpAny_onRaise ?_))
  show wpAny _ _ (Builtin.SmallTypes.nextOf (.ref i1) >>= _) _ _ _
  refine wpAny_bind (D1.item k _ _ _ l1 (go_on D1 t1 fun o q => sa.extBut _ _ D.i1z q) fun x hb tkb px tb sb => wpAny_pure ?_)
  have TOb : IsPair hb TO a b := sb.extBut _ _ D.TOi1 (sa.extBut _ _ D.TOz hTO)
  refine wpAny_bind (wpAny_seqItems TOb rfl (wpAny_bind (wpAny_updateSeq_pair TOb fun hc TOc sc => ?_)))
  have TOc' : IsPair hc TO x b := TOc
  refine wpAny_bind (wpAny_letGo (wpAny_pure ?_))
  -- the right one
  refine wpAny_bind (wpAny_bind (wpAny_onRaise ?_))
  show wpAny _ _ (Builtin.SmallTypes.nextOf (.ref i2) >>= _) _ _ _
  refine wpAny_bind (D2.item k _ _ _ l2 (go_on D2 t2 fun o q => sc.extBut _ _ D.TOi2.symm (sb.extBut _ _ D.i12.symm (sa.extBut _ _ D.i2z q))) fun y hd tkd py td sd => wpAny_pure ?_)
  have TOd : IsPair hd TO x b := sd.extBut _ _ D.TOi2 TOc'
  refine wpAny_bind (wpAny_seqItems TOd rfl (wpAny_bind (wpAny_updateSeq_pair TOd fun he TOe se => ?_)))
  have TOe' : IsPair he TO x y := TOe
  refine wpAny_bind (wpAny_letGo (wpAny_pure (wpAny_pure ?_)))
  refine wpAny_bind (wpAny_seqItems TOe' rfl (wpAny_bind (wpAny_newTuple ?_)))
  have sz : he.objs.size = h0.objs.size := by rw [se.1, sd.1, sc.1, sb.1, sa.1]
  have ze : IsZip he z TI TO .ellipsis := se.extBut _ _ D.TOz.symm (sd.extBut _ _ D.i2z.symm (sc.extBut _ _ D.TOz.symm (sb.extBut _ _ D.i1z.symm za')))
  have ke : ∀ c o, c ≠ z → c ≠ TO → c ≠ i1 → c ≠ i2 → h0.get? c = some o → he.get? c = some o := fun c o c1 c2 c3 c4 q =>
    se.extBut _ _ c2 (sd.extBut _ _ c4 (sc.extBut _ _ c2 (sb.extBut _ _ c3 (sa.extBut _ _ c1 q))))
  have zlt : z < he.objs.size := Heap.lt_size ze
  show wpAny _ _ (Builtin.SmallTypes.ownedTupleHandOut (.ref z) (.ref he.objs.size) >>= _) _ _ _
  refine wpAny_bind ?_
  unfold Builtin.SmallTypes.ownedTupleHandOut
  have zf : IsZip (he.push { cls := .type "tuple", data := .seq #[x, y] }) z TI TO .ellipsis := Heap.get?_push_of_some _ ze
  refine wpAny_bind (wpAny_setField_rec zf (by simp) fun hg zg sg => ?_)
  have zg' : IsZip hg z TI TO (rawInt he.objs.size) := zg
  refine wpAny_setField_rec zg' (by simp) fun hh zh sh => ?_
  have zh' : IsZip hh z TI TO (rawInt he.objs.size) := zh
  have up : ∀ c o, c ≠ z → he.get? c = some o → hh.get? c = some o := fun c o c1 q => sh.extBut _ _ c1 (sg.extBut _ _ c1 (Heap.get?_push_of_some _ q))
  have Th : IsPair hh he.objs.size x y := sh.extBut _ _ (Nat.ne_of_gt zlt) (sg.extBut _ _ (Nat.ne_of_gt zlt) (Heap.get?_push_size _ rfl))
  have szh : hh.objs.size = he.objs.size + 1 := by rw [sh.1, sg.1, Heap.size_push]
  rw [sz] at zh' Th szh
  refine wpAny_pure ⟨_, rfl, ?_⟩
  show Q (.ref he.objs.size) _
  rw [sz]
  refine hQ x y hh tkd px py zh' (up _ _ D.TOz TOe') (go_on D1 tb fun o q => up _ o D.i1z (se.extBut _ _ D.TOi1.symm (sd.extBut _ _ D.i12 (sc.extBut _ _ D.TOi1.symm q)))) (go_on D2 td fun o q => up _ o D.i2z (se.extBut _ _ D.TOi2.symm q)) Th szh fun c o c1 c2 c3 c4 q => up c o c1 (ke c o c1 c2 c3 c4 q)
theorem zip_done {Q : Fin → Shared → Prop} (D : ZipApart z TI TO i1 i2 TI TI) (D1 : Draws prog w A i1 [i1] n1 P1 S1)
    (hz : IsZip s.heap z TI TO .none) (hTI : IsPair s.heap TI (.ref i1) (.ref i2)) (hTO : IsPair s.heap TO a b) (t1 : S1 n1 s.heap)
    (hE : ∀ h' e, (∀ c o, c ≠ z → c ≠ TO → c ≠ i1 → c ≠ i2 → s.heap.get? c = some o → h'.get? c = some o) → (∃ o, h'.get? e = some o ∧ o.cls = .type "StopIteration") → E (.ref e) { s with heap := h' }) :
    wpAny (model prog w) A (Builtin.«zip.__next__» ⟨[.ref z], []⟩) Q E s := by
  show wpAny _ _ (field (.ref z) 2 >>= _) _ _ _
  refine wpAny_bind (wpAny_field hz rfl (x := .bool false) rfl ?_)
  show wpAny _ _ (field (.ref z) 3 >>= _) _ _ _
  refine wpAny_bind (wpAny_field hz rfl (x := .ref TI) rfl (wpAny_bind (wpAny_seqItems hTI rfl ?_)))
  show wpAny _ _ (Builtin.SmallTypes.ownedTupleIsFree (.ref z) >>= _) _ _ _
  refine wpAny_bind ?_
  unfold Builtin.SmallTypes.ownedTupleIsFree
  refine wpAny_bind (wpAny_field hz rfl (x := .none) rfl (wpAny_pure ?_))
  simp only [if_true]
  refine wpAny_bind (wpAny_rule (wpAny_bind (wpAny_field hz rfl (x := .ref TO) rfl ?_)))
  refine wpAny_bind (wpAny_setField_rec hz (by simp) fun ha za sa => ?_)
  have za' : IsZip ha z TI TO .ellipsis := za
  refine wpAny_bind ?_
  simp only [List.zipIdx_cons, List.zipIdx_nil, List.forIn_cons, List.forIn_nil]
  refine wpAny_bind (wpAny_bind (wpAny_onRaise ?_))
  show wpAny _ _ (Builtin.SmallTypes.nextOf (.ref i1) >>= _) _ _ _
  refine wpAny_bind (D1.done _ _ _ (go_on D1 t1 fun o q => sa.extBut _ _ D.i1z q) fun hb e sb he => ?_)
  obtain ⟨oe, eo, ec⟩ := he
  have zb : IsZip hb z TI TO .ellipsis := sb _ _ D.i1z.symm za'
  have ez : e ≠ z := fun q => by
    subst q
    rw [zb] at eo
    cases eo
    simp at ec
  exact wpAny_setField_rec zb (by simp) fun hc _ sc => hE hc e (fun c o c1 _ c3 _ q => sc.extBut _ _ c1 (sb _ _ c3 (sa.extBut _ _ c1 q))) ⟨oe, sc.extBut _ _ ez eo, ec⟩
theorem next_item {Q : Option Value → Shared → Prop} (D : ZipApart z TI TO i1 i2 TI TI) (D1 : Draws prog w A.in1 i1 [i1] n1 P1 S1) (D2 : Draws prog w A.in1 i2 [i2] n2 P2 S2)
    (hz : IsZip s.heap z TI TO .none) (hTI : IsPair s.heap TI (.ref i1) (.ref i2)) (hTO : IsPair s.heap TO a b) (t1 : S1 k s.heap) (t2 : S2 k s.heap) (l1 : k < n1) (l2 : k < n2)
    (hQ : ∀ x y h' tk, P1 k x → P2 k y → IsZip h' z TI TO (rawInt s.heap.objs.size) → IsPair h' TO x y → S1 (k + 1) h' → S2 (k + 1) h' → IsPair h' s.heap.objs.size x y → h'.objs.size = s.heap.objs.size + 1 →
      (∀ c o, c ≠ z → c ≠ TO → c ≠ i1 → c ≠ i2 → s.heap.get? c = some o → h'.get? c = some o) → Q (some (.ref s.heap.objs.size)) { s with heap := h', toks := tk }) :
    wpAny (model prog w) A (pyNext (.ref z)) Q E s := by
  have hT : s.TypeIs (.ref z) "zip" := ⟨_, hz, rfl⟩
  unfold pyNext
  exact wpAny_bind (wpAny_attempt (wpAny_callSpecial?_slot (name := Str.ofString "__next__") hT F.slot_zip_next
    (wpAny_call_entry F.slot_zip_next hT F.entry_zip_next
      (zip_item D D1 D2 hz hTI hTO t1 t2 l1 l2 fun x y h' tk a1 a2 a3 a4 a5 a6 a7 a8 a9 => wpAny_pure (hQ x y h' tk a1 a2 a3 a4 a5 a6 a7 a8 a9)) (F.args_zip_next_1 _))))
theorem next_done {Q : Option Value → Shared → Prop} (D : ZipApart z TI TO i1 i2 TI TI) (D1 : Draws prog w A.in1 i1 [i1] n1 P1 S1)
    (hz : IsZip s.heap z TI TO .none) (hTI : IsPair s.heap TI (.ref i1) (.ref i2)) (hTO : IsPair s.heap TO a b) (t1 : S1 n1 s.heap)
    (hQ : ∀ h', (∀ c o, c ≠ z → c ≠ TO → c ≠ i1 → c ≠ i2 → s.heap.get? c = some o → h'.get? c = some o) → Q none { s with heap := h' }) : wpAny (model prog w) A (pyNext (.ref z)) Q E s := by
  have hT : s.TypeIs (.ref z) "zip" := ⟨_, hz, rfl⟩
  unfold pyNext
  refine wpAny_bind (wpAny_attempt (wpAny_callSpecial?_slot (name := Str.ofString "__next__") hT F.slot_zip_next
    (wpAny_call_entry F.slot_zip_next hT F.entry_zip_next (zip_done D D1 hz hTI hTO t1 fun h' e hk he => ?_) (F.args_zip_next_1 _))))
  obtain ⟨o, ho, hc⟩ := he
  exact wpAny_bind (wpAny_isInstance (T := "StopIteration") (b := true) ⟨o, ho, hc⟩ isSubtype_stop (wpAny_pure (hQ _ hk)))
end
end KZ
namespace KZ
open PySem
open PySem.Sem (wp)
def zp1 (h : Heap) (x : Str) (t : Tok) : Heap := h.push { cls := .type (strIterType x), data := .fields #[.str x t, .int 0 0] }
def zp2 (h : Heap) (x y : Str) (t u : Tok) : Heap := (zp1 h x t).push { cls := .type (strIterType y), data := .fields #[.str y u, .int 0 0] }
def zp3 (h : Heap) (x y : Str) (t u : Tok) : Heap := (zp2 h x y t u).push { cls := .type "tuple", data := .seq #[.ref h.objs.size, .ref (zp1 h x t).objs.size] }
def zp4 (h : Heap) (x y : Str) (t u : Tok) : Heap := (zp3 h x y t u).push { cls := .type "tuple", data := .seq #[.none, .none] }
def zp5 (h : Heap) (x y : Str) (t u : Tok) : Heap := (zp4 h x y t u).push { cls := .type "zip", data := .fields #[.none, .bool false, .bool false, .ref (zp2 h x y t u).objs.size, .ref (zp3 h x y t u).objs.size] }
theorem meets_zipS (x y : Str) (t u : Tok) :
    Meets (Builtin.«zip.__new__» ⟨[.type "zip", .str x t, .str y u], []⟩) (fun _ R s => R (.ok (.ret (.ref (zp4 s.heap x y t u).objs.size))) { s with heap := zp5 s.heap x y t u }) :=
  .of_wp fun prog w A R s h => by
    obtain ⟨h0, g, d, tk, os⟩ := s
    have hsub := sub_zip
    wp_walk using wpAny_pyIter_strU
    exact ⟨_, rfl, h⟩
section
variable {prog : Program} {w : World} {A : Around} {E : Value → Shared → Prop} {s : Shared}
theorem call_zipS {x y : Str} {t u : Tok} {Q : Value → Shared → Prop}
    (h : ∀ h', IsZip h' (s.heap.objs.size + 4) (s.heap.objs.size + 2) (s.heap.objs.size + 3) .none → IsPair h' (s.heap.objs.size + 2) (.ref s.heap.objs.size) (.ref (s.heap.objs.size + 1)) →
      IsPair h' (s.heap.objs.size + 3) .none .none → h'.IsStrIter s.heap.objs.size (strIterType x) x t 0 → h'.IsStrIter (s.heap.objs.size + 1) (strIterType y) y u 0 →
      (∀ c o, s.heap.get? c = some o → h'.get? c = some o) → Q (.ref (s.heap.objs.size + 4)) { s with heap := h' }) :
    wpAny (model prog w) A (call (.type "zip") [.str x t, .str y u]) Q E s := by
  refine callType_new F.called_zip (by decide) (F.typeCall_zip_2 _ _) (F.newCall_zip_2 _ _) (fun obj => F.args_object_init_3 obj _ _) F.entry_zip_new (meets_zipS x y t u) ?_
  have s1 : (zp1 s.heap x t).objs.size = s.heap.objs.size + 1 := Heap.size_push ..
  have s2 : (zp2 s.heap x y t u).objs.size = s.heap.objs.size + 2 := by rw [zp2, Heap.size_push, s1]
  have s3 : (zp3 s.heap x y t u).objs.size = s.heap.objs.size + 3 := by rw [zp3, Heap.size_push, s2]
  have s4 : (zp4 s.heap x y t u).objs.size = s.heap.objs.size + 4 := by rw [zp4, Heap.size_push, s3]
  have e5 : (zp5 s.heap x y t u).get? (zp4 s.heap x y t u).objs.size = some _ := Heap.get?_push_size _ rfl
  have e4 : (zp5 s.heap x y t u).get? (zp3 s.heap x y t u).objs.size = some _ := Heap.get?_push_of_some _ (Heap.get?_push_size _ rfl)
  have e3 : (zp5 s.heap x y t u).get? (zp2 s.heap x y t u).objs.size = some _ := Heap.get?_push_of_some _ (Heap.get?_push_of_some _ (Heap.get?_push_size _ rfl))
  have e2 : (zp5 s.heap x y t u).get? (zp1 s.heap x t).objs.size = some _ := Heap.get?_push_of_some _ (Heap.get?_push_of_some _ (Heap.get?_push_of_some _ (Heap.get?_push_size _ rfl)))
  have e1 : (zp5 s.heap x y t u).get? s.heap.objs.size = some _ := Heap.get?_push_of_some _ (Heap.get?_push_of_some _ (Heap.get?_push_of_some _ (Heap.get?_push_of_some _ (Heap.get?_push_size _ rfl))))
  show _ ∧ _
  rw [s2, s3, s4] at e5
  rw [s1, s2] at e3
  rw [s3] at e4
  rw [s1] at e2
  rw [s4]
  exact ⟨⟨_, e5, rfl⟩, h _ e5 e3 e4 ⟨_, e1, rfl, rfl⟩ ⟨_, e2, rfl, rfl⟩ fun c o q =>
    Heap.get?_push_of_some _ (Heap.get?_push_of_some _ (Heap.get?_push_of_some _ (Heap.get?_push_of_some _ (Heap.get?_push_of_some _ q))))⟩
end
end KZ
namespace KQ
open PySem PySem.Spec PyProof.Rows L2
theorem draws_tx {prog : Program} {w : World} {A : Around} (calm : A.handled = none) (it : Addr) (x : Str) (t : Tok) :
    Draws prog w A.in1 it [it] x.cps.size (fun i v => ∃ c u, x.cps[i]? = some c ∧ v = .str ⟨#[c]⟩ u) (fun i h => h.IsStrIter it (strIterType x) x t i) := by
  unfold strIterType
  split
  · exact Draws.strAscii (A := A.in1) calm it x t
  · exact Draws.strWide (A := A.in1) calm it x t
/-- the signs of two texts of one length, in new pairs -/
def ItZx (x y : Str) : It := ⟨fun i _ => i < x.cps.size ∧ i < y.cps.size, fun i H v H' => ∃ T c d, v = .ref T ∧ H T = none ∧ x.cps[i]? = some c ∧ y.cps[i]? = some d ∧ H' = upd H T (.tup [.str ⟨#[c]⟩, .str ⟨#[d]⟩]), fun i _ => i = x.cps.size⟩
theorem turn_zipTxt {P : Program} {w : World} {K : PySem.W.Frag} {elts : List Expr} {kk : Nat} {tpos : Pos} {z TI TO i1 i2 : Addr} (D : ZipApart z TI TO i1 i2 TI TI) (x y : Str) (t u : Tok) :
    Turn P w K (.Tuple elts kk tpos) (ItZx x y) [z, TI, TO, i1, i2] z (fun i h => IsZip h z TI TO .none ∧ IsPair h TI (.ref i1) (.ref i2) ∧ (∃ a b, IsPair h TO a b) ∧ h.IsStrIter i1 (strIterType x) x t i ∧ h.IsStrIter i2 (strIterType y) y u i) where
  mem := List.mem_cons_self
  obj := fun i h st c hc => by
    obtain ⟨hz, hTI, ⟨a, b, hTO⟩, ⟨o1, e1, _, d1⟩, ⟨o2, e2, _, d2⟩⟩ := st
    have h5 : c = z ∨ c = TI ∨ c = TO ∨ c = i1 ∨ c = i2 := by simpa using hc
    rcases h5 with rfl | rfl | rfl | rfl | rfl
    · exact ⟨_, hz, fun v q => nomatch q⟩
    · exact ⟨_, hTI, fun v q => nomatch q⟩
    · exact ⟨_, hTO, fun v q => nomatch q⟩
    · exact ⟨o1, e1, fun v q => by rw [d1] at q; cases q⟩
    · exact ⟨o2, e2, fun v q => by rw [d2] at q; cases q⟩
  keep := fun i h h' st kp => by
    obtain ⟨hz, hTI, ⟨a, b, hTO⟩, ⟨o1, e1, r1⟩, ⟨o2, e2, r2⟩⟩ := st
    exact ⟨kp z (by simp) _ hz, kp TI (by simp) _ hTI, ⟨a, b, kp TO (by simp) _ hTO⟩, ⟨o1, kp i1 (by simp) _ e1, r1⟩, ⟨o2, kp i2 (by simp) _ e2, r2⟩⟩
  item := by
    intro X hP hw hK calm i pins s σ H E I fp st hg
    subst hP hw hK
    obtain ⟨hz, hTI, ⟨a0, b0, hTO⟩, t1, t2⟩ := st
    have zl : z < s.heap.objs.size := Heap.lt_size hz
    refine KZ.next_item D (draws_tx (I.ok.hd calm) i1 x t) (draws_tx (I.ok.hd calm) i2 y u) hz hTI hTO t1 t2 hg.1 hg.2 fun v1 v2 h1 tk p1 p2 z1 TO1 t1' t2' hT hsz hk => ?_
    obtain ⟨c, tc, ec, rfl⟩ := p1
    obtain ⟨d, td, ed, rfl⟩ := p2
    refine ⟨_, rfl, wpAny_letOwnedTupleGo_zip (s := { s with heap := h1, toks := tk }) z1 fun h2 z2 sb => ?_⟩
    have hT2 := (sb.2 _ (Nat.ne_of_gt zl)).trans hT
    have fresh : H s.heap.objs.size = none := I.hok.fresh (Nat.le_refl _)
    have I1 : Inv X pins σ (upd H s.heap.objs.size (.tup [.str ⟨#[c]⟩, .str ⟨#[d]⟩])) { s with heap := h2, toks := tk } :=
      I.turnedNew (ch := [z, TI, TO, i1, i2]) (fun b ob hb q => by
        have n1 : b ≠ z := fun e => hb (by simp [e])
        have n2 : b ≠ TO := fun e => hb (by simp [e])
        have n3 : b ≠ i1 := fun e => hb (by simp [e])
        have n4 : b ≠ i2 := fun e => hb (by simp [e])
        exact (sb.2 b n1).trans (hk b ob n1 n2 n3 n4 q)) fp (Nat.le_refl _) ⟨by show 2 ≤ sizeLine; decide, [.str ⟨#[c]⟩ tc, .str ⟨#[d]⟩ td], .cons ⟨_, rfl⟩ (.cons ⟨_, rfl⟩ .nil), ⟨_, hT2, rfl, _, rfl⟩⟩
    refine ⟨.ref s.heap.objs.size, _, I1, rfl, ⟨_, c, d, rfl, fresh, ec, ed, rfl⟩, ⟨z2, (sb.2 _ D.TIz).trans (hk _ _ D.TIz D.TITO D.TIi1 D.TIi2 hTI), ⟨_, _, (sb.2 _ D.TOz).trans TO1⟩, ?_, ?_⟩, fun b hb => ?_⟩
    · obtain ⟨o, q, r⟩ := t1'
      exact ⟨o, (sb.2 _ D.i1z).trans q, r⟩
    · obtain ⟨o, q, r⟩ := t2'
      exact ⟨o, (sb.2 _ D.i2z).trans q, r⟩
    · have lb : b < s.heap.objs.size := by
        have h5 : b = z ∨ b = TI ∨ b = TO ∨ b = i1 ∨ b = i2 := by simpa using hb
        rcases h5 with rfl | rfl | rfl | rfl | rfl
        · exact zl
        · exact Heap.lt_size hTI
        · exact Heap.lt_size hTO
        · obtain ⟨_, q, _⟩ := t1
          exact Heap.lt_size q
        · obtain ⟨_, q, _⟩ := t2
          exact Heap.lt_size q
      rw [upd_ne (Nat.ne_of_lt lb)]
      exact (fp b hb).1
  done := by
    intro X hP hw hK calm i pins s σ H E I fp st hg
    subst hP hw hK
    obtain ⟨hz, hTI, ⟨a0, b0, hTO⟩, t1, t2⟩ := st
    have ei : i = x.cps.size := hg
    subst ei
    exact KZ.next_done D (draws_tx (I.ok.hd calm) i1 x t) hz hTI hTO t1 fun h' hk => ⟨rfl, I.turnedL (t' := s.toks) (ch := [z, TI, TO, i1, i2]) (fun b o hb q =>
      hk b o (fun e => hb (by simp [e])) (fun e => hb (by simp [e])) (fun e => hb (by simp [e])) (fun e => hb (by simp [e])) q) fp⟩
  self := fun A i s Q E st h => wpAny_pyIter_zip st.1 h
def iZipX (ta : TA) : TI := fun σ H R => ta σ H fun vs H1 => ∃ x y : Str, vs = [.str x, .str y] ∧ R (ItZx x y) H1
theorem pi_zipTxt {X : Cx} {e e2 : Expr} {ta : TA} {p pos tpos : Pos} {elts : List Expr} {kk : Nat} (hg : Gl X "zip") (hm : X.mg "zip" = none) (ha : PA X [e, e2] ta)
    (hs : starEach [e, e2] X.env = (false, eval e X.env) :: starEach [e2] X.env := by rfl) (hpl : (backTo pos (starEach [e2] X.env)).any (·.1) = false := by rfl) :
    PI X (.Tuple elts kk tpos) (.Call (.Name "zip" p) [e, e2] [] pos) (iZipX ta) := by
  refine ⟨fun pins s σ H R I want => ?_⟩
  refine Call_ (ld_blt I hg hm PyProof.Rows.boot_zip (PyProof.Rows.callWith_type1 (thn (ha.run pos pins s σ H _ I want) fun us s1 ⟨vs, H1, I1, r1, q1⟩ => ?_) hs hpl))
  obtain ⟨x, y, rfl, q⟩ := q1
  obtain ⟨u1, u2, rfl, rx, ry⟩ := vals2 r1
  obtain ⟨t, rfl⟩ := rx
  obtain ⟨u, rfl⟩ := ry
  refine KZ.call_zipS fun h' hz hTI hTO h1 h2 hk => wpAny_pyIter_zip hz ?_
  have I2 : Inv X pins σ H1 { s1 with heap := h' } := I1.kept (t' := s1.toks) hk
  have D : ZipApart (s1.heap.objs.size + 4) (s1.heap.objs.size + 2) (s1.heap.objs.size + 3) s1.heap.objs.size (s1.heap.objs.size + 1) (s1.heap.objs.size + 2) (s1.heap.objs.size + 2) := by
    generalize s1.heap.objs.size = m
    constructor <;> (intro z; have z' : (_ : Nat) = _ := z; omega)
  refine ⟨s1.heap.objs.size + 4, [s1.heap.objs.size + 4, s1.heap.objs.size + 2, s1.heap.objs.size + 3, s1.heap.objs.size, s1.heap.objs.size + 1], _, _, H1, rfl, I2, turn_zipTxt D x y t u, ⟨hz, hTI, ⟨_, _, hTO⟩, h1, h2⟩, fun c hc => ?_, q⟩
  have h5 : c = s1.heap.objs.size + 4 ∨ c = s1.heap.objs.size + 2 ∨ c = s1.heap.objs.size + 3 ∨ c = s1.heap.objs.size ∨ c = s1.heap.objs.size + 1 := by simpa using hc
  have hle : s1.heap.objs.size ≤ c := by
    rcases h5 with rfl | rfl | rfl | rfl | rfl
    · exact Nat.le_add_right _ _
    · exact Nat.le_add_right _ _
    · exact Nat.le_add_right _ _
    · exact Nat.le_refl _
    · exact Nat.le_add_right _ _
  exact I1.fpOk hle (I1.hok.fresh hle)
end KQ
namespace KQ
open PySem PySem.Spec PyProof.Rows L2
abbrev sFrom : Stmt := topS 28
abbrev sBof : Stmt := topS 29
abbrev sLof : Stmt := topS 30
abbrev sHalf : Stmt := topS 31
abbrev sHeld : Stmt := topS 32
abbrev sSof : Stmt := topS 33
abbrev sHprod : Stmt := topS 34
abbrev sPar : Stmt := topS 35
abbrev sCrossg : Stmt := topS 36
theorem scBof : FnScope ["string", "first", "second"] ["string"] (defScope sBof) := ⟨rfl, rfl, rfl, by decide +kernel, rfl, by decide +kernel, by decide +kernel⟩
theorem scHalf : FnScope ["size", "bits"] ["size", "bits"] (defScope sHalf) := ⟨rfl, rfl, rfl, by decide +kernel, rfl, by decide +kernel, by decide +kernel⟩
theorem scHeld : FnScope ["string"] ["string"] (defScope sHeld) := ⟨rfl, rfl, rfl, by decide +kernel, rfl, by decide +kernel, by decide +kernel⟩
theorem scHprod : FnScope ["size", "one", "other", "bits", "power", "other_bits", "other_power", "turned"] ["size", "one", "other"] (defScope sHprod) := ⟨rfl, rfl, rfl, by decide +kernel, rfl, by decide +kernel, by decide +kernel⟩
theorem scPar : FnScope ["number"] ["number"] (defScope sPar) := ⟨rfl, rfl, rfl, by decide +kernel, rfl, by decide +kernel, by decide +kernel⟩
theorem e_c0 : ("0" : Str) = SX.S [48] := by decide +kernel
theorem e_c1 : ("1" : Str) = SX.S [49] := by decide +kernel
theorem e_one : ("1" : Str) = ⟨#[49]⟩ := by decide +kernel
theorem e_Y : ("Y" : Str) = ⟨#[89]⟩ := by decide +kernel
/-- the number of the bits of letters: all of the first kind, then all of the second -/
def bL (R : List Nat) : Nat := nb 0 (R.map lx ++ R.map lz)
def spPar : Sp := fun vs H Q _ => ∃ n : Nat, vs = [.int (n : Nat)] ∧ n < 2 ^ 1000 ∧ Q (.int ((pc n % 2 : Nat) : Int)) H
def spHalf : Sp := fun vs H Q _ => ∃ n b : Nat, vs = [.int (n : Nat), .int (b : Nat)] ∧ n ≤ 1000 ∧ Q (.int ((b % 2 ^ n : Nat) : Int)) H
def spBof (C : Addr) : Sp := fun vs H Q _ => ∃ (a : Addr) (R : List Nat) (p : Nat), vs = [.ref a] ∧ PauliAt C H a R p ∧ (∀ c ∈ R, isL c = true) ∧ R ≠ [] ∧ R.length ≤ 300 ∧ ∀ H', Same H H' → Q (.int (bL R : Nat)) H'
def spHeld (C : Addr) : Sp := fun vs H Q _ => ∃ (a : Addr) (R : List Nat) (p : Nat), vs = [.ref a] ∧ PauliAt C H a R p ∧ (∀ c ∈ R, isL c = true) ∧ R ≠ [] ∧ R.length ≤ 300 ∧
  ∀ H' x, Same H H' → H x = none → H' x = some (.tup [.int (bL R : Nat), .int (((p + R.count 89) % 4 : Nat) : Int)]) → Q (.ref x) H'
def HlAt (H : Hp) (a : Addr) (h : Hl) : Prop := H a = some (.tup [.int (h.1 : Nat), .int (h.2 : Nat)])
def spHprod : Sp := fun vs H Q _ => ∃ (n : Nat) (a b : Addr) (h g : Hl), vs = [.int (n : Nat), .ref a, .ref b] ∧ HlAt H a h ∧ HlAt H b g ∧ h.1 < 2 ^ 1000 ∧ n ≤ 1000 ∧
  ∀ H' x, Same H H' → H x = none → HlAt H' x (hp n h g) → Q (.ref x) H'
theorem lsb_le {n : Nat} (h : n < 2 ^ 1000) : (lsb n).length ≤ 1000 := (lsb_pad 999 n h).1
theorem binT_le {n : Nat} (h : n < 2 ^ 1000) : (binT n).length ≤ sizeLine := by
  rw [bin_eq, mS_len, List.length_reverse]
  exact sizeBig (lsb_le h)
section
variable {P : Program} {w : World} {K : PySem.W.Frag} {mg : Str → Option Value} {base : Heap}
theorem ok_par {f : Addr} {fd : FuncData} {k : Nat} (F : Fun K "parity" "parity" sPar f fd) : FnOk P w K mg base CX0 (k + 1) f fd ["number"] spPar := by
  refine F.ok scPar (fun vs H Q E h => ?_) (fun cdv A outer s H vs Q E hr h => ?_)
  · obtain ⟨n, rfl, _⟩ := h
    rfl
  · obtain ⟨n, rfl, hn, q⟩ := h
    refine ⟨_, pss_one (ps_ret (pe_op op_odd (pe_bm PySem.F.plainAttrs_str PySem.F.slot_str_count PySem.F.type_str_count mt_count (pe_joined1 (pe_fmtB (pv 0))) (pa_cons pe_str pa_nil)) pe_int)), ?_⟩
    have e : Txt.count (binT n) ("1" : Str) = ((pc n : Nat) : Int) := by
      rw [bin_eq, e_one]
      refine ((PyProof.Rows.count_is _ _).trans (cnt_count 49 _)).trans ?_
      rw [List.count_reverse, lsb_pc]
    refine ⟨_, rfl, n, rfl, binT_le hn, rfl, _, _, rfl, rfl, pc n, by rw [e], rfl, q⟩
theorem ok_half {f : Addr} {fd : FuncData} {k : Nat} (F : Fun K "second_half" "second_half" sHalf f fd) : FnOk P w K mg base CX0 (k + 1) f fd ["size", "bits"] spHalf := by
  refine F.ok scHalf (fun vs H Q E h => ?_) (fun cdv A outer s H vs Q E hr h => ?_)
  · obtain ⟨n, b, rfl, _⟩ := h
    rfl
  · obtain ⟨n, b, rfl, hn, q⟩ := h
    refine ⟨_, pss_one (ps_ret (pe_op op_andM (pv 1) (pe_op op_sub (pe_op op_oneShl pe_int (pv 0)) pe_int))), ?_⟩
    refine ⟨_, rfl, _, rfl, n, rfl, rfl, by omega, _, _, rfl, rfl, (b : Int), n, rfl, rfl, ?_⟩
    have e : ((b : Int) % 2 ^ n) = ((b % 2 ^ n : Nat) : Int) := by push_cast; rfl
    rw [e]
    exact q
theorem ok_hprod {f fP : Addr} {fd dP : FuncData} {k : Nat} (F : Fun K "held_product" "held_product" sHprod f fd) (FP : Fun K "parity" "parity" sPar fP dP) (bP : Binds K dP ["number"] []) (gP : mg "parity" = some (.ref fP)) :
    FnOk P w K mg base CX0 (k + 2) f fd ["size", "one", "other"] spHprod := by
  have GP : FnOk P w K mg base CX0 (k + 1) fP dP ["number"] spPar := ok_par FP
  refine F.ok scHprod (fun vs H Q E h => ?_) (fun cdv A outer s H vs Q E hr h => ?_)
  · obtain ⟨n, a, b, h, g, rfl, _⟩ := h
    rfl
  · obtain ⟨n, a, b, h, g, rfl, hA, hB, h1, hn, q⟩ := h
    refine ⟨_, C8.pss_cut (ps_asg (pv 1) (pg_tup rfl (pgs_cons (pg_name (i := 3) scHprod.nd rfl (.inl rfl)) (pgs_cons (pg_name (i := 4) scHprod.nd rfl (.inl rfl)) pgs_nil))))
      (C8.pss_cut (ps_asg (pv 2) (pg_tup rfl (pgs_cons (pg_name (i := 5) scHprod.nd rfl (.inl rfl)) (pgs_cons (pg_name (i := 6) scHprod.nd rfl (.inl rfl)) pgs_nil))))
      (C8.pss_cut (ps_set (i := 7) scHprod.nd rfl (.inl rfl) (pe_call GP hr (by rfl) gP FP.kp bP .nil pass0 (pa_cons (pe_op op_and (pv 3) (pe_op op_shrN (pv 5) (pv 0))) pa_nil)))
      (pss_one (ps_ret (pe_tup (pa_cons (pe_op op_xor (pv 3) (pv 5)) (pa_cons (pe_op op_mod (pe_op op_add (pe_op op_add (pv 4) (pv 6)) (pe_op op_mul pe_int (pv 7))) pe_int) pa_nil))))))), ?_⟩
    refine ⟨fun σ' H' => σ' = [some (.int (n : Nat)), some (.ref a), some (.ref b), some (.int (h.1 : Nat)), some (.int (h.2 : Nat)), none, none, none] ∧ H' = H, ⟨_, rfl, _, _, rfl, .inl (.inl hA), rfl, _, _, rfl, _, _, rfl, rfl, rfl, rfl⟩, ?_⟩
    rintro _ H1 ⟨rfl, rfl⟩
    refine ⟨fun σ' H' => σ' = [some (.int (n : Nat)), some (.ref a), some (.ref b), some (.int (h.1 : Nat)), some (.int (h.2 : Nat)), some (.int (g.1 : Nat)), some (.int (g.2 : Nat)), none] ∧ H' = H1, ⟨_, rfl, _, _, rfl, .inl (.inl hB), rfl, _, _, rfl, _, _, rfl, rfl, rfl, rfl⟩, ?_⟩
    rintro _ H2 ⟨rfl, rfl⟩
    refine ⟨fun σ' H' => σ' = [some (.int (n : Nat)), some (.ref a), some (.ref b), some (.int (h.1 : Nat)), some (.int (h.2 : Nat)), some (.int (g.1 : Nat)), some (.int (g.2 : Nat)), some (.int (tw n h.1 g.1 : Nat))] ∧ H' = H2, ?_, ?_⟩
    · refine ⟨_, rfl, _, rfl, _, rfl, (g.1 : Int), n, rfl, rfl, _, _, rfl, rfl, h.1 &&& (g.1 >>> n), ?_, Nat.lt_of_le_of_lt Nat.and_le_left h1, rfl, rfl⟩
      have e : ((g.1 : Int) / 2 ^ n) = ((g.1 >>> n : Nat) : Int) := by rw [Nat.shiftRight_eq_div_pow]; push_cast; rfl
      show [V.int (Builtin.bitAnd (h.1 : Nat) _)] = _
      rw [e, band]
    rintro _ H3 ⟨rfl, rfl⟩
    refine ⟨_, rfl, _, rfl, _, _, rfl, rfl, _, rfl, _, rfl, _, _, rfl, rfl, _, rfl, _, _, rfl, rfl, .inl ⟨by decide, by decide⟩, _, _, rfl, rfl, _, _, rfl, rfl, (by show (0 : Int) < 4; decide), by show 2 ≤ sizeLine; decide, fun x nx => ?_⟩
    refine q _ x (same_new nx) nx ?_
    unfold HlAt
    rw [upd_same]
    have e2 : ((h.2 : Int) + (g.2 : Int) + 2 * ((tw n h.1 g.1 : Nat) : Int)) % 4 = (((h.2 + g.2 + 2 * tw n h.1 g.1) % 4 : Nat) : Int) := by omega
    show some (HO.tup [V.int (Builtin.bitXor (h.1 : Nat) (g.1 : Nat)), V.int (((h.2 : Int) + (g.2 : Int) + 2 * ((tw n h.1 g.1 : Nat) : Int)) % 4)]) = _
    rw [bxor, e2]
    rfl
theorem ok_bof {f C fI fE : Addr} {fd : FuncData} {k : Nat} (F : Fun K "bits_of" "bits_of" sBof f fd) (N : PCl K mg C fI fE) (B : Bl mg) : FnOk P w K mg base CX0 (k + 1) f fd ["string"] (spBof C) := by
  refine F.ok scBof (fun vs H Q E h => ?_) (fun cdv A outer s H vs Q E hr h => ?_)
  · obtain ⟨a, R, p, rfl, _⟩ := h
    rfl
  · obtain ⟨a, R, p, rfl, hP, hR, h0, hl, q⟩ := h
    refine ⟨_, C8.pss_cut (ps_set (i := 1) scBof.nd rfl (.inl rfl) (pe_bm PySem.F.plainAttrs_str PySem.F.slot_str_translate PySem.F.type_str_translate mt_transD (pe_fld (pv 0) rfl) (pa_cons (pe_disp (pps_cons pe_int pe_str (pps_cons pe_int pe_str (pps_cons pe_int pe_str (pps_cons pe_int pe_str pps_nil)))) (by rfl) (by rfl) (fun z => by cases z) (by decide)) pa_nil)))
      (C8.pss_cut (ps_set (i := 2) scBof.nd rfl (.inl rfl) (pe_bm PySem.F.plainAttrs_str PySem.F.slot_str_translate PySem.F.type_str_translate mt_transD (pe_fld (pv 0) rfl) (pa_cons (pe_disp (pps_cons pe_int pe_str (pps_cons pe_int pe_str (pps_cons pe_int pe_str (pps_cons pe_int pe_str pps_nil)))) (by rfl) (by rfl) (fun z => by cases z) (by decide)) pa_nil)))
      (pss_one (ps_ret (pe_callTy call_int_b (by rfl) B.int bootI (pa_cons (pe_op op_add_str (pv 1) (pv 2)) (pa_cons pe_int pa_nil)))))), ?_⟩
    obtain ⟨dx, fs, e, l1, l2, l3⟩ := id hP
    have look : ∀ (g : Nat → Nat) (kvs : List (Key × V)), (∀ c, isL c = true → valV kvs (.inl (c : Int)) = some (.str (SX.S [48 + g c]))) → (∀ c, g c < 2) → ∀ c ∈ R, 48 + g c < 128 ∧ valV kvs (.inl (c : Int)) = some (.str (SX.S [48 + g c])) := fun g kvs h1 h2 c hc => ⟨by have := h2 c; omega, h1 c (hR c hc)⟩
    have two : ∀ {G : Hp} {p : Addr} {o o' : HO}, Same H G → G p = none → Same H (upd (upd G p o) p o') := fun {G p o o'} sg np b u e => by
      have nb : b ≠ p := ne_of_none (sg _ _ e) np
      rw [upd_ne nb, upd_ne nb]
      exact sg _ _ e
    have tx : ∀ c, isL c = true → valV (mergeK [] [((.inl 73 : Key), V.str ("0" : Str)), (.inl 88, .str ("1" : Str)), (.inl 89, .str ("1" : Str)), (.inl 90, .str ("0" : Str))]) (.inl (c : Int)) = some (.str (SX.S [48 + lx c])) := by
      rw [e_c0, e_c1]
      intro c hc
      rcases isL_iff.mp hc with rfl | rfl | rfl | rfl <;> rfl
    have tz : ∀ c, isL c = true → valV (mergeK [] [((.inl 73 : Key), V.str ("0" : Str)), (.inl 88, .str ("0" : Str)), (.inl 89, .str ("1" : Str)), (.inl 90, .str ("1" : Str))]) (.inl (c : Int)) = some (.str (SX.S [48 + lz c])) := by
      rw [e_c0, e_c1]
      intro c hc
      rcases isL_iff.mp hc with rfl | rfl | rfl | rfl <;> rfl
    refine ⟨fun σ' H' => σ' = [some (.ref a), some (.str (mS (R.map (48 + lx ·)))), none] ∧ Same H H', ?_, ?_⟩
    · refine ⟨_, rfl, a, C, dx, fs, _, rfl, e, N.cl, N.nL, l1, rfl, fun p hp => ?_⟩
      exact ⟨upd_same, [((.inl 73 : Key), V.str ("0" : Str)), (.inl 88, .str ("1" : Str)), (.inl 89, .str ("1" : Str)), (.inl 90, .str ("0" : Str))], rfl, by decide, R, p, _, (48 + lx ·), rfl, rfl, .inl upd_same, look lx _ tx lx_lt, by omega, rfl, two (fun _ _ z => z) hp⟩
    rintro _ H1 ⟨rfl, s1⟩
    refine ⟨fun σ' H' => σ' = [some (.ref a), some (.str (mS (R.map (48 + lx ·)))), some (.str (mS (R.map (48 + lz ·))))] ∧ Same H H', ?_, ?_⟩
    · refine ⟨_, rfl, a, C, dx, fs, _, rfl, s1 _ _ e, N.cl, N.nL, l1, rfl, fun p hp => ?_⟩
      exact ⟨upd_same, [((.inl 73 : Key), V.str ("0" : Str)), (.inl 88, .str ("0" : Str)), (.inl 89, .str ("1" : Str)), (.inl 90, .str ("1" : Str))], rfl, by decide, R, p, _, (48 + lz ·), rfl, rfl, .inl upd_same, look lz _ tz lz_lt, by omega, rfl, two s1 hp⟩
    rintro _ H2 ⟨rfl, s2⟩
    have eb : (R.map (48 + lx ·)) ++ (R.map (48 + lz ·)) = (R.map lx ++ R.map lz).map (48 + ·) := by
      rw [List.map_append, List.map_map, List.map_map] <;> rfl
    refine ⟨_, rfl, _, rfl, _, _, rfl, rfl, by rw [mS_len, mS_len, List.length_map, List.length_map]; exact Nat.le_trans (by omega : _ ≤ 600) (by decide), (R.map lx ++ R.map lz).map (48 + ·), ?_, ?_, ?_, ?_, ?_⟩
    · rw [mS_app, eb]
    · intro z
      apply h0
      cases R with
      | nil => rfl
      | cons c R => cases z
    · rw [List.length_map, List.length_append, List.length_map, List.length_map]
      omega
    · intro c hc
      obtain ⟨b, hb, rfl⟩ := List.mem_map.mp hc
      have : b < 2 := by
        rcases List.mem_append.mp hb with h | h
        · obtain ⟨c, _, rfl⟩ := List.mem_map.mp h; exact lx_lt c
        · obtain ⟨c, _, rfl⟩ := List.mem_map.mp h; exact lz_lt c
      unfold KT.IsB
      omega
    · rw [binN_eq]
      exact q _ s2
theorem ok_held {f fB C fI fE : Addr} {fd dB : FuncData} {k : Nat} (F : Fun K "held_of" "held_of" sHeld f fd) (FB : Fun K "bits_of" "bits_of" sBof fB dB) (bB : Binds K dB ["string"] []) (gB : mg "bits_of" = some (.ref fB)) (N : PCl K mg C fI fE) (B : Bl mg) :
    FnOk P w K mg base CX0 (k + 2) f fd ["string"] (spHeld C) := by
  have GB : FnOk P w K mg base CX0 (k + 1) fB dB ["string"] (spBof C) := ok_bof FB N B
  refine F.ok scHeld (fun vs H Q E h => ?_) (fun cdv A outer s H vs Q E hr h => ?_)
  · obtain ⟨a, R, p, rfl, _⟩ := h
    rfl
  · obtain ⟨a, R, p, rfl, hP, hR, h0, hl, q⟩ := h
    refine ⟨_, pss_one (ps_ret (pe_tup (pa_cons (pe_call GB hr (by rfl) gB FB.kp bB .nil pass0 (pa_cons (pv 0) pa_nil)) (pa_cons (pe_op op_mod (pe_op op_add (pe_fld (pv 0) rfl) (pe_bm PySem.F.plainAttrs_str PySem.F.slot_str_count PySem.F.type_str_count mt_count (pe_fld (pv 0) rfl) (pa_cons pe_str pa_nil))) pe_int) pa_nil)))), ?_⟩
    refine ⟨_, rfl, a, R, p, rfl, hP, hR, h0, hl, fun H1 s1 => ?_⟩
    obtain ⟨dx, fs, e, l1, l2, l3⟩ := id hP
    refine ⟨_, rfl, a, C, dx, fs, _, rfl, s1 _ _ e, N.cl, N.nP, l2, _, rfl, a, C, dx, fs, _, rfl, s1 _ _ e, N.cl, N.nL, l1, rfl, _, _, rfl, rfl, _, _, rfl, rfl, _, _, rfl, rfl, (by show (0 : Int) < 4; decide), by show 2 ≤ sizeLine; decide, fun x nx => ?_⟩
    have off : H x = none := by
      cases z : H x with
      | none => rfl
      | some o => rw [s1 _ _ z] at nx; cases nx
    refine q _ x (s1.trans (same_new nx)) off ?_
    rw [upd_same]
    have ec : Txt.count (mS R) ("Y" : Str) = ((R.count 89 : Nat) : Int) := by
      rw [e_Y]
      exact (PyProof.Rows.count_is _ _).trans (cnt_count 89 R)
    show some (HO.tup [V.int (bL R : Nat), V.int (((p : Int) + Txt.count (mS R) ("Y" : Str)) % 4)]) = _
    rw [ec, show (((p : Int) + ((R.count 89 : Nat) : Int)) % 4) = (((p + R.count 89) % 4 : Nat) : Int) by omega]
end
end KQ
namespace KQ
open PySem PySem.Spec PyProof.Rows L2
theorem pc_cat : ∀ (n a b : Nat), b < 2 ^ n → pc (2 ^ n * a + b) = pc a + pc b
  | 0, a, b, h => by
    have : b = 0 := by omega
    subst this
    rw [pc_zero, show 2 ^ 0 * a + 0 = a by omega, Nat.add_zero]
  | n + 1, a, b, h => by
    have up : 2 ^ (n + 1) = 2 ^ n * 2 := Nat.pow_succ ..
    have e : 2 ^ (n + 1) * a + b = 2 * (2 ^ n * a + b / 2) + b % 2 := by
      rw [up, Nat.mul_add, show 2 ^ n * 2 * a = 2 * (2 ^ n * a) by rw [Nat.mul_comm (2 ^ n) 2, Nat.mul_assoc]]
      omega
    have e2 := pc_two (b / 2) (b % 2) (by omega)
    rw [show 2 * (b / 2) + b % 2 = b by omega] at e2
    rw [e, pc_two _ _ (by omega), pc_cat n a (b / 2) (by omega), e2]
    omega
/-- front and back exchanged -/
def ex (n b : Nat) : Nat := (b % 2 ^ n * 2 ^ n) ||| (b >>> n)
theorem ex_fB (n x z : Nat) : ex n (fB n x z) = fB n z x := by
  unfold ex
  rw [fB_mod, fB_shift, Nat.mul_comm, ← Nat.two_pow_add_eq_or_of_lt (rv_lt n x)]
  rfl
theorem fB_and (n x z x' z' : Nat) : fB n x z &&& fB n x' z' = fB n (x &&& x') (z &&& z') := by
  apply Nat.eq_of_testBit_eq
  intro j
  rw [Nat.testBit_and, fB_bit, fB_bit, fB_bit, rv_and, rv_and]
  split <;> rw [Nat.testBit_and]
theorem pc_fB {n x z : Nat} (hx : x < 2 ^ n) (hz : z < 2 ^ n) : pc (fB n x z) = pc x + pc z := by
  unfold fB
  rw [pc_cat n _ _ (rv_lt n z), pc_rv hx, pc_rv hz]
theorem cross_fB {n x z x' z' : Nat} (hx : x < 2 ^ n) (hz : z < 2 ^ n) : pc (ex n (fB n x z) &&& fB n x' z') = pc (z &&& x') + pc (x &&& z') := by
  rw [ex_fB, fB_and, pc_fB (Nat.lt_of_le_of_lt Nat.and_le_left hz) (Nat.lt_of_le_of_lt Nat.and_le_left hx)]
theorem ex_lt {n b : Nat} (h : b < 2 ^ (2 * n)) : ex n b < 2 ^ (2 * n) := by
  have e : 2 ^ (2 * n) = 2 ^ n * 2 ^ n := by rw [← Nat.pow_add]; congr 1; omega
  unfold ex
  refine Nat.or_lt_two_pow ?_ ?_
  · rw [e]
    exact Nat.mul_lt_mul_of_pos_right (Nat.mod_lt _ (Nat.two_pow_pos n)) (Nat.two_pow_pos n)
  · exact Nat.lt_of_le_of_lt (Nat.shiftRight_le ..) h
/-- the number of letters, by the bits of the law -/
theorem rv_bv {f : Nat → Nat} (hf : ∀ c, f c < 2) (R : List Nat) : rv R.length (bv f R) = nb 0 (R.map f) := by
  unfold rv
  congr 1
  apply List.ext_getElem?
  intro i
  by_cases hi : i < R.length
  · have e := bv_bit hf (List.getElem?_eq_getElem hi)
    rw [List.getElem?_map, List.getElem?_map, List.getElem?_range hi, List.getElem?_eq_getElem hi]
    show some ((bv f R).testBit i).toNat = some (f R[i])
    rw [← e, Nat.testBit_eq_decide_div_mod_eq]
    have : bv f R / 2 ^ i % 2 < 2 := Nat.mod_lt _ (by decide)
    by_cases c : bv f R / 2 ^ i % 2 = 1
    · rw [decide_eq_true c, c]
      rfl
    · rw [decide_eq_false c, show bv f R / 2 ^ i % 2 = 0 by omega]
      rfl
  · rw [List.getElem?_eq_none (by simpa using hi), List.getElem?_eq_none (by simpa using hi)]
theorem bL_fB (R : List Nat) : bL R = fB R.length (bv lx R) (bv lz R) := by
  unfold bL fB
  rw [rv_bv lx_lt, rv_bv lz_lt]
  unfold nb
  rw [List.foldl_append]
  have e := nb_eq (R.map lz) (nb 0 (R.map lx))
  rw [List.length_map, Nat.mul_comm] at e
  exact e
theorem bL_lt (R : List Nat) : bL R < 2 ^ (2 * R.length) := by
  rw [bL_fB]
  exact fB_lt ..
/-- the letters of a number -/
def ltr (x z : Nat) : Nat := if x = 0 then (if z = 0 then 73 else 90) else if z = 0 then 88 else 89
theorem ltr_isL (x z : Nat) : isL (ltr x z) = true := by
  unfold ltr
  refine isL_iff.mpr ?_
  split <;> split <;> omega
def LO (n b : Nat) : List Nat := List.zipWith ltr (rowOf n (b >>> n)) (rowOf n (b % 2 ^ n))
theorem LO_len (n b : Nat) : (LO n b).length = n := by
  unfold LO
  rw [List.length_zipWith, rowOf_len, rowOf_len, Nat.min_self]
theorem zw_isL : ∀ (as bs : List Nat), ∀ c ∈ List.zipWith ltr as bs, isL c = true
  | [], _, c, h => by cases h
  | _ :: _, [], c, h => by cases h
  | a :: as, b :: bs, c, h => by
    rcases List.mem_cons.mp h with rfl | h
    · exact ltr_isL a b
    · exact zw_isL as bs c h
theorem LO_isL (n b : Nat) : ∀ c ∈ LO n b, isL c = true := zw_isL _ _
theorem scCrossg : FnScope ["size", "bits", "others", "exchanged", "number", "other"] ["size", "bits", "others"] (defScope sCrossg) := ⟨rfl, rfl, rfl, by decide +kernel, rfl, by decide +kernel, by decide +kernel⟩
theorem scLof : FnScope ["size", "bits", "first", "second", "one", "other"] ["size", "bits"] (defScope sLof) := ⟨rfl, rfl, rfl, by decide +kernel, rfl, by decide +kernel, by decide +kernel⟩
theorem scFrom : FnScope ["letters", "phase"] ["letters", "phase"] (defScope sFrom) := ⟨rfl, rfl, rfl, by decide +kernel, rfl, by decide +kernel, by decide +kernel⟩
theorem scSof : FnScope ["size", "held", "bits", "power", "letters"] ["size", "held"] (defScope sSof) := ⟨rfl, rfl, rfl, by decide +kernel, rfl, by decide +kernel, by decide +kernel⟩
structure Lets (K : PySem.W.Frag) (w : World) (mg : Str → Option Value) (A : Addr) : Prop where
  g : mg "LETTERS" = some (.ref A)
  at_ : ∀ x z, x < 2 → z < 2 → KDct K w A (mS [48 + x, 48 + z]) (.str (mS [ltr x z]))
def spCrossg (K : PySem.W.Frag) : Sp := fun vs H Q _ => ∃ (n b : Nat) (t : Addr) (os : List Nat), vs = [.int (n : Nat), .int (b : Nat), .ref t] ∧ SqLT K H t (natV os) ∧ n ≤ 300 ∧ b < 2 ^ (2 * n) ∧
  Q (.int (nb 0 (os.map fun o => pc (ex n b &&& o) % 2) : Nat)) H
def spLof : Sp := fun vs H Q _ => ∃ n b : Nat, vs = [.int (n : Nat), .int (b : Nat)] ∧ 1 ≤ n ∧ n ≤ 300 ∧ b < 2 ^ (2 * n) ∧ ∀ H', Same H H' → Q (.str (mS (LO n b))) H'
def spFrom (C : Addr) : Sp := fun vs H Q _ => ∃ (R : List Nat) (i : Int), vs = [.str (mS R), .int i] ∧ (∀ c ∈ R, isL c = true) ∧ R ≠ [] ∧ R.length ≤ 300 ∧ ∀ H' x, Same H H' → PauliAt C H' x R (i % 4).toNat → Q (.ref x) H'
def spSof (C : Addr) : Sp := fun vs H Q _ => ∃ (n : Nat) (a : Addr) (h : Hl), vs = [.int (n : Nat), .ref a] ∧ HlAt H a h ∧ 1 ≤ n ∧ n ≤ 300 ∧ h.1 < 2 ^ (2 * n) ∧
  ∀ H' x, Same H H' → PauliAt C H' x (LO n h.1) (((h.2 : Int) - ((LO n h.1).count 89 : Nat)) % 4).toNat → Q (.ref x) H'
theorem headL_le {q : Nat} (hq : q < 4) : (headL q).length ≤ 2 := by
  match q, hq with
  | 0, _ => decide
  | 1, _ => decide
  | 2, _ => decide
  | 3, _ => decide
theorem own_read {L : List Nat} (hL : ∀ c ∈ L, isL c = true) (h0 : L ≠ []) {q : Nat} (hq : q < 4) : rest (headL q ++ L) = L ∧ ph (headL q ++ L) = q ∧ fine (headL q ++ L) := by
  match q, hq with
  | 0, _ => exact read_head hL h0 0 _ _ rfl
  | 1, _ => exact read_head hL h0 3 _ _ rfl
  | 2, _ => exact read_head hL h0 2 _ _ rfl
  | 3, _ => exact read_head hL h0 5 _ _ rfl
theorem made_same {H H' : Hp} {x dx C : Addr} (nx : H x = none) (nd : H dx = none) (k : ∀ b o, b ≠ x → (upd (upd H dx (.own x)) x (.ins C dx [])) b = some o → H' b = some o) : Same H H' := by
  intro b o e
  have h1 : b ≠ x := ne_of_none e nx
  have h2 : b ≠ dx := ne_of_none e nd
  exact k b o h1 (by rw [upd_ne h1, upd_ne h2]; exact e)
def sgs (L : List Nat) : List Str := L.map fun c => (⟨#[c]⟩ : Str)
theorem join_sgs (L : List Nat) : Txt.join ("" : Str) (sgs L) = mS L := by
  rw [TL.join_eq, e_no]
  exact PyProof.Rows.join_ones L
theorem sgs_len : ∀ L : List Nat, ((sgs L).map (·.length)).sum = L.length
  | [] => rfl
  | c :: L => by
    show 1 + ((sgs L).map (·.length)).sum = L.length + 1
    rw [sgs_len L]
    omega
theorem walk_zipTxt {L M : List Nat} (h : L.length = M.length) : Walk (ItZx (mS L) (mS M)) L.length (fun _ => True) (YPair (fun i => (L[i]?).map fun c => .str ⟨#[c]⟩) (fun i => (M[i]?).map fun c => .str ⟨#[c]⟩)) := by
  have z1 : (mS L).cps.size = L.length := by simp
  have z2 : (mS M).cps.size = M.length := by simp
  refine ⟨fun i _ hi _ => ⟨by rw [z1]; exact hi, by rw [z2]; omega⟩, fun _ _ => z1.symm, fun i H v H' hi _ y => ?_⟩
  obtain ⟨T, c, d, h1, h2, h3, h4, h5⟩ := y
  have h3' : L[i]? = some c := by simpa using h3
  have h4' : M[i]? = some d := by simpa using h4
  exact ⟨T, _, _, h1, h2, h5, by show (L[i]?).map _ = _; rw [h3']; rfl, by show (M[i]?).map _ = _; rw [h4']; rfl⟩
section
variable {P : Program} {w : World} {K : PySem.W.Frag} {mg : Str → Option Value} {base : Heap}
theorem ok_crossg {f fH fP : Addr} {fd dH dP : FuncData} {k : Nat} (F : Fun K "crossing" "crossing" sCrossg f fd) (FH : Fun K "second_half" "second_half" sHalf fH dH) (bH : Binds K dH ["size", "bits"] []) (gH : mg "second_half" = some (.ref fH))
    (FP : Fun K "parity" "parity" sPar fP dP) (bP : Binds K dP ["number"] []) (gP : mg "parity" = some (.ref fP)) : FnOk P w K mg base CX0 (k + 2) f fd ["size", "bits", "others"] (spCrossg K) := by
  have GP : FnOk P w K mg base CX0 (k + 1) fP dP ["number"] spPar := ok_par FP
  have GH : FnOk P w K mg base CX0 (k + 1) fH dH ["size", "bits"] spHalf := ok_half FH
  refine F.ok scCrossg (fun vs H Q E h => ?_) (fun cdv A outer s H vs Q E hr h => ?_)
  · obtain ⟨n, b, t, os, rfl, _⟩ := h
    rfl
  · obtain ⟨n, b, t, os, rfl, hS, hn, hb, q⟩ := h
    refine ⟨_, C8.pss_cut (ps_set (i := 3) scCrossg.nd rfl (.inl rfl) (pe_op op_or (pe_op op_shlN (pe_call GH hr (by rfl) gH FH.kp bH .nil pass0 (pa_cons (pv 0) (pa_cons (pv 1) pa_nil))) (pv 0)) (pe_op op_shrN (pv 1) (pv 0))))
      (C8.pss_cut (ps_set (i := 4) scCrossg.nd rfl (.inl rfl) pe_int)
      (C8.pss_cut (ps_for PassesOwn.never rfl (pi_seq (pv 2)) (pg_name (i := 5) scCrossg.nd rfl (.inl rfl))
        (pss_one (ps_set (i := 4) scCrossg.nd rfl (.inl rfl) (pe_op op_add (pe_op op_mul pe_int (pv 4)) (pe_call GP hr (by rfl) gP FP.kp bP .nil pass0 (pa_cons (pe_op op_and (pv 3) (pv 5)) pa_nil))))))
      (pss_one (ps_ret (pv 4))))), ?_⟩
    refine ⟨fun σ' H' => σ' = [some (.int (n : Nat)), some (.int (b : Nat)), some (.ref t), some (.int (ex n b : Nat)), none, none] ∧ H' = H, ?_, ?_⟩
    · refine ⟨_, rfl, _, rfl, n, b, rfl, by omega, _, rfl, ((b % 2 ^ n : Nat) : Int), n, rfl, rfl, ?_, _, rfl, _, rfl, (b : Int), n, rfl, rfl, _, _, rfl, rfl, ?_, rfl⟩
      · refine ⟨by omega, ?_⟩
        have l1 : b % 2 ^ n < 2 ^ n := Nat.mod_lt _ (Nat.two_pow_pos n)
        have l2 : Builtin.Int.intBits ((b % 2 ^ n : Nat) : Int) ≤ n := by
          unfold Builtin.Int.intBits
          split
          · omega
          · rename_i h0
            rw [Int.natAbs_natCast]
            have : b % 2 ^ n ≠ 0 := fun z => h0 (by rw [z]; rfl)
            exact (Nat.log2_lt this).mpr l1
        have : (2 : Int) ^ 27 = 134217728 := by decide
        omega
      · have e1 : ((b % 2 ^ n : Nat) : Int) * 2 ^ n = ((b % 2 ^ n * 2 ^ n : Nat) : Int) := by push_cast; rfl
        have e2 : ((b : Int) / 2 ^ n) = ((b >>> n : Nat) : Int) := by rw [Nat.shiftRight_eq_div_pow]; push_cast; rfl
        show [_, _, _, some (V.int (Builtin.bitOr (((b % 2 ^ n : Nat) : Int) * 2 ^ n) ((b : Int) / 2 ^ n))), _, _] = _
        rw [e1, e2, bor]
        rfl
    rintro _ H1 ⟨rfl, rfl⟩
    refine ⟨fun σ' H' => σ' = [some (.int (n : Nat)), some (.int (b : Nat)), some (.ref t), some (.int (ex n b : Nat)), some (.int 0), none] ∧ H' = H1, ⟨rfl, rfl⟩, ?_⟩
    rintro _ H2 ⟨rfl, rfl⟩
    refine ⟨fun σ' H' => ∃ v, σ' = [some (.int (n : Nat)), some (.int (b : Nat)), some (.ref t), some (.int (ex n b : Nat)), some (.int (nb 0 (os.map fun o => pc (ex n b &&& o) % 2) : Nat)), v] ∧ H' = H2, ?_, ?_⟩
    · refine ⟨_, rfl, t, _, rfl, hS, fun J S hJ hS0 hSs => for_sq hJ (fun i σ H' => ∃ v : Option V, σ = [some (.int (n : Nat)), some (.int (b : Nat)), some (.ref t), some (.int (ex n b : Nat)), some (.int (nb 0 ((os.take i).map fun o => pc (ex n b &&& o) % 2) : Nat)), v] ∧ H' = H2) ⟨none, rfl, rfl⟩ (fun i σ H' ⟨_, _, e⟩ => by rw [e]; exact hS0) ?_ ?_⟩
      · rintro i y σ H' hi ⟨v, rfl, rfl⟩
        obtain ⟨o, ho, rfl⟩ := natV_at hi
        have lt : ex n b &&& o < 2 ^ 1000 := Nat.lt_of_le_of_lt Nat.and_le_left (Nat.lt_of_lt_of_le (ex_lt hb) (Nat.pow_le_pow_right (by decide) (by omega)))
        refine ⟨_, rfl, _, _, rfl, rfl, .inl ⟨by decide, by decide⟩, _, rfl, _, rfl, _, _, rfl, rfl, ex n b &&& o, ?_, lt, _, _, rfl, rfl, some (.int (o : Nat)), ?_, rfl⟩
        · show [V.int (Builtin.bitAnd (ex n b : Nat) (o : Nat))] = _
          rw [band]
        · rw [take_snoc ho, List.map_append]
          unfold nb
          rw [List.foldl_append]
          rfl
      · rintro σ H' ⟨v, rfl, rfl⟩
        rw [List.take_of_length_le (Nat.le_of_eq (natV_len os).symm)]
        exact ⟨v, rfl, rfl⟩
    rintro _ H3 ⟨v, rfl, rfl⟩
    exact ⟨_, rfl, q⟩
theorem e_two {c d : Nat} : (mS [c] ++ mS [d]) = mS [c, d] := by rw [mS_app] <;> rfl
open PySem.Builtin PySem.Builtin.Str in
theorem pad_ok {n : Nat} (h : n ≤ 300) : PadOk (n : Int) = true := by
  have e1 : (decide ((n : Int) < -(2 ^ 63 : Int)) || decide ((n : Int) ≥ 2 ^ 63)) = false := by
    rw [decide_eq_false (by omega), decide_eq_false (by omega)]
    rfl
  have e2 : tooLong ((n : Int)).toNat = false := PyProof.Rows.short24 (by omega)
  unfold PadOk fitsSsize
  rw [e1, e2]
  rfl
theorem LO_snoc {n b i : Nat} (hi : i < n) : ∃ x z, x < 2 ∧ z < 2 ∧ (txB n (b >>> n))[i]? = some (48 + x) ∧ (txB n (b % 2 ^ n))[i]? = some (48 + z) ∧ (LO n b).take (i + 1) = (LO n b).take i ++ [ltr x z] := by
  have h1 := rowOf_at (W := n) (m := b >>> n) hi
  have h2 := rowOf_at (W := n) (m := b % 2 ^ n) hi
  have lt : ∀ c : Bool, c.toNat < 2 := fun c => by cases c <;> decide
  refine ⟨((b >>> n).testBit (n - 1 - i)).toNat, ((b % 2 ^ n).testBit (n - 1 - i)).toNat, lt _, lt _, ?_, ?_, ?_⟩
  · unfold txB
    rw [List.getElem?_map, h1]
    rfl
  · unfold txB
    rw [List.getElem?_map, h2]
    rfl
  · refine take_snoc ?_
    unfold LO
    rw [List.getElem?_zipWith, h1, h2]
theorem ok_lof {f fH A : Addr} {fd dH : FuncData} {k : Nat} (F : Fun K "letters_of" "letters_of" sLof f fd) (FH : Fun K "second_half" "second_half" sHalf fH dH) (bH : Binds K dH ["size", "bits"] []) (gH : mg "second_half" = some (.ref fH))
    (T : Lets K w mg A) (mz : mg "zip" = none) : FnOk P w K mg base CX0 (k + 2) f fd ["size", "bits"] spLof := by
  have GH : FnOk P w K mg base CX0 (k + 1) fH dH ["size", "bits"] spHalf := ok_half FH
  refine F.ok scLof (fun vs H Q E h => ?_) (fun cdv A' outer s H vs Q E hr h => ?_)
  · obtain ⟨n, b, rfl, _⟩ := h
    rfl
  · obtain ⟨n, b, rfl, n1, hn, hb, q⟩ := h
    refine ⟨_, C8.pss_cut (ps_set (i := 2) scLof.nd rfl (.inl rfl) (pe_bm PySem.F.plainAttrs_str PySem.F.slot_str_zfill PySem.F.type_str_zfill mt_zfill (pe_joined1 (pe_fmtB (pe_op op_shrN (pv 1) (pv 0)))) (pa_cons (pv 0) pa_nil)))
      (C8.pss_cut (ps_set (i := 3) scLof.nd rfl (.inl rfl) (pe_bm PySem.F.plainAttrs_str PySem.F.slot_str_zfill PySem.F.type_str_zfill mt_zfill (pe_joined1 (pe_fmtB (pe_call GH hr (by rfl) gH FH.kp bH .nil pass0 (pa_cons (pv 0) (pa_cons (pv 1) pa_nil))))) (pa_cons (pv 0) pa_nil)))
      (pss_one (ps_ret (pe_bm PySem.F.plainAttrs_str PySem.F.slot_str_join PySem.F.type_str_join mt_join pe_str (pa_cons (pe_lc (own := [("one", 4), ("other", 5)]) (g := gTup K 2 (gCons (gName 4) (gCons (gName 5) gNil))) (by rfl) scLof.nd (pi_zipTxt (by rfl) mz (pa_cons (pv 2) (pa_cons (pv 3) pa_nil)))
        (blkOk_by (own := [("one", 4), ("other", 5)]) (N := ["size", "bits", "first", "second", "one", "other"]) (sc := defScope sLof) (by decide +kernel))
        (fun _ _ _ _ _ => pg_tup rfl (pgs_cons (pg_name (i := 4) scLof.nd rfl (Or.inl rfl)) (pgs_cons (pg_name (i := 5) scLof.nd rfl (Or.inl rfl)) pgs_nil))) (fun _ _ _ _ _ => pts_nil) (fun _ _ _ _ _ => pe_ix (r := rIxD K w) ix_kdict (pe_glob (v := .ref A) (by rfl) T.g rfl) (pe_op op_add_str (pv 4) (pv 5)) (fun _ _ => rfl))) pa_nil))))), ?_⟩
    have h1 : b >>> n < 2 ^ n := by
      rw [Nat.shiftRight_eq_div_pow]
      refine Nat.div_lt_of_lt_mul ?_
      rw [← Nat.pow_add]
      rw [show n + n = 2 * n by omega]
      exact hb
    have h2 : b % 2 ^ n < 2 ^ n := Nat.mod_lt _ (Nat.two_pow_pos n)
    have big : ∀ {x : Nat}, x < 2 ^ n → x < 2 ^ 1000 := fun h => Nat.lt_of_lt_of_le h (Nat.pow_le_pow_right (by decide) (by omega))
    refine ⟨fun σ' H' => σ' = [some (.int (n : Nat)), some (.int (b : Nat)), some (.str (mS (txB n (b >>> n)))), none, none, none] ∧ H' = H, ?_, ?_⟩
    · refine ⟨_, rfl, _, rfl, (b : Int), n, rfl, rfl, b >>> n, ?_, binT_le (big h1), rfl, _, rfl, _, _, rfl, rfl, pad_ok hn, ?_, rfl⟩
      · rw [Nat.shiftRight_eq_div_pow]
        push_cast
        rfl
      · rw [zf_bin n1 h1]
        rfl
    rintro _ H1 ⟨rfl, rfl⟩
    refine ⟨fun σ' H' => σ' = [some (.int (n : Nat)), some (.int (b : Nat)), some (.str (mS (txB n (b >>> n)))), some (.str (mS (txB n (b % 2 ^ n)))), none, none] ∧ H' = H1, ?_, ?_⟩
    · refine ⟨_, rfl, _, rfl, n, b, rfl, by omega, b % 2 ^ n, rfl, binT_le (big h2), rfl, _, rfl, _, _, rfl, rfl, pad_ok hn, ?_, rfl⟩
      rw [zf_bin n1 h2]
      rfl
    rintro _ H2 ⟨rfl, rfl⟩
    refine ⟨rfl, _, rfl, _, rfl, _, _, rfl, fun D nD => ?_⟩
    refine lc_it (walk_zipTxt (L := txB n (b >>> n)) (M := txB n (b % 2 ^ n)) (by rw [txB_len, txB_len])) (fun i Hc => Same H2 Hc ∧ Hc D = some (.lst (((sgs (LO n b)).map V.str).take i))) ⟨same_new nD, upd_same⟩ (fun _ _ _ _ => trivial) ?_ ?_
    · rintro i v Hc H' hi ⟨sc, ec⟩ ⟨T', x, y, rfl, nT, rfl, hx, hy⟩
      rw [txB_len] at hi
      obtain ⟨u, v, hu, hv, g1, g2, g3⟩ := LO_snoc (b := b) hi
      have hx' : ((txB n (b >>> n))[i]?).map (fun c => V.str ⟨#[c]⟩) = some x := hx
      have hy' : ((txB n (b % 2 ^ n))[i]?).map (fun c => V.str ⟨#[c]⟩) = some y := hy
      rw [g1] at hx'
      rw [g2] at hy'
      cases hx'
      cases hy'
      have nTD : T' ≠ D := fun z => by rw [z, ec] at nT; cases nT
      refine ⟨T', _, rfl, .inl (.inl upd_same), rfl, _, _, rfl, _, _, rfl, rfl, rfl, ?_⟩
      refine ⟨_, rfl, _, rfl, _, _, rfl, rfl, by show 1 + 1 ≤ sizeLine; decide, ?_⟩
      refine ⟨A, mS [48 + u, 48 + v], .str (mS [ltr u v]), rfl, by show V.str (mS [48 + u] ++ mS [48 + v]) = _; rw [e_two], T.at_ u v hu hv, _, (upd_ne nTD.symm).trans ec, ?_, ?_, ?_⟩
      · rw [List.length_take]
        exact Nat.lt_of_le_of_lt (by omega : _ ≤ 300) (by decide)
      · intro c o q'
        rw [upd_ne (ne_of_none q' nD), upd_ne (ne_of_none (sc _ _ q') nT)]
        exact sc _ _ q'
      · rw [upd_same]
        unfold sgs
        rw [← List.map_take, ← List.map_take, ← List.map_take, ← List.map_take, g3, List.map_append, List.map_append]
        rfl
    · rintro Hc ⟨sc, ec⟩
      have el : ((sgs (LO n b)).map V.str).length = n := by rw [List.length_map, sgs, List.length_map, LO_len]
      rw [txB_len, List.take_of_length_le (by rw [el]; exact Nat.le_refl _)] at ec
      refine ⟨_, D, sgs (LO n b), rfl, rfl, .inl (SqL.of ec), ?_, ?_⟩
      · rw [sgs_len, LO_len, show ("" : Str).length = 0 from by decide +kernel]
        omega
      · rw [join_sgs]
        exact q _ sc
end
section
variable {P : Program} {w : World} {K : PySem.W.Frag} {mg : Str → Option Value} {base : Heap}
theorem ok_from {f C CT fI fE fC fB hA : Addr} {fd dI dC dB : FuncData} (F : Fun K "string_from" "string_from" sFrom f fd) (N : PCl K mg C fI fE) (FI : Fun K "__init__" "Pauli.__init__" sInit fI dI) (bI : Binds K dI ["self", "text"] [])
    (FC : Fun K "_cut_text" "_cut_text" sCut fC dC) (bC : Binds K dC ["text"] []) (gC : mg "_cut_text" = some (.ref fC)) (TT : BT K mg CT fB dB) (hd : Hd4 K mg hA) (B : Bl mg) : FnOk P w K mg base (L2.CX P w) 6 f fd ["letters", "phase"] (spFrom C) := by
  have GI : FnOk P w K mg base (L2.CX P w) 4 fI dI ["self", "text"] (spInit C CT) := ok_init FI N FC bC gC TT hd B
  refine F.okX scFrom (fun vs H Q E h => ?_) (fun cdv A' outer s H vs Q E hr h => ?_)
  · obtain ⟨R, i, rfl, _⟩ := h
    rfl
  · obtain ⟨R, i, rfl, hR, h0, hl, q⟩ := h
    refine ⟨_, pss_one (ps_ret (pe_make N.mkf GI hr (by rfl) N.g bI .nil (passes_call (takes_of rfl rfl rfl rfl) (fun _ _ _ _ h => h)) (pa_cons (pe_op op_add_str (pe_ix ix_tup (pe_glob (v := .ref hA) (by rfl) hd.g rfl) (pe_op op_mod (pv 1) pe_int) (fun _ _ => rfl)) (pv 0)) pa_nil))), ?_⟩
    have hq4 : (i % 4).toNat < 4 := by omega
    have lh := headL_le hq4
    obtain ⟨u1, u2, u3⟩ := own_read hR h0 hq4
    refine ⟨_, rfl, _, _, rfl, rfl, by show (0 : Int) < 4; decide, hA, _, _, .str (mS (headL (i % 4).toNat)), rfl, rfl, hd.sq _, ?_, ?_⟩
    · have z : i % 4 = (((i % 4).toNat : Nat) : Int) := by omega
      rw [z]
      exact atI_nat (by rw [List.getElem?_map, head_at hq4]; rfl)
    refine ⟨_, rfl, _, _, rfl, rfl, ?_, fun x dx' nx nd ne => ?_⟩
    · rw [mS_len, mS_len]
      exact Nat.le_trans (by omega : _ ≤ 302) (by decide)
    refine ⟨x, dx', .str (mS (headL (i % 4).toNat ++ R)), by rw [← mS_app]; rfl, upd_same, .inl ⟨_, rfl, by rw [List.length_append]; omega, .inl ⟨u3, fun H' PX k => ⟨rfl, ?_⟩⟩⟩⟩
    rw [u1, u2] at PX
    exact q H' x (made_same nx nd k) PX
theorem ok_sof {f fL fS fH C CT fI fE fC fB hA lA : Addr} {fd dL dS dH dI dC dB : FuncData} (F : Fun K "string_of" "string_of" sSof f fd) (FS : Fun K "string_from" "string_from" sFrom fS dS) (bS : Binds K dS ["letters", "phase"] []) (gS : mg "string_from" = some (.ref fS))
    (FL : Fun K "letters_of" "letters_of" sLof fL dL) (bL : Binds K dL ["size", "bits"] []) (gL : mg "letters_of" = some (.ref fL)) (FH : Fun K "second_half" "second_half" sHalf fH dH) (bH : Binds K dH ["size", "bits"] []) (gH : mg "second_half" = some (.ref fH))
    (N : PCl K mg C fI fE) (FI : Fun K "__init__" "Pauli.__init__" sInit fI dI) (bI : Binds K dI ["self", "text"] [])
    (FC : Fun K "_cut_text" "_cut_text" sCut fC dC) (bC : Binds K dC ["text"] []) (gC : mg "_cut_text" = some (.ref fC)) (TT : BT K mg CT fB dB) (hd : Hd4 K mg hA) (T : Lets K w mg lA) (mz : mg "zip" = none) (B : Bl mg) :
    FnOk P w K mg base (L2.CX P w) 7 f fd ["size", "held"] (spSof C) := by
  have GS : FnOk P w K mg base (L2.CX P w) 6 fS dS ["letters", "phase"] (spFrom C) := ok_from FS N FI bI FC bC gC TT hd B
  have GL : FnOk P w K mg base CX0 6 fL dL ["size", "bits"] spLof := ok_lof FL FH bH gH T mz
  refine F.okX scSof (fun vs H Q E h => ?_) (fun cdv A' outer s H vs Q E hr h => ?_)
  · obtain ⟨n, a, h, rfl, _⟩ := h
    rfl
  · obtain ⟨n, a, h, rfl, hA, n1, hn, hb, q⟩ := h
    refine ⟨_, C8.pss_cut (ps_asg (pv 1) (pg_tup rfl (pgs_cons (pg_name (i := 2) scSof.nd rfl (.inl rfl)) (pgs_cons (pg_name (i := 3) scSof.nd rfl (.inl rfl)) pgs_nil))))
      (C8.pss_cut (ps_set (i := 4) scSof.nd rfl (.inl rfl) (pe_call GL hr (by rfl) gL FL.kp bL .nil pass0 (pa_cons (pv 0) (pa_cons (pv 2) pa_nil))))
      (pss_one (ps_ret (pe_call GS hr (by rfl) gS FS.kp bS .nil (passes_call (takes_of rfl rfl rfl rfl) (fun _ _ _ _ h => h)) (pa_cons (pv 4) (pa_cons (pe_op op_sub (pv 3) (pe_bm PySem.F.plainAttrs_str PySem.F.slot_str_count PySem.F.type_str_count mt_count (pv 4) (pa_cons pe_str pa_nil))) pa_nil)))))), ?_⟩
    refine ⟨fun σ' H' => σ' = [some (.int (n : Nat)), some (.ref a), some (.int (h.1 : Nat)), some (.int (h.2 : Nat)), none] ∧ H' = H, ⟨_, rfl, _, _, rfl, .inl (.inl hA), rfl, _, _, rfl, _, _, rfl, rfl, rfl, rfl⟩, ?_⟩
    rintro _ H1 ⟨rfl, rfl⟩
    refine ⟨fun σ' H' => σ' = [some (.int (n : Nat)), some (.ref a), some (.int (h.1 : Nat)), some (.int (h.2 : Nat)), some (.str (mS (LO n h.1)))] ∧ Same H1 H', ?_, ?_⟩
    · exact ⟨_, rfl, _, rfl, n, h.1, rfl, n1, hn, hb, fun H' s' => ⟨rfl, s'⟩⟩
    rintro _ H2 ⟨rfl, s2⟩
    have ec : Txt.count (mS (LO n h.1)) ("Y" : Str) = (((LO n h.1).count 89 : Nat) : Int) := by
      rw [e_Y]
      exact (PyProof.Rows.count_is _ _).trans (cnt_count 89 _)
    refine ⟨_, rfl, _, rfl, _, rfl, rfl, _, _, rfl, rfl, _, _, rfl, rfl, LO n h.1, (h.2 : Int) - (((LO n h.1).count 89 : Nat) : Int), ?_, LO_isL _ _, ?_, by rw [LO_len]; exact hn, fun H' x s' PX => q H' x (s2.trans s') PX⟩
    · rw [← ec]
      rfl
    · intro z
      have := congrArg List.length z
      rw [LO_len] at this
      simp at this
      omega
end
end KQ
namespace KQ
open PySem PySem.Spec PyProof.Rows L2
structure EX2 (K : PySem.W.Frag) (mg : Str → Option Value) (cls q f1 f2 : Str) (st : Stmt) (C fB : Addr) (dB : FuncData) : Prop where
  ox : OexC K C
  ic : PySem.W.findIn K (.ref C) "__init__" = some (some (.ref fB))
  ti : PySem.W.typeIn K (.ref fB) = some (.type "function")
  n0 : PySem.W.findIn K (.ref C) f1 = some none
  n1 : PySem.W.findIn K (.ref C) f2 = some none
  g : mg cls = some (.ref C)
  F : Fun K "__init__" q st fB dB
  b : Binds K dB ["self", f1, f2] []
abbrev sIBadNumber : Stmt := inClass (topS 11) 0
end KQ
namespace KQ
open PySem PySem.Spec PyProof.Rows L2
def rSortedPR (K : PySem.W.Frag) : List V → List V → Hp → VK → Prop := fun vs zs H Q => ∃ (a : Addr) (xs : List V) (k : V → Int × Int), vs = [V.ref a] ∧ zs = [.bl true] ∧ SqL K H a xs ∧
  (∀ x ∈ xs, ∃ t, x = V.ref t ∧ H t = some (.tup [.int (k x).1, .int (k x).2])) ∧ ∀ ys p, SrtO.Srtd (ltP k) ys → ys.Perm xs → H p = none → Q (.ref p) (upd H p (.lst ys.reverse))
theorem cr_sortedPR {X : Cx} : CallRK X (.builtin "sorted") [Str.ofString "reverse"] (rSortedPR X.K) := by
  rintro pins s σ H _ _ us ws Q I r rz ⟨a, xs, k, rfl, rfl, hs, hx, q⟩
  obtain ⟨its, rv, hl, hz⟩ := I.list hs
  obtain rfl := Vals.ref1 r
  obtain ⟨w1, rfl, e1⟩ := vals1 rz
  obtain rfl : w1 = Value.bool true := e1
  obtain ⟨f1, f2⟩ := refs_back rv fun x m => let ⟨t, e, _⟩ := hx x m; ⟨t, e⟩
  have pairs : ∀ v ∈ its, Srt.IsPair s.heap v (k (backV v)).1 (k (backV v)).2 := fun v hv => by
    obtain ⟨t, rfl⟩ := f2 v hv
    obtain ⟨t', e, ht⟩ := hx (V.ref t) (f1 ▸ List.mem_map.mpr ⟨_, hv, rfl⟩)
    cases e
    obtain ⟨_, its2, r2, o, ho, hc, n, hd⟩ := I.hok _ _ ht
    obtain ⟨u1, u2, rfl, ⟨t1, rfl⟩, ⟨t2, rfl⟩⟩ := vals2 r2
    exact ⟨t, o, t1, t2, n, rfl, ho, hc, hd⟩
  refine SrtR.sorted_ordK (b := true) (fun _ => rfl) (PyProof.Rows.args_sorted_rev _ _) (fun _ => PyProof.Rows.args_list_sort_rev _ _) (SrtO.swo_lex fun u => k (backV u)) hl.isList (rv.length ▸ hz) (fun h2 h₁ a ha kk => ?_) fun out h1 h2 => ?_
  · refine SrtO.pairs_sortableO (s := { s with heap := h₁ }) (by omega) (fun v hm => (pairs v hm).keeps fun b o e _ => (kk b o e).2) fun o e c => ?_
    cases e.symm.trans ha
    exact absurd (Value.type.inj c) (by decide)
  · have pm : out.Perm its := h2.perm.trans (List.reverse_perm its)
    obtain ⟨n, hn⟩ := PyProof.Rows.sortedAll_at s.heap its out.toArray.reverse
    have back : Vals (out.reverse.map backV) out.reverse := vals_back fun u hu => f2 u (pm.mem_iff.mp (List.mem_reverse.mp hu))
    have pm2 : (out.map backV).Perm xs := f1 ▸ pm.map backV
    have len : (out.reverse.map backV).length ≤ sizeLine := by
      rw [List.length_map, List.length_reverse, pm.length_eq, ← rv.length]
      exact hz
    refine ⟨.ref (s.heap.objs.size + 1), upd H (s.heap.objs.size + 1) (.lst (out.reverse.map backV)), I.laid (t' := s.toks) (fun _ _ => PyProof.Rows.sortedAll_old) (Nat.le_succ _) ⟨len, out.reverse, n, back, ?_⟩, rfl, ?_⟩
    · rw [← List.reverse_toArray]
      exact hn
    · have := q (out.map backV) (s.heap.objs.size + 1) (SrtO.srtd_map h1) pm2 (I.hok.fresh (Nat.le_succ _))
      rwa [← List.map_reverse] at this
end KQ
namespace KQ
open PySem PySem.Spec PyProof.Rows L2
abbrev sChk : Stmt := topS 47
abbrev sLowG : Stmt := topS 49
theorem scChk : FnScope ["size", "rows", "index", "bits", "crossed"] ["size", "rows"] (defScope sChk) := ⟨rfl, rfl, rfl, by decide +kernel, rfl, by decide +kernel, by decide +kernel⟩
theorem scLowG : FnScope ["size", "held", "table", "row"] ["size", "held", "table"] (defScope sLowG) := ⟨rfl, rfl, rfl, by decide +kernel, rfl, by decide +kernel, by decide +kernel⟩
theorem cutV_to (xs : List V) (k : Nat) : cutV xs none (some (k : Int)) = xs.take k := by
  unfold cutV
  rw [HT.sIx_none, HT.sIx_nat, List.drop_zero, Nat.sub_zero]
  by_cases h : k ≤ xs.length
  · rw [Nat.min_eq_left h]
  · rw [Nat.min_eq_right (by omega), List.take_of_length_le (Nat.le_refl _), List.take_of_length_le (by omega)]
section
variable {X : Cx}
theorem flat_ints (ys : List Int) : (ys.map V.int).all flatV = true := by
  rw [List.all_map]
  exact List.all_eq_true.mpr fun _ _ => rfl
end
theorem at_pair0 (a b : V) : atI [a, b] 0 = some a := at_of (j := 0) rfl rfl
abbrev GLs := List (Addr × Hl)
def HlsAt (H : Hp) (L : GLs) : Prop := ∀ p ∈ L, HlAt H p.1 p.2
def refH (L : GLs) : List V := L.map fun p => V.ref p.1
def hls (L : GLs) : List Hl := L.map (·.2)
theorem HlsAt.same {H H' : Hp} {L : GLs} (s : Same H H') (h : HlsAt H L) : HlsAt H' L := fun p hp => s _ _ (h p hp)
theorem refH_at {L : GLs} {i : Nat} {v : V} (h : (refH L)[i]? = some v) : ∃ p, L[i]? = some p ∧ v = .ref p.1 := by
  unfold refH at h
  rw [List.getElem?_map] at h
  obtain ⟨p, hp, rfl⟩ := Option.map_eq_some_iff.mp h
  exact ⟨p, hp, rfl⟩
theorem rsH_lt {n B : Nat} : ∀ {T : List Hl} {h : Hl}, h.1 < 2 ^ B → (∀ r ∈ T, r.1 < 2 ^ B) → (rsH n T h).1 < 2 ^ B
  | [], h, hh, _ => hh
  | r :: T, h, hh, hT => by
    refine rsH_lt (T := T) (h := lwH n h r) ?_ fun q hq => hT q (List.mem_cons_of_mem _ hq)
    unfold lwH
    split
    · exact Nat.xor_lt_two_pow hh (hT r (List.mem_cons_self ..))
    · exact hh
def spLowG (K : PySem.W.Frag) : Sp := fun vs H Q _ => ∃ (n : Nat) (a t : Addr) (h : Hl) (L : GLs), vs = [.int (n : Nat), .ref a, .ref t] ∧ HlAt H a h ∧ SqL K H t (refH L) ∧ HlsAt H L ∧ h.1 < 2 ^ 1000 ∧ (∀ p ∈ L, p.2.1 < 2 ^ 1000) ∧ n ≤ 1000 ∧
  ∀ H' x, Same H H' → HlAt H' x (rsH n (hls L) h) → Q (.ref x) H'
section
variable {P : Program} {w : World} {K : PySem.W.Frag} {mg : Str → Option Value} {base : Heap}
theorem ok_lowG {f fM fP : Addr} {fd dM dP : FuncData} {k : Nat} (F : Fun K "_lowered" "_lowered" sLowG f fd) (FM : Fun K "held_product" "held_product" sHprod fM dM) (bM : Binds K dM ["size", "one", "other"] []) (gM : mg "held_product" = some (.ref fM))
    (FP : Fun K "parity" "parity" sPar fP dP) (bP : Binds K dP ["number"] []) (gP : mg "parity" = some (.ref fP)) : FnOk P w K mg base CX0 (k + 3) f fd ["size", "held", "table"] (spLowG K) := by
  have GM : FnOk P w K mg base CX0 (k + 2) fM dM ["size", "one", "other"] spHprod := ok_hprod FM FP bP gP
  refine F.ok scLowG (fun vs H Q E h => ?_) (fun cdv A outer s H vs Q E hr h => ?_)
  · obtain ⟨n, a, t, h, L, rfl, _⟩ := h
    rfl
  · obtain ⟨n, a, t, h, L, rfl, hA, hS, hL, hb, hbL, hn, q⟩ := h
    refine ⟨_, C8.pss_cut (ps_for PassesOwn.never rfl (pi_list (pv 2)) (pg_name (i := 3) scLowG.nd rfl (.inl rfl))
        (pss_one (ps_if (pt_cmpR op_lt (pe_op op_xor (pe_ix ix_tup (pv 1) pe_int (fun _ _ => rfl)) (pe_ix ix_tup (pv 3) pe_int (fun _ _ => rfl))) (pe_ix ix_tup (pv 1) pe_int (fun _ _ => rfl)) (nomark _))
          (pss_one (ps_set (i := 1) scLowG.nd rfl (.inl rfl) (pe_call GM hr (by rfl) gM FM.kp bM .nil pass0 (pa_cons (pv 0) (pa_cons (pv 1) (pa_cons (pv 3) pa_nil)))))) pss_nil)))
      (pss_one (ps_ret (pv 1))), ?_⟩
    refine ⟨fun σ' H' => ∃ (x : Addr) (v : Option V), σ' = [some (.int (n : Nat)), some (.ref x), some (.ref t), v] ∧ Same H H' ∧ HlAt H' x (rsH n (hls L) h), ?_, ?_⟩
    · refine ⟨_, rfl, t, rfl, ⟨_, hS⟩, for_list (K := K) (a := t) (xs := refH L) (fun i σ H' => ∃ (x : Addr) (v : Option V), σ = [some (.int (n : Nat)), some (.ref x), some (.ref t), v] ∧ Same H H' ∧ HlAt H' x (rsH n (hls (L.take i)) h))
        ⟨a, none, rfl, fun _ _ e => e, hA⟩ (fun i σ H' _ ⟨_, _, _, s1, _⟩ => Same.seq s1 hS) ?_ ?_⟩
      · rintro i y σ H' hi ⟨x, v, rfl, s1, hx⟩
        obtain ⟨p, hp, rfl⟩ := refH_at hi
        have hm := List.mem_of_getElem? hp
        have hy := hL.same s1 p hm
        have lt : (rsH n (hls (L.take i)) h).1 < 2 ^ 1000 := rsH_lt hb fun r hr => by
          obtain ⟨q', hq', rfl⟩ := List.mem_map.mp hr
          exact hbL q' (List.mem_of_mem_take hq')
        have e : rsH n (hls (L.take (i + 1))) h = lwH n (rsH n (hls (L.take i)) h) p.2 := by
          rw [take_snoc hp]
          unfold hls rsH
          rw [List.map_append, List.foldl_append]
          rfl
        rw [e]
        generalize rsH n (hls (L.take i)) h = g at hx lt
        refine ⟨_, rfl, x, _, _, _, rfl, rfl, .inl (.inl hx), at_pair0 _ _, _, rfl, p.1, _, _, _, rfl, rfl, .inl (.inl hy), at_pair0 _ _, _, _, rfl, rfl, _, rfl, x, _, _, _, rfl, rfl, .inl (.inl hx), at_pair0 _ _, _, _, rfl, rfl, _, rfl, ?_⟩
        rw [bxor]
        unfold lwH
        by_cases c : g.1 ^^^ p.2.1 < g.1
        · rw [decide_eq_true (by omega), if_pos c]
          exact iteT ⟨_, rfl, _, rfl, _, rfl, n, x, p.1, g, p.2, rfl, hx, hy, lt, hn, fun H2 z s2 _ hz => ⟨z, _, rfl, s1.trans s2, hz⟩⟩
        · rw [decide_eq_false (by omega), if_neg c]
          exact iteF ⟨x, _, rfl, s1, hx⟩
      · rintro σ H' ⟨x, v, rfl, s1, hx⟩
        rw [List.take_of_length_le (by unfold refH; rw [List.length_map]; exact Nat.le_refl _)] at hx
        exact ⟨x, v, rfl, s1, hx⟩
    rintro _ H1 ⟨x, v, rfl, s1, hx⟩
    exact ⟨_, rfl, q _ x s1 hx⟩
end
end KQ
namespace KQ
open PySem PySem.Spec PyProof.Rows L2
/-- do the rows i and j meet oddly -/
def xg (n : Nat) (bs : List Nat) (i j : Nat) : Nat := pc (ex n (bs.getD j 0) &&& bs.getD i 0) % 2
theorem inV_one : ∀ cl : List Nat, inV (.int 1) (natV cl) = decide (1 ∈ cl)
  | [] => rfl
  | b :: cl => by
    show (((b : Int) == 1) || inV (.int 1) (natV cl)) = _
    rw [inV_one cl]
    by_cases h : b = 1
    · subst h
      simp
    · have e : ((b : Int) == 1) = false := beq_eq_false_iff_ne.mpr (by omega)
      rw [e, Bool.false_or]
      congr 1
      simp [List.mem_cons, Ne.symm h]
theorem first_at : ∀ {l : List Nat}, 1 ∈ l → ∃ i : Nat, l[i]? = some 1 ∧ ∀ m : Nat, m < i → l[m]? ≠ some 1
  | [], h => by cases h
  | b :: l, h => by
    by_cases e : b = 1
    · exact ⟨0, by rw [e]; rfl, fun m hm => by omega⟩
    · obtain ⟨i, h1, h2⟩ := first_at (l := l) (by
        rcases List.mem_cons.mp h with q | q
        · exact absurd q.symm e
        · exact q)
      refine ⟨i + 1, h1, fun m hm => ?_⟩
      cases m with
      | zero => exact fun z => e (Option.some.inj z)
      | succ m => exact h2 m (by omega)
def spChk (K : PySem.W.Frag) : Sp := fun vs H Q _ => ∃ (n : Nat) (t : Addr) (bs : List Nat), vs = [.int (n : Nat), .ref t] ∧ SqL K H t (natV bs) ∧ n ≤ 300 ∧ bs.length ≤ 100 ∧ (∀ b ∈ bs, b < 2 ^ (2 * n)) ∧
  (∀ i j, i < j → j < bs.length → xg n bs i j = 0) ∧ ∀ H', Same H H' → Q .non H'
section
variable {P : Program} {w : World} {K : PySem.W.Frag} {mg : Str → Option Value} {base : Heap}
theorem ok_chk {f fX fT fH fP : Addr} {fd dX dT dH dP : FuncData} (F : Fun K "_check_commuting" "_check_commuting" sChk f fd) (FX : Fun K "crossing" "crossing" sCrossg fX dX) (bX : Binds K dX ["size", "bits", "others"] []) (gX : mg "crossing" = some (.ref fX))
    (FT : Fun K "bit_tuple" "bit_tuple" sBits fT dT) (bT : Binds K dT ["number", "many"] []) (gT : mg "bit_tuple" = some (.ref fT))
    (FH : Fun K "second_half" "second_half" sHalf fH dH) (bH : Binds K dH ["size", "bits"] []) (gH : mg "second_half" = some (.ref fH))
    (FP : Fun K "parity" "parity" sPar fP dP) (bP : Binds K dP ["number"] []) (gP : mg "parity" = some (.ref fP)) (B : Bl mg) : FnOk P w K mg base (L2.CX P w) 4 f fd ["size", "rows"] (spChk K) := by
  have GX : FnOk P w K mg base CX0 3 fX dX ["size", "bits", "others"] (spCrossg K) := ok_crossg FX FH bH gH FP bP gP
  have GT : FnOk P w K mg base CX0 3 fT dT ["number", "many"] spBits := ok_bits FT B
  refine F.okX scChk (fun vs H Q E h => ?_) (fun cdv A outer s H vs Q E hr h => ?_)
  · obtain ⟨n, t, bs, rfl, _⟩ := h
    rfl
  · obtain ⟨n, t, bs, rfl, hS, hn, hl, hb, qz, q0⟩ := h
    refine ⟨_, C8.pss_cut (ps_for (passes_of rfl) rfl (pi_enum (by rfl) B.enum (pa_cons (pv 1) pa_nil)) (pg_tup rfl (pgs_cons (pg_name (i := 2) scChk.nd rfl (.inl rfl)) (pgs_cons (pg_name (i := 3) scChk.nd rfl (.inl rfl)) pgs_nil)))
        (C8.pss_cut (ps_set (i := 4) scChk.nd rfl (.inl rfl) (pe_call GT hr (by rfl) gT FT.kp bT .nil pass0 (pa_cons (pe_call GX hr (by rfl) gX FX.kp bX .nil pass0 (pa_cons (pv 0) (pa_cons (pv 3) (pa_cons (pe_slice sl_list (pv 1) po_none (po_some (pv 2))) pa_nil)))) (pa_cons (pv 2) pa_nil))))
        (pss_one (ps_if (pt_cmpR op_in_seq pe_int (pv 4) (by rfl))
          pss_never pss_nil))))
      pss_nil, ?_⟩
    refine ⟨fun σ' H' => (∃ v2 v3 v4 : Option V, σ' = [some (.int (n : Nat)), some (.ref t), v2, v3, v4]) ∧ Same H H' ∧ ∀ i j, i < j → j < bs.length → xg n bs i j = 0, ?_, ?_⟩
    · refine ⟨_, rfl, t, _, rfl, hS, L2.for_it (walk_enum (K := K) (a := t) (xs := natV bs)) (fun i σ H' => (∃ v2 v3 v4 : Option V, σ = [some (.int (n : Nat)), some (.ref t), v2, v3, v4]) ∧ Same H H' ∧ ∀ i' j', i' < j' → j' < i → xg n bs i' j' = 0)
        ⟨⟨none, none, none, rfl⟩, fun _ _ e => e, fun i j h1 h2 => by omega⟩ (fun i σ H' _ ⟨_, s1, _⟩ => Same.seq s1 hS) ?_ ?_⟩
      · rintro j x _ H2 H3 hj ⟨⟨v2, v3, v4, rfl⟩, s1, hz⟩ ⟨T, x1, x2, rfl, nT, rfl, g1, g2⟩
        cases Option.some.inj g1
        obtain ⟨b, hb', rfl⟩ := natV_at g2
        have hjl : j < bs.length := (List.getElem?_eq_some_iff.mp hb').1
        have s3 := s1.trans (same_new (o := .tup [.int (j : Nat), .int (b : Nat)]) nT)
        have eT : (upd H2 T (.tup [.int (j : Nat), .int (b : Nat)])) T = some (.tup [.int (j : Nat), .int (b : Nat)]) := upd_same
        generalize upd H2 T (.tup [.int (j : Nat), .int (b : Nat)]) = H3 at s3 eT ⊢
        refine ⟨T, _, rfl, .inl (.inl eT), rfl, _, _, rfl, _, _, rfl, rfl, ?_⟩
        have gb : bs.getD j 0 = b := by rw [List.getD_eq_getElem?_getD, hb']; rfl
        have tl : (bs.take j).length = j := by rw [List.length_take]; omega
        let cl := (bs.take j).map fun o => pc (ex n b &&& o) % 2
        have cll : cl.length = j := by rw [List.length_map, tl]
        have clb : ∀ c ∈ cl, c < 2 := fun c hc => by
          obtain ⟨o, _, rfl⟩ := List.mem_map.mp hc
          exact Nat.mod_lt _ (by decide)
        have cat : ∀ i, i < j → cl[i]? = some (xg n bs i j) := fun i hi => by
          have e : bs[i]? = some (bs.getD i 0) := by rw [List.getD_eq_getElem?_getD, List.getElem?_eq_getElem (by omega : i < bs.length)]; rfl
          show ((bs.take j).map fun o => pc (ex n b &&& o) % 2)[i]? = _
          rw [List.getElem?_map, List.getElem?_take_of_lt hi, e]
          unfold xg
          rw [gb]
          rfl
        have ecl : rowV j (nb 0 cl) = natV cl := by
          have := row_nb cl clb
          rw [cll] at this
          unfold rowV natV
          rw [this]
        refine ⟨fun σ' H' => ∃ p, σ' = [some (.int (n : Nat)), some (.ref t), some (.int (j : Nat)), some (.int (b : Nat)), some (.ref p)] ∧ Same H H' ∧ FzT H' p (natV cl), ?_, ?_⟩
        · refine ⟨_, rfl, _, rfl, _, rfl, _, rfl, _, rfl, t, _, rfl, Same.seq s3 hS, fun p np => ?_⟩
          refine ⟨n, b, p, bs.take j, rfl, ?_, hn, hb b (List.mem_of_getElem? hb'), _, rfl, nb 0 cl, j, rfl, by omega, fun p' H' s4 _ fz => ⟨p', rfl, ?_, ecl ▸ fz⟩⟩
          · rw [cutV_to]
            unfold natV
            rw [List.map_take]
            exact .inl (SqL.of upd_same)
          · exact (s3.trans (same_new np)).trans s4
        rintro _ H4 ⟨p, rfl, s4, fz⟩
        obtain ⟨o, o1, o2, o3⟩ := id fz
        refine ⟨_, rfl, p, natV cl, rfl, .inr (TupIs.sq (.inr fz)), rfl, ?_, ?_⟩
        · rw [natV_int]
          exact flat_ints _
        refine ⟨decide (1 ∈ cl), by show V.bl (inV (.int 1) (natV cl)) = _; rw [inV_one], ?_⟩
        have h1 : ¬ 1 ∈ cl := fun h1 => by
          obtain ⟨i, hi, _⟩ := first_at h1
          have il : i < j := by
            have := (List.getElem?_eq_some_iff.mp hi).1
            omega
          rw [cat i il, qz i j il hjl] at hi
          cases hi
        rw [decide_eq_false h1]
        · refine iteF ⟨⟨_, _, _, rfl⟩, s4, fun i' j' h h' => ?_⟩
          by_cases e : j' < j
          · exact hz i' j' h e
          · have ej : j' = j := by omega
            subst ej
            exact qz i' j' h hjl
      · rintro σ H2 ⟨hv, s1, hz⟩
        rw [natV_len] at hz
        exact ⟨hv, s1, hz⟩
    rintro _ H1 ⟨⟨v2, v3, v4, rfl⟩, s1, hz⟩
    exact q0 _ s1
end
end KQ
namespace KQ
open PySem PySem.Spec PyProof.Rows L2
/-- the numbers of the kept ones among the given -/
def kb (gs : List Hl) (ks : List Nat) : List Nat := ks.map fun k => (gs.getD k (0, 0)).1
theorem atI_ref {L : GLs} {i : Nat} (h : i < L.length) : ∃ p, L[i]? = some p ∧ atI (refH L) (i : Nat) = some (.ref p.1) ∧ (hls L).getD i (0, 0) = p.2 := by
  have e : L[i]? = some L[i] := List.getElem?_eq_getElem h
  refine ⟨L[i], e, atI_nat (by unfold refH; rw [List.getElem?_map, e]; rfl), ?_⟩
  unfold hls
  rw [List.getD_eq_getElem?_getD, List.getElem?_map, e]
  rfl
end KQ
namespace KQ
open PySem PySem.Spec PyProof.Rows L2
/-- is x one of the sums of the numbers -/
def inSp (ns : List Nat) (x : Nat) : Bool := (List.range (2 ^ ns.length)).any fun m => sx ns m == x
theorem inSp_iff {ns : List Nat} {x : Nat} : inSp ns x = true ↔ ∃ m, m < 2 ^ ns.length ∧ sx ns m = x := by
  unfold inSp
  rw [List.any_eq_true]
  constructor
  · rintro ⟨m, hm, e⟩
    exact ⟨m, List.mem_range.mp hm, eq_of_beq e⟩
  · rintro ⟨m, hm, e⟩
    exact ⟨m, List.mem_range.mpr hm, beq_iff_eq.mpr e⟩
theorem inSp_spn {ns : List Nat} {x : Nat} : inSp ns x = true ↔ Spn ns x := by
  rw [inSp_iff]
  constructor
  · rintro ⟨m, _, rfl⟩
    exact sx_spn ns m
  · intro h
    refine h (fun x => ∃ m, m < 2 ^ ns.length ∧ sx ns m = x) ⟨⟨0, Nat.two_pow_pos _, sx_zero ns⟩, ?_⟩ ?_
    · rintro x y ⟨m, hm, rfl⟩ ⟨m', hm', rfl⟩
      exact ⟨m ^^^ m', Nat.xor_lt_two_pow hm hm', sx_lin ns m m'⟩
    · intro a ha
      obtain ⟨i, hi, e⟩ := List.getElem_of_mem ha
      refine ⟨2 ^ i, Nat.pow_lt_pow_right (by decide) hi, ?_⟩
      rw [sx_pow hi, List.getD_eq_getElem?_getD, List.getElem?_eq_getElem hi, ← e]
      rfl
def hsK (gs : List Hl) (ks : List Nat) : List Hl := ks.map (gs.getD · (0, 0))
theorem hsK_fst (gs : List Hl) (ks : List Nat) : (hsK gs ks).map Prod.fst = kb gs ks := by
  unfold hsK kb
  rw [List.map_map]
  rfl
theorem hsK_len (gs : List Hl) (ks : List Nat) : (hsK gs ks).length = ks.length := List.length_map ..
theorem kb_len (gs : List Hl) (ks : List Nat) : (kb gs ks).length = ks.length := List.length_map ..
/-- the indices of the kept ones among the first i -/
def keptL (gs : List Hl) : Nat → List Nat
  | 0 => []
  | i + 1 => if inSp (kb gs (keptL gs i)) (gs.getD i (0, 0)).1 = true then keptL gs i else keptL gs i ++ [i]
theorem keptL_lt (gs : List Hl) : ∀ (i : Nat), ∀ k ∈ keptL gs i, k < i
  | 0, k, h => by cases h
  | i + 1, k, h => by
    unfold keptL at h
    split at h
    · exact Nat.lt_succ_of_lt (keptL_lt gs i k h)
    · rcases List.mem_append.mp h with q | q
      · exact Nat.lt_succ_of_lt (keptL_lt gs i k q)
      · rw [List.mem_singleton.mp q]
        exact Nat.lt_succ_self i
theorem keptL_len (gs : List Hl) : ∀ i, (keptL gs i).length ≤ i
  | 0 => Nat.le_refl _
  | i + 1 => by
    have := keptL_len gs i
    unfold keptL
    split
    · omega
    · rw [List.length_append, List.length_singleton]
      omega
/-- the i-th is not -1 times a product of kept ones ahead of it -/
def Good (n : Nat) (gs : List Hl) (i : Nat) : Prop := ∀ mk, mk < 2 ^ (keptL gs i).length → sx (kb gs (keptL gs i)) mk = (gs.getD i (0, 0)).1 → (pr n (hsK gs (keptL gs i)) mk (keptL gs i).length).2 = (gs.getD i (0, 0)).2
/-- what the table of the first i rests on -/
structure RedAt (n : Nat) (gs : List Hl) (i : Nat) (T : List Hl) : Prop where
  tab : TabG n (hsK gs (keptL gs i)) T
  ind : Indep (kb gs (keptL gs i))
  cs : CS n (hsK gs (keptL gs i))
theorem hsK_mem {gs : List Hl} {ks : List Nat} (h : ∀ k ∈ ks, k < gs.length) : ∀ a ∈ hsK gs ks, a ∈ gs := by
  intro a ha
  obtain ⟨k, hk, rfl⟩ := List.mem_map.mp ha
  exact getD_mem (h k hk)
theorem RedAt.zero (n : Nat) (gs : List Hl) : RedAt n gs 0 [] := ⟨TabG.nil n, fun i x h => (by cases h), ⟨fun a h => (by cases h), fun a h => (by cases h)⟩⟩
theorem RedAt.step {n : Nat} {gs T : List Hl} {i : Nat} (R : RedAt n gs i T) (C : CS n gs) (hi : i < gs.length) :
    ((rsH n T (gs.getD i (0, 0))).1 ≠ 0 → keptL gs (i + 1) = keptL gs i ++ [i] ∧ RedAt n gs (i + 1) (T.map (lwH n · (rsH n T (gs.getD i (0, 0)))) ++ [rsH n T (gs.getD i (0, 0))]) ∧ Good n gs i) ∧
    ((rsH n T (gs.getD i (0, 0))).1 = 0 → keptL gs (i + 1) = keptL gs i ∧ RedAt n gs (i + 1) T ∧ Spn (kb gs (keptL gs i)) (gs.getD i (0, 0)).1 ∧ ((rsH n T (gs.getD i (0, 0))).2 = 0 ↔ Good n gs i)) := by
  have hm := getD_mem hi
  have lt : ∀ k ∈ keptL gs i, k < gs.length := fun k hk => Nat.lt_trans (keptL_lt gs i k hk) hi
  have cg : ∀ a ∈ hsK gs (keptL gs i), Com n (gs.getD i (0, 0)) a := fun a ha => C.com _ hm a (hsK_mem lt a ha)
  have hg := C.sg _ hm
  have out := R.tab.out (g := gs.getD i (0, 0))
  rw [hsK_fst] at out
  refine ⟨fun v0 => ?_, fun v0 => ?_⟩
  · have ns : ¬ Spn (kb gs (keptL gs i)) (gs.getD i (0, 0)).1 := fun z => v0 (out.mpr z)
    have nb : ¬ inSp (kb gs (keptL gs i)) (gs.getD i (0, 0)).1 = true := fun z => ns (inSp_spn.mp z)
    have ek : keptL gs (i + 1) = keptL gs i ++ [i] := by
      show (if _ then _ else _) = _
      rw [if_neg nb]
    have eh : hsK gs (keptL gs (i + 1)) = hsK gs (keptL gs i) ++ [gs.getD i (0, 0)] := by
      rw [ek]
      unfold hsK
      rw [List.map_append]
      rfl
    have eb : kb gs (keptL gs (i + 1)) = kb gs (keptL gs i) ++ [(gs.getD i (0, 0)).1] := by
      rw [ek]
      unfold kb
      rw [List.map_append]
      rfl
    refine ⟨ek, ⟨?_, ?_, ?_⟩, fun mk hm' e => absurd (inSp_iff.mpr ⟨mk, by rw [kb_len]; exact hm', e⟩) nb⟩
    · rw [eh]
      exact R.tab.add R.cs hg cg v0
    · rw [eb]
      exact R.ind.snoc ns
    · rw [eh]
      exact R.cs.snoc hg cg
  · have sp := out.mp v0
    have ek : keptL gs (i + 1) = keptL gs i := by
      show (if _ then _ else _) = _
      rw [if_pos (inSp_spn.mpr sp)]
    refine ⟨ek, ?_, sp, ?_⟩
    · exact ⟨ek ▸ R.tab, ek ▸ R.ind, ek ▸ R.cs⟩
    · obtain ⟨m0, l0, e0, iff⟩ := R.tab.hit R.cs hg cg v0
      rw [pr_fst, hsK_fst] at e0
      rw [hsK_len] at l0 iff
      rw [iff]
      constructor
      · intro h mk hmk e
        have : mk = m0 := indep_one R.ind (by rw [kb_len]; exact hmk) (by rw [kb_len]; exact l0) (e.trans e0.symm)
        rw [this]
        exact h
      · exact fun h => h m0 l0 e0
theorem perm_map_inv {α β : Type} {f : α → β} : ∀ {ys : List β} {l : List α}, ys.Perm (l.map f) → ∃ l' : List α, l'.Perm l ∧ ys = l'.map f
  | [], l, h => by
    have : l.map f = [] := List.Perm.eq_nil h.symm
    have : l = [] := List.map_eq_nil_iff.mp this
    subst this
    exact ⟨[], List.Perm.refl _, rfl⟩
  | y :: ys, l, h => by
    obtain ⟨a, ha, rfl⟩ := List.mem_map.mp (h.mem_iff.mp (List.mem_cons_self ..))
    obtain ⟨s, t, rfl⟩ := List.append_of_mem ha
    have h2 : (f a :: ys).Perm (f a :: (s ++ t).map f) := by
      refine h.trans ?_
      rw [List.map_append, List.map_append, List.map_cons]
      exact List.perm_middle
    obtain ⟨l', p', e'⟩ := perm_map_inv (ys := ys) (l := s ++ t) (h2.cons_inv)
    exact ⟨a :: l', (p'.cons a).trans List.perm_middle.symm, by rw [e']; rfl⟩
end KQ
namespace KQ
open PySem PySem.Spec PyProof.Rows L2
abbrev sRedT : Stmt := topS 48
theorem scRedT : FnScope ["size", "given", "table", "kept", "index", "held", "bits", "power", "row"] ["size", "given"] (defScope sRedT) := ⟨rfl, rfl, rfl, by decide +kernel, rfl, by decide +kernel, by decide +kernel⟩
/-- the two numbers of a told pair -/
def kV2 (H : Hp) : V → Int × Int
  | .ref a => match H a with
    | some (.tup [.int i, .int j]) => (i, j)
    | _ => (0, 0)
  | _ => (0, 0)
theorem kV2_at {H : Hp} {a : Addr} {h : Hl} (e : HlAt H a h) : kV2 H (.ref a) = ((h.1 : Int), (h.2 : Int)) := by
  unfold HlAt at e
  simp only [kV2, e]
theorem hls_len (L : GLs) : (hls L).length = L.length := List.length_map ..
theorem refH_len (L : GLs) : (refH L).length = L.length := List.length_map ..
theorem refH_app (L M : GLs) : refH (L ++ M) = refH L ++ refH M := List.map_append ..
theorem hls_app (L M : GLs) : hls (L ++ M) = hls L ++ hls M := List.map_append ..
theorem HlsAt.put {H : Hp} {L : GLs} {D : Addr} {xs : List V} {o : HO} (e : H D = some (.lst xs)) (h : HlsAt H L) : HlsAt (upd H D o) L := fun p hp => by
  have e2 := h p hp
  unfold HlAt at *
  rw [upd_ne fun z => by rw [z, e] at e2; cases e2]
  exact e2
theorem same_put0 {H H' : Hp} {D : Addr} {o : HO} (s : Same H H') (n : H D = none) : Same H (upd H' D o) := fun b u e => by
  rw [upd_ne (ne_of_none e n)]
  exact s _ _ e
theorem off_same {G H : Hp} {t : Addr} (sg : Same H G) (n : G t = none) : H t = none := by
  cases e : H t with
  | none => rfl
  | some o => rw [sg _ _ e] at n; cases n
def spRedT (K : PySem.W.Frag) : Sp := fun vs H Q _ => ∃ (n : Nat) (tg : Addr) (L : GLs), vs = [.int (n : Nat), .ref tg] ∧ SqL K H tg (refH L) ∧ HlsAt H L ∧ L.length ≤ 100 ∧ n ≤ 300 ∧ CS n (hls L) ∧ (∀ p ∈ L, p.2.1 < 2 ^ (2 * n)) ∧
  (∀ i, i < L.length → Good n (hls L) i) ∧ ∀ H' p M T, Same H H' → H' p = some (.tup (refH M)) → HlsAt H' M → (hls M).Perm T → (hls M).Pairwise (fun a b => b.1 ≤ a.1) → RedAt n (hls L) L.length T → (∀ h ∈ T, h.1 < 2 ^ (2 * n)) → M.length ≤ L.length → Q (.ref p) H'
section
variable {P : Program} {w : World} {K : PySem.W.Frag} {mg : Str → Option Value} {base : Heap}
theorem ok_redT {f fG fM fP : Addr} {fd dG dM dP : FuncData} (F : Fun K "_reduced_table" "_reduced_table" sRedT f fd) (FG : Fun K "_lowered" "_lowered" sLowG fG dG) (bG : Binds K dG ["size", "held", "table"] []) (gG : mg "lowered_groups" = some (.ref fG))
    (FM : Fun K "held_product" "held_product" sHprod fM dM) (bM : Binds K dM ["size", "one", "other"] []) (gM : mg "held_product" = some (.ref fM))
    (FP : Fun K "parity" "parity" sPar fP dP) (bP : Binds K dP ["number"] []) (gP : mg "parity" = some (.ref fP)) (B : Bl mg) : FnOk P w K mg base (L2.CX P w) 4 f fd ["size", "given"] (spRedT K) := by
  have GG : FnOk P w K mg base CX0 3 fG dG ["size", "held", "table"] (spLowG K) := ok_lowG FG FM bM gM FP bP gP
  refine F.okX scRedT (fun vs H Q E h => ?_) (fun cdv A outer s H vs Q E hr h => ?_)
  · obtain ⟨n, tg, L, rfl, _⟩ := h
    rfl
  · obtain ⟨n, tg, L, rfl, hS, hL, ln, hn, hC, hb, qg, q0⟩ := h
    refine ⟨_, C8.pss_cut (ps_set (i := 2) scRedT.nd rfl (.inl rfl) (pe_lst pa_nil))
      (C8.pss_cut (ps_set (i := 3) scRedT.nd rfl (.inl rfl) (pe_lst pa_nil))
      (C8.pss_cut (ps_for (passes_of rfl) rfl (pi_enum (by rfl) B.enum (pa_cons (pv 1) pa_nil)) (pg_tup rfl (pgs_cons (pg_name (i := 4) scRedT.nd rfl (.inl rfl)) (pgs_cons (pg_name (i := 5) scRedT.nd rfl (.inl rfl)) pgs_nil)))
        (C8.pss_cut (ps_asg (pe_call GG hr (by rfl) gG FG.kp bG .nil pass0 (pa_cons (pv 0) (pa_cons (pv 5) (pa_cons (pv 2) pa_nil)))) (pg_tup rfl (pgs_cons (pg_name (i := 6) scRedT.nd rfl (.inr rfl)) (pgs_cons (pg_name (i := 7) scRedT.nd rfl (.inr rfl)) pgs_nil))))
        (pss_one (ps_if (pt_truth (pv 6) (by intro _; rfl))
          (C8.pss_cut (ps_setLc (i := 2) (own := [("row", 8)]) (g := gName 8) (by rfl) scRedT.nd rfl rfl (sw_true rfl rfl rfl (by decide +kernel)) (pi_list (pv 2)) (blkOk_by (own := [("row", 8)]) (N := ["size", "given", "table", "kept", "index", "held", "bits", "power", "row"]) (sc := defScope sRedT) (by decide +kernel))
              (fun _ _ _ _ _ => pg_name (i := 8) scRedT.nd rfl (Or.inl rfl)) (fun _ _ _ _ _ => pts_nil) (fun _ _ _ _ _ => pe_call GG hr (by rfl) gG FG.kp bG .nil pass0 (pa_cons (pv 0) (pa_cons (pv 8) (pa_cons (pe_lst (pa_cons (pe_tup (pa_cons (pv 6) (pa_cons (pv 7) pa_nil))) pa_nil)) pa_nil)))))
          (C8.pss_cut (ps_expr (pe_bm PySem.F.plainAttrs_list PySem.F.slot_list_append PySem.F.type_list_append mt_append (pv 2) (pa_cons (pe_tup (pa_cons (pv 6) (pa_cons (pv 7) pa_nil))) pa_nil)))
          (pss_one (ps_expr (pe_bm PySem.F.plainAttrs_list PySem.F.slot_list_append PySem.F.type_list_append mt_append (pv 3) (pa_cons (pv 4) pa_nil))))))
          (pss_one (ps_if (pt_truth (pv 7) (by intro _; rfl))
            pss_never pss_nil))))))
      (pss_one (ps_ret (pe_callTy call_tuple_of (by rfl) B.tuple bootT (pa_cons (pe_callBK cr_sortedPR (by rfl) B.sorted PyProof.Rows.boot_sorted (pa_cons (pv 2) pa_nil) (pk_cons pe_bl pk_nil)) pa_nil)))))), ?_⟩
    let St : Nat → L2.St → Hp → Prop := fun i σ H' => ∃ (t kk : Addr) (T : GLs) (v4 v5 v6 v7 v8 : Option V), σ = [some (.int (n : Nat)), some (.ref tg), some (.ref t), some (.ref kk), v4, v5, v6, v7, v8] ∧ Same H H' ∧ H t = none ∧ H kk = none ∧ kk ≠ t ∧
      H' t = some (.lst (refH T)) ∧ HlsAt H' T ∧ H' kk = some (.lst (natV (keptL (hls L) i))) ∧ RedAt n (hls L) i (hls T) ∧ (∀ p ∈ T, p.2.1 < 2 ^ (2 * n)) ∧ (∀ i', i' < i → Good n (hls L) i') ∧ T.length ≤ i
    have up : ∀ {x : Nat}, x < 2 ^ (2 * n) → x < 2 ^ 1000 := fun h => Nat.lt_of_lt_of_le h (Nat.pow_le_pow_right (by decide) (by omega))
    have big : ∀ m, m ≤ 100 → m < sizeLine := fun m h => Nat.lt_of_le_of_lt h (by decide)
    refine ⟨fun σ' H' => ∃ t, σ' = [some (.int (n : Nat)), some (.ref tg), some (.ref t), none, none, none, none, none, none] ∧ H t = none ∧ H' = upd H t (.lst []), ⟨by show 0 ≤ sizeLine; decide, fun t nt => ⟨t, rfl, nt, rfl⟩⟩, ?_⟩
    rintro _ _ ⟨t0, rfl, nt0, rfl⟩
    refine ⟨St 0, ⟨by show 0 ≤ sizeLine; decide, fun kk nk => ?_⟩, ?_⟩
    · have ne : kk ≠ t0 := fun z => by rw [z, upd_same] at nk; cases nk
      have nk0 : H kk = none := by rw [upd_ne ne] at nk; exact nk
      exact ⟨t0, kk, [], none, none, none, none, none, rfl, (same_new nt0).trans (same_new nk), nt0, nk0, ne, by rw [upd_ne ne.symm]; exact upd_same, fun p hp => (by cases hp), upd_same, RedAt.zero _ _, fun p hp => (by cases hp), fun i' h => by omega, Nat.le_refl _⟩
    rintro σ0 H1 hst
    refine ⟨St L.length, ?_, ?_⟩
    · obtain ⟨t, kk, T, v4, v5, v6, v7, v8, rfl, s1, _⟩ := id hst
      refine ⟨_, rfl, tg, _, rfl, Same.seq s1 hS, L2.for_it (walk_enum (K := K) (a := tg) (xs := refH L)) St hst (fun i σ H' _ ⟨_, _, _, _, _, _, _, _, _, s1, _⟩ => Same.seq s1 hS) ?_ ?_⟩
      · rintro i x _ H2 H3 hi ⟨t, kk, T, v4, v5, v6, v7, v8, rfl, s2, nt, nk, ne, et, hT, ek, R, bT, hgd, lT⟩ ⟨Tp, x1, x2, rfl, nT, rfl, g1, g2⟩
        cases Option.some.inj g1
        obtain ⟨p, hp, rfl⟩ := refH_at g2
        have il : i < L.length := (List.getElem?_eq_some_iff.mp hp).1
        obtain ⟨p', hp', _, gp⟩ := atI_ref il
        cases hp.symm.trans hp'
        have hpm := List.mem_of_getElem? hp
        have s3 := s2.trans (same_new (o := .tup [.int (i : Nat), .ref p.1]) nT)
        have n3 : Same H2 (upd H2 Tp (.tup [.int (i : Nat), .ref p.1])) := same_new nT
        have eT : (upd H2 Tp (.tup [.int (i : Nat), .ref p.1])) Tp = some (.tup [.int (i : Nat), .ref p.1]) := upd_same
        generalize upd H2 Tp (.tup [.int (i : Nat), .ref p.1]) = H3 at s3 n3 eT ⊢
        refine ⟨Tp, _, rfl, .inl (.inl eT), rfl, _, _, rfl, _, _, rfl, rfl, ?_⟩
        obtain ⟨step1, step0⟩ := R.step hC (by rw [hls_len]; exact il)
        rw [gp] at step1 step0
        have vlt : (rsH n (hls T) p.2).1 < 2 ^ (2 * n) := rsH_lt (hb p hpm) fun r hr => by
          obtain ⟨q', hq', rfl⟩ := List.mem_map.mp hr
          exact bT q' hq'
        refine ⟨fun σ' H' => σ' = [some (.int (n : Nat)), some (.ref tg), some (.ref t), some (.ref kk), some (.int (i : Nat)), some (.ref p.1), some (.int ((rsH n (hls T) p.2).1 : Nat)), some (.int ((rsH n (hls T) p.2).2 : Nat)), v8] ∧ Same H3 H', ?_, ?_⟩
        · refine ⟨_, rfl, _, rfl, _, rfl, n, p.1, t, p.2, T, rfl, s3 _ _ (hL p hpm), SqL.of (n3 _ _ et), hT.same n3, up (hb p hpm), fun q' hq' => up (bT q' hq'), by omega, fun H' z s' hz => ⟨z, _, rfl, .inl (.inl hz), rfl, _, _, rfl, _, _, rfl, rfl, rfl, s'⟩⟩
        rintro _ H4 ⟨rfl, s4⟩
        have s34 := s3.trans s4
        have et4 := s4 _ _ (n3 _ _ et)
        have ek4 := s4 _ _ (n3 _ _ ek)
        have hT4 := (hT.same n3).same s4
        generalize rsH n (hls T) p.2 = v at step1 step0 vlt ⊢
        refine ⟨_, rfl, _, rfl, ?_⟩
        by_cases z : v.1 = 0
        · obtain ⟨k1, R1, sp, iff⟩ := step0 z
          rw [z]
          refine iteF ⟨_, rfl, _, rfl, ?_⟩
          by_cases z2 : v.2 = 0
          · rw [z2]
            refine iteF ⟨t, kk, T, _, _, _, _, _, rfl, s34, nt, nk, ne, et4, hT4, by rw [k1]; exact ek4, R1, bT, fun i' h => ?_, by omega⟩
            by_cases e : i' < i
            · exact hgd i' e
            · have : i' = i := by omega
              rw [this]
              exact iff.mp z2
          · exact absurd (iff.mpr (qg i il)) z2
        · obtain ⟨k1, R1, gd⟩ := step1 z
          have nz : (((v.1 : Nat) : Int) != 0) = true := bne_iff_ne.mpr (by omega)
          rw [nz]
          refine iteT ⟨fun σ' H' => ∃ (D : Addr) (N : GLs), σ' = [some (.int (n : Nat)), some (.ref tg), some (.ref D), some (.ref kk), some (.int (i : Nat)), some (.ref p.1), some (.int (v.1 : Nat)), some (.int (v.2 : Nat)), v8] ∧ Same H4 H' ∧ H4 D = none ∧ H' D = some (.lst (refH N)) ∧ HlsAt H' N ∧ hls N = (hls T).map (lwH n · v), ?_, ?_⟩
          · refine ⟨_, rfl, t, rfl, ⟨_, SqL.of et4⟩, fun D nD => ?_⟩
            refine lc_list (K := K) (a := t) (xs := refH T) (Pv := fun j Hc => Same H4 Hc ∧ ∃ N : GLs, Hc D = some (.lst (refH N)) ∧ HlsAt Hc N ∧ hls N = ((hls T).take j).map (lwH n · v) ∧ N.length ≤ j) ⟨same_new nD, [], upd_same, fun p hp => (by cases hp), rfl, Nat.le_refl _⟩ (fun j Hc _ ⟨sc, _⟩ => SqL.of (sc _ _ et4)) ?_ ?_
            · rintro j y Hc hj ⟨sc, N, eD, hN, eN, lN⟩
              obtain ⟨r, hr', rfl⟩ := refH_at hj
              have hrm := List.mem_of_getElem? hr'
              refine ⟨rfl, _, rfl, _, rfl, _, rfl, _, rfl, by show 2 ≤ sizeLine; decide, fun tp ntp => ⟨by show 1 ≤ sizeLine; decide, fun l nl => ?_⟩⟩
              have n1 : Same Hc (upd Hc tp (.tup [.int (v.1 : Nat), .int (v.2 : Nat)])) := same_new ntp
              have n2 := same_new (o := HO.lst [V.ref tp]) nl
              have e1 : (upd (upd Hc tp (.tup [.int (v.1 : Nat), .int (v.2 : Nat)])) l (.lst [V.ref tp])) tp = some (.tup [.int (v.1 : Nat), .int (v.2 : Nat)]) := n2 _ _ upd_same
              refine ⟨n, r.1, l, r.2, [(tp, v)], rfl, n2 _ _ (n1 _ _ (sc _ _ (hT4 r hrm))), SqL.of upd_same, fun q' hq' => by rw [List.mem_singleton.mp hq']; exact e1, up (bT r hrm), fun q' hq' => by rw [List.mem_singleton.mp hq']; exact up vlt, by omega, fun H' z s' hz => ?_⟩
              have sH := (n1.trans n2).trans s'
              have eD' := sH _ _ eD
              refine ⟨refH N, eD', ?_, same_put0 (sc.trans sH) nD, N ++ [(z, lwH n r.2 v)], ?_, ?_, ?_, ?_⟩
              · rw [refH_len]
                have := (List.getElem?_eq_some_iff.mp hr').1
                exact big _ (by omega)
              · rw [upd_same, refH_app]
                rfl
              · refine HlsAt.put eD' fun q' hq' => ?_
                rcases List.mem_append.mp hq' with h | h
                · exact sH _ _ (hN q' h)
                · rw [List.mem_singleton.mp h]
                  exact hz
              · have e2 : (hls T)[j]? = some r.2 := by unfold hls; rw [List.getElem?_map, hr']; rfl
                rw [hls_app, eN, take_snoc e2, List.map_append]
                rfl
              · rw [List.length_append, List.length_singleton]
                omega
            · rintro Hc ⟨sc, N, eD, hN, eN, lN⟩
              rw [List.take_of_length_le (by rw [hls_len, refH_len]; exact Nat.le_refl _)] at eN
              exact ⟨D, N, rfl, sc, nD, eD, hN, eN⟩
          rintro _ H5 ⟨D, N, rfl, s5, nD, eD, hN, eN⟩
          have lN : N.length = T.length := by
            have := congrArg List.length eN
            rw [List.length_map, hls_len, hls_len] at this
            exact this
          have nD0 : H D = none := off_same s34 nD
          have ek5 := s5 _ _ ek4
          have neD : kk ≠ D := fun z => by rw [z, nD] at ek4; cases ek4
          refine ⟨fun σ' H' => ∃ r, σ' = [some (.int (n : Nat)), some (.ref tg), some (.ref D), some (.ref kk), some (.int (i : Nat)), some (.ref p.1), some (.int (v.1 : Nat)), some (.int (v.2 : Nat)), v8] ∧ Same H H' ∧ H' D = some (.lst (refH (N ++ [(r, v)]))) ∧ HlsAt H' (N ++ [(r, v)]) ∧ H' kk = some (.lst (natV (keptL (hls L) i))), ?_, ?_⟩
          · refine ⟨_, rfl, .inl ⟨rfl, _, SqL.of eD⟩, _, rfl, _, rfl, by show 2 ≤ sizeLine; decide, fun r nr => ?_⟩
            have nr1 : Same H5 (upd H5 r (.tup [.int (v.1 : Nat), .int (v.2 : Nat)])) := same_new nr
            have eD' := nr1 _ _ eD
            refine ⟨D, _, _, rfl, rfl, eD', ?_, r, rfl, same_put0 ((s34.trans s5).trans nr1) nD0, ?_, ?_, ?_⟩
            · rw [refH_len]
              exact big _ (by omega)
            · rw [upd_same, refH_app]
              rfl
            · refine HlsAt.put eD' fun q' hq' => ?_
              rcases List.mem_append.mp hq' with h | h
              · exact nr1 _ _ (hN q' h)
              · rw [List.mem_singleton.mp h]
                exact upd_same
            · rw [upd_ne neD]
              exact nr1 _ _ ek5
          rintro _ H6 ⟨r, rfl, s6, eD6, hN6, ek6⟩
          refine ⟨_, rfl, .inl ⟨rfl, _, SqL.of ek6⟩, _, rfl, kk, _, _, rfl, rfl, ek6, ?_, D, kk, N ++ [(r, v)], _, _, _, _, _, rfl, same_put0 s6 nk, nD0, nk, neD, ?_, HlsAt.put ek6 hN6, ?_, ?_, ?_, ?_, ?_⟩
          · rw [natV_len]
            exact big _ (Nat.le_trans (keptL_len _ i) (by omega))
          · rw [upd_ne neD.symm]
            exact eD6
          · rw [upd_same, k1, natV_app]
            rfl
          · rw [hls_app, eN]
            exact R1
          · intro q' hq'
            rcases List.mem_append.mp hq' with h | h
            · have hm : q'.2 ∈ (hls T).map (lwH n · v) := eN ▸ List.mem_map_of_mem h
              obtain ⟨c, hc, e⟩ := List.mem_map.mp hm
              obtain ⟨q2, hq2, rfl⟩ := List.mem_map.mp hc
              rw [← e]
              unfold lwH
              split
              · exact Nat.xor_lt_two_pow (bT q2 hq2) vlt
              · exact bT q2 hq2
            · rw [List.mem_singleton.mp h]
              exact vlt
          · intro i' h
            by_cases e : i' < i
            · exact hgd i' e
            · have : i' = i := by omega
              rw [this]
              exact gd
          · rw [List.length_append, List.length_singleton]
            omega
      · rintro σ H2 hst
        rw [refH_len] at hst
        exact hst
    rintro _ H2 ⟨t, kk, T, v4, v5, v6, v7, v8, rfl, s2, nt, nk, ne, et, hT, ek, R, bT, hgd, lT⟩
    refine ⟨_, rfl, t, refH T, kV2 H2, rfl, rfl, SqL.of et, fun x hx => ?_, fun ys p srt pm np => ?_⟩
    · obtain ⟨q', hq', rfl⟩ := List.mem_map.mp hx
      refine ⟨q'.1, rfl, ?_⟩
      rw [kV2_at (hT q' hq')]
      exact hT q' hq'
    obtain ⟨T', pT, rfl⟩ := perm_map_inv pm
    refine ⟨p, _, rfl, .inl ⟨SqL.of upd_same, fun l nl => ?_⟩⟩
    have s8 : Same H2 (upd (upd H2 p (.lst (T'.map fun p => V.ref p.1).reverse)) l (.tup (T'.map fun p => V.ref p.1).reverse)) := (same_new np).trans (same_new nl)
    refine q0 _ l T'.reverse (hls T) (s2.trans s8) ?_ ?_ ?_ ?_ R ?_ ?_
    · rw [upd_same]
      unfold refH
      rw [List.map_reverse]
    · intro q' hq'
      exact s8 _ _ (hT q' (pT.mem_iff.mp (List.mem_reverse.mp hq')))
    · unfold hls
      exact ((List.reverse_perm T').trans pT).map _
    · unfold hls
      rw [List.map_reverse, List.pairwise_reverse, List.pairwise_map]
      have h1 := List.pairwise_map.mp srt
      refine h1.imp_of_mem fun {a b} ha hb' h => ?_
      have e1 := kV2_at (hT a (pT.mem_iff.mp ha))
      have e2 := kV2_at (hT b (pT.mem_iff.mp hb'))
      have h2 : SrtO.lexB (kV2 H2 (.ref b.1)) (kV2 H2 (.ref a.1)) = false := h
      rw [e1, e2] at h2
      have h3 := SrtO.lexB_no.mp h2
      simp only at h3
      omega
    · intro h hh
      obtain ⟨q', hq', rfl⟩ := List.mem_map.mp hh
      exact bT q' hq'
    · rw [List.length_reverse, pT.length_eq]
      exact lT
end
end KQ
namespace KQ
open PySem PySem.Spec PyProof.Rows L2
abbrev sIsI : Stmt := topS 19
abbrev sGI : Stmt := inClass (topS 46) 0
theorem scIsI : FnScope ["value"] ["value"] (defScope sIsI) := ⟨rfl, rfl, rfl, by decide +kernel, rfl, by decide +kernel, by decide +kernel⟩
theorem scGI : FnScope ["self", "size", "strings", "string", "given", "bits", "_", "held"] ["self", "size", "strings"] (defScope sGI) := ⟨rfl, rfl, rfl, by decide +kernel, rfl, by decide +kernel, by decide +kernel⟩
/-- values that are told apart -/
def Kd (H : Hp) (v : V) : Prop := (∃ i, v = .int i) ∨ v = .non ∨ (∃ b, v = .bl b) ∨ (∃ x, v = .str x) ∨ ∃ p xs, v = .ref p ∧ H p = some (.lst xs)
def isI : V → Bool
  | .int _ => true
  | _ => false
def spIsI : Sp := fun vs H Q _ => ∃ v, vs = [v] ∧ Kd H v ∧ Q (.bl (isI v)) H
theorem Kd.ty {H : Hp} {v : V} (h : Kd H v) : ∃ n : String, (∀ K, TyX K H v (.type n)) ∧ ((kitB n "int" = some true ∧ kitB n "bool" = some false ∧ isI v = true) ∨ (kitB n "int" = some false ∧ isI v = false) ∨ (kitB n "int" = some true ∧ kitB n "bool" = some true ∧ isI v = false)) := by
  rcases h with ⟨i, rfl⟩ | rfl | ⟨b, rfl⟩ | ⟨x, rfl⟩ | ⟨p, xs, rfl, e⟩
  · exact ⟨_, fun K => .base (.int i), .inl ⟨by decide +kernel, by decide +kernel, rfl⟩⟩
  · exact ⟨_, fun K => .base .non, .inr (.inl ⟨by decide +kernel, rfl⟩)⟩
  · exact ⟨_, fun K => .base (.bl b), .inr (.inr ⟨by decide +kernel, by decide +kernel, rfl⟩)⟩
  · exact ⟨_, fun K => .base (.str x), .inr (.inl ⟨by decide +kernel, rfl⟩)⟩
  · exact ⟨_, fun K => .base (.lst e), .inr (.inl ⟨by decide +kernel, rfl⟩)⟩
structure GCl (K : PySem.W.Frag) (mg : Str → Option Value) (C fI : Addr) : Prop where
  cl : Cls K C
  nS : NoAttr K C "size"
  nH : NoAttr K C "held"
  nB : NoAttr K C "bits"
  nR : NoAttr K C "rows"
  nK : NoAttr K C "rank"
  mkf : Mk K C fI
  g : mg "Group" = some (.ref C)
abbrev PLs := List (Addr × List Nat × Nat)
def PsAt (C : Addr) (H : Hp) (L : PLs) : Prop := ∀ q ∈ L, PauliAt C H q.1 q.2.1 q.2.2
def refP (L : PLs) : List V := L.map fun q => V.ref q.1
def gsOf (L : PLs) : List Hl := L.map fun q => (bL q.2.1, (q.2.2 + q.2.1.count 89) % 4)
structure PsOk (L : PLs) : Prop where
  isl : ∀ q ∈ L, ∀ c ∈ q.2.1, isL c = true
  ne : ∀ q ∈ L, q.2.1 ≠ []
  len : ∀ q ∈ L, q.2.1.length ≤ 300
  ph : ∀ q ∈ L, q.2.2 < 4
  few : L.length ≤ 100
def But (a : Addr) (H H' : Hp) : Prop := ∀ b o, b ≠ a → H b = some o → H' b = some o
theorem yc : ∀ {R : List Nat}, (∀ c ∈ R, isL c = true) → pc (bv lz R &&& bv lx R) = R.count 89
  | [], _ => pc_zero
  | c :: R, h => by
    have ih := yc (R := R) fun d hd => h d (List.mem_cons_of_mem _ hd)
    have e : bv lz (c :: R) &&& bv lx (c :: R) = 2 * (bv lz R &&& bv lx R) + (lz c &&& lx c) := by
      show (lz c + 2 * bv lz R) &&& (lx c + 2 * bv lx R) = _
      rw [Nat.add_comm (lz c), Nat.add_comm (lx c)]
      exact and_two _ _ _ _ (lz_lt c) (lx_lt c)
    rcases isL_iff.mp (h c (List.mem_cons_self ..)) with rfl | rfl | rfl | rfl
    all_goals
      rw [e, pc_two _ _ (by decide), ih, List.count_cons]
      simp [lz, lx]
    omega
theorem gs_sg {R : List Nat} {p : Nat} (hR : ∀ c ∈ R, isL c = true) (hp : p % 2 = 0) : Sg R.length (bL R, (p + R.count 89) % 4) := by
  refine ⟨Nat.mod_lt _ (by decide), ?_⟩
  show (p + R.count 89) % 4 % 2 = tw R.length (bL R) (bL R)
  rw [bL_fB, tw_fB (bv_lt lz_lt R), yc hR]
  omega
theorem xg_com {R R' : List Nat} (h : R.length = R'.length) : pc (ex R.length (bL R) &&& bL R') % 2 = 0 ↔ tw R.length (bL R) (bL R') = tw R.length (bL R') (bL R) := by
  have l1 := bv_lt lx_lt R
  have l2 := bv_lt lz_lt R
  have l3 := bv_lt lx_lt R'
  have l4 := bv_lt lz_lt R'
  rw [← h] at l3 l4
  rw [bL_fB R, bL_fB R', ← h, cross_fB l1 l2, tw_fB l2, tw_fB l4, Nat.and_comm (bv lx R)]
  omega
theorem gs_at {L : PLs} {i : Nat} {q : Addr × List Nat × Nat} (h : L[i]? = some q) : ((gsOf L).map Prod.fst).getD i 0 = bL q.2.1 := by
  unfold gsOf
  rw [List.getD_eq_getElem?_getD, List.getElem?_map, List.getElem?_map, h]
  rfl
theorem gs_cs {n : Nat} {L : PLs} (O : PsOk L) (hn : ∀ q ∈ L, q.2.1.length = n) (hp : ∀ q ∈ L, q.2.2 % 2 = 0) (hx : ∀ i j, i < j → j < L.length → xg n ((gsOf L).map Prod.fst) i j = 0) : CS n (gsOf L) := by
  have key : ∀ i j : Nat, i < j → ∀ q r : Addr × List Nat × Nat, L[i]? = some q → L[j]? = some r → Com n (bL r.2.1, (r.2.2 + r.2.1.count 89) % 4) (bL q.2.1, (q.2.2 + q.2.1.count 89) % 4) := by
    intro i j hij q r hq hr
    have e := hx i j hij (List.getElem?_eq_some_iff.mp hr).1
    unfold xg at e
    rw [gs_at hq, gs_at hr] at e
    have n1 := hn q (List.mem_of_getElem? hq)
    have n2 := hn r (List.mem_of_getElem? hr)
    have := (xg_com (R := r.2.1) (R' := q.2.1) (by omega)).mp (by rw [n2]; exact e)
    rw [n2] at this
    exact this
  refine ⟨fun a ha => ?_, fun a ha b hb => ?_⟩
  · obtain ⟨q, hq, rfl⟩ := List.mem_map.mp ha
    have := gs_sg (O.isl q hq) (hp q hq)
    rw [hn q hq] at this
    exact this
  · obtain ⟨q, hq, rfl⟩ := List.mem_map.mp ha
    obtain ⟨r, hr, rfl⟩ := List.mem_map.mp hb
    obtain ⟨i, hi⟩ := List.getElem?_of_mem hq
    obtain ⟨j, hj⟩ := List.getElem?_of_mem hr
    rcases Nat.lt_trichotomy i j with h | h | h
    · exact (key i j h q r hi hj).symm
    · subst h
      cases hi.symm.trans hj
      exact Com.self _ _
    · exact key j i h r q hj hi
theorem gs_lt {n : Nat} {L : PLs} (hn : ∀ q ∈ L, q.2.1.length = n) : ∀ g ∈ gsOf L, g.1 < 2 ^ (2 * n) := by
  intro g hg
  obtain ⟨q, hq, rfl⟩ := List.mem_map.mp hg
  have := bL_lt q.2.1
  rw [hn q hq] at this
  exact this
theorem bootB : bootBuiltins "bool" = some (.type "bool") := by decide +kernel
section
variable {P : Program} {w : World} {K : PySem.W.Frag} {mg : Str → Option Value} {base : Heap}
theorem ok_isI {f : Addr} {fd : FuncData} {k : Nat} (F : Fun K "is_integer" "is_integer" sIsI f fd) (B : Bl mg) : FnOk P w K mg base CX0 (k + 1) f fd ["value"] spIsI := by
  refine F.ok scIsI (fun vs H Q E h => ?_) (fun cdv A outer s H vs Q E hr h => ?_)
  · obtain ⟨v, rfl, _⟩ := h
    rfl
  · obtain ⟨v, rfl, hk, q⟩ := h
    refine ⟨_, pss_one (ps_ret (pe_and (pe_callB call_isi (by rfl) B.isi PyProof.Rows.boot_isinstance (pa_cons (pv 0) (pa_cons (pe_bltn (v := .ty "int") (by rfl) B.int bootI rfl) pa_nil)))
      (pe_one (pe_not (pe_callB call_isi (by rfl) B.isi PyProof.Rows.boot_isinstance (pa_cons (pv 0) (pa_cons (pe_bltn (v := .ty "bool") (by rfl) B.bool bootB rfl) pa_nil))))))), ?_⟩
    obtain ⟨n, ty, h⟩ := hk.ty
    rcases h with ⟨h1, h2, h3⟩ | ⟨h1, h3⟩ | ⟨h1, h2, h3⟩ <;> rw [h3] at q
    · refine ⟨_, rfl, v, _, _, _, true, rfl, .ty "int", ty K, kit_ty h1, _, rfl, ?_⟩
      exact ⟨_, rfl, v, _, _, _, false, rfl, .ty "bool", ty K, kit_ty h2, _, rfl, q⟩
    · exact ⟨_, rfl, v, _, _, _, false, rfl, .ty "int", ty K, kit_ty h1, _, rfl, q⟩
    · refine ⟨_, rfl, v, _, _, _, true, rfl, .ty "int", ty K, kit_ty h1, _, rfl, ?_⟩
      exact ⟨_, rfl, v, _, _, _, true, rfl, .ty "bool", ty K, kit_ty h2, _, rfl, q⟩
end
end KQ
namespace KQ
open PySem PySem.Spec PyProof.Rows L2
/-- all defs below Group.__init__ -/
structure GEnv (K : PySem.W.Frag) (w : World) (mg : Str → Option Value) (C CT CB fI fE fB fBN hA lA : Addr) (dB dBN : FuncData)
    (fIs fHo fBo fHp fPa fCr fSh fBt fLg fLn fCk fRt fSo fFr fLo fC : Addr) (dI dIs dHo dBo dHp dPa dCr dSh dBt dLg dLn dCk dRt dSo dFr dLo dC : FuncData) : Prop where
  N : PCl K mg C fI fE
  FI : Fun K "__init__" "Pauli.__init__" sInit fI dI
  bI : Binds K dI ["self", "text"] []
  FC : Fun K "_cut_text" "_cut_text" sCut fC dC
  bC : Binds K dC ["text"] []
  gC : mg "_cut_text" = some (.ref fC)
  TT : BT K mg CT fB dB
  XB : EX2 K mg "BadNumber" "BadNumber.__init__" "what" "number" sIBadNumber CB fBN dBN
  hd : Hd4 K mg hA
  lt : Lets K w mg lA
  mz : mg "zip" = none
  B : Bl mg
  FIs : Fun K "is_integer" "is_integer" sIsI fIs dIs
  bIs : Binds K dIs ["value"] []
  gIs : mg "is_integer" = some (.ref fIs)
  FHo : Fun K "held_of" "held_of" sHeld fHo dHo
  bHo : Binds K dHo ["string"] []
  gHo : mg "held_of" = some (.ref fHo)
  FBo : Fun K "bits_of" "bits_of" sBof fBo dBo
  bBo : Binds K dBo ["string"] []
  gBo : mg "bits_of" = some (.ref fBo)
  FHp : Fun K "held_product" "held_product" sHprod fHp dHp
  bHp : Binds K dHp ["size", "one", "other"] []
  gHp : mg "held_product" = some (.ref fHp)
  FPa : Fun K "parity" "parity" sPar fPa dPa
  bPa : Binds K dPa ["number"] []
  gPa : mg "parity" = some (.ref fPa)
  FCr : Fun K "crossing" "crossing" sCrossg fCr dCr
  bCr : Binds K dCr ["size", "bits", "others"] []
  gCr : mg "crossing" = some (.ref fCr)
  FSh : Fun K "second_half" "second_half" sHalf fSh dSh
  bSh : Binds K dSh ["size", "bits"] []
  gSh : mg "second_half" = some (.ref fSh)
  FBt : Fun K "bit_tuple" "bit_tuple" sBits fBt dBt
  bBt : Binds K dBt ["number", "many"] []
  gBt : mg "bit_tuple" = some (.ref fBt)
  FLg : Fun K "_lowered" "_lowered" sLowG fLg dLg
  bLg : Binds K dLg ["size", "held", "table"] []
  gLg : mg "lowered_groups" = some (.ref fLg)
  FLn : Fun K "_lowered" "_lowered" sLow fLn dLn
  bLn : Binds K dLn ["number", "marks", "table"] []
  gLn : mg "lowered_bitnumbers" = some (.ref fLn)
  FCk : Fun K "_check_commuting" "_check_commuting" sChk fCk dCk
  bCk : Binds K dCk ["size", "rows"] []
  gCk : mg "_check_commuting" = some (.ref fCk)
  FRt : Fun K "_reduced_table" "_reduced_table" sRedT fRt dRt
  bRt : Binds K dRt ["size", "given"] []
  gRt : mg "_reduced_table" = some (.ref fRt)
  FSo : Fun K "string_of" "string_of" sSof fSo dSo
  bSo : Binds K dSo ["size", "held"] []
  gSo : mg "string_of" = some (.ref fSo)
  FFr : Fun K "string_from" "string_from" sFrom fFr dFr
  bFr : Binds K dFr ["letters", "phase"] []
  gFr : mg "string_from" = some (.ref fFr)
  FLo : Fun K "letters_of" "letters_of" sLof fLo dLo
  bLo : Binds K dLo ["size", "bits"] []
  gLo : mg "letters_of" = some (.ref fLo)
/-- what a group holds -/
def GroupAt (CG C : Addr) (H : Hp) (a : Addr) (n : Nat) (M : GLs) : Prop := ∃ dx fs p b r M', H a = some (.ins CG dx fs) ∧ fs.lookup ("size" : Str) = some (.int (n : Nat)) ∧ fs.lookup ("held" : Str) = some (.ref p) ∧ fs.lookup ("bits" : Str) = some (.ref b) ∧
  fs.lookup ("rows" : Str) = some (.ref r) ∧ fs.lookup ("rank" : Str) = some (.int (M.length : Nat)) ∧ fs.lookup ("syndrome_of" : Str) = none ∧ H p = some (.tup (refH M)) ∧ HlsAt H M ∧ H b = some (.tup (natV ((hls M).map Prod.fst))) ∧
  H r = some (.tup (refP M')) ∧ PsAt C H M' ∧ M'.map (·.2) = (hls M).map fun h => (LO n h.1, (((h.2 : Int) - ((LO n h.1).count 89 : Nat)) % 4).toNat)
def spGI (K : PySem.W.Frag) (C CG : Addr) : Sp := fun vs H Q _ => ∃ (a dx : Addr) (n : Nat) (ts : Addr) (L : PLs), vs = [.ref a, .int (n : Nat), .ref ts] ∧ H a = some (.ins CG dx []) ∧ SqL K H ts (refP L) ∧ PsAt C H L ∧ PsOk L ∧ 1 ≤ n ∧ n ≤ 300 ∧ (∀ q ∈ L, q.2.1.length = n) ∧ (∀ q ∈ L, q.2.2 % 2 = 0) ∧
  (∀ i j, i < j → j < L.length → xg n ((gsOf L).map Prod.fst) i j = 0) ∧ (∀ i, i < L.length → Good n (gsOf L) i) ∧
  ∀ H' M T, But a H H' → GroupAt CG C H' a n M → (hls M).Perm T → (hls M).Pairwise (fun a b => b.1 ≤ a.1) → RedAt n (gsOf L) L.length T → Q .non H'
theorem putF_le (f : Str) (v : V) : ∀ fs : List (Str × V), (putF f v fs).length ≤ fs.length + 1
  | [] => Nat.le_refl _
  | (g, x) :: r => by
    unfold putF
    split
    · exact Nat.le_succ _
    · rw [List.length_cons, List.length_cons]
      have := putF_le f v r
      omega
theorem refP_at {L : PLs} {i : Nat} {v : V} (h : (refP L)[i]? = some v) : ∃ q, L[i]? = some q ∧ v = .ref q.1 := by
  unfold refP at h
  rw [List.getElem?_map] at h
  obtain ⟨q, hq, rfl⟩ := Option.map_eq_some_iff.mp h
  exact ⟨q, hq, rfl⟩
theorem refP_len (L : PLs) : (refP L).length = L.length := List.length_map ..
theorem gsOf_len (L : PLs) : (gsOf L).length = L.length := List.length_map ..
theorem PauliAt.same {C : Addr} {H H' : Hp} {a : Addr} {R : List Nat} {p : Nat} (s : Same H H') (h : PauliAt C H a R p) : PauliAt C H' a R p := let ⟨dx, fs, e, r⟩ := h; ⟨dx, fs, s _ _ e, r⟩
theorem PauliAt.put {C : Addr} {H : Hp} {a D : Addr} {R : List Nat} {p : Nat} {xs : List V} {o : HO} (e : H D = some (.lst xs)) (h : PauliAt C H a R p) : PauliAt C (upd H D o) a R p := by
  obtain ⟨dx, fs, e2, r⟩ := h
  refine ⟨dx, fs, ?_, r⟩
  rw [upd_ne fun z => by rw [z, e] at e2; cases e2]
  exact e2
theorem But.of {a : Addr} {H H' : Hp} (s : Same H H') : But a H H' := fun b o _ e => s b o e
theorem But.trans {a : Addr} {H G H' : Hp} (s : But a H G) (t : But a G H') : But a H H' := fun b o n e => t b o n (s b o n e)
theorem But.upd {a : Addr} {H : Hp} {o : HO} : But a H (upd H a o) := fun b u n e => by rw [upd_ne n]; exact e
theorem HlsAt.but {a C dx : Addr} {fs : List (Str × V)} {H H' : Hp} {L : GLs} (ea : H a = some (.ins C dx fs)) (b : But a H H') (h : HlsAt H L) : HlsAt H' L := fun p hp => by
  have e := h p hp
  exact b _ _ (fun z => by unfold HlAt at e; rw [z, ea] at e; cases e) e
section
variable {P : Program} {w : World} {K : PySem.W.Frag} {mg : Str → Option Value} {base : Heap}
set_option linter.unusedVariables false in
theorem ok_ginit {f C CG CT CB fI fE fB fBN hA lA : Addr} {fd dB dBN : FuncData} {fIs fHo fBo fHp fPa fCr fSh fBt fLg fLn fCk fRt fSo fFr fLo fC : Addr} {dI dIs dHo dBo dHp dPa dCr dSh dBt dLg dLn dCk dRt dSo dFr dLo dC : FuncData}
    (F : Fun K "__init__" "Group.__init__" sGI f fd) (G : GCl K mg CG f) (cne : C ≠ CG)
    (T : GEnv K w mg C CT CB fI fE fB fBN hA lA dB dBN fIs fHo fBo fHp fPa fCr fSh fBt fLg fLn fCk fRt fSo fFr fLo fC dI dIs dHo dBo dHp dPa dCr dSh dBt dLg dLn dCk dRt dSo dFr dLo dC) :
    FnOk P w K mg base (L2.CX P w) 8 f fd ["self", "size", "strings"] (spGI K C CG) := by
  have GIs : FnOk P w K mg base CX0 7 fIs dIs ["value"] spIsI := ok_isI T.FIs T.B
  have GHo : FnOk P w K mg base CX0 7 fHo dHo ["string"] (spHeld C) := ok_held T.FHo T.FBo T.bBo T.gBo T.N T.B
  have GCk : FnOk P w K mg base (L2.CX P w) 4 fCk dCk ["size", "rows"] (spChk K) := ok_chk T.FCk T.FCr T.bCr T.gCr T.FBt T.bBt T.gBt T.FSh T.bSh T.gSh T.FPa T.bPa T.gPa T.B
  have GRt : FnOk P w K mg base (L2.CX P w) 4 fRt dRt ["size", "given"] (spRedT K) := ok_redT T.FRt T.FLg T.bLg T.gLg T.FHp T.bHp T.gHp T.FPa T.bPa T.gPa T.B
  have GSo : FnOk P w K mg base (L2.CX P w) 7 fSo dSo ["size", "held"] (spSof C) := ok_sof T.FSo T.FFr T.bFr T.gFr T.FLo T.bLo T.gLo T.FSh T.bSh T.gSh T.N T.FI T.bI T.FC T.bC T.gC T.TT T.hd T.lt T.mz T.B
  refine F.okX scGI (fun vs H Q E h => ?_) (fun cdv A outer s H vs Q E hr h => ?_)
  · obtain ⟨a, dx, n, ts, L, rfl, _⟩ := h
    rfl
  · obtain ⟨a, dx, n, ts, L, rfl, ea, hS, hP, O, n1, hn, hlen, hph, hz, hgood, qG⟩ := h
    have r4 : Room 4 _ := hr.mono (by decide)
    have r5 : Room 5 _ := hr.mono (by decide)
    refine ⟨_, C8.pss_cut (ps_if (PW.pt (pw_or (pt_not (pt_val (pe_call GIs hr (by rfl) T.gIs T.FIs.kp T.bIs .nil pass0 (pa_cons (pv 1) pa_nil)))) (pw_or1 (pt_cmpR op_lt (pv 1) pe_int (nomark _)))))
        pss_never pss_nil)
      (C8.pss_cut (ps_for (passes_of rfl) rfl (pi_list (pv 2)) (pg_name (i := 3) scGI.nd rfl (.inl rfl))
        (pss_one (ps_if (pt_cmpR op_ne (pe_fld (pv 3) rfl) (pv 1) (nomark _)) pss_never pss_nil)))
      (C8.pss_cut (ps_for (passes_of rfl) rfl (pi_list (pv 2)) (pg_name (i := 3) scGI.nd rfl (.inl rfl))
        (pss_one (ps_if (pt_cmpR op_eq (pe_op op_mod (pe_fld (pv 3) rfl) pe_int) pe_int (nomark _)) pss_never pss_nil)))
      (C8.pss_cut (ps_setLc (i := 4) (own := [("string", 3)]) (g := gName 3) (by rfl) scGI.nd rfl rfl (sw_true rfl rfl rfl (by decide +kernel)) (pi_list (pv 2)) (blkOk_by (own := [("string", 3)]) (N := ["self", "size", "strings", "string", "given", "bits", "_", "held"]) (sc := defScope sGI) (by decide +kernel))
          (fun _ _ _ _ _ => pg_name (i := 3) scGI.nd rfl (Or.inl rfl)) (fun _ _ _ _ _ => pts_nil) (fun _ _ _ _ _ => pe_call GHo hr (by rfl) T.gHo T.FHo.kp T.bHo .nil pass0 (pa_cons (pv 3) pa_nil)))
      (C8.pss_cut (ps_expr (pe_call GCk r4 (by rfl) T.gCk T.FCk.kp T.bCk .nil (passes_call (takes_of rfl rfl rfl rfl) (fun _ _ _ _ h => h)) (pa_cons (pv 1) (pa_cons (pe_lc (own := [("bits", 5), ("_", 6)]) (g := gTup K 2 (gCons (gName 5) (gCons (gName 6) gNil))) (by rfl) scGI.nd (pi_list (pv 4)) (blkOk_by (own := [("bits", 5), ("_", 6)]) (N := ["self", "size", "strings", "string", "given", "bits", "_", "held"]) (sc := defScope sGI) (by decide +kernel))
          (fun _ _ _ _ _ => pg_tup rfl (pgs_cons (pg_name (i := 5) scGI.nd rfl (Or.inl rfl)) (pgs_cons (pg_name (i := 6) scGI.nd rfl (Or.inl rfl)) pgs_nil))) (fun _ _ _ _ _ => pts_nil) (fun _ _ _ _ _ => pv 5)) pa_nil))))
      (C8.pss_cut (ps_fld (pv 0) (pv 1) rfl)
      (C8.pss_cut (ps_fld (pv 0) (pe_call GRt r4 (by rfl) T.gRt T.FRt.kp T.bRt .nil (passes_call (takes_of rfl rfl rfl rfl) (fun _ _ _ _ h => h)) (pa_cons (pv 1) (pa_cons (pv 4) pa_nil))) rfl)
      (C8.pss_cut (ps_fld (pv 0) (pe_callTy call_tuple_of (by rfl) T.B.tuple bootT (pa_cons (pe_lc (own := [("bits", 5), ("_", 6)]) (g := gTup K 2 (gCons (gName 5) (gCons (gName 6) gNil))) (by rfl) scGI.nd (pi_tup (pe_fld (pv 0) rfl)) (blkOk_by (own := [("bits", 5), ("_", 6)]) (N := ["self", "size", "strings", "string", "given", "bits", "_", "held"]) (sc := defScope sGI) (by decide +kernel))
          (fun _ _ _ _ _ => pg_tup rfl (pgs_cons (pg_name (i := 5) scGI.nd rfl (Or.inl rfl)) (pgs_cons (pg_name (i := 6) scGI.nd rfl (Or.inl rfl)) pgs_nil))) (fun _ _ _ _ _ => pts_nil) (fun _ _ _ _ _ => pv 5)) pa_nil)) rfl)
      (C8.pss_cut (ps_fld (pv 0) (pe_callTy call_tuple_of (by rfl) T.B.tuple bootT (pa_cons (pe_lc (own := [("held", 7)]) (g := gName 7) (by rfl) scGI.nd (pi_tup (pe_fld (pv 0) rfl)) (blkOk_by (own := [("held", 7)]) (N := ["self", "size", "strings", "string", "given", "bits", "_", "held"]) (sc := defScope sGI) (by decide +kernel))
          (fun _ _ _ _ _ => pg_name (i := 7) scGI.nd rfl (Or.inl rfl)) (fun _ _ _ _ _ => pts_nil) (fun _ _ _ _ _ => pe_call GSo hr (by rfl) T.gSo T.FSo.kp T.bSo .nil passL (pa_cons (pv 1) (pa_cons (pv 7) pa_nil)))) pa_nil)) rfl)
      (pss_one (ps_fld (pv 0) (pe_callB call_len_seq (by rfl) T.B.len PySem.boot_len (pa_cons (pe_fld (pv 0) rfl) pa_nil)) rfl)))))))))), ?_⟩
    have big : ∀ m, m ≤ 100 → m < sizeLine := fun m h => Nat.lt_of_le_of_lt h (by decide)
    refine ⟨fun σ' H' => σ' = [some (.ref a), some (.int (n : Nat)), some (.ref ts), none, none, none, none, none] ∧ H' = H, ?_, ?_⟩
    · refine ⟨_, rfl, _, rfl, .inl ⟨_, rfl⟩, _, rfl, ⟨_, rfl, _, _, rfl, rfl, _, rfl, ?_⟩⟩
      rw [decide_eq_false (by omega)]
      exact ⟨rfl, rfl⟩
    rintro _ H3 ⟨rfl, eH⟩
    subst eH
    have att : ∀ q ∈ L, ∃ dx fs, H3 q.1 = some (.ins C dx fs) ∧ fs.lookup ("phase" : Str) = some (.int (q.2.2 : Int)) ∧ fs.lookup ("size" : Str) = some (.int (q.2.1.length : Int)) := fun q hq => by
      obtain ⟨dx, fs, e, l1, l2, l3, l4⟩ := hP q hq
      exact ⟨dx, fs, e, l2, l3⟩
    refine ⟨fun σ' H' => ∃ v3, σ' = [some (.ref a), some (.int (n : Nat)), some (.ref ts), v3, none, none, none, none] ∧ H' = H3, ?_, ?_⟩
    · refine ⟨_, rfl, ts, rfl, ⟨_, hS⟩, for_list (K := K) (a := ts) (xs := refP L) (fun i σ H' => ∃ v3, σ = [some (.ref a), some (.int (n : Nat)), some (.ref ts), v3, none, none, none, none] ∧ H' = H3)
        ⟨none, rfl, rfl⟩ (fun i σ H' _ ⟨_, _, e⟩ => by rw [e]; exact hS) ?_ (fun σ H' h => h)⟩
      rintro i y σ H' hi ⟨v3, rfl, rfl⟩
      obtain ⟨q, hq, rfl⟩ := refP_at hi
      have hm := List.mem_of_getElem? hq
      obtain ⟨dy, gs, e', l2, l3⟩ := att q hm
      refine ⟨_, rfl, q.1, C, dy, gs, _, rfl, e', T.N.cl, T.N.nS, l3, _, rfl, rfl, false, ?_, iteF ⟨_, rfl, rfl⟩⟩
      rw [hlen q hm, decide_eq_true rfl]
      rfl
    rintro _ H2 ⟨v3, rfl, eH⟩
    subst eH
    refine ⟨fun σ' H' => ∃ v3, σ' = [some (.ref a), some (.int (n : Nat)), some (.ref ts), v3, none, none, none, none] ∧ H' = H2, ?_, ?_⟩
    · refine ⟨_, rfl, ts, rfl, ⟨_, hS⟩, for_list (K := K) (a := ts) (xs := refP L) (fun i σ H' => ∃ v3, σ = [some (.ref a), some (.int (n : Nat)), some (.ref ts), v3, none, none, none, none] ∧ H' = H2)
        ⟨v3, rfl, rfl⟩ (fun i σ H' _ ⟨_, _, e⟩ => by rw [e]; exact hS) ?_ (fun σ H' h => h)⟩
      rintro i y σ H' hi ⟨v3, rfl, rfl⟩
      obtain ⟨q, hq, rfl⟩ := refP_at hi
      have hm := List.mem_of_getElem? hq
      obtain ⟨dy, gs, e', l2, l3⟩ := att q hm
      refine ⟨_, rfl, q.1, C, dy, gs, _, rfl, e', T.N.cl, T.N.nP, l2, _, _, rfl, rfl, (by show (0 : Int) < 2; decide), rfl, false, ?_, iteF ⟨_, rfl, rfl⟩⟩
      have hp := hph q hm
      show V.bl (decide (V.int ((q.2.2 : Int) % 2) = V.int 1)) = _
      refine congrArg V.bl (decide_eq_false fun z => ?_)
      have := V.int.inj z
      omega
    rintro _ H3 ⟨v3, rfl, eH⟩
    subst eH
    refine ⟨fun σ' H' => ∃ (D : Addr) (N : GLs), σ' = [some (.ref a), some (.int (n : Nat)), some (.ref ts), v3, some (.ref D), none, none, none] ∧ Same H3 H' ∧ H3 D = none ∧ H' D = some (.lst (refH N)) ∧ HlsAt H' N ∧ hls N = gsOf L, ?_, ?_⟩
    · refine ⟨_, rfl, ts, rfl, ⟨_, hS⟩, fun D nD => ?_⟩
      refine lc_list (K := K) (a := ts) (xs := refP L) (Pv := fun j Hc => Same H3 Hc ∧ ∃ N : GLs, Hc D = some (.lst (refH N)) ∧ HlsAt Hc N ∧ hls N = (gsOf L).take j ∧ N.length ≤ j) ⟨same_new nD, [], upd_same, fun p hp => (by cases hp), rfl, Nat.le_refl _⟩ (fun j Hc _ ⟨sc, _⟩ => Same.seq sc hS) ?_ ?_
      · rintro j y Hc hj ⟨sc, N, eD, hN, eN, lN⟩
        obtain ⟨q, hq, rfl⟩ := refP_at hj
        have hm := List.mem_of_getElem? hq
        refine ⟨rfl, _, rfl, q.1, q.2.1, q.2.2, rfl, (hP q hm).same sc, O.isl q hm, O.ne q hm, O.len q hm, fun H' x s' nx ex' => ?_⟩
        have eD' := s' _ _ eD
        refine ⟨refH N, eD', ?_, same_put0 (sc.trans s') nD, N ++ [(x, (bL q.2.1, (q.2.2 + q.2.1.count 89) % 4))], ?_, ?_, ?_, ?_⟩
        · rw [refH_len]
          have := (List.getElem?_eq_some_iff.mp hq).1
          have := O.few
          exact big _ (by omega)
        · rw [upd_same, refH_app]
          rfl
        · refine HlsAt.put eD' fun p hp => ?_
          rcases List.mem_append.mp hp with k | k
          · exact s' _ _ (hN p k)
          · rw [List.mem_singleton.mp k]
            exact ex'
        · have e2 : (gsOf L)[j]? = some (bL q.2.1, (q.2.2 + q.2.1.count 89) % 4) := by unfold gsOf; rw [List.getElem?_map, hq]; rfl
          rw [hls_app, eN, take_snoc e2]
          rfl
        · rw [List.length_append, List.length_singleton]
          omega
      · rintro Hc ⟨sc, N, eD, hN, eN, lN⟩
        rw [List.take_of_length_le (by rw [gsOf_len, refP_len]; exact Nat.le_refl _)] at eN
        exact ⟨D, N, rfl, sc, nD, eD, hN, eN⟩
    rintro _ H4 ⟨D, N, rfl, s4, nD, eD, hN, eN⟩
    have lN : N.length = L.length := by
      have := congrArg List.length eN
      rwa [hls_len, gsOf_len] at this
    have hlt := gs_lt hlen
    refine ⟨fun σ' H' => σ' = [some (.ref a), some (.int (n : Nat)), some (.ref ts), v3, some (.ref D), none, none, none] ∧ Same H4 H', ?_, ?_⟩
    · refine ⟨_, rfl, _, rfl, D, rfl, ⟨_, SqL.of eD⟩, fun D2 nD2 => ?_⟩
      refine lc_list (K := K) (a := D) (xs := refH N) (Pv := fun j Hc => Same H4 Hc ∧ Hc D2 = some (.lst (natV (((gsOf L).map Prod.fst).take j)))) ⟨same_new nD2, upd_same⟩ (fun j Hc _ ⟨sc, _⟩ => SqL.of (sc _ _ eD)) ?_ ?_
      · rintro j y Hc hj ⟨sc, ec⟩
        obtain ⟨p, hp, rfl⟩ := refH_at hj
        have hy := hN.same sc p (List.mem_of_getElem? hp)
        refine ⟨p.1, _, rfl, .inl (.inl hy), rfl, _, _, rfl, _, _, rfl, rfl, rfl, _, rfl, _, ec, ?_, same_put0 sc nD2, ?_⟩
        · rw [natV_len, List.length_take, List.length_map, gsOf_len]
          have := O.few
          exact big _ (by omega)
        · have e2 : ((gsOf L).map Prod.fst)[j]? = some p.2.1 := by rw [← eN]; unfold hls; rw [List.getElem?_map, List.getElem?_map, hp]; rfl
          rw [upd_same, take_snoc e2, natV_app]
          rfl
      · rintro Hc ⟨sc, ec⟩
        rw [List.take_of_length_le (by rw [List.length_map, gsOf_len, refH_len, lN]; exact Nat.le_refl _)] at ec
        have s5 := s4.trans sc
        refine ⟨n, D2, (gsOf L).map Prod.fst, rfl, SqL.of ec, hn, by rw [List.length_map, gsOf_len]; exact O.few, fun b hb => ?_, fun i j h1 h2 => hz i j h1 (by rw [List.length_map, gsOf_len] at h2; exact h2), fun H' s' => ⟨rfl, sc.trans s'⟩⟩
        obtain ⟨g, hg, rfl⟩ := List.mem_map.mp hb
        exact hlt g hg
    rintro _ H5 ⟨rfl, s5⟩
    have s35 := s4.trans s5
    have ea5 := s35 _ _ ea
    have eD5 := s5 _ _ eD
    have hN5 := hN.same s5
    have cs := gs_cs O hlen hph hz
    refine ⟨fun σ' H' => σ' = [some (.ref a), some (.int (n : Nat)), some (.ref ts), v3, some (.ref D), none, none, none] ∧ But a H3 H' ∧ H' D = some (.lst (refH N)) ∧ HlsAt H' N ∧ ∃ fs, H' a = some (.ins CG dx fs) ∧ fs.length ≤ 1 ∧ fs.lookup ("syndrome_of" : Str) = none ∧ fs.lookup ("size" : Str) = some (.int (n : Nat)), ?_, ?_⟩
    · refine ⟨_, rfl, _, rfl, a, CG, dx, _, rfl, ea5, G.cl, G.nS, by show 0 < 1000; decide, ?_⟩
      have neD : D ≠ a := fun z => by rw [z, ea5] at eD5; cases eD5
      exact ⟨rfl, (But.of s35).trans But.upd, by rw [upd_ne neD]; exact eD5, hN5.but ea5 But.upd, _, upd_same, Nat.le_refl _, by rw [lookup_putF, if_neg (by decide +kernel)]; rfl, by rw [lookup_putF, if_pos rfl]⟩
    rintro _ H6 ⟨rfl, b6, eD6, hN6, fs6, ea6, fl6, no6, lk6⟩
    refine ⟨fun σ' H' => σ' = [some (.ref a), some (.int (n : Nat)), some (.ref ts), v3, some (.ref D), none, none, none] ∧ But a H3 H' ∧ ∃ (fs : List (Str × V)) (p : Addr) (M : GLs) (T' : List Hl), H' a = some (.ins CG dx fs) ∧ fs.length ≤ 2 ∧ fs.lookup ("syndrome_of" : Str) = none ∧ fs.lookup ("size" : Str) = some (.int (n : Nat)) ∧ fs.lookup ("held" : Str) = some (.ref p) ∧
        H' p = some (.tup (refH M)) ∧ HlsAt H' M ∧ (hls M).Perm T' ∧ (hls M).Pairwise (fun a b => b.1 ≤ a.1) ∧ RedAt n (gsOf L) L.length T' ∧ (∀ h ∈ T', h.1 < 2 ^ (2 * n)) ∧ M.length ≤ L.length, ?_, ?_⟩
    · refine ⟨_, rfl, _, rfl, n, D, N, rfl, SqL.of eD6, hN6, by rw [lN]; exact O.few, hn, by rw [eN]; exact cs, fun p hp => hlt _ (by rw [← eN]; exact List.mem_map_of_mem hp), ?_⟩
      rw [eN, lN]
      refine ⟨hgood, fun H' p M T' s' ep hM pm pw R bT lM => ?_⟩
      have ea' := s' _ _ ea6
      have np : p ≠ a := fun z => by rw [z, ea'] at ep; cases ep
      refine ⟨_, rfl, a, CG, dx, _, rfl, ea', G.cl, G.nH, by omega, rfl, (b6.trans (But.of s')).trans But.upd, _, p, M, T', upd_same, ?_, ?_, ?_, ?_, (upd_ne np).trans ep, hM.but ea' But.upd, pm, pw, R, bT, lM⟩
      · exact Nat.le_trans (putF_le _ _ _) (by omega)
      · rw [lookup_putF, if_neg (by decide +kernel)]
        exact no6
      · rw [lookup_putF, if_neg (by decide +kernel)]
        exact lk6
      · rw [lookup_putF, if_pos rfl]
    rintro _ H7 ⟨rfl, b7, fs7, p, M, T', ea7, fl7, no7, sz7, hd7, ep, hM, pm, pw, R, bT, lM⟩
    have mM : ∀ q ∈ M, q.2.1 < 2 ^ (2 * n) := fun q hq => bT q.2 (pm.mem_iff.mp (List.mem_map_of_mem hq))
    refine ⟨fun σ' H' => σ' = [some (.ref a), some (.int (n : Nat)), some (.ref ts), v3, some (.ref D), none, none, none] ∧ But a H3 H' ∧ ∃ (fs : List (Str × V)) (b : Addr), H' a = some (.ins CG dx fs) ∧ fs.length ≤ 3 ∧ fs.lookup ("syndrome_of" : Str) = none ∧ fs.lookup ("size" : Str) = some (.int (n : Nat)) ∧ fs.lookup ("held" : Str) = some (.ref p) ∧ fs.lookup ("bits" : Str) = some (.ref b) ∧
        H' p = some (.tup (refH M)) ∧ HlsAt H' M ∧ H' b = some (.tup (natV ((hls M).map Prod.fst))), ?_, ?_⟩
    · refine ⟨_, rfl, a, CG, dx, fs7, _, rfl, ea7, G.cl, G.nH, hd7, p, rfl, ⟨_, .inl (.inl ep)⟩, fun D2 nD2 => ?_⟩
      refine lc_tup (K := K) (a := p) (xs := refH M) (Pv := fun j Hc => Same H7 Hc ∧ Hc D2 = some (.lst (natV (((hls M).map Prod.fst).take j)))) ⟨same_new nD2, upd_same⟩ (fun j Hc _ ⟨sc, _⟩ => .inl (.inl (sc _ _ ep))) ?_ ?_
      · rintro j y Hc hj ⟨sc, ec⟩
        obtain ⟨q, hq, rfl⟩ := refH_at hj
        have hy := hM.same sc q (List.mem_of_getElem? hq)
        refine ⟨q.1, _, rfl, .inl (.inl hy), rfl, _, _, rfl, _, _, rfl, rfl, rfl, _, rfl, _, ec, ?_, same_put0 sc nD2, ?_⟩
        · rw [natV_len, List.length_take, List.length_map, hls_len]
          have := O.few
          exact big _ (by omega)
        · have e2 : ((hls M).map Prod.fst)[j]? = some q.2.1 := by unfold hls; rw [List.getElem?_map, List.getElem?_map, hq]; rfl
          rw [upd_same, take_snoc e2, natV_app]
          rfl
      · rintro Hc ⟨sc, ec⟩
        rw [List.take_of_length_le (by rw [List.length_map, hls_len, refH_len]; exact Nat.le_refl _)] at ec
        refine ⟨D2, _, rfl, .inl ⟨SqL.of ec, fun l nl => ?_⟩⟩
        have sl := sc.trans (same_new (o := .tup (natV ((hls M).map Prod.fst))) nl)
        have ea' := sl _ _ ea7
        have el : (upd Hc l (.tup (natV ((hls M).map Prod.fst)))) l = some (.tup (natV ((hls M).map Prod.fst))) := upd_same
        have nl' : l ≠ a := ne_of el ea' (fun z => by cases z)
        have np : p ≠ a := fun z => by rw [z, ea7] at ep; cases ep
        refine ⟨_, rfl, a, CG, dx, _, rfl, ea', G.cl, G.nB, by omega, rfl, (b7.trans (But.of sl)).trans But.upd, _, l, upd_same, ?_, ?_, ?_, ?_, ?_, (upd_ne np).trans (sl _ _ ep), (hM.same sl).but ea' But.upd, (upd_ne nl').trans el⟩
        · exact Nat.le_trans (putF_le _ _ _) (by omega)
        · rw [lookup_putF, if_neg (by decide +kernel)]
          exact no7
        · rw [lookup_putF, if_neg (by decide +kernel)]
          exact sz7
        · rw [lookup_putF, if_neg (by decide +kernel)]
          exact hd7
        · rw [lookup_putF, if_pos rfl]
    rintro _ H8 ⟨rfl, b8, fs8, bb, ea8, fl8, no8, sz8, hd8, bt8, ep8, hM8, eb8⟩
    let fo : Hl → List Nat × Nat := fun h => (LO n h.1, (((h.2 : Int) - ((LO n h.1).count 89 : Nat)) % 4).toNat)
    refine ⟨fun σ' H' => σ' = [some (.ref a), some (.int (n : Nat)), some (.ref ts), v3, some (.ref D), none, none, none] ∧ But a H3 H' ∧ ∃ (fs : List (Str × V)) (r : Addr) (M' : PLs), H' a = some (.ins CG dx fs) ∧ fs.length ≤ 4 ∧ fs.lookup ("syndrome_of" : Str) = none ∧ fs.lookup ("size" : Str) = some (.int (n : Nat)) ∧ fs.lookup ("held" : Str) = some (.ref p) ∧ fs.lookup ("bits" : Str) = some (.ref bb) ∧
        fs.lookup ("rows" : Str) = some (.ref r) ∧ H' p = some (.tup (refH M)) ∧ HlsAt H' M ∧ H' bb = some (.tup (natV ((hls M).map Prod.fst))) ∧ H' r = some (.tup (refP M')) ∧ PsAt C H' M' ∧ M'.map (·.2) = (hls M).map fo, ?_, ?_⟩
    · refine ⟨_, rfl, a, CG, dx, fs8, _, rfl, ea8, G.cl, G.nH, hd8, p, rfl, ⟨_, .inl (.inl ep8)⟩, fun D2 nD2 => ?_⟩
      refine lc_tup (K := K) (a := p) (xs := refH M) (Pv := fun j Hc => Same H8 Hc ∧ ∃ N' : PLs, Hc D2 = some (.lst (refP N')) ∧ PsAt C Hc N' ∧ N'.map (·.2) = ((hls M).take j).map fo ∧ N'.length ≤ j) ⟨same_new nD2, [], upd_same, fun q hq => (by cases hq), rfl, Nat.le_refl _⟩ (fun j Hc _ ⟨sc, _⟩ => .inl (.inl (sc _ _ ep8))) ?_ ?_
      · rintro j y Hc hj ⟨sc, N', ec, hN', eN', lN'⟩
        obtain ⟨q, hq, rfl⟩ := refH_at hj
        have hm := List.mem_of_getElem? hq
        have hy := hM8.same sc q hm
        refine ⟨rfl, _, rfl, _, rfl, n, q.1, q.2, rfl, hy, n1, hn, mM q hm, fun H' x s' PX => ?_⟩
        have ec' := s' _ _ ec
        refine ⟨refP N', ec', ?_, same_put0 (sc.trans s') nD2, N' ++ [(x, fo q.2)], ?_, ?_, ?_, ?_⟩
        · rw [refP_len]
          have := (List.getElem?_eq_some_iff.mp hq).1
          have := O.few
          exact big _ (by omega)
        · rw [upd_same]
          unfold refP
          rw [List.map_append]
          rfl
        · intro r hr'
          rcases List.mem_append.mp hr' with k | k
          · exact ((hN' r k).same s').put ec'
          · rw [List.mem_singleton.mp k]
            exact PX.put ec'
        · have e2 : (hls M)[j]? = some q.2 := by unfold hls; rw [List.getElem?_map, hq]; rfl
          rw [List.map_append, eN', take_snoc e2, List.map_append]
          rfl
        · rw [List.length_append, List.length_singleton]
          omega
      · rintro Hc ⟨sc, N', ec, hN', eN', lN'⟩
        rw [List.take_of_length_le (by rw [hls_len, refH_len]; exact Nat.le_refl _)] at eN'
        refine ⟨D2, _, rfl, .inl ⟨SqL.of ec, fun l nl => ?_⟩⟩
        have s1 := same_new (o := .tup (refP N')) nl
        have sl := sc.trans s1
        have ea' := sl _ _ ea8
        have el : (upd Hc l (.tup (refP N'))) l = some (.tup (refP N')) := upd_same
        have nl' : l ≠ a := ne_of el ea' (fun z => by cases z)
        have np : p ≠ a := ne_of ep8 ea8 (fun z => by cases z)
        have nb : bb ≠ a := ne_of eb8 ea8 (fun z => by cases z)
        refine ⟨_, rfl, a, CG, dx, _, rfl, ea', G.cl, G.nR, by omega, rfl, (b8.trans (But.of sl)).trans But.upd, _, l, N', upd_same, ?_, ?_, ?_, ?_, ?_, ?_, (upd_ne np).trans (sl _ _ ep8), (hM8.same sl).but ea' But.upd, (upd_ne nb).trans (sl _ _ eb8), (upd_ne nl').trans el, ?_, eN'⟩
        · exact Nat.le_trans (putF_le _ _ _) (by omega)
        · rw [lookup_putF, if_neg (by decide +kernel)]
          exact no8
        · rw [lookup_putF, if_neg (by decide +kernel)]
          exact sz8
        · rw [lookup_putF, if_neg (by decide +kernel)]
          exact hd8
        · rw [lookup_putF, if_neg (by decide +kernel)]
          exact bt8
        · rw [lookup_putF, if_pos rfl]
        · intro r hr'
          obtain ⟨dx', fs', e1, e2⟩ := (hN' r hr').same s1
          refine ⟨dx', fs', (upd_ne (ne_of e1 ea' fun z => ?_)).trans e1, e2⟩
          have z' := HO.ins.inj z
          exact cne z'.1
    rintro _ H9 ⟨rfl, b9, fs9, r, M', ea9, fl9, no9, sz9, hd9, bt9, rw9, ep9, hM9, eb9, er9, hP9, eM9⟩
    refine ⟨_, rfl, a, CG, dx, fs9, _, rfl, ea9, G.cl, G.nR, rw9, ?_⟩
    have lM' : M'.length = M.length := by
      have := congrArg List.length eM9
      rwa [List.length_map, List.length_map, hls_len] at this
    have np : p ≠ a := ne_of ep9 ea9 (fun z => by cases z)
    have nb : bb ≠ a := ne_of eb9 ea9 (fun z => by cases z)
    have nr : r ≠ a := ne_of er9 ea9 (fun z => by cases z)
    refine ⟨r, _, rfl, .inr (.inl (.inl er9)), _, rfl, a, CG, dx, _, rfl, ea9, G.cl, G.nK, by omega, qG _ M T' (b9.trans But.upd) ⟨dx, _, p, bb, r, M', upd_same, ?_, ?_, ?_, ?_, ?_, ?_, (upd_ne np).trans ep9, hM9.but ea9 But.upd, (upd_ne nb).trans eb9, (upd_ne nr).trans er9, ?_, eM9⟩ pm pw R⟩
    · rw [lookup_putF, if_neg (by decide +kernel)]
      exact sz9
    · rw [lookup_putF, if_neg (by decide +kernel)]
      exact hd9
    · rw [lookup_putF, if_neg (by decide +kernel)]
      exact bt9
    · rw [lookup_putF, if_neg (by decide +kernel)]
      exact rw9
    · rw [lookup_putF, if_pos rfl, refP_len, lM']
    · rw [lookup_putF, if_neg (by decide +kernel)]
      exact no9
    · intro q hq
      obtain ⟨dx', fs', e1, e2⟩ := hP9 q hq
      refine ⟨dx', fs', (upd_ne (ne_of e1 ea9 fun z => ?_)).trans e1, e2⟩
      have z' := HO.ins.inj z
      exact cne z'.1
end
end KQ
namespace KQ
abbrev T2 := Nat × Nat
def xr2 (u v : T2) : T2 := (u.1 ^^^ v.1, u.2 ^^^ v.2)
/-- do two strings anticommute -/
def cr2 (u v : T2) : Nat := pc ((u.1 &&& v.2) ^^^ (u.2 &&& v.1)) % 2
def Fit2 (n : Nat) (u : T2) : Prop := u.1 < 2 ^ n ∧ u.2 < 2 ^ n
def gB (kd : PySem.Str) (a b : Nat) (u : T2) : T2 :=
  if kd = "h" then (u.1 ^^^ ((u.1 / 2 ^ a % 2) ^^^ (u.2 / 2 ^ a % 2)) * 2 ^ a, u.2 ^^^ ((u.1 / 2 ^ a % 2) ^^^ (u.2 / 2 ^ a % 2)) * 2 ^ a)
  else if kd = "s" then (u.1, u.2 ^^^ (u.1 / 2 ^ a % 2) * 2 ^ a)
  else if kd = "cx" then (u.1 ^^^ (u.1 / 2 ^ a % 2) * 2 ^ b, u.2 ^^^ (u.2 / 2 ^ b % 2) * 2 ^ a)
  else if kd = "cz" then (u.1, (u.2 ^^^ (u.1 / 2 ^ b % 2) * 2 ^ a) ^^^ (u.1 / 2 ^ a % 2) * 2 ^ b)
  else if kd = "swap" then ((u.1 ^^^ ((u.1 / 2 ^ a % 2) ^^^ (u.1 / 2 ^ b % 2)) * 2 ^ a) ^^^ ((u.1 / 2 ^ a % 2) ^^^ (u.1 / 2 ^ b % 2)) * 2 ^ b, (u.2 ^^^ ((u.2 / 2 ^ a % 2) ^^^ (u.2 / 2 ^ b % 2)) * 2 ^ a) ^^^ ((u.2 / 2 ^ a % 2) ^^^ (u.2 / 2 ^ b % 2)) * 2 ^ b)
  else u
theorem gB_n {kd : PySem.Str} {a b : Nat} {u : T2} (h1 : ¬ kd = "h") (h2 : ¬ kd = "s") (h3 : ¬ kd = "cx") (h4 : ¬ kd = "cz") (h5 : ¬ kd = "swap") : gB kd a b u = u := by
  unfold gB
  rw [if_neg h1, if_neg h2, if_neg h3, if_neg h4, if_neg h5]
theorem gB_h (a b x z : Nat) : gB "h" a b (x, z) = (x ^^^ ((x / 2 ^ a % 2) ^^^ (z / 2 ^ a % 2)) * 2 ^ a, z ^^^ ((x / 2 ^ a % 2) ^^^ (z / 2 ^ a % 2)) * 2 ^ a) := by
  unfold gB
  rw [if_pos rfl]
theorem gB_s (a b x z : Nat) : gB "s" a b (x, z) = (x, z ^^^ (x / 2 ^ a % 2) * 2 ^ a) := by
  unfold gB
  rw [if_neg (by decide +kernel), if_pos rfl]
theorem gB_cx (a b x z : Nat) : gB "cx" a b (x, z) = (x ^^^ (x / 2 ^ a % 2) * 2 ^ b, z ^^^ (z / 2 ^ b % 2) * 2 ^ a) := by
  unfold gB
  rw [if_neg (by decide +kernel), if_neg (by decide +kernel), if_pos rfl]
theorem gB_cz (a b x z : Nat) : gB "cz" a b (x, z) = (x, (z ^^^ (x / 2 ^ b % 2) * 2 ^ a) ^^^ (x / 2 ^ a % 2) * 2 ^ b) := by
  unfold gB
  rw [if_neg (by decide +kernel), if_neg (by decide +kernel), if_neg (by decide +kernel), if_pos rfl]
theorem gB_swap (a b x z : Nat) : gB "swap" a b (x, z) = ((x ^^^ ((x / 2 ^ a % 2) ^^^ (x / 2 ^ b % 2)) * 2 ^ a) ^^^ ((x / 2 ^ a % 2) ^^^ (x / 2 ^ b % 2)) * 2 ^ b, (z ^^^ ((z / 2 ^ a % 2) ^^^ (z / 2 ^ b % 2)) * 2 ^ a) ^^^ ((z / 2 ^ a % 2) ^^^ (z / 2 ^ b % 2)) * 2 ^ b) := by
  unfold gB
  rw [if_neg (by decide +kernel), if_neg (by decide +kernel), if_neg (by decide +kernel), if_neg (by decide +kernel), if_pos rfl]
/-- a bit as a number -/
theorem bt_eq (x a : Nat) : x / 2 ^ a % 2 = (x.testBit a).toNat := by
  rw [Nat.toNat_testBit]
/-- one place alone -/
def pt (c : Bool) (a : Nat) : Nat := c.toNat * 2 ^ a
theorem pt_bit (c : Bool) (a j : Nat) : (pt c a).testBit j = (c && decide (a = j)) := by
  unfold pt
  cases c
  · simp
  · rw [show (true).toNat * 2 ^ a = 2 ^ a by simp, Nat.testBit_two_pow, Bool.true_and]
theorem bx (b c : Bool) : b.toNat ^^^ c.toNat = (b ^^ c).toNat := by cases b <;> cases c <;> rfl
/-- a linear map that keeps what crosses -/
structure Symp (n : Nat) (L : T2 → T2) : Prop where
  fit : ∀ u, Fit2 n u → Fit2 n (L u)
  lin : ∀ u v, L (xr2 u v) = xr2 (L u) (L v)
  cr : ∀ u v, Fit2 n u → Fit2 n v → cr2 (L u) (L v) = cr2 u v
theorem pc_one (x : Nat) (c : Bool) (a : Nat) : pc (x &&& pt c a) % 2 = (x.testBit a && c).toNat := by
  have e : x &&& pt c a = pt (x.testBit a && c) a := by
    apply Nat.eq_of_testBit_eq
    intro j
    rw [Nat.testBit_and, pt_bit, pt_bit]
    by_cases h : a = j
    · subst h
      cases c <;> simp
    · simp [h]
  rw [e]
  cases (x.testBit a && c)
  · unfold pt
    simp [pc_zero]
  · have : ∀ a : Nat, pc (2 ^ a) = 1 := fun a => by
      induction a with
      | zero => rw [show (2 : Nat) ^ 0 = 2 * 0 + 1 from rfl, pc_two _ _ (by decide), pc_zero]
      | succ a ih => rw [Nat.pow_succ, show 2 ^ a * 2 = 2 * 2 ^ a + 0 by omega, pc_two _ _ (by decide), ih]
    unfold pt
    rw [show (true).toNat * 2 ^ a = 2 ^ a by simp, this]
    rfl
theorem cr2_b (u v : T2) : cr2 u v = (pc (u.1 &&& v.2) + pc (u.2 &&& v.1)) % 2 := by
  unfold cr2
  rw [pc_xor]
theorem cr2_xl (u u' v : T2) : cr2 (xr2 u u') v = (cr2 u v + cr2 u' v) % 2 := by
  rw [cr2_b, cr2_b, cr2_b]
  show (pc ((u.1 ^^^ u'.1) &&& v.2) + pc ((u.2 ^^^ u'.2) &&& v.1)) % 2 = _
  rw [Nat.and_xor_distrib_right, Nat.and_xor_distrib_right]
  have h1 := pc_xor (u.1 &&& v.2) (u'.1 &&& v.2)
  have h2 := pc_xor (u.2 &&& v.1) (u'.2 &&& v.1)
  omega
theorem cr2_sym (u v : T2) : cr2 u v = cr2 v u := by
  rw [cr2_b, cr2_b, Nat.and_comm v.1, Nat.and_comm v.2, Nat.add_comm]
theorem cr2_xr (u v v' : T2) : cr2 u (xr2 v v') = (cr2 u v + cr2 u v') % 2 := by
  rw [cr2_sym, cr2_xl, cr2_sym v, cr2_sym v']
theorem cr2_lt (u v : T2) : cr2 u v < 2 := Nat.mod_lt _ (by decide)
/-- crossing a string at one place -/
theorem cr2_pt (u : T2) (p q : Bool) (a b : Nat) : cr2 u (pt p a, pt q b) = ((u.1.testBit b && q) ^^ (u.2.testBit a && p)).toNat := by
  rw [cr2_b]
  show (pc (u.1 &&& pt q b) + pc (u.2 &&& pt p a)) % 2 = _
  have h1 := pc_one u.1 q b
  have h2 := pc_one u.2 p a
  generalize (u.1.testBit b && q) = A at h1 ⊢
  generalize (u.2.testBit a && p) = B at h2 ⊢
  cases A <;> cases B <;> simp at h1 h2 ⊢ <;> omega
/-- a map that adds a string of one or two places -/
theorem bx1 {x y : Bool} : ((x.toNat + y.toNat) % 2) = (x ^^ y).toNat := by cases x <;> cases y <;> rfl
theorem xr2_pt2 (p q r s : Bool) (a b : Nat) (u : T2) : xr2 u (xr2 (pt p a, pt q a) (pt r b, pt s b)) = ((u.1 ^^^ pt p a) ^^^ pt r b, (u.2 ^^^ pt q a) ^^^ pt s b) := by
  unfold xr2
  rw [Nat.xor_assoc, Nat.xor_assoc]
/-- each gate adds to a string, at its places, what their four bits say -/
def gp (kd : PySem.Str) (o t f s : Bool) : (Bool × Bool) × (Bool × Bool) :=
  if kd = "h" then ((o ^^ t, o ^^ t), (false, false))
  else if kd = "s" then ((false, o), (false, false))
  else if kd = "cx" then ((false, s), (o, false))
  else if kd = "cz" then ((false, f), (false, o))
  else if kd = "swap" then ((o ^^ f, t ^^ s), (o ^^ f, t ^^ s))
  else ((false, false), (false, false))
def gA (kd : PySem.Str) (a b : Nat) (u : T2) : (Bool × Bool) × (Bool × Bool) := gp kd (u.1.testBit a) (u.2.testBit a) (u.1.testBit b) (u.2.testBit b)
theorem pt_false (a : Nat) : pt false a = 0 := by unfold pt; simp
theorem gB_add (kd : PySem.Str) (a b : Nat) (u : T2) : gB kd a b u = xr2 u (xr2 (pt (gA kd a b u).1.1 a, pt (gA kd a b u).1.2 a) (pt (gA kd a b u).2.1 b, pt (gA kd a b u).2.2 b)) := by
  rw [xr2_pt2]
  unfold gB gA gp
  split
  · simp only [bt_eq, bx, pt_false, Nat.xor_zero]
    rfl
  split
  · simp only [bt_eq, pt_false, Nat.xor_zero]
    rfl
  split
  · simp only [bt_eq, pt_false, Nat.xor_zero]
    rfl
  split
  · simp only [bt_eq, pt_false, Nat.xor_zero]
    rfl
  split
  · simp only [bt_eq, bx]
    rfl
  · simp only [pt_false, Nat.xor_zero]
theorem gp_lin (kd : PySem.Str) (o t f s o' t' f' s' : Bool) : gp kd (o ^^ o') (t ^^ t') (f ^^ f') (s ^^ s') = (((gp kd o t f s).1.1 ^^ (gp kd o' t' f' s').1.1, (gp kd o t f s).1.2 ^^ (gp kd o' t' f' s').1.2), ((gp kd o t f s).2.1 ^^ (gp kd o' t' f' s').2.1, (gp kd o t f s).2.2 ^^ (gp kd o' t' f' s').2.2)) := by
  unfold gp
  repeat' split
  all_goals first | rfl | (simp only [Prod.mk.injEq]; revert o t f s o' t' f' s'; decide +kernel)
theorem pt_x (c d : Bool) (a : Nat) : pt (c ^^ d) a = pt c a ^^^ pt d a := by
  apply Nat.eq_of_testBit_eq
  intro j
  rw [Nat.testBit_xor, pt_bit, pt_bit, pt_bit]
  cases c <;> cases d <;> simp
theorem gA_lin (kd : PySem.Str) (a b : Nat) (u v : T2) : gA kd a b (xr2 u v) = (((gA kd a b u).1.1 ^^ (gA kd a b v).1.1, (gA kd a b u).1.2 ^^ (gA kd a b v).1.2), ((gA kd a b u).2.1 ^^ (gA kd a b v).2.1, (gA kd a b u).2.2 ^^ (gA kd a b v).2.2)) := by
  unfold gA xr2
  simp only [Nat.testBit_xor]
  exact gp_lin ..
theorem gB_lin (kd : PySem.Str) (a b : Nat) (u v : T2) : gB kd a b (xr2 u v) = xr2 (gB kd a b u) (gB kd a b v) := by
  rw [gB_add, gB_add, gB_add, gA_lin]
  generalize gA kd a b u = g
  generalize gA kd a b v = h
  obtain ⟨⟨g1, g2⟩, g3, g4⟩ := g
  obtain ⟨⟨h1, h2⟩, h3, h4⟩ := h
  simp only [pt_x]
  unfold xr2
  refine Prod.ext ?_ ?_
  · apply Nat.eq_of_testBit_eq
    intro j
    simp only [Nat.testBit_xor]
    generalize u.1.testBit j = b1
    generalize v.1.testBit j = b2
    generalize (pt g1 a).testBit j = b3
    generalize (pt h1 a).testBit j = b4
    generalize (pt g3 b).testBit j = b5
    generalize (pt h3 b).testBit j = b6
    revert b1 b2 b3 b4 b5 b6
    decide +kernel
  · apply Nat.eq_of_testBit_eq
    intro j
    simp only [Nat.testBit_xor]
    generalize u.2.testBit j = b1
    generalize v.2.testBit j = b2
    generalize (pt g2 a).testBit j = b3
    generalize (pt h2 a).testBit j = b4
    generalize (pt g4 b).testBit j = b5
    generalize (pt h4 b).testBit j = b6
    revert b1 b2 b3 b4 b5 b6
    decide +kernel
theorem pt_lt {c : Bool} {a n : Nat} (h : a < n) : pt c a < 2 ^ n := by
  unfold pt
  cases c
  · simp
    exact Nat.two_pow_pos n
  · simp
    exact Nat.pow_lt_pow_right (by decide) h
theorem gB_fit {kd : PySem.Str} {n a b : Nat} (ha : a < n) (hb : b < n) {u : T2} (h : Fit2 n u) : Fit2 n (gB kd a b u) := by
  rw [gB_add, xr2_pt2]
  exact ⟨Nat.xor_lt_two_pow (Nat.xor_lt_two_pow h.1 (pt_lt ha)) (pt_lt hb), Nat.xor_lt_two_pow (Nat.xor_lt_two_pow h.2 (pt_lt ha)) (pt_lt hb)⟩
/-- the two strings' eight bits -/
theorem gp_cr (kd : PySem.Str) (o t f s o' t' f' s' : Bool) :
    let g := gp kd o t f s
    let h := gp kd o' t' f' s'
    (((o && h.1.2) ^^ (t && h.1.1)) ^^ ((f && h.2.2) ^^ (s && h.2.1)) ^^ ((o' && g.1.2) ^^ (t' && g.1.1)) ^^ ((f' && g.2.2) ^^ (s' && g.2.1)) ^^ ((g.1.1 && h.1.2) ^^ (g.1.2 && h.1.1)) ^^ ((g.2.1 && h.2.2) ^^ (g.2.2 && h.2.1))) = false := by
  unfold gp
  repeat' split
  all_goals (revert o t f s o' t' f' s'; decide +kernel)
/-- gates of one place, two unlike places for the others -/
def PlOk (kd : PySem.Str) (a b : Nat) : Prop := a ≠ b ∨ (¬ kd = "cx" ∧ ¬ kd = "cz" ∧ ¬ kd = "swap")
theorem gA_one {kd : PySem.Str} (h : ¬ kd = "cx" ∧ ¬ kd = "cz" ∧ ¬ kd = "swap") (a b : Nat) (u : T2) : (gA kd a b u).2 = (false, false) := by
  unfold gA gp
  split
  · rfl
  split
  · rfl
  rw [if_neg h.1, if_neg h.2.1, if_neg h.2.2]
theorem cr2_add (u d v e : T2) : cr2 (xr2 u d) (xr2 v e) = (cr2 u v + cr2 u e + cr2 v d + cr2 d e) % 2 := by
  rw [cr2_xl, cr2_xr, cr2_xr, cr2_sym v d]
  omega
theorem cr2_two (u : T2) (p q r s : Bool) (a b : Nat) : cr2 u (xr2 (pt p a, pt q a) (pt r b, pt s b)) = (((u.1.testBit a && q) ^^ (u.2.testBit a && p)) ^^ ((u.1.testBit b && s) ^^ (u.2.testBit b && r))).toNat := by
  rw [cr2_xr, cr2_pt, cr2_pt, bx1]
theorem tb_ab {a b : Nat} (h : a ≠ b) (p r : Bool) : (pt p a ^^^ pt r b).testBit a = p ∧ (pt p a ^^^ pt r b).testBit b = r := by
  constructor
  · rw [Nat.testBit_xor, pt_bit, pt_bit, decide_eq_true rfl, decide_eq_false (fun z => h z.symm)]
    simp
  · rw [Nat.testBit_xor, pt_bit, pt_bit, decide_eq_true rfl, decide_eq_false h]
    simp
theorem fin8 {c A B C : Nat} {X Y Z : Bool} (hA : A = X.toNat) (hB : B = Y.toNat) (hC : C = Z.toNat) (h : (X ^^ Y ^^ Z) = false) (hc : c < 2) : (c + A + B + C) % 2 = c := by
  subst hA hB hC
  cases X <;> cases Y <;> cases Z <;> simp at h ⊢ <;> omega
theorem gB_cr {kd : PySem.Str} {a b : Nat} (hp : PlOk kd a b) (u v : T2) : cr2 (gB kd a b u) (gB kd a b v) = cr2 u v := by
  rw [gB_add, gB_add, cr2_add]
  have key := gp_cr kd (u.1.testBit a) (u.2.testBit a) (u.1.testBit b) (u.2.testBit b) (v.1.testBit a) (v.2.testBit a) (v.1.testBit b) (v.2.testBit b)
  simp only at key
  change ((((u.1.testBit a && (gA kd a b v).1.2) ^^ (u.2.testBit a && (gA kd a b v).1.1)) ^^ ((u.1.testBit b && (gA kd a b v).2.2) ^^ (u.2.testBit b && (gA kd a b v).2.1)) ^^ ((v.1.testBit a && (gA kd a b u).1.2) ^^ (v.2.testBit a && (gA kd a b u).1.1)) ^^ ((v.1.testBit b && (gA kd a b u).2.2) ^^ (v.2.testBit b && (gA kd a b u).2.1)) ^^ (((gA kd a b u).1.1 && (gA kd a b v).1.2) ^^ ((gA kd a b u).1.2 && (gA kd a b v).1.1)) ^^ (((gA kd a b u).2.1 && (gA kd a b v).2.2) ^^ ((gA kd a b u).2.2 && (gA kd a b v).2.1))) = false) at key
  have one := fun (h : ¬ kd = "cx" ∧ ¬ kd = "cz" ∧ ¬ kd = "swap") => And.intro (gA_one h a b u) (gA_one h a b v)
  generalize gA kd a b u = g at *
  generalize gA kd a b v = h at *
  obtain ⟨⟨g1, g2⟩, g3, g4⟩ := g
  obtain ⟨⟨h1, h2⟩, h3, h4⟩ := h
  simp only at key ⊢
  have eC : cr2 (xr2 (pt g1 a, pt g2 a) (pt g3 b, pt g4 b)) (xr2 (pt h1 a, pt h2 a) (pt h3 b, pt h4 b)) = (((g1 && h2) ^^ (g2 && h1)) ^^ ((g3 && h4) ^^ (g4 && h3))).toNat := by
    rw [cr2_two]
    unfold xr2
    simp only
    rcases hp with hp | hp
    · obtain ⟨a1, a2⟩ := tb_ab hp g1 g3
      obtain ⟨b1, b2⟩ := tb_ab hp g2 g4
      rw [a1, a2, b1, b2]
    · obtain ⟨o1, o2⟩ := one hp
      injection o1 with o1 o1'
      injection o2 with o2 o2'
      subst o1 o1' o2 o2'
      simp only [pt_false, Nat.xor_zero, pt_bit, decide_true, Bool.and_true, Bool.and_false, Bool.false_and, Bool.xor_false]
  refine fin8 (cr2_two u h1 h2 h3 h4 a b) (cr2_two v g1 g2 g3 g4 a b) eC ?_ (cr2_lt _ _)
  rw [← key]
  generalize (u.1.testBit a && h2) = x1
  generalize (u.2.testBit a && h1) = x2
  generalize (u.1.testBit b && h4) = x3
  generalize (u.2.testBit b && h3) = x4
  generalize (v.1.testBit a && g2) = y1
  generalize (v.2.testBit a && g1) = y2
  generalize (v.1.testBit b && g4) = y3
  generalize (v.2.testBit b && g3) = y4
  generalize ((g1 && h2) ^^ (g2 && h1)) = z1
  generalize ((g3 && h4) ^^ (g4 && h3)) = z2
  clear key one eC
  revert x1 x2 x3 x4 y1 y2 y3 y4 z1 z2
  decide +kernel
theorem Symp.id (n : Nat) : Symp n (fun u => u) := ⟨fun _ h => h, fun _ _ => rfl, fun _ _ _ _ => rfl⟩
theorem Symp.gate {n : Nat} {L : T2 → T2} (S : Symp n L) {kd : PySem.Str} {a b : Nat} (ha : a < n) (hb : b < n) (hp : PlOk kd a b) : Symp n (fun u => gB kd a b (L u)) :=
  ⟨fun u h => gB_fit ha hb (S.fit u h), fun u v => by show gB kd a b (L (xr2 u v)) = _; rw [S.lin, gB_lin], fun u v hu hv => by show cr2 (gB kd a b (L u)) (gB kd a b (L v)) = _; rw [gB_cr hp, S.cr u v hu hv]⟩
theorem xr2_self (u : T2) : xr2 u u = (0, 0) := by
  unfold xr2
  rw [Nat.xor_self, Nat.xor_self]
theorem Symp.zero {n : Nat} {L : T2 → T2} (S : Symp n L) : L (0, 0) = (0, 0) := by
  have := S.lin (0, 0) (0, 0)
  rw [xr2_self, xr2_self] at this
  exact this
/-- what crosses nothing is nothing -/
theorem cr2_all {n : Nat} {u : T2} (hu : Fit2 n u) (h : ∀ v, Fit2 n v → cr2 u v = 0) : u = (0, 0) := by
  refine Prod.ext ?_ ?_
  · apply Nat.eq_of_testBit_eq
    intro j
    show u.1.testBit j = (0 : Nat).testBit j
    rw [Nat.zero_testBit]
    by_cases hj : j < n
    · have := h (pt false j, pt true j) ⟨pt_lt hj, pt_lt hj⟩
      rw [cr2_pt] at this
      cases e : u.1.testBit j
      · rfl
      · rw [e] at this
        simp at this
    · exact Nat.testBit_lt_two_pow (Nat.lt_of_lt_of_le hu.1 (Nat.pow_le_pow_right (by decide) (by omega)))
  · apply Nat.eq_of_testBit_eq
    intro j
    show u.2.testBit j = (0 : Nat).testBit j
    rw [Nat.zero_testBit]
    by_cases hj : j < n
    · have := h (pt true j, pt false j) ⟨pt_lt hj, pt_lt hj⟩
      rw [cr2_pt] at this
      cases e : u.2.testBit j
      · rfl
      · rw [e] at this
        simp at this
    · exact Nat.testBit_lt_two_pow (Nat.lt_of_lt_of_le hu.2 (Nat.pow_le_pow_right (by decide) (by omega)))
theorem cr2_z (v : T2) : cr2 (0, 0) v = 0 := by
  rw [cr2_b]
  show (pc (0 &&& v.2) + pc (0 &&& v.1)) % 2 = 0
  rw [Nat.zero_and, Nat.zero_and, pc_zero]
theorem Symp.inj {n : Nat} {L : T2 → T2} (S : Symp n L) {u : T2} (hu : Fit2 n u) (h : L u = (0, 0)) : u = (0, 0) := cr2_all hu fun v hv => by
  rw [← S.cr u v hu hv, h, cr2_z]
theorem fit2_x {n : Nat} {u v : T2} (hu : Fit2 n u) (hv : Fit2 n v) : Fit2 n (xr2 u v) := ⟨Nat.xor_lt_two_pow hu.1 hv.1, Nat.xor_lt_two_pow hu.2 hv.2⟩
theorem x_zero {x y : Nat} (h : x ^^^ y = 0) : x = y := by
  apply Nat.eq_of_testBit_eq
  intro j
  have := congrArg (Nat.testBit · j) h
  simp only [Nat.testBit_xor, Nat.zero_testBit] at this
  cases e : x.testBit j <;> cases e2 : y.testBit j <;> rw [e, e2] at this <;> first | rfl | cases this
theorem Symp.one {n : Nat} {L : T2 → T2} (S : Symp n L) {u v : T2} (hu : Fit2 n u) (hv : Fit2 n v) (h : L u = L v) : u = v := by
  have := S.inj (fit2_x hu hv) (by rw [S.lin, h, xr2_self])
  have h1 := congrArg Prod.fst this
  have h2 := congrArg Prod.snd this
  exact Prod.ext (x_zero h1) (x_zero h2)
end KQ
namespace KQ
open PySem PySem.Spec PyProof.Rows L2
set_option maxHeartbeats 1000000 in
theorem meets_en1 {v : Value} {ob : Obj} {G : Heap → Prop} (bg : Begins v ob G) :
    Meets (Builtin.«enumerate.__new__» ⟨[.type "enumerate", v], []⟩) (fun _ R s => G s.heap ∧
      R (.ok (.ret (.ref (s.heap.push ob).objs.size))) { s with heap := (s.heap.push ob).push { cls := .type "enumerate", data := .fields #[.none, .bool false, .ref s.heap.objs.size, rawInt 0, .none, .none] } }) := by
  refine .of_wp fun prog w A R s hh => ?_
  obtain ⟨hp, gl, dd, tk, os⟩ := s
  obtain ⟨hG, hR⟩ := hh
  have isSub := sub_enumerate
  have begins : ∀ {B : Around} {E : Value → Shared → Prop} {Q : Value → Shared → Prop}, Q (.ref hp.objs.size) ⟨hp.push ob, gl, dd, tk, os⟩ → wpAny (model prog w) B (pyIter v) Q E ⟨hp, gl, dd, tk, os⟩ := fun z => bg.iter prog w _ _ ⟨hp, gl, dd, tk, os⟩ _ hG z
  wp_walk using begins
  refine wpAny_stack_any fun st => ?_
  refine wpAny_pure ?_
  split
  · rename_i c _ _ _ _ _
    cases (c == Value.type "enumerate") <;>
    · wp_walk using begins
      exact ⟨_, rfl, hR⟩
  · wp_walk using begins
    exact ⟨_, rfl, hR⟩
theorem enum_begins1 {prog : Program} {w : World} {A : Around} {E : Value → Shared → Prop} {s : Shared} {v : Value} {ob : Obj} {G : Heap → Prop} {Q : Value → Shared → Prop} (bg : Begins v ob G) (hG : G s.heap)
    (out : ∀ h2, IsEnum h2 (s.heap.objs.size + 1) s.heap.objs.size 0 .none → h2.get? s.heap.objs.size = some ob → h2.objs.size = s.heap.objs.size + 2 → (∀ b z, s.heap.get? b = some z → h2.get? b = some z) → Q (.ref (s.heap.objs.size + 1)) { s with heap := h2 }) :
    wpAny (model prog w) A (call (.type "enumerate") [v]) Q E s := by
  refine callType_new F.called_enumerate (by decide) (F.typeCall_enumerate_1 v) (F.newCall_enumerate_1 v) (fun z => F.args_object_init_2 z v) F.entry_enumerate_new (meets_en1 bg) ⟨hG, ?_⟩
  have sz : (s.heap.push ob).objs.size = s.heap.objs.size + 1 := by rw [Heap.size_push]
  show _ ∧ _
  rw [sz]
  let en : Obj := { cls := .type "enumerate", data := .fields #[.none, .bool false, .ref s.heap.objs.size, rawInt 0, .none, .none] }
  have isE : IsEnum ((s.heap.push ob).push en) (s.heap.objs.size + 1) s.heap.objs.size 0 .none := by
    have z := Heap.get?_push_size (s.heap.push ob) (o := en) rfl
    rw [sz] at z
    exact z
  have kept : ∀ b z, s.heap.get? b = some z → ((s.heap.push ob).push en).get? b = some z := fun b z e => Heap.get?_push_of_some _ (Heap.get?_push_of_some _ e)
  exact ⟨⟨_, isE, rfl⟩, out _ isE (Heap.get?_push_of_some _ (Heap.get?_push_size _ bg.free)) (by rw [Heap.size_push, sz]) kept⟩
/-- the tuple at a, each item in a new pair with its number -/
def ItEt (K : PySem.W.Frag) (a : Addr) : It :=
  ⟨fun i H => ∃ (xs : List V) (x : V), SqT K H a xs ∧ xs[i]? = some x, fun i H v H' => ∃ T x, v = .ref T ∧ H T = none ∧ H' = upd H T (.tup [.int (i : Nat), x]) ∧ ∀ xs, SqT K H a xs → xs[i]? = some x, fun i H => ∃ xs : List V, SqT K H a xs ∧ xs.length = i⟩
theorem turn_enumt {P : Program} {w : World} {K : PySem.W.Frag} {elts : List Expr} {kk : Nat} {tpos : Pos} (a e it : Addr) :
    Turn P w K (.Tuple elts kk tpos) (ItEt K a) [e, it] e (fun i h => (∃ old, IsEnum h e it ((i : Nat) : Int) old) ∧ h.IsTupleIter it a i ∧ e ≠ it ∧ a ≠ it ∧ a ≠ e) where
  mem := List.mem_cons_self
  obj := fun i h st b hb => by
    obtain ⟨⟨old, he⟩, ⟨o, ho, _, hd⟩, _⟩ := st
    rcases List.mem_cons.mp hb with rfl | hb
    · exact ⟨_, he, fun v q => nomatch q⟩
    · rw [List.mem_singleton.mp hb]
      exact ⟨o, ho, fun v q => by rw [hd] at q; cases q⟩
  keep := fun i h h' st k => by
    obtain ⟨⟨old, he⟩, ⟨o, ho, r⟩, hne⟩ := st
    exact ⟨⟨old, k e List.mem_cons_self _ he⟩, ⟨o, k it (by simp) o ho, r⟩, hne⟩
  item := by
    intro X hP hw hK calm i pins s σ H E I fp st hg
    subst hP hw hK
    obtain ⟨⟨old, he⟩, hit, hne, ha, hae⟩ := st
    obtain ⟨xs, x, hq, hx⟩ := hg
    obtain ⟨its, rv, p, hz⟩ := I.tuple hq
    obtain ⟨u, hu, ru⟩ := rv.get hx
    have le : e < s.heap.objs.size := Heap.lt_size he
    have li : it < s.heap.objs.size := by
      obtain ⟨_, q, _⟩ := hit
      exact Heap.lt_size q
    have hlt : i < its.toArray.size := by
      have := (List.getElem?_eq_some_iff.mp hu).1
      simpa using this
    refine wpAny_pyNext_enum_itemC (Draws.tuple (A := X.A.in1) (by simpa using I.ok.hd calm) it a ha its.toArray) he ⟨hit, p⟩ hlt hne (by simp [hne, Ne.symm hae]) fun v h1 tk hv hout hit1 hT hsz hk => ?_
    have ev : v = u := by
      have h9 : its.toArray[i]? = some v := hv
      have h8 : its.toArray[i]? = some u := by simpa using hu
      exact Option.some.inj (h9.symm.trans h8)
    subst ev
    refine ⟨_, rfl, wpAny_letOwnedTupleGo_enum (s := { s with heap := h1, toks := tk + 1 }) hout fun h2 he2 sb => ?_⟩
    have hT2 := (sb.2 _ (Nat.ne_of_gt le)).trans hT
    have fresh : H s.heap.objs.size = none := I.hok.fresh (Nat.le_refl _)
    have I1 : Inv X pins σ (upd H s.heap.objs.size (.tup [.int (i : Nat), x])) { s with heap := h2, toks := tk + 1 } :=
      I.turnedNew (ch := [e, it]) (fun b ob hb q => by
        have b1 : b ≠ e := fun z => hb (by simp [z])
        have b2 : b ≠ it := fun z => hb (by simp [z])
        exact (sb.2 b b1).trans (hk b ob b1 b2 q)) fp (Nat.le_refl _) ⟨by show 2 ≤ sizeLine; decide, [.int i tk, v], .cons ⟨_, rfl⟩ (.cons ru .nil), ⟨_, hT2, rfl, _, rfl⟩⟩
    have ei : ((i + 1 : Nat) : Int) = (i : Int) + 1 := by omega
    refine ⟨.ref s.heap.objs.size, _, I1, rfl, ⟨_, x, rfl, fresh, rfl, fun ys hy => by rw [I.tuple_inj hy hq]; exact hx⟩, ⟨⟨_, by rw [ei]; exact he2⟩, ?_, hne, ha, hae⟩, fun b hb => ?_⟩
    · obtain ⟨⟨o, ho, r⟩, _⟩ := hit1
      exact ⟨o, (sb.2 it (Ne.symm hne)).trans ho, r⟩
    · have lb : b < s.heap.objs.size := by
        rcases List.mem_cons.mp hb with rfl | hb
        · exact le
        · rw [List.mem_singleton.mp hb]
          exact li
      rw [upd_ne (Nat.ne_of_lt lb)]
      exact (fp b hb).1
  done := by
    intro X hP hw hK calm i pins s σ H E I fp st hg
    subst hP hw hK
    obtain ⟨⟨old, he⟩, hit, hne, ha, hae⟩ := st
    obtain ⟨xs, hq, hx⟩ := hg
    obtain ⟨its, rv, p, hz⟩ := I.tuple hq
    obtain ⟨f0, f1, f2, f3, f4, f5⟩ := fp it (by simp)
    have hl := rv.length
    have ei : i = its.toArray.size := by
      rw [List.size_toArray, ← hl]
      exact hx.symm
    subst ei
    refine wpAny_pyNext_enum_endD (Draws.tuple (A := X.A.in1) (by simpa using I.ok.hd calm) it a ha its.toArray) he ⟨hit, p⟩ fun h' eb => ⟨rfl, I.turned (t' := s.toks) (fun b o hb q => eb b o hb q) f0 f1 f3 f4 f5⟩
  self := fun A i s Q E st h => by
    obtain ⟨⟨_, he⟩, _⟩ := st
    exact wpAny_pyIter_enum he h
theorem walk_enumt (K : PySem.W.Frag) (a : Addr) (xs : List V) : Walk (ItEt K a) xs.length (fun H => SqT K H a xs) (YPair (fun i => some (.int (i : Nat))) (fun i => xs[i]?)) where
  goes := fun i H hi h => ⟨xs, xs[i], h, List.getElem?_eq_getElem hi⟩
  stops := fun H h => ⟨xs, h, rfl⟩
  yields := fun i H v H' hi h y => by
    obtain ⟨T, x, e1, e2, e3, e4⟩ := y
    exact ⟨T, _, x, e1, e2, e3, rfl, e4 xs h⟩
def iEnumT (K : PySem.W.Frag) (ta : TA) : TI := fun σ H R => ta σ H fun vs H1 => ∃ a xs, vs = [.ref a] ∧ SqT K H1 a xs ∧ R (ItEt K a) H1
theorem pi_enumT {X : Cx} {e : Expr} {ta : TA} {p pos tpos : Pos} {elts : List Expr} {kk : Nat} (hg : Gl X "enumerate") (hm : X.mg "enumerate" = none) (ha : PA X [e] ta) (hs : starEach [e] X.env = [(false, eval e X.env)] := by rfl) :
    PI X (.Tuple elts kk tpos) (.Call (.Name "enumerate" p) [e] [] pos) (iEnumT X.K ta) := by
  refine ⟨fun pins s σ H R I want => ?_⟩
  refine Call_ (ld_blt I hg hm boot_enumerate (PyProof.Rows.callWith_type1 (thn (ha.run pos pins s σ H _ I want) fun us s1 ⟨vs, H1, I1, r1, q1⟩ => ?_) hs rfl))
  obtain ⟨a, xs, ex, hq, q⟩ := q1
  subst ex
  obtain ⟨u, rfl, rx⟩ := vals1 r1
  cases rx
  obtain ⟨its, rv, p', hz⟩ := I1.tuple hq
  refine enum_begins1 (begins_tuple a its.toArray) p' fun h' he hit hsz hk => wpAny_pyIter_enum he ?_
  have I2 : Inv X pins σ H1 { s1 with heap := h' } := I1.kept (t' := s1.toks) hk
  have lt : a < s1.heap.objs.size := by
    obtain ⟨o, e, _⟩ := p'
    exact Heap.lt_size e
  refine ⟨s1.heap.objs.size + 1, [s1.heap.objs.size + 1, s1.heap.objs.size], _, _, H1, rfl, I2, turn_enumt a (s1.heap.objs.size + 1) s1.heap.objs.size, ⟨⟨.none, he⟩, ⟨_, hit, rfl, rfl⟩, Nat.succ_ne_self _, Nat.ne_of_lt lt, Nat.ne_of_lt (Nat.lt_succ_of_lt lt)⟩, fun b hb => ?_, q⟩
  have hle : s1.heap.objs.size ≤ b := by
    rcases List.mem_cons.mp hb with rfl | hb
    · exact Nat.le_add_right _ _
    · rw [List.mem_singleton.mp hb]
      exact Nat.le_refl _
  exact I1.fpOk hle (I1.hok.fresh hle)
end KQ
namespace KQ
open PySem PySem.Spec PyProof.Rows L2
abbrev sRedN : Stmt := topS 2
abbrev sRestBy : Stmt := topS 3
def spRestBy (K : PySem.W.Frag) : Sp := fun vs H Q _ => ∃ (n : Nat) (a : Addr) (T : List Nat), vs = [.int (n : Nat), .ref a] ∧ SqLT K H a (natV T) ∧ (∀ r ∈ T, r ≠ 0) ∧ Q (.int (rst T n : Nat)) H
theorem scRestBy : FnScope ["number", "table", "row"] ["number", "table"] (defScope sRestBy) := ⟨rfl, rfl, rfl, by decide +kernel, rfl, by decide +kernel, by decide +kernel⟩
section
variable {P : Program} {w : World} {K : PySem.W.Frag} {mg : Str → Option Value} {base : Heap}
theorem ok_restby {f : Addr} {fd : FuncData} {k : Nat} (F : Fun K "rest_by" "rest_by" sRestBy f fd) (B : Bl mg) : FnOk P w K mg base CX0 (k + 1) f fd ["number", "table"] (spRestBy K) := by
  refine F.ok scRestBy (fun vs H Q E h => ?_) (fun cdv A outer s H vs Q E hr h => ?_)
  · obtain ⟨n, a, T, rfl, _⟩ := h
    rfl
  · obtain ⟨n, a, T, rfl, hS, hz, q⟩ := h
    refine ⟨_, C8.pss_cut (ps_for PassesOwn.never rfl (pi_seq (pv 1)) (pg_name (i := 2) scRestBy.nd rfl (.inl rfl))
        (pss_one (ps_set (i := 0) scRestBy.nd rfl (.inl rfl) (pe_callB (call_min2 rfl) (by rfl) B.min PyProof.Rows.boot_min (pa_cons (pv 0) (pa_cons (pe_op op_xor (pv 0) (pv 2)) pa_nil))))))
      (pss_one (ps_ret (pv 0))), ?_⟩
    refine ⟨fun σ' H' => ∃ v, σ' = [some (.int (rst T n : Nat)), some (.ref a), v] ∧ H' = H, ?_, ?_⟩
    · refine ⟨_, rfl, a, _, rfl, hS, fun J S hJ hS0 hSs => for_sq hJ (fun i σ H2 => ∃ v : Option V, σ = [some (.int (rst (T.take i) n : Nat)), some (.ref a), v] ∧ H2 = H) ⟨none, rfl, rfl⟩ (fun i σ H2 ⟨_, _, e⟩ => by rw [e]; exact hS0) ?_ ?_⟩
      · rintro i y σ H2 hi ⟨v, rfl, rfl⟩
        obtain ⟨b, hb, rfl⟩ := natV_at hi
        refine ⟨_, rfl, _, rfl, _, rfl, _, _, rfl, rfl, _, _, rfl, some (.int (b : Nat)), ?_, rfl⟩
        have e : rst (T.take (i + 1)) n = lw (rst (T.take i) n) b := by
          rw [take_snoc hb]
          unfold rst
          rw [List.foldl_append]
          rfl
        rw [e, bxor]
        rw [min_lw (hz b (List.mem_of_getElem? hb))]
        rfl
      · rintro σ H2 ⟨v, rfl, rfl⟩
        refine ⟨v, ?_, rfl⟩
        rw [List.take_of_length_le (Nat.le_of_eq (natV_len T).symm)]
    rintro _ H2 ⟨v, rfl, rfl⟩
    exact ⟨_, rfl, q⟩
end
def spRedN (K : PySem.W.Frag) : Sp := fun vs H Q _ => ∃ (a : Addr) (ns : List Nat), vs = [.ref a] ∧ SqL K H a (natV ns) ∧ ns.length ≤ 100 ∧
  ∀ p ms H', Same H H' → H p = none → H' p = some (.lst (natV ms)) → Red ms → ms.Pairwise (· > ·) → (∀ x, Spn ms x ↔ Spn ns x) → (∀ k, (∀ n ∈ ns, n < 2 ^ k) → ∀ m ∈ ms, m < 2 ^ k) → (Indep ns → ms.length = ns.length) → Q (.ref p) H'
theorem scRedN : FnScope ["numbers", "table", "given", "number", "row"] ["numbers"] (defScope sRedN) := ⟨rfl, rfl, rfl, by decide +kernel, rfl, by decide +kernel, by decide +kernel⟩
theorem perm_nat {ns' : List Int} {T : List Nat} (p : ns'.Perm (T.map fun n => ((n : Nat) : Int))) : ∃ U : List Nat, ns' = U.map (fun n => ((n : Nat) : Int)) ∧ U.Perm T := by
  refine ⟨ns'.map Int.toNat, ?_, ?_⟩
  · rw [List.map_map]
    have : ∀ z ∈ ns', ((fun n : Nat => (n : Int)) ∘ Int.toNat) z = z := fun z hz => by
      obtain ⟨n, _, rfl⟩ := List.mem_map.mp (p.mem_iff.mp hz)
      rfl
    have e : ns'.map ((fun n : Nat => (n : Int)) ∘ Int.toNat) = ns' := by
      have := List.map_congr_left this
      rw [this]
      exact List.map_id' _
    exact e.symm
  · have := p.map Int.toNat
    rw [List.map_map] at this
    have e : T.map (Int.toNat ∘ fun n => ((n : Nat) : Int)) = T := by
      have : (Int.toNat ∘ fun n : Nat => ((n : Nat) : Int)) = id := rfl
      rw [this, List.map_id]
    rwa [e] at this
section
variable {P : Program} {w : World} {K : PySem.W.Frag} {mg : Str → Option Value} {base : Heap}
theorem ok_redn {f fR : Addr} {fd dR : FuncData} {k : Nat} (F : Fun K "reduced_numbers" "reduced_numbers" sRedN f fd) (FR : Fun K "rest_by" "rest_by" sRestBy fR dR) (bR : Binds K dR ["number", "table"] []) (gR : mg "rest_by" = some (.ref fR)) (B : Bl mg) :
    FnOk P w K mg base CX0 (k + 2) f fd ["numbers"] (spRedN K) := by
  have GR : FnOk P w K mg base CX0 (k + 1) fR dR ["number", "table"] (spRestBy K) := ok_restby FR B
  refine F.ok scRedN (fun vs H Q E h => ?_) (fun cdv A outer s H vs Q E hr h => ?_)
  · obtain ⟨a, ns, rfl, _⟩ := h
    rfl
  · obtain ⟨a, ns, rfl, hS, hlen, q⟩ := h
    refine ⟨_, C8.pss_cut (ps_set (i := 1) scRedN.nd rfl (.inl rfl) (pe_lst pa_nil))
      (C8.pss_cut (ps_for PassesOwn.never rfl (pi_list (pv 0)) (pg_name (i := 2) scRedN.nd rfl (.inl rfl))
        (C8.pss_cut (ps_set (i := 3) scRedN.nd rfl (.inr rfl) (pe_call GR hr (by rfl) gR FR.kp bR .nil pass0 (pa_cons (pv 2) (pa_cons (pv 1) pa_nil))))
        (pss_one (ps_if (pt_truth (pv 3) (by intro _; rfl))
          (C8.pss_cut (ps_setLc (i := 1) (own := [("row", 4)]) (g := gName 4) (by rfl) scRedN.nd rfl rfl (sw_true rfl rfl rfl (by decide +kernel)) (pi_list (pv 1)) (blkOk_by (own := [("row", 4)]) (N := ["numbers", "table", "given", "number", "row"]) (sc := defScope sRedN) (by decide +kernel))
            (fun _ _ _ _ _ => pg_name (i := 4) scRedN.nd rfl (Or.inl rfl)) (fun _ _ _ _ _ => pts_nil) (fun _ _ _ _ _ => pe_callB (call_min2 rfl) (by rfl) B.min PyProof.Rows.boot_min (pa_cons (pv 4) (pa_cons (pe_op op_xor (pv 4) (pv 3)) pa_nil))))
          (pss_one (ps_expr (pe_bm PySem.F.plainAttrs_list PySem.F.slot_list_append PySem.F.type_list_append mt_append (pv 1) (pa_cons (pv 3) pa_nil))))) pss_nil))))
      (pss_one (ps_ret (pe_callBK (cr_sortedRev (b := true)) (by rfl) B.sorted PyProof.Rows.boot_sorted (pa_cons (pv 1) pa_nil) (pk_cons pe_bl pk_nil))))), ?_⟩
    have off : ∀ {G : Hp} {t : Addr}, Same H G → G t = none → H t = none := fun {G t} sg n => by
      cases e : H t with
      | none => rfl
      | some o => rw [sg _ _ e] at n; cases n
    refine ⟨fun σ' H' => ∃ t, σ' = [some (.ref a), some (.ref t), none, none, none] ∧ Same H H' ∧ H t = none ∧ H' t = some (.lst []), ?_, ?_⟩
    · exact ⟨by show 0 ≤ sizeLine; decide, fun t nt => ⟨t, rfl, same_new nt, nt, upd_same⟩⟩
    rintro _ H1 ⟨t0, rfl, s1, n0, e0⟩
    refine ⟨fun σ' H' => ∃ t T v2 v3, σ' = [some (.ref a), some (.ref t), v2, v3, none] ∧ Same H H' ∧ H t = none ∧ H' t = some (.lst (natV T)) ∧ Red T ∧ (∀ x, Spn T x ↔ Spn ns x) ∧ (∀ k, (∀ n ∈ ns, n < 2 ^ k) → ∀ m ∈ T, m < 2 ^ k) ∧ (Indep ns → T.length = ns.length), ?_, ?_⟩
    · refine ⟨_, rfl, a, rfl, ⟨_, Same.seq s1 hS⟩, for_list (K := K) (a := a) (xs := natV ns) (fun i σ H2 => ∃ t T v2 v3, σ = [some (.ref a), some (.ref t), v2, v3, none] ∧ Same H H2 ∧ H t = none ∧ H2 t = some (.lst (natV T)) ∧ Red T ∧ (∀ x, Spn T x ↔ Spn (ns.take i) x) ∧ (∀ k, (∀ n ∈ ns, n < 2 ^ k) → ∀ m ∈ T, m < 2 ^ k) ∧ (Indep ns → T.length = i) ∧ T.length ≤ i)
        ⟨t0, [], none, none, rfl, s1, n0, e0, Red.nil, fun x => Iff.rfl, fun _ _ _ z => (by cases z), fun _ => rfl, Nat.zero_le _⟩ (fun i σ H2 _ ⟨_, _, _, _, _, s2, _⟩ => Same.seq s2 hS) ?_ ?_⟩
      · rintro i y σ H2 hi ⟨t, T, v2, v3, rfl, s2, nt, et, R, hsp, hb, hI, hl⟩
        obtain ⟨g, hg, rfl⟩ := natV_at hi
        have tk := take_snoc hg
        refine ⟨fun σ' H' => σ' = [some (.ref a), some (.ref t), some (.int (g : Nat)), some (.int (rst T g : Nat)), none] ∧ H' = H2, ?_, ?_⟩
        · exact ⟨_, rfl, _, rfl, g, t, T, rfl, .inl (SqL.of et), R.nz, rfl, rfl⟩
        rintro _ H3 ⟨rfl, rfl⟩
        refine ⟨_, rfl, _, rfl, ?_⟩
        by_cases z : rst T g = 0
        · rw [z]
          refine iteF ⟨t, T, _, _, rfl, s2, nt, et, R, fun x => by rw [tk]; exact spn_skip R.ec hsp z x, hb, fun ind => ?_, by omega⟩
          exact absurd ((hsp g).mp ((spn_rst R.ec g).mpr z)) (ind i g hg)
        · have nz : (((rst T g : Nat) : Int) != 0) = true := bne_iff_ne.mpr (by omega)
          rw [nz]
          refine iteT ⟨fun σ' H' => ∃ D, σ' = [some (.ref a), some (.ref D), some (.int (g : Nat)), some (.int (rst T g : Nat)), none] ∧ Same H H' ∧ H D = none ∧ H' D = some (.lst (natV (T.map (lw · (rst T g))))), ?_, ?_⟩
          · refine ⟨_, rfl, t, rfl, ⟨_, SqL.of et⟩, fun D nD => ?_⟩
            refine lc_list (K := K) (a := t) (xs := natV T) (Pv := fun j Hc => Hc D = some (.lst (natV ((T.take j).map (lw · (rst T g))))) ∧ Same H3 Hc) ⟨upd_same, same_new nD⟩ (fun j Hc _ ⟨_, sc⟩ => SqL.of (sc _ _ et)) ?_ ?_
            · rintro j v Hc hj ⟨eD, sc⟩
              obtain ⟨r, hr', rfl⟩ := natV_at hj
              refine ⟨rfl, _, rfl, _, rfl, _, rfl, _, _, rfl, rfl, _, _, rfl, _, eD, ?_, ?_, ?_⟩
              · rw [natV_len, List.length_map, List.length_take]
                have : T.length ≤ 100 := by
                  have := (List.getElem?_eq_some_iff.mp hg).1
                  omega
                exact Nat.lt_of_le_of_lt (by omega : _ ≤ 100) (by decide)
              · rw [upd_same, take_snoc hr', List.map_append, natV_app, bxor, min_lw z]
                rfl
              · intro b o e
                rw [upd_ne (ne_of_none e nD)]
                exact sc _ _ e
            · rintro Hc ⟨eD, sc⟩
              rw [List.take_of_length_le (Nat.le_of_eq (natV_len T).symm)] at eD
              exact ⟨D, rfl, s2.trans sc, off s2 nD, eD⟩
          rintro _ H4 ⟨D, rfl, s4, nD, eD⟩
          have len2 : (T.map (lw · (rst T g)) ++ [rst T g]).length = T.length + 1 := by rw [List.length_append, List.length_map]; rfl
          refine ⟨_, rfl, .inl ⟨rfl, _, SqL.of eD⟩, _, rfl, D, _, _, rfl, rfl, eD, ?_, ?_⟩
          · rw [natV_len, List.length_map]
            have := (List.getElem?_eq_some_iff.mp hg).1
            exact Nat.lt_of_le_of_lt (by omega : _ ≤ 100) (by decide)
          · refine ⟨D, T.map (lw · (rst T g)) ++ [rst T g], _, _, rfl, ?_, nD, ?_, R.add z (rst_clear R.ec), fun x => by rw [tk]; exact spn_add hsp z x, fun k hk m hm => ?_, fun ind => by rw [len2, hI ind], by omega⟩
            · intro b o e
              rw [upd_ne (ne_of_none e nD)]
              exact s4 _ _ e
            · rw [upd_same, natV_app]
              rfl
            · have hv : rst T g < 2 ^ k := rst_lt (hk g (List.mem_of_getElem? hg)) (hb k hk)
              rcases List.mem_append.mp hm with h' | h'
              · obtain ⟨c, hc, rfl⟩ := List.mem_map.mp h'
                exact lw_lt (hb k hk c hc) hv
              · rw [List.mem_singleton.mp h']
                exact hv
      · rintro σ H2 ⟨t, T, v2, v3, rfl, s2, nt, et, R, hsp, hb, hI, hl⟩
        rw [natV_len] at hsp hI
        rw [List.take_length] at hsp
        exact ⟨t, T, v2, v3, rfl, s2, nt, et, R, hsp, hb, hI⟩
    rintro _ H2 ⟨t, T, v2, v3, rfl, s2, nt, et, R, hsp, hb, hI⟩
    refine ⟨_, rfl, t, T.map fun n => ((n : Nat) : Int), rfl, rfl, by rw [← natV_int]; exact SqL.of et, fun ns' p pm od np => ?_⟩
    obtain ⟨U, rfl, pu⟩ := perm_nat pm
    rw [← natV_int]
    have od' : (U.map fun n => ((n : Nat) : Int)).Pairwise (· ≥ ·) := od
    have desc : U.Pairwise (· > ·) := by
      have h1 := List.pairwise_map.mp od'
      have h2 := (R.perm pu.symm).ec.nodup
      refine List.Pairwise.imp₂ (fun x y (g : ((x : Nat) : Int) ≥ y) (n : x ≠ y) => by omega) h1 h2
    refine q p U _ (s2.trans (same_new np)) (off s2 np) upd_same (R.perm pu.symm) desc (fun x => (spn_perm pu x).trans (hsp x)) (fun k hk m hm => hb k hk m (pu.mem_iff.mp hm)) fun ind => by rw [pu.length_eq, hI ind]
end
end KQ
namespace KQ
open PySem PySem.Spec PyProof.Rows L2
abbrev sRel : Stmt := topS 5
abbrev sSing : Stmt := topS 37
theorem scRel : FnScope ["pairs", "table", "found", "given", "given_marks", "number", "marks"] ["pairs"] (defScope sRel) := ⟨rfl, rfl, rfl, by decide +kernel, rfl, by decide +kernel, by decide +kernel⟩
theorem scSing : FnScope ["size", "places", "found", "place"] ["size", "places"] (defScope sSing) := ⟨rfl, rfl, rfl, by decide +kernel, rfl, by decide +kernel, by decide +kernel⟩
/-- a linear map of numbers -/
def Lin (φ : Nat → Nat) : Prop := ∀ x y, φ (x ^^^ y) = φ x ^^^ φ y
theorem Lin.zero {φ : Nat → Nat} (h : Lin φ) : φ 0 = 0 := by
  have := h 0 0
  rw [Nat.xor_self, Nat.xor_self] at this
  exact this
theorem Lin.sx {φ : Nat → Nat} (h : Lin φ) (ns : List Nat) (m : Nat) : φ (sx ns m) = sx (ns.map φ) m := by
  have xs : ∀ {α : Type} (l : List α) (f : α → Nat), φ (XS l f) = XS l fun k => φ (f k) := by
    intro α l f
    induction l with
    | nil => exact h.zero
    | cons a l ih =>
      show φ (f a ^^^ XS l f) = φ (f a) ^^^ XS l fun k => φ (f k)
      rw [h, ih]
  unfold KQ.sx
  rw [xs, List.length_map]
  refine xs_congr fun k hk => ?_
  have hk' := List.mem_range.mp hk
  split
  · rw [List.getD_eq_getElem?_getD, List.getD_eq_getElem?_getD, List.getElem?_map, List.getElem?_eq_getElem hk']
    rfl
  · exact h.zero
theorem ec_indep {T : List Nat} (E : Ec T) : Indep T := by
  intro i x hx sp
  have il := (List.getElem?_eq_some_iff.mp hx).1
  have take : Ec (T.take i) := ⟨fun r hr => E.nz r (List.mem_of_mem_take hr), E.pw.sublist (List.take_sublist i T)⟩
  have z := (spn_rst take x).mp sp
  have clear : ∀ r ∈ T.take i, x.testBit r.log2 = false := by
    intro r hr
    have pw := E.pw
    rw [← List.take_append_drop i T, List.pairwise_append] at pw
    refine pw.2.2 r hr x ?_
    have : T.drop i = x :: T.drop (i + 1) := by
      rw [List.drop_eq_getElem_cons il]
      congr 1
      rw [List.getElem?_eq_getElem il] at hx
      exact Option.some.inj hx
    rw [this]
    exact List.mem_cons_self ..
  have same : ∀ {l : List Nat}, (∀ r ∈ l, x.testBit r.log2 = false) → rst l x = x := by
    intro l
    induction l with
    | nil => intro _; rfl
    | cons a l ih =>
      intro h
      show rst l (lw x a) = x
      have : lw x a = x := by unfold lw; rw [h a (List.mem_cons_self ..)]; rfl
      rw [this]
      exact ih fun r hr => h r (List.mem_cons_of_mem _ hr)
  rw [same clear] at z
  exact E.nz x (List.mem_of_getElem? hx) z
/-- a sum of both lists is a sum of the one and a sum of the other -/
theorem spn_split {T U : List Nat} {x : Nat} (h : Spn (T ++ U) x) : ∃ t u, x = t ^^^ u ∧ Spn T t ∧ Spn U u := by
  refine h (fun y => ∃ t u, y = t ^^^ u ∧ Spn T t ∧ Spn U u) ⟨⟨0, 0, rfl, (spn_sub _).1, (spn_sub _).1⟩, ?_⟩ fun a ha => ?_
  · rintro x y ⟨t, u, rfl, h1, h2⟩ ⟨t', u', rfl, h3, h4⟩
    refine ⟨t ^^^ t', u ^^^ u', ?_, (spn_sub _).2 _ _ h1 h3, (spn_sub _).2 _ _ h2 h4⟩
    rw [Nat.xor_assoc, Nat.xor_assoc, ← Nat.xor_assoc u, Nat.xor_comm u, Nat.xor_assoc t']
  · rcases List.mem_append.mp ha with h | h
    · exact ⟨a, 0, (Nat.xor_zero a).symm, spn_mem h, (spn_sub _).1⟩
    · exact ⟨0, a, (Nat.zero_xor a).symm, (spn_sub _).1, spn_mem h⟩
theorem spn_zero {φ : Nat → Nat} (h : Lin φ) {F : List Nat} (hF : ∀ f ∈ F, φ f = 0) {x : Nat} (hx : Spn F x) : φ x = 0 := hx (fun y => φ y = 0) ⟨h.zero, fun x y (a : φ x = 0) (b : φ y = 0) => by show φ (x ^^^ y) = 0; rw [h, a, b]; rfl⟩ hF
/-- the table and the relations, as they are made -/
def relT (s : List (Nat × Nat) × List Nat) (p : Nat × Nat) : List (Nat × Nat) × List Nat := if (lowS p.1 p.2 s.1).1 = 0 then (s.1, s.2 ++ [(lowS p.1 p.2 s.1).2]) else (s.1 ++ [lowS p.1 p.2 s.1], s.2)
def relS (l : List (Nat × Nat)) : List (Nat × Nat) × List Nat := l.foldl relT ([], [])
theorem relS_snoc (l : List (Nat × Nat)) (p : Nat × Nat) : relS (l ++ [p]) = relT (relS l) p := by
  unfold relS
  rw [List.foldl_append]
  rfl
/-- what the relations of marked numbers are -/
structure RelOf (φ : Nat → Nat) (ms F : List Nat) : Prop where
  zero : ∀ f ∈ F, φ f = 0
  span : ∀ f ∈ F, Spn ms f
  all : ∀ x, Spn ms x → φ x = 0 → Spn F x
  ind : Indep ms → Indep F
def mkL (L : List (Addr × Nat × Nat)) : List Nat := L.map fun p => p.2.2
structure RelAt (φ : Nat → Nat) (ms : List Nat) (L : List (Addr × Nat × Nat)) (F : List Nat) : Prop where
  ec : Ec (numL L)
  fit : ∀ p ∈ L, φ p.2.2 = p.2.1
  lsp : ∀ p ∈ L, Spn ms p.2.2
  zero : ∀ f ∈ F, φ f = 0
  span : ∀ f ∈ F, Spn ms f
  both : ∀ x, Spn ms x → Spn (mkL L ++ F) x
  ind : Indep ms → Indep F
theorem RelAt.nil (φ : Nat → Nat) : RelAt φ [] [] [] := ⟨⟨fun _ z => (by cases z), List.Pairwise.nil⟩, fun _ z => (by cases z), fun _ z => (by cases z), fun _ z => (by cases z), fun _ z => (by cases z), fun _ h => h, fun _ i x hx => by cases hx⟩
theorem RelAt.rel {φ : Nat → Nat} (h : Lin φ) {ms : List Nat} {L : List (Addr × Nat × Nat)} {F : List Nat} (R : RelAt φ ms L F) : RelOf φ ms F := by
  refine ⟨R.zero, R.span, fun x hx z => ?_, R.ind⟩
  obtain ⟨t, u, rfl, ht, hu⟩ := spn_split (R.both x hx)
  have hu0 := spn_zero h R.zero hu
  rw [h, hu0, Nat.xor_zero] at z
  obtain ⟨m, hm, rfl⟩ := inSp_iff.mp (inSp_spn.mpr ht)
  rw [h.sx] at z
  have e : (mkL L).map φ = numL L := by
    unfold mkL numL
    rw [List.map_map]
    exact List.map_congr_left fun p hp => R.fit p hp
  rw [e] at z
  have m0 : m = 0 := indep_sx (ec_indep R.ec) (by
    unfold mkL at hm
    unfold numL
    rw [List.length_map] at hm ⊢
    exact hm) z
  rw [m0, sx_zero, Nat.zero_xor]
  exact hu
theorem sp_more {ms : List Nat} {m x : Nat} (h : Spn ms x) : Spn (ms ++ [m]) x := spn_snoc_skip h
/-- a row more: kept, or found -/
theorem RelAt.step {φ : Nat → Nat} (h : Lin φ) {ms : List Nat} {L : List (Addr × Nat × Nat)} {F : List Nat} (R : RelAt φ ms L F) {m mk : Nat} (K : MkRel L (φ m) m mk) :
    (∀ r : Addr, rst (numL L) (φ m) ≠ 0 → RelAt φ (ms ++ [m]) (L ++ [(r, rst (numL L) (φ m), mk)]) F) ∧ (rst (numL L) (φ m) = 0 → RelAt φ (ms ++ [m]) L (F ++ [mk])) := by
  have rel := K.lin φ h R.fit
  rw [Nat.xor_self] at rel
  have val : φ mk = rst (numL L) (φ m) := (x_zero rel).symm
  have low : Spn ms (mk ^^^ m) := spn_le (fun a ha => by
    obtain ⟨p, hp, rfl⟩ := List.mem_map.mp ha
    exact R.lsp p hp) K.sp
  have mkS : Spn (ms ++ [m]) mk := by
    have := (spn_sub _).2 _ _ (sp_more (m := m) low) (spn_mem (T := ms ++ [m]) (List.mem_append_right _ (List.mem_singleton_self m)))
    rwa [Nat.xor_assoc, Nat.xor_self, Nat.xor_zero] at this
  have mIn : ∀ {U : List Nat}, (∀ a ∈ mkL L, a ∈ U) → mk ∈ U → Spn U m := fun {U} hU hmk => by
    have a1 : Spn U (mk ^^^ m) := spn_le (fun a ha => spn_mem (hU a ha)) K.sp
    have := (spn_sub _).2 _ _ (spn_mem hmk) a1
    rwa [← Nat.xor_assoc, Nat.xor_self, Nat.zero_xor] at this
  constructor
  · intro r nz
    refine ⟨?_, fun p hp => ?_, fun p hp => ?_, R.zero, fun f hf => sp_more (R.span f hf), fun x hx => ?_, fun I => R.ind fun i x hx => ?_⟩
    · have : numL (L ++ [(r, rst (numL L) (φ m), mk)]) = numL L ++ [rst (numL L) (φ m)] := List.map_append ..
      rw [this]
      exact R.ec.snoc nz (rst_clear R.ec)
    · rcases List.mem_append.mp hp with hp | hp
      · exact R.fit p hp
      · rw [List.mem_singleton.mp hp]
        exact val
    · rcases List.mem_append.mp hp with hp | hp
      · exact sp_more (R.lsp p hp)
      · rw [List.mem_singleton.mp hp]
        exact mkS
    · have em : mkL (L ++ [(r, rst (numL L) (φ m), mk)]) = mkL L ++ [mk] := List.map_append ..
      rw [em]
      refine spn_le (fun a ha => ?_) hx
      rcases List.mem_append.mp ha with ha | ha
      · refine spn_le (fun b hb => spn_mem ?_) (R.both a (spn_mem ha))
        rcases List.mem_append.mp hb with hb | hb
        · exact List.mem_append_left _ (List.mem_append_left _ hb)
        · exact List.mem_append_right _ hb
      · rw [List.mem_singleton.mp ha]
        exact mIn (fun a ha => List.mem_append_left _ (List.mem_append_left _ ha)) (List.mem_append_left _ (List.mem_append_right _ (List.mem_singleton_self _)))
    · have il := (List.getElem?_eq_some_iff.mp hx).1
      have := I i x (by rw [List.getElem?_append_left il]; exact hx)
      rwa [List.take_append_of_le_length (Nat.le_of_lt il)] at this
  · intro z
    refine ⟨R.ec, R.fit, fun p hp => sp_more (R.lsp p hp), fun f hf => ?_, fun f hf => ?_, fun x hx => ?_, fun I => ?_⟩
    · rcases List.mem_append.mp hf with hf | hf
      · exact R.zero f hf
      · rw [List.mem_singleton.mp hf, val, z]
    · rcases List.mem_append.mp hf with hf | hf
      · exact sp_more (R.span f hf)
      · rw [List.mem_singleton.mp hf]
        exact mkS
    · refine spn_le (fun a ha => ?_) hx
      rcases List.mem_append.mp ha with ha | ha
      · refine spn_le (fun b hb => spn_mem ?_) (R.both a (spn_mem ha))
        rcases List.mem_append.mp hb with hb | hb
        · exact List.mem_append_left _ hb
        · exact List.mem_append_right _ (List.mem_append_left _ hb)
      · rw [List.mem_singleton.mp ha]
        exact mIn (fun a ha => List.mem_append_left _ ha) (List.mem_append_right _ (List.mem_append_right _ (List.mem_singleton_self _)))
    · have Im : Indep ms := fun i x hx => by
        have il := (List.getElem?_eq_some_iff.mp hx).1
        have := I i x (by rw [List.getElem?_append_left il]; exact hx)
        rwa [List.take_append_of_le_length (Nat.le_of_lt il)] at this
      have nm : ¬ Spn ms m := by
        have := I ms.length m (by rw [List.getElem?_append_right (Nat.le_refl _), Nat.sub_self]; rfl)
        rwa [List.take_left'  rfl] at this
      refine (R.ind Im).snoc fun sp => nm ?_
      have a1 : Spn ms mk := spn_le (fun a ha => R.span a ha) sp
      have := (spn_sub _).2 _ _ a1 low
      rwa [← Nat.xor_assoc, Nat.xor_self, Nat.zero_xor] at this
end KQ
namespace KQ
open PySem PySem.Spec PyProof.Rows L2
/-- a list or a tuple of the program's own, walked while other objects change -/
def SeqN (H : Hp) (a : Addr) (xs : List V) : Prop := H a = some (.lst xs) ∨ TupIs H a xs
theorem SeqN.sq {K : PySem.W.Frag} {H : Hp} {a : Addr} {xs : List V} (h : SeqN H a xs) : SqLT K H a xs := h.elim (fun e => .inl (SqL.of e)) fun e => .inr e.sq
theorem SeqN.keep {H H' : Hp} {a : Addr} {xs : List V} (h : SeqN H a xs) (k : ∀ o, H a = some o → H' a = some o) : SeqN H' a xs := h.elim (fun e => .inl (k _ e)) fun e => .inr (e.keep k)
theorem SeqN.same {H H' : Hp} {a : Addr} {xs : List V} (s : Same H H') (h : SeqN H a xs) : SeqN H' a xs := h.keep fun _ e => s _ _ e
theorem SeqN.ex {H : Hp} {a : Addr} {xs : List V} (h : SeqN H a xs) : ∃ o, H a = some o := h.elim (fun e => ⟨_, e⟩) fun e => let ⟨o, e, _⟩ := e.ob; ⟨o, e⟩
theorem ItSq.mono {J : It} {S T : Hp → Prop} {xs : List V} (h : ItSq J S xs) (k : ∀ H, T H → S H) : ItSq J T xs := ⟨fun i H t => h.go i H (k H t), fun i H x H' t => h.yld i H x H' (k H t), fun i H t => h.stop i H (k H t)⟩
def iSeqN (tl : TE) : TI := fun σ H R => tl σ H fun x H1 => ∃ a xs, x = .ref a ∧ SeqN H1 a xs ∧ ∀ J S, ItSq J S xs → S H1 → (∀ G G', (∀ o, G a = some o → G' a = some o) → S G → S G') → R J H1
theorem pi_seqN {X : Cx} {tg l : Expr} {tl : TE} (hl : PE X l tl) : PI X tg l (iSeqN tl) := by
  refine ⟨fun pins s σ H R I h => ?_⟩
  refine thn (hl.run pins s σ H _ I h) fun v s1 ⟨x, H1, I1, r1, q1⟩ => ?_
  obtain ⟨a, xs, e, hq, q⟩ := q1
  subst e
  cases r1
  rcases hq with hq | hq
  · obtain ⟨its, rv, p, hz⟩ := I1.list (SqL.of hq)
    refine wpAny_pyIter_list p.isList (pi_one (tk := s1.toks) I1 _ (turn_list a _) ⟨_, Heap.get?_push_size _ rfl, rfl, rfl⟩ (q _ (fun G => G a = some (.lst xs)) (itsq_list.mono fun G e => SqL.of e) hq fun G G' k e => k _ e))
  · obtain ⟨its, rv, p, hz⟩ := I1.tuple hq.sq
    refine wpAny_pyIter_tuple (show s1.heap.IsTuple a its.toArray from p) (pi_one (tk := s1.toks) I1 _ (turn_tuple a _) ⟨_, Heap.get?_push_size _ rfl, rfl, rfl⟩ (q _ (fun G => TupIs G a xs) (itsq_tup.mono fun G e => e.sq) hq fun G G' k e => e.keep k))
def spRel (K : PySem.W.Frag) : Sp := fun vs H Q _ => ∃ (a : Addr) (P : List (Addr × Nat × Nat)) (φ : Nat → Nat), vs = [.ref a] ∧ SqL K H a (refV P) ∧ MkAt H P ∧ P.length ≤ 100 ∧ Lin φ ∧ (∀ p ∈ P, φ p.2.2 = p.2.1) ∧
  ∀ H' l F, Same H H' → H l = none → H' l = some (.lst (natV F)) → RelOf φ (mkL P) F → F.length ≤ P.length → F = (relS (P.map fun p => p.2)).2 → Q (.ref l) H'
def singL (n : Nat) (ps : List Nat) : List Nat := ps.flatMap fun p => [2 ^ (2 * n - 1 - p), 2 ^ (n - 1 - p)]
def spSing : Sp := fun vs H Q _ => ∃ (n : Nat) (a : Addr) (ps : List Nat), vs = [.int (n : Nat), .ref a] ∧ SeqN H a (natV ps) ∧ n ≤ 300 ∧ (∀ p ∈ ps, p < n) ∧ ps.length ≤ 300 ∧
  ∀ H' l, Same H H' → H l = none → H' l = some (.lst (natV (singL n ps))) → Q (.ref l) H'
theorem none_bk {H H' : Hp} {p : Addr} (s : Same H H') (np : H' p = none) : H p = none := by
  cases e : H p with
  | none => rfl
  | some o => rw [s _ _ e] at np; cases np
theorem refV_at {L : List (Addr × Nat × Nat)} {i : Nat} {v : V} (h : (refV L)[i]? = some v) : ∃ p, L[i]? = some p ∧ v = .ref p.1 := by
  unfold refV at h
  rw [List.getElem?_map] at h
  obtain ⟨p, hp, rfl⟩ := Option.map_eq_some_iff.mp h
  exact ⟨p, hp, rfl⟩
section
variable {P : Program} {w : World} {K : PySem.W.Frag} {mg : Str → Option Value} {base : Heap}
theorem ok_rel {f fL : Addr} {fd dL : FuncData} {k : Nat} (F : Fun K "relations" "relations" sRel f fd) (FL : Fun K "_lowered" "_lowered" sLow fL dL) (bL : Binds K dL ["number", "marks", "table"] []) (gL : mg "lowered_bitnumbers" = some (.ref fL)) :
    FnOk P w K mg base CX0 (k + 2) f fd ["pairs"] (spRel K) := by
  have GL : FnOk P w K mg base CX0 (k + 1) fL dL ["number", "marks", "table"] spLow := ok_low FL
  refine F.ok scRel (fun vs H Q E h => ?_) (fun cdv A outer s H vs Q E hr h => ?_)
  · obtain ⟨a, P, φ, rfl, _⟩ := h
    rfl
  · obtain ⟨a, P, φ, rfl, hS, hM, hlen, hl, hφ, q⟩ := h
    have app : ∀ (i : Nat) (e : Expr), True := fun _ _ => trivial
    refine ⟨_, C8.pss_cut (ps_set (i := 1) scRel.nd rfl (.inl rfl) (pe_lst pa_nil))
      (C8.pss_cut (ps_set (i := 2) scRel.nd rfl (.inl rfl) (pe_lst pa_nil))
      (C8.pss_cut (ps_for PassesOwn.never rfl (pi_list (pv 0)) (pg_tup rfl (pgs_cons (pg_name (i := 3) scRel.nd rfl (.inl rfl)) (pgs_cons (pg_name (i := 4) scRel.nd rfl (.inl rfl)) pgs_nil)))
        (C8.pss_cut (ps_asg (pe_call GL hr (by rfl) gL FL.kp bL .nil pass0 (pa_cons (pv 3) (pa_cons (pv 4) (pa_cons (pv 1) pa_nil)))) (pg_tup rfl (pgs_cons (pg_name (i := 5) scRel.nd rfl (.inl rfl)) (pgs_cons (pg_name (i := 6) scRel.nd rfl (.inl rfl)) pgs_nil))))
        (pss_one (ps_if (pt_truth (pv 5) (by intro _; rfl))
          (pss_one (ps_expr (pe_bm PySem.F.plainAttrs_list PySem.F.slot_list_append PySem.F.type_list_append mt_append (pv 1) (pa_cons (pe_tup (pa_cons (pv 5) (pa_cons (pv 6) pa_nil))) pa_nil))))
          (pss_one (ps_expr (pe_bm PySem.F.plainAttrs_list PySem.F.slot_list_append PySem.F.type_list_append mt_append (pv 2) (pa_cons (pv 6) pa_nil))))))))
      (pss_one (ps_ret (pv 2))))), ?_⟩
    refine ⟨fun σ' H' => ∃ t, σ' = [some (.ref a), some (.ref t), none, none, none, none, none] ∧ Same H H' ∧ H t = none ∧ H' t = some (.lst []), ⟨by show 0 ≤ sizeLine; decide, fun t nt => ⟨t, rfl, same_new nt, nt, upd_same⟩⟩, ?_⟩
    rintro _ H1 ⟨t, rfl, s1, nt, et⟩
    refine ⟨fun σ' H' => ∃ fo, σ' = [some (.ref a), some (.ref t), some (.ref fo), none, none, none, none] ∧ Same H H' ∧ H fo = none ∧ t ≠ fo ∧ H' t = some (.lst []) ∧ H' fo = some (.lst []), ⟨by show 0 ≤ sizeLine; decide, fun fo nf => ⟨fo, rfl, s1.trans (same_new nf), none_bk s1 nf, ne_of_none et nf, (same_new nf) _ _ et, upd_same⟩⟩, ?_⟩
    rintro _ H2 ⟨fo, rfl, s2, nf, ntf, et2, ef2⟩
    refine ⟨fun σ' H' => ∃ (F : List Nat) (v3 v4 v5 v6 : Option V), σ' = [some (.ref a), some (.ref t), some (.ref fo), v3, v4, v5, v6] ∧ Same H H' ∧ H' fo = some (.lst (natV F)) ∧ RelOf φ (mkL P) F ∧ F.length ≤ P.length ∧ F = (relS (P.map fun p => p.2)).2, ?_, ?_⟩
    · refine ⟨_, rfl, a, rfl, ⟨_, Same.seq s2 hS⟩, for_list (K := K) (a := a) (xs := refV P) (fun i σ H' => ∃ (L : List (Addr × Nat × Nat)) (F : List Nat) (v3 v4 v5 v6 : Option V), σ = [some (.ref a), some (.ref t), some (.ref fo), v3, v4, v5, v6] ∧ Same H H' ∧ H' t = some (.lst (refV L)) ∧ MkAt H' L ∧ H' fo = some (.lst (natV F)) ∧ RelAt φ (mkL (P.take i)) L F ∧ L.length ≤ i ∧ F.length ≤ i ∧ (L.map (fun p => p.2), F) = relS ((P.take i).map fun p => p.2))
        ⟨[], [], none, none, none, none, rfl, s2, et2, fun p z => (by cases z), ef2, RelAt.nil φ, Nat.le_refl _, Nat.le_refl _, rfl⟩ (fun i σ H' _ ⟨_, _, _, _, _, _, _, s3, _⟩ => Same.seq s3 hS) ?_ ?_⟩
      · rintro i x _ H3 hi ⟨L, F, v3, v4, v5, v6, rfl, s3, et3, hM3, ef3, R, lL, lF, eS⟩
        obtain ⟨p, hp, rfl⟩ := refV_at hi
        have hpm := List.mem_of_getElem? hp
        have il := (List.getElem?_eq_some_iff.mp hp).1
        have ep := s3 _ _ (hM p hpm)
        have em : mkL (P.take (i + 1)) = mkL (P.take i) ++ [p.2.2] := by
          rw [take_snoc hp]
          unfold mkL
          rw [List.map_append]
          rfl
        refine ⟨_, _, rfl, .inl (.inl ep), rfl, _, _, rfl, _, _, rfl, rfl, ?_⟩
        refine ⟨fun σ' H' => ∃ mk, σ' = [some (.ref a), some (.ref t), some (.ref fo), some (.int (p.2.1 : Nat)), some (.int (p.2.2 : Nat)), some (.int (rst (numL L) p.2.1 : Nat)), some (.int (mk : Nat))] ∧ Same H3 H' ∧ MkRel L p.2.1 p.2.2 mk, ?_, ?_⟩
        · exact ⟨_, rfl, _, rfl, _, rfl, p.2.1, p.2.2, t, L, rfl, et3, hM3, R.ec.nz, fun mk H' r MR s' _ e' => ⟨r, _, rfl, .inl (.inl e'), rfl, _, _, rfl, _, _, rfl, rfl, mk, rfl, s', MR⟩⟩
        rintro _ H4 ⟨mk, rfl, s4, MR⟩
        have et4 := s4 _ _ et3
        have ef4 := s4 _ _ ef3
        have fq : lowS p.2.1 p.2.2 (L.map fun p => p.2) = (rst (numL L) p.2.1, mk) := by
          refine Prod.ext ?_ MR.fn.symm
          rw [lowS_fst, List.map_map]
          rfl
        have eN : relS ((P.take (i + 1)).map fun p => p.2) = relT (L.map (fun p => p.2), F) p.2 := by
          rw [take_snoc hp, List.map_append]
          show relS (_ ++ [p.2]) = _
          rw [relS_snoc, eS]
        unfold relT at eN
        rw [fq] at eN
        rw [← hφ p hpm] at MR
        obtain ⟨st1, st2⟩ := R.step hl MR
        rw [hφ p hpm] at st1 st2
        refine ⟨_, rfl, _, rfl, ?_⟩
        by_cases z : rst (numL L) p.2.1 = 0
        · rw [z]
          refine iteF ⟨_, rfl, .inl ⟨rfl, _, SqL.of ef4⟩, _, rfl, fo, _, _, rfl, rfl, ef4, ?_, L, F ++ [mk], _, _, _, _, rfl, ?_, ?_, ?_, ?_, by rw [em]; exact st2 z, by omega, ?_, by rw [eN, if_pos z]⟩
          · rw [natV_len]
            exact Nat.lt_of_le_of_lt (by omega : _ ≤ 100) (by decide)
          · intro b o e
            rw [upd_ne (ne_of_none e nf)]
            exact s4 _ _ (s3 _ _ e)
          · rw [upd_ne ntf]
            exact et4
          · intro q' hq'
            have e := s4 _ _ (hM3 q' hq')
            rw [upd_ne (ne_of e ef4 (by intro z; cases z))]
            exact e
          · rw [upd_same]
            unfold natV
            rw [List.map_append]
            rfl
          · rw [List.length_append, List.length_singleton]
            omega
        · have nz : (((rst (numL L) p.2.1 : Nat) : Int) != 0) = true := bne_iff_ne.mpr (by omega)
          rw [nz]
          refine iteT ⟨_, rfl, .inl ⟨rfl, _, SqL.of et4⟩, _, rfl, _, rfl, by show 2 ≤ sizeLine; decide, fun r nr => ⟨t, _, _, rfl, rfl, (upd_ne (ne_of_none et4 nr)).trans et4, ?_, L ++ [(r, rst (numL L) p.2.1, mk)], F, _, _, _, _, rfl, ?_, ?_, ?_, ?_, by rw [em]; exact st1 r z, ?_, by omega, by rw [eN, if_neg z, List.map_append]; rfl⟩⟩
          · unfold refV
            rw [List.length_map]
            exact Nat.lt_of_le_of_lt (by omega : _ ≤ 100) (by decide)
          · intro b o e
            have e4 := s4 _ _ (s3 _ _ e)
            rw [upd_ne (ne_of_none e nt), upd_ne (ne_of_none e4 nr)]
            exact e4
          · rw [upd_same]
            unfold refV
            rw [List.map_append]
            rfl
          · intro q' hq'
            rcases List.mem_append.mp hq' with hq' | hq'
            · have e := s4 _ _ (hM3 q' hq')
              rw [upd_ne (ne_of e et4 (by intro z; cases z)), upd_ne (ne_of_none e nr)]
              exact e
            · rw [List.mem_singleton.mp hq', upd_ne (ne_of_none et4 nr).symm]
              exact upd_same
          · rw [upd_ne ntf.symm, upd_ne (ne_of_none ef4 nr)]
            exact ef4
          · rw [List.length_append, List.length_singleton]
            omega
      · rintro _ H3 ⟨L, F, v3, v4, v5, v6, rfl, s3, et3, hM3, ef3, R, lL, lF, eS⟩
        have lP : (refV P).length = P.length := by unfold refV; rw [List.length_map]
        rw [lP, List.take_length] at R eS
        exact ⟨F, v3, v4, v5, v6, rfl, s3, ef3, R.rel hl, by omega, congrArg Prod.snd eS⟩
    rintro _ H3 ⟨F, v3, v4, v5, v6, rfl, s3, ef3, R, lF, fF⟩
    exact ⟨_, rfl, q H3 fo F s3 nf ef3 R lF fF⟩
theorem ok_sing {f : Addr} {fd : FuncData} {k : Nat} (F : Fun K "single_bits" "single_bits" sSing f fd) : FnOk P w K mg base CX0 (k + 1) f fd ["size", "places"] spSing := by
  refine F.ok scSing (fun vs H Q E h => ?_) (fun cdv A outer s H vs Q E hr h => ?_)
  · obtain ⟨n, a, ps, rfl, _⟩ := h
    rfl
  · obtain ⟨n, a, ps, rfl, hS, hn, hps, hlen, q⟩ := h
    refine ⟨_, C8.pss_cut (ps_set (i := 2) scSing.nd rfl (.inl rfl) (pe_lst pa_nil))
      (C8.pss_cut (ps_for PassesOwn.never rfl (pi_seqN (pv 1)) (pg_name (i := 3) scSing.nd rfl (.inl rfl))
        (pss_cons (ps_expr (pe_bm PySem.F.plainAttrs_list PySem.F.slot_list_append PySem.F.type_list_append mt_append (pv 2) (pa_cons (pe_op op_oneShl pe_int (pe_op op_sub (pe_op op_sub (pe_op op_mul pe_int (pv 0)) pe_int) (pv 3))) pa_nil)))
        (pss_one (ps_expr (pe_bm PySem.F.plainAttrs_list PySem.F.slot_list_append PySem.F.type_list_append mt_append (pv 2) (pa_cons (pe_op op_oneShl pe_int (pe_op op_sub (pe_op op_sub (pv 0) pe_int) (pv 3))) pa_nil))))))
      (pss_one (ps_ret (pv 2)))), ?_⟩
    refine ⟨fun σ' H' => ∃ fo, σ' = [some (.int (n : Nat)), some (.ref a), some (.ref fo), none] ∧ Same H H' ∧ H fo = none ∧ H' fo = some (.lst []), ⟨by show 0 ≤ sizeLine; decide, fun t nt => ⟨t, rfl, same_new nt, nt, upd_same⟩⟩, ?_⟩
    rintro _ H1 ⟨fo, rfl, s1, nf, ef⟩
    refine ⟨fun σ' H' => ∃ v3, σ' = [some (.int (n : Nat)), some (.ref a), some (.ref fo), v3] ∧ Same H H' ∧ H' fo = some (.lst (natV (singL n ps))), ?_, ?_⟩
    · refine ⟨_, rfl, a, _, rfl, hS.same s1, fun J S hJ hS0 hSs => for_sq hJ (fun i σ' H' => ∃ v3, σ' = [some (.int (n : Nat)), some (.ref a), some (.ref fo), v3] ∧ Same H H' ∧ S H' ∧ H' fo = some (.lst (natV (singL n (ps.take i))))) ⟨none, rfl, s1, hS0, ef⟩ (fun i σ H' ⟨_, _, _, h, _⟩ => h) ?_ ?_⟩
      · rintro i y σ H2 hi ⟨v3, rfl, s2, hS2, ef2⟩
        obtain ⟨p, hp, rfl⟩ := natV_at hi
        have pn := hps p (List.mem_of_getElem? hp)
        have pl := (List.getElem?_eq_some_iff.mp hp).1
        have es : singL n (ps.take (i + 1)) = singL n (ps.take i) ++ [2 ^ (2 * n - 1 - p), 2 ^ (n - 1 - p)] := by
          unfold singL
          rw [take_snoc hp, List.flatMap_append]
          rfl
        have len : ∀ j, (singL n (ps.take j)).length ≤ 2 * j := fun j => by
          have : ∀ l : List Nat, (singL n l).length = 2 * l.length := fun l => by
            induction l with
            | nil => rfl
            | cons a l ih =>
              show ([2 ^ (2 * n - 1 - a), 2 ^ (n - 1 - a)] ++ singL n l).length = _
              rw [List.length_append, ih]
              show 2 + 2 * l.length = 2 * (l.length + 1)
              omega
          rw [this, List.length_take]
          omega
        have fa : ∀ {G : Hp}, Same H G → ∀ {o'}, G fo = some o' → a ≠ fo := fun {G} sg {o'} e z => by
          obtain ⟨o, eo⟩ := hS.ex
          rw [z, nf] at eo
          cases eo
        have nfa : a ≠ fo := fa s2 ef2
        have pw : ∀ k : Nat, ((2 : Int) ^ k) = ((2 ^ k : Nat) : Int) := fun k => by push_cast; rfl
        refine ⟨_, rfl, .inl ⟨rfl, _, SqL.of ef2⟩, _, rfl, _, _, rfl, rfl, .inl ⟨by decide, by decide⟩, _, _, rfl, rfl, _, rfl, _, _, rfl, rfl, 2 * n - 1 - p, rfl, ?_, by omega, fo, _, _, rfl, rfl, ef2, ?_, ?_⟩
        · show V.int (2 * (n : Int) - 1 - (p : Int)) = _
          congr 1
          omega
        · rw [natV_len]
          have := len i
          exact Nat.lt_of_le_of_lt (by omega : _ ≤ 600) (by decide)
        have e3 : (upd H2 fo (.lst (natV (singL n (ps.take i)) ++ [V.int (2 ^ (2 * n - 1 - p))]))) fo = some (.lst (natV (singL n (ps.take i) ++ [2 ^ (2 * n - 1 - p)]))) := by
          rw [upd_same, pw]
          unfold natV
          rw [List.map_append]
          rfl
        refine ⟨_, rfl, .inl ⟨rfl, _, SqL.of e3⟩, _, rfl, _, _, rfl, rfl, _, rfl, _, _, rfl, rfl, n - 1 - p, rfl, ?_, by omega, fo, _, _, rfl, rfl, e3, ?_, _, rfl, ?_, ?_, ?_⟩
        · show V.int ((n : Int) - 1 - (p : Int)) = _
          congr 1
          omega
        · rw [natV_len, List.length_append, List.length_singleton]
          have := len i
          exact Nat.lt_of_le_of_lt (by omega : _ ≤ 602) (by decide)
        · intro b o e
          have hb := ne_of_none e nf
          rw [upd_ne hb, upd_ne hb]
          exact s2 _ _ e
        · exact hSs _ _ (fun o e => by rw [upd_ne nfa, upd_ne nfa]; exact e) hS2
        · rw [upd_same, es, pw]
          unfold natV
          rw [List.map_append, List.map_append, List.append_assoc]
          rfl
      · rintro σ H2 ⟨v3, rfl, s2, hS2, ef2⟩
        rw [natV_len, List.take_length] at ef2
        exact ⟨v3, rfl, s2, ef2⟩
    rintro _ H2 ⟨v3, rfl, s2, ef2⟩
    exact ⟨_, rfl, q H2 fo s2 nf ef2⟩
end
end KQ
namespace KQ
open PySem PySem.Spec PyProof.Rows L2
abbrev sShuf : Stmt := topS 66
abbrev sOnes : Stmt := topS 67
abbrev sCross : Stmt := topS 68
abbrev sProd : Stmt := topS 70
abbrev sLett : Stmt := topS 71
abbrev sText : Stmt := topS 72
abbrev sOfT : Stmt := topS 73
abbrev sGate : Stmt := topS 74
abbrev sCode : Stmt := topS 75
abbrev sLaw : Stmt := topS 85
theorem erase_perm {α : Type} : ∀ {l : List α} {i : Nat} (h : i < l.length), (l[i] :: l.eraseIdx i).Perm l
  | [], _, h => absurd h (Nat.not_lt_zero _)
  | _ :: _, 0, _ => .refl _
  | a :: l, i + 1, h => (List.Perm.swap a _ _).trans ((erase_perm (l := l) (i := i) (Nat.lt_of_succ_lt_succ h)).cons a)
theorem scOnes : FnScope ["_law_number", "_law_count", "_law_lap"] ["_law_number"] (defScope sOnes) := ⟨rfl, rfl, rfl, by decide +kernel, rfl, by decide +kernel, by decide +kernel⟩
theorem scLett : FnScope ["_law_string", "_law_size", "_law_found", "_law_k"] ["_law_string", "_law_size"] (defScope sLett) := ⟨rfl, rfl, rfl, by decide +kernel, rfl, by decide +kernel, by decide +kernel⟩
theorem scOfT : FnScope ["_law_text_here", "_law_sign", "_law_letters_here", "_law_x", "_law_z", "_law_k"] ["_law_text_here"] (defScope sOfT) := ⟨rfl, rfl, rfl, by decide +kernel, rfl, by decide +kernel, by decide +kernel⟩
theorem shr_bit {f : Nat → Nat} (hf : ∀ c, f c < 2) {L : List Nat} {k c : Nat} (h : L[k]? = some c) : ((bv f L : Nat) : Int) / 2 ^ ((0 : Int) + (k : Nat)).toNat % 2 = ((f c : Nat) : Int) := by
  rw [Int.zero_add, Int.toNat_natCast]
  have e := bv_bit hf h
  have : (((bv f L / 2 ^ k % 2 : Nat)) : Int) = ((f c : Nat) : Int) := by rw [e]
  rw [← this]
  push_cast
  rfl
theorem e_XY : ("XY" : Str).cps.toList = [88, 89] := by decide +kernel
theorem e_ZY : ("ZY" : Str).cps.toList = [90, 89] := by decide +kernel
theorem e_IXZY : ("IXZY" : Str) = mS [73, 88, 90, 89] := by decide +kernel
theorem e_pm : ("+-" : Str) = mS [43, 45] := by decide +kernel
theorem in_XY (c : Nat) : (if decide (c ∈ ("XY" : Str).cps.toList) then (1 : Int) else 0) = ((lx c : Nat) : Int) := by
  rw [e_XY]
  unfold lx
  by_cases h : c = 88 ∨ c = 89
  · rw [if_pos h, if_pos (decide_eq_true (by simpa using h))]
    rfl
  · rw [if_neg h, if_neg (by simpa using h)]
    rfl
theorem in_ZY (c : Nat) : (if decide (c ∈ ("ZY" : Str).cps.toList) then (1 : Int) else 0) = ((lz c : Nat) : Int) := by
  rw [e_ZY]
  unfold lz
  by_cases h : c = 90 ∨ c = 89
  · rw [if_pos h, if_pos (decide_eq_true (by simpa using h))]
    rfl
  · rw [if_neg h, if_neg (by simpa using h)]
    rfl
def Lts8 (L : List Nat) : Prop := ∀ c ∈ L, isL c = true
theorem Lts8.at {L : List Nat} (h : Lts8 L) {k c : Nat} (e : L[k]? = some c) : isL c = true := h c (List.mem_of_getElem? e)
def spOnes : Sp := fun vs H Q _ => ∃ n : Nat, vs = [.int (n : Int)] ∧ pc n ≤ 63 ∧ Q (.int (pc n : Nat)) H
def spLett : Sp := fun vs H Q _ => ∃ (t : Addr) (L : List Nat) (z : Int), vs = [.ref t, .int (L.length : Int)] ∧ H t = some (.tup [.int (bv lx L : Nat), .int (bv lz L : Nat), .int z]) ∧ Lts8 L ∧ L.length ≤ 60 ∧ Q (.str (mS L)) H
def spOfT : Sp := fun vs H Q _ => ∃ L : List Nat, vs = [.str (mS L)] ∧ Lts8 L ∧ L.length ≤ 60 ∧ ∀ H' t, Same H H' → H t = none → H' t = some (.tup [.int (bv lx L : Nat), .int (bv lz L : Nat), .int 0]) → Q (.ref t) H'
section
variable {P : Program} {w : World} {K : PySem.W.Frag} {mg : Str → Option Value} {base : Heap}
theorem ok_ones {f : Addr} {fd : FuncData} {k : Nat} (F : Fun K "_law_ones" "_law_ones" sOnes f fd) (B : Bl mg) : FnOk P w K mg base CX0 (k + 1) f fd ["_law_number"] spOnes := by
  refine F.ok scOnes (fun vs H Q E h => ?_) (fun cdv A outer s H vs Q E hr h => ?_)
  · obtain ⟨n, rfl, _⟩ := h
    rfl
  · obtain ⟨n, rfl, hn, q⟩ := h
    refine ⟨_, C8.pss_cut (ps_set (i := 1) scOnes.nd rfl (.inl rfl) pe_int)
      (C8.pss_cut (ps_for PassesOwn.never rfl (pi_range1 (by rfl) B.range (pa_cons pe_int pa_nil)) (pg_name (i := 2) scOnes.nd rfl (.inl rfl))
        (pss_cons (ps_if (pt_cmpR op_eq (pv 0) pe_int (nomark _)) (pss_one ps_break) pss_nil)
        (pss_one (ps_par (i := 0) (j := 1) rfl scOnes.nd rfl rfl (by decide) rfl rfl (pa_cons (pe_op op_and (pv 0) (pe_op op_sub (pv 0) pe_int)) (pa_cons (pe_op op_add (pv 1) pe_int) pa_nil)) rfl))))
      (pss_one (ps_ret (pv 1)))), ?_⟩
    refine ⟨fun σ' H' => σ' = [some (.int (n : Int)), some (.int 0), none] ∧ H' = H, ⟨rfl, rfl⟩, ?_⟩
    rintro _ H1 ⟨rfl, rfl⟩
    refine ⟨fun σ' H' => ∃ lap, σ' = [some (.int 0), some (.int (pc n : Nat)), lap] ∧ H' = H1, ?_, ?_⟩
    · refine ⟨64, rfl, by decide, by decide, for_range (n := 64) (fun i σ' H' => ∃ (m : Nat) (lap : Option V), σ' = [some (.int (m : Int)), some (.int (i : Int)), lap] ∧ H' = H1 ∧ pc m + i = pc n) ⟨n, none, rfl, rfl, rfl⟩ ?_ ?_⟩
      · rintro i _ _ hi ⟨m, lap, rfl, rfl, he⟩
        refine ⟨_, rfl, rfl, _, rfl, ite2 (fun e => ?_) (fun e => ?_)⟩
        · have e' : m = 0 := by have := V.int.inj (of_decide_eq_true e); omega
          subst e'
          rw [pc_zero] at he
          exact ⟨_, by rw [← he, Nat.zero_add]; rfl, rfl⟩
        · have e' : m ≠ 0 := fun z => e (decide_eq_true (by rw [z]; rfl))
          have em : ((m : Nat) : Int) - 1 = ((m - 1 : Nat) : Int) := by omega
          refine ⟨_, rfl, _, rfl, _, _, rfl, rfl, _, _, rfl, rfl, _, rfl, _, _, rfl, rfl, _, _, rfl, m &&& (m - 1), some (.int (0 + (i : Int))), ?_, rfl, ?_⟩
          · show [some (V.int (Builtin.bitAnd (m : Int) ((m : Int) - 1))), some (V.int ((i : Int) + 1)), some (V.int (0 + (i : Int)))] = _
            rw [em, band]
            rfl
          · have := pc_step m (by omega)
            omega
      · rintro _ _ ⟨m, lap, rfl, rfl, he⟩
        omega
    rintro _ H2 ⟨lap, rfl, rfl⟩
    exact ⟨_, rfl, q⟩
theorem ok_lett {f : Addr} {fd : FuncData} {k : Nat} (F : Fun K "_law_letters" "_law_letters" sLett f fd) (B : Bl mg) : FnOk P w K mg base CX0 (k + 1) f fd ["_law_string", "_law_size"] spLett := by
  refine F.ok scLett (fun vs H Q E h => ?_) (fun cdv A outer s H vs Q E hr h => ?_)
  · obtain ⟨t, L, z, rfl, _⟩ := h
    rfl
  · obtain ⟨t, L, z, rfl, et, hL, hl, q⟩ := h
    refine ⟨_, C8.pss_cut (ps_set (i := 2) scLett.nd rfl (.inl rfl) pe_str)
      (C8.pss_cut (ps_for PassesOwn.never rfl (pi_range1 (by rfl) B.range (pa_cons (pv 1) pa_nil)) (pg_name (i := 3) scLett.nd rfl (.inl rfl))
        (pss_one (ps_set (i := 2) scLett.nd rfl (.inl rfl) (pe_op op_add_str (pv 2) (pe_ix ix_str pe_str (pe_op op_add
          (pe_op op_mod (pe_callTy call_int1 (by rfl) B.int bootI (pa_cons (pe_op op_shr (pe_ix ix_tup (pv 0) pe_int (fun _ _ => rfl)) (pv 3)) pa_nil)) pe_int)
          (pe_op op_mul pe_int (pe_op op_mod (pe_callTy call_int1 (by rfl) B.int bootI (pa_cons (pe_op op_shr (pe_ix ix_tup (pv 0) pe_int (fun _ _ => rfl)) (pv 3)) pa_nil)) pe_int))) (fun _ _ => rfl))))))
      (pss_one (ps_ret (pv 2)))), ?_⟩
    have sq : SqT K H t [.int (bv lx L : Nat), .int (bv lz L : Nat), .int z] := .inl (.inl et)
    have j0 : atI [V.int (bv lx L : Nat), V.int (bv lz L : Nat), V.int z] 0 = some (.int (bv lx L : Nat)) := at_of (j := 0) rfl rfl
    have j1 : atI [V.int (bv lx L : Nat), V.int (bv lz L : Nat), V.int z] 1 = some (.int (bv lz L : Nat)) := at_of (j := 1) rfl rfl
    refine ⟨fun σ' H' => σ' = [some (.ref t), some (.int (L.length : Int)), some (.str (mS [])), none] ∧ H' = H, ⟨by rw [show mS [] = ("" : Str) from e_no.symm]; rfl, rfl⟩, ?_⟩
    rintro _ H1 ⟨rfl, rfl⟩
    refine ⟨fun σ' H' => ∃ lap, σ' = [some (.ref t), some (.int (L.length : Int)), some (.str (mS L)), lap] ∧ H' = H1, ?_, ?_⟩
    · refine ⟨_, rfl, _, rfl, by omega, by omega, for_range (n := L.length) (fun i σ' H' => ∃ lap, σ' = [some (.ref t), some (.int (L.length : Int)), some (.str (mS (L.take i))), lap] ∧ H' = H1) ⟨none, rfl, rfl⟩ ?_ ?_⟩
      · rintro i _ _ hi ⟨lap, rfl, rfl⟩
        have hx : L[i]? = some L[i] := List.getElem?_eq_getElem hi
        have hc := hL.at hx
        have b0 := shr_bit lx_lt hx
        have b1 := shr_bit lz_lt hx
        refine ⟨_, rfl, _, rfl, t, _, _, _, rfl, rfl, sq, j0, _, rfl, _, _, rfl, rfl, by show (0 : Int) ≤ 0 + (i : Int); omega, .inl ⟨_, rfl, _, _, rfl, rfl, by show (0 : Int) < 2; decide, ?_⟩⟩
        refine ⟨_, rfl, t, _, _, _, rfl, rfl, sq, j1, _, rfl, _, _, rfl, rfl, by show (0 : Int) ≤ 0 + (i : Int); omega, .inl ⟨_, rfl, _, _, rfl, rfl, by show (0 : Int) < 2; decide, _, _, rfl, rfl, .inl ⟨by decide, by decide⟩, ?_⟩⟩
        refine ⟨_, _, rfl, rfl, _, _, L[i], rfl, rfl, by show (4 : Nat) ≤ sizeLine; decide, ?_, _, _, rfl, rfl, ?_, ?_⟩
        · show atI _ (((bv lx L : Nat) : Int) / 2 ^ ((0 : Int) + (i : Nat)).toNat % 2 + 2 * (((bv lz L : Nat) : Int) / 2 ^ ((0 : Int) + (i : Nat)).toNat % 2)) = _
          rw [b0, b1, e_IXZY]
          have e2 : ((lx L[i] : Nat) : Int) + 2 * ((lz L[i] : Nat) : Int) = ((lx L[i] + 2 * lz L[i] : Nat) : Int) := by omega
          rw [e2]
          exact atI_nat (letter_back hc)
        · rw [mS_len, List.length_take]
          exact Nat.le_trans (by show _ + 1 ≤ 61; omega) (by decide : 61 ≤ sizeLine)
        · refine ⟨some (.int (0 + (i : Int))), ?_, rfl⟩
          show [_, _, some (V.str (mS (L.take i) ++ mS [L[i]])), _] = _
          rw [mS_app]
          have e3 : L.take (i + 1) = L.take i ++ [L[i]] := by rw [List.take_succ, hx]; rfl
          rw [e3]
      · rintro _ _ ⟨lap, rfl, rfl⟩
        rw [List.take_of_length_le (Nat.le_refl _)]
        exact ⟨_, rfl, rfl⟩
    rintro _ H2 ⟨lap, rfl, rfl⟩
    exact ⟨_, rfl, q⟩
end
theorem bootL : bootBuiltins "list" = some (.type "list") := by decide +kernel
theorem same_upd {H H' : Hp} {p : Addr} {o : HO} (s : Same H H') (np : H p = none) : Same H (upd H' p o) := fun b u e => by
  rw [upd_ne (ne_of_none e np)]
  exact s _ _ e
theorem none_back {H H' : Hp} {p : Addr} (s : Same H H') (np : H' p = none) : H p = none := by
  cases e : H p with
  | none => rfl
  | some o => rw [s _ _ e] at np; cases np
theorem cut_one (L : List Nat) : cutS (mS L) none (some 1) = mS (L.take 1) := cut_to L 1
theorem take_one (L : List Nat) (c : Nat) : decide (V.str (mS (L.take 1)) = V.str (mS [c])) = decide (L.head? = some c) := by
  cases L with
  | nil =>
    rw [decide_eq_false (fun z => by cases mS_inj (V.str.inj z)), decide_eq_false (fun z => by cases z)]
  | cons a L =>
    show decide (V.str (mS [a]) = V.str (mS [c])) = decide (some a = some c)
    by_cases h : a = c
    · subst h
      rw [decide_eq_true rfl, decide_eq_true rfl]
    · rw [decide_eq_false (fun z => h (List.cons.inj (mS_inj (V.str.inj z))).1), decide_eq_false (fun z => h (Option.some.inj z))]
theorem Lts8.strip {L : List Nat} (h : Lts8 L) : L.dropWhile (#[43, 45] : Array Nat).contains = L := by
  cases L with
  | nil => rfl
  | cons a M =>
    have := isL_iff.mp (h a List.mem_cons_self)
    rw [List.dropWhile_cons_of_neg]
    rcases this with rfl | rfl | rfl | rfl <;> simp
theorem Lts8.head {L : List Nat} (h : Lts8 L) : ¬ L.head? = some 45 := by
  cases L with
  | nil => exact fun z => by cases z
  | cons a M =>
    intro z
    have := isL_iff.mp (h a List.mem_cons_self)
    have e := Option.some.inj z
    omega
section
variable {P : Program} {w : World} {K : PySem.W.Frag} {mg : Str → Option Value} {base : Heap}
theorem ok_oft {f : Addr} {fd : FuncData} {k : Nat} (F : Fun K "_law_of_text" "_law_of_text" sOfT f fd) (B : Bl mg) : FnOk P w K mg base CX0 (k + 1) f fd ["_law_text_here"] spOfT := by
  refine F.ok scOfT (fun vs H Q E h => ?_) (fun cdv A outer s H vs Q E hr h => ?_)
  · obtain ⟨L, rfl, _⟩ := h
    rfl
  · obtain ⟨L, rfl, hL, hl, q⟩ := h
    refine ⟨_, C8.pss_cut (ps_par (i := 1) (j := 2) rfl scOfT.nd rfl rfl (by decide) rfl rfl (pa_cons (pe_callTy call_int1 (by rfl) B.int bootI (pa_cons (pe_cmpR op_eq (pe_slice sl_str (pv 0) po_none (po_some pe_int)) pe_str (nomark _)) pa_nil))
        (pa_cons (pe_bm PySem.F.plainAttrs_str PySem.F.slot_str_lstrip PySem.F.type_str_lstrip mt_lstripChars (pv 0) (pa_cons pe_str pa_nil)) pa_nil)) rfl)
      (C8.pss_cut (ps_asg (pe_tup (pa_cons pe_int (pa_cons pe_int pa_nil))) (pg_tup rfl (pgs_cons (pg_name (i := 3) scOfT.nd rfl (.inl rfl)) (pgs_cons (pg_name (i := 4) scOfT.nd rfl (.inl rfl)) pgs_nil))))
      (C8.pss_cut (ps_for PassesOwn.never rfl (pi_range1 (by rfl) B.range (pa_cons (pe_callB call_len_str (by rfl) B.len PySem.boot_len (pa_cons (pv 2) pa_nil)) pa_nil)) (pg_name (i := 5) scOfT.nd rfl (.inl rfl))
        (pss_cons (ps_set (i := 3) scOfT.nd rfl (.inl rfl) (pe_op op_add (pv 3) (pe_op op_mul (pe_op op_shl pe_int (pv 5)) (pe_callTy call_int1 (by rfl) B.int bootI (pa_cons (pe_cmpR op_in_sign (pe_ix ix_str (pv 2) (pv 5) (fun _ _ => rfl)) pe_str (by rfl)) pa_nil)))))
        (pss_one (ps_set (i := 4) scOfT.nd rfl (.inl rfl) (pe_op op_add (pv 4) (pe_op op_mul (pe_op op_shl pe_int (pv 5)) (pe_callTy call_int1 (by rfl) B.int bootI (pa_cons (pe_cmpR op_in_sign (pe_ix ix_str (pv 2) (pv 5) (fun _ _ => rfl)) pe_str (by rfl)) pa_nil))))))))
      (pss_one (ps_ret (pe_tup (pa_cons (pv 3) (pa_cons (pv 4) (pa_cons (pv 1) pa_nil)))))))), ?_⟩
    have hz : (mS L).length ≤ sizeLine := by rw [mS_len]; exact sizeBig (by omega)
    refine ⟨fun σ' H' => σ' = [some (.str (mS L)), some (.int 0), some (.str (mS L)), none, none, none] ∧ H' = H, ?_, ?_⟩
    · refine ⟨_, rfl, _, rfl, _, rfl, hz, rfl, .inr ⟨_, rfl, _, rfl, rfl, _, _, rfl, rfl, hz, _, _, rfl, ?_⟩⟩
      rw [cut_one, show ("-" : Str) = mS [45] from e_minus, take_one, decide_eq_false hL.head, e_pm, lstrip_eq, hL.strip]
      exact ⟨rfl, rfl⟩
    rintro _ H1 ⟨rfl, rfl⟩
    refine ⟨fun σ' H' => σ' = [some (.str (mS L)), some (.int 0), some (.str (mS L)), some (.int 0), some (.int 0), none] ∧ Same H1 H', ⟨by show 2 ≤ sizeLine; decide, fun r nr => ⟨r, _, rfl, .inl (.inl upd_same), rfl, _, _, rfl, _, _, rfl, rfl, rfl, same_new nr⟩⟩, ?_⟩
    rintro _ H2 ⟨rfl, s12⟩
    refine ⟨fun σ' H' => ∃ lap, σ' = [some (.str (mS L)), some (.int 0), some (.str (mS L)), some (.int (bv lx L : Nat)), some (.int (bv lz L : Nat)), lap] ∧ H' = H2, ?_, ?_⟩
    · refine ⟨_, rfl, _, rfl, hz, _, rfl, by rw [mS_len]; omega, by rw [mS_len]; omega, for_range (n := (mS L).length) (fun i σ' H' => ∃ lap, σ' = [some (.str (mS L)), some (.int 0), some (.str (mS L)), some (.int (bv lx (L.take i) : Nat)), some (.int (bv lz (L.take i) : Nat)), lap] ∧ H' = H2) ⟨none, rfl, rfl⟩ ?_ ?_⟩
      · rintro i _ _ hi ⟨lap, rfl, rfl⟩
        rw [mS_len] at hi
        have hx : L[i]? = some L[i] := List.getElem?_eq_getElem hi
        have hat : atI (mS L).cps.toList ((0 : Int) + (i : Nat)) = some L[i] := by
          rw [Int.zero_add]
          exact atI_nat hx
        have cp : CPow 1 ((0 : Int) + (i : Nat)) := ⟨by omega, by omega, by decide⟩
        have cm : ∀ (m : Int) (b : Bool), CMul m (if b then 1 else 0) := fun m b => .inr (by cases b <;> decide)
        refine ⟨_, rfl, _, rfl, _, _, rfl, rfl, cp, _, rfl, _, rfl, _, _, L[i], rfl, rfl, hz, hat, _, _, rfl, rfl, .inr ⟨_, rfl, _, _, rfl, rfl, cm _ _, _, _, rfl, rfl, ?_⟩⟩
        refine ⟨_, rfl, _, rfl, _, _, rfl, rfl, cp, _, rfl, _, rfl, _, _, L[i], rfl, rfl, hz, hat, _, _, rfl, rfl, .inr ⟨_, rfl, _, _, rfl, rfl, cm _ _, _, _, rfl, rfl, ?_⟩⟩
        refine ⟨some (.int (0 + (i : Int))), ?_, rfl⟩
        show [_, _, _, some (V.int (((bv lx (L.take i) : Nat) : Int) + 1 * 2 ^ ((0 : Int) + (i : Nat)).toNat * (if decide (L[i] ∈ ("XY" : Str).cps.toList) then 1 else 0))), some (V.int (((bv lz (L.take i) : Nat) : Int) + 1 * 2 ^ ((0 : Int) + (i : Nat)).toNat * (if decide (L[i] ∈ ("ZY" : Str).cps.toList) then 1 else 0))), _] = _
        rw [in_XY, in_ZY, bv_take lx hx, bv_take lz hx, Int.zero_add, Int.toNat_natCast, Int.one_mul]
        push_cast
        rfl
      · rintro _ _ ⟨lap, rfl, rfl⟩
        rw [mS_len, List.take_of_length_le (Nat.le_refl _)]
        exact ⟨_, rfl, rfl⟩
    rintro _ H3 ⟨lap, rfl, rfl⟩
    exact ⟨_, rfl, _, rfl, _, rfl, by show 3 ≤ sizeLine; decide, fun p np => q _ p (s12.trans (same_new np)) (s12.free np) upd_same⟩
end
theorem scShuf : FnScope ["_law_pen_here", "_law_some", "_law_rest", "_law_found", "_law_lap"] ["_law_pen_here", "_law_some"] (defScope sShuf) := ⟨rfl, rfl, rfl, by decide +kernel, rfl, by decide +kernel, by decide +kernel⟩
def KB (p : Addr) (H H' : Hp) : Prop := ∀ b o, H b = some o → b ≠ p → H' b = some o
theorem KB.refl (p : Addr) (H : Hp) : KB p H H := fun _ _ e _ => e
theorem KB.trans {p : Addr} {H H1 H2 : Hp} (a : KB p H H1) (b : KB p H1 H2) : KB p H H2 := fun c o e n => b c o (a c o e n) n
theorem KB.of {p : Addr} {H H' : Hp} (s : Same H H') : KB p H H' := fun b o e _ => s b o e
theorem KB.eq {p : Addr} {H H' : Hp} (k : ∀ b, b ≠ p → H' b = H b) : KB p H H' := fun b o e n => (k b n).trans e
theorem KB.up {p : Addr} {H H' : Hp} {r : Addr} {o : HO} (k : KB p H H') (n : H r = none) : KB p H (upd H' r o) := fun b u e hb => by
  rw [upd_ne (ne_of_none e n)]
  exact k b u e hb
theorem KB.sm {p : Addr} {H H1 H2 : Hp} (a : KB p H H1) (b : Same H1 H2) : KB p H H2 := a.trans (KB.of b)
def spShuf (K : PySem.W.Frag) : Sp := fun vs H Q _ => ∃ (p c q : Addr) (n : Nat) (xs : List V), vs = [.ref p, .ref q] ∧ PenAt H p c n ∧ n + 40 < 1000000 ∧ SqL K H q xs ∧ xs.length ≤ 30 ∧
  ∀ H' r ys, ys.Perm xs → ys.length = xs.length → (∀ y ∈ ys, y ∈ xs) → PenAt H' p c (n + xs.length) → KB p H H' → H r = none → H' r = some (.lst ys) → Q (.ref r) H'
section
variable {P : Program} {w : World} {K : PySem.W.Frag} {mg : Str → Option Value} {base : Heap}
theorem ok_shuf {f fD : Addr} {fd fdD : FuncData} {k : Nat} (F : Fun K "_law_shuffled" "_law_shuffled" sShuf f fd) (FD : Fun K "_law_draw" "_law_draw" sDraw fD fdD) (bD : Binds K fdD ["_law_pen_here", "_law_many"] []) (gD : mg "_law_draw" = some (.ref fD)) (B : Bl mg) :
    FnOk P w K mg base CX0 (k + 2) f fd ["_law_pen_here", "_law_some"] (spShuf K) := by
  have GD : FnOk P w K mg base CX0 (k + 1) fD fdD ["_law_pen_here", "_law_many"] spDraw := ok_draw FD B.int B.len
  refine F.ok scShuf (fun vs H Q E h => ?_) (fun cdv A outer s H vs Q E hr h => ?_)
  · obtain ⟨p, c, q, n, xs, rfl, _⟩ := h
    rfl
  · obtain ⟨p, c, q0, n, xs, rfl, hP, hn, hS, hl, q⟩ := h
    refine ⟨_, C8.pss_cut (ps_par (i := 2) (j := 3) rfl scShuf.nd rfl rfl (by decide) rfl rfl (pa_cons (pe_callTy call_list_of (by rfl) B.list bootL (pa_cons (pv 1) pa_nil)) (pa_cons (pe_lst pa_nil) pa_nil)) rfl)
      (C8.pss_cut (ps_for PassesOwn.never rfl (pi_range1 (by rfl) B.range (pa_cons (pe_callB call_len_seq (by rfl) B.len PySem.boot_len (pa_cons (pv 1) pa_nil)) pa_nil)) (pg_name (i := 4) scShuf.nd rfl (.inl rfl))
        (pss_one (ps_expr (pe_bm PySem.F.plainAttrs_list PySem.F.slot_list_append PySem.F.type_list_append mt_append (pv 3) (pa_cons (pe_bm PySem.F.plainAttrs_list PySem.F.slot_list_pop PySem.F.type_list_pop mt_popAt (pv 2)
          (pa_cons (pe_call GD hr (by rfl) gD FD.kp bD .nil pass0 (pa_cons (pv 0) (pa_cons (pe_callB call_len_seq (by rfl) B.len PySem.boot_len (pa_cons (pv 2) pa_nil)) pa_nil))) pa_nil)) pa_nil)))))
      (pss_one (ps_ret (pv 3)))), ?_⟩
    obtain ⟨kv, hkv⟩ : ∃ kv, H p = some (.dK kv) := by
      obtain ⟨ns, a0, d0, f0, ep, _⟩ := hP
      exact ⟨_, ep⟩
    refine ⟨fun σ' H' => ∃ r1 r2, σ' = [some (.ref p), some (.ref q0), some (.ref r1), some (.ref r2), none] ∧ Same H H' ∧ H' r1 = some (.lst xs) ∧ H' r2 = some (.lst []) ∧ H r1 = none ∧ H r2 = none ∧ r1 ≠ r2, ?_, ?_⟩
    · refine ⟨_, rfl, q0, _, rfl, .inl hS, fun r1 n1 => ⟨by show 0 ≤ sizeLine; decide, fun r2 n2 => ?_⟩⟩
      have h12 : r1 ≠ r2 := fun z => by rw [← z, upd_same] at n2; cases n2
      exact ⟨_, _, rfl, r1, r2, rfl, same_upd (same_new n1) (none_back (same_new n1) n2), by rw [upd_ne h12, upd_same], upd_same, n1, none_back (same_new n1) n2, h12⟩
    rintro _ H1 ⟨r1, r2, rfl, s1, e1, e2, n1, n2, h12⟩
    have p1 : r1 ≠ p := fun z => by rw [z, hkv] at n1; cases n1
    have p2 : r2 ≠ p := fun z => by rw [z, hkv] at n2; cases n2
    refine ⟨fun σ' H' => ∃ (lap : Option V) (ys : List V), σ' = [some (.ref p), some (.ref q0), some (.ref r1), some (.ref r2), lap] ∧ ys.Perm xs ∧ ys.length = xs.length ∧ (∀ y ∈ ys, y ∈ xs) ∧ PenAt H' p c (n + xs.length) ∧ KB p H H' ∧ H' r2 = some (.lst ys), ?_, ?_⟩
    rotate_left
    · rintro _ H2 ⟨lap, ys, rfl, pm, l2, m2, hP2, k2, e3⟩
      exact ⟨_, rfl, q _ r2 ys pm l2 m2 hP2 k2 n2 e3⟩
    refine ⟨_, rfl, _, _, rfl, .inl (s1.seq hS), xs.length, rfl, by omega, by omega, ?_⟩
    rw [Int.toNat_natCast]
    refine for_range (lo := 0) (n := xs.length) (fun i σ' H' => ∃ (lap : Option V) (ys zs : List V), σ' = [some (.ref p), some (.ref q0), some (.ref r1), some (.ref r2), lap] ∧ (ys ++ zs).Perm xs ∧ zs.length + i = xs.length ∧ ys.length = i ∧ (∀ y ∈ ys, y ∈ xs) ∧ (∀ y ∈ zs, y ∈ xs) ∧ PenAt H' p c (n + i) ∧ KB p H H' ∧ H' r1 = some (.lst zs) ∧ H' r2 = some (.lst ys))
      ⟨none, [], xs, rfl, .refl _, rfl, rfl, (fun _ z => by cases z), fun _ z => z, hP.ext s1, KB.of s1, e1, e2⟩ ?_ ?_
    · rintro i _ H2 hi ⟨lap, ys, zs, rfl, pm, hz, hy, my, mz, hP2, k2, f1, f2⟩
      have zpos : 0 < zs.length := by omega
      refine ⟨_, rfl, .inl ⟨rfl, _, SqL.of f2⟩, _, rfl, .inl ⟨rfl, _, SqL.of f1⟩, _, rfl, _, rfl, _, _, rfl, .inl (SqL.of f1), p, c, n + i, (zs.length : Nat), rfl, hP2, by omega, by omega, ?_, fun y H3 y0 y1 hP3 k3 => ?_⟩
      · rw [Int.natAbs_natCast]
        exact Nat.lt_of_le_of_lt (show zs.length ≤ 30 by omega) (by decide)
      obtain ⟨j, rfl⟩ : ∃ j : Nat, y = (j : Int) := ⟨y.toNat, by omega⟩
      have hj : j < zs.length := by omega
      have hzj : zs[j]? = some zs[j] := List.getElem?_eq_getElem hj
      have g1 : H3 r1 = some (.lst zs) := (k3 r1 p1).trans f1
      have g2 : H3 r2 = some (.lst ys) := (k3 r2 p2).trans f2
      refine ⟨r1, zs, (j : Int), j, zs[j], rfl, rfl, g1, by omega, by omega, ?_, hzj, ?_⟩
      · unfold seqIndex?
        have e1 : ¬ ((j : Int) < 0) := by omega
        simp [e1, hj]
      refine ⟨r2, ys, zs[j], rfl, rfl, by rw [upd_ne h12.symm]; exact g2, Nat.lt_of_le_of_lt (show ys.length ≤ 30 by omega) (by decide), ?_⟩
      refine ⟨_, ys ++ [zs[j]], zs.eraseIdx j, rfl, ?_, ?_, ?_, fun y hy' => ?_, fun y hy' => mz y (List.mem_of_mem_eraseIdx hy'), ?_, ?_, ?_, upd_same⟩
      · rw [List.append_assoc]
        exact (List.Perm.append_left ys (erase_perm hj)).trans pm
      · rw [List.length_eraseIdx, if_pos hj]
        omega
      · rw [List.length_append, hy]
        rfl
      · rcases List.mem_append.mp hy' with z | z
        · exact my y z
        · rw [List.mem_singleton.mp z]
          exact mz _ (List.getElem_mem hj)
      · refine PenAt.same hP3 (by rw [upd_ne p2.symm, upd_ne p1.symm]) ?_
        obtain ⟨ns, a0, d0, f0, ep, ec, _⟩ := hP
        rw [upd_ne (ne_of_none ec n2), upd_ne (ne_of_none ec n1)]
      · exact ((k2.trans (KB.eq k3)).up n1).up n2
      · rw [upd_ne h12, upd_same]
    · rintro _ H2 ⟨lap, ys, zs, rfl, pm, hz, hy, my, mz, hP2, k2, f1, f2⟩
      have z0 : zs = [] := List.eq_nil_of_length_eq_zero (by omega)
      rw [z0, List.append_nil] at pm
      exact ⟨lap, ys, rfl, pm, hy, my, hP2, k2, f2⟩
end
end KQ
namespace KQ
open PySem PySem.Spec PyProof.Rows L2
theorem scCross : FnScope ["_law_one", "_law_two"] ["_law_one", "_law_two"] (defScope sCross) := ⟨rfl, rfl, rfl, by decide +kernel, rfl, by decide +kernel, by decide +kernel⟩
theorem scProd : FnScope ["_law_one", "_law_two", "_law_x", "_law_z", "_law_power"] ["_law_one", "_law_two"] (defScope sProd) := ⟨rfl, rfl, rfl, by decide +kernel, rfl, by decide +kernel, by decide +kernel⟩
theorem scText : FnScope ["_law_string", "_law_size"] ["_law_string", "_law_size"] (defScope sText) := ⟨rfl, rfl, rfl, by decide +kernel, rfl, by decide +kernel, by decide +kernel⟩
theorem pc_le : ∀ (k n : Nat), n < 2 ^ k → pc n ≤ k
  | 0, n, h => by
    have : n = 0 := by simpa using h
    subst this
    rw [pc_zero]
    exact Nat.le_refl _
  | k + 1, n, h => by
    have e : n = 2 * (n / 2) + n % 2 := by omega
    have l1 : n % 2 < 2 := Nat.mod_lt _ (by decide)
    rw [Nat.pow_succ] at h
    have := pc_le k (n / 2) (by omega)
    rw [e, pc_two _ _ l1]
    omega
def KeepP (p : Addr) (H H' : Hp) : Prop := ∀ q o, q ≠ p → H q = some o → H' q = some o
theorem KeepP.refl (p : Addr) (H : Hp) : KeepP p H H := fun _ _ _ e => e
theorem KeepP.trans {p : Addr} {H H1 H2 : Hp} (a : KeepP p H H1) (b : KeepP p H1 H2) : KeepP p H H2 := fun q o n e => b q o n (a q o n e)
theorem KeepP.of_eq {p : Addr} {H H' : Hp} (s : ∀ b, b ≠ p → H' b = H b) : KeepP p H H' := fun q o n e => (s q n).trans e
abbrev T3 := Nat × Nat × Nat
def TrAt (H : Hp) (a : Addr) (t : T3) : Prop := H a = some (.tup [.int (t.1 : Nat), .int (t.2.1 : Nat), .int (t.2.2 : Nat)])
def Fit (n : Nat) (t : T3) : Prop := t.1 < 2 ^ n ∧ t.2.1 < 2 ^ n ∧ t.2.2 < 2
def crN (t u : T3) : Nat := pc ((t.1 &&& u.2.1) ^^^ (t.2.1 &&& u.1)) % 2
def lpP (t u : T3) : Int := (pc (t.1 &&& t.2.1) : Int) + (pc (u.1 &&& u.2.1) : Int) - (pc ((t.1 ^^^ u.1) &&& (t.2.1 ^^^ u.2.1)) : Int) + 2 * (pc (t.2.1 &&& u.1) : Int)
def lpr (t u : T3) : T3 := (t.1 ^^^ u.1, t.2.1 ^^^ u.2.1, (((lpP t u + 2 * ((t.2.2 : Int) + (u.2.2 : Int))) % 4) / 2).toNat)
theorem lpr_fit {n : Nat} {t u : T3} (h : Fit n t) (k : Fit n u) : Fit n (lpr t u) := by
  refine ⟨Nat.xor_lt_two_pow h.1 k.1, Nat.xor_lt_two_pow h.2.1 k.2.1, ?_⟩
  show (((lpP t u + 2 * ((t.2.2 : Int) + (u.2.2 : Int))) % 4) / 2).toNat < 2
  omega
def spCr : Sp := fun vs H Q _ => ∃ (a b : Addr) (t u : T3), vs = [.ref a, .ref b] ∧ TrAt H a t ∧ TrAt H b u ∧ Fit 60 t ∧ Fit 60 u ∧ Q (.int (crN t u : Nat)) H
def spProd : Sp := fun vs H Q _ => ∃ (a b : Addr) (t u : T3), vs = [.ref a, .ref b] ∧ TrAt H a t ∧ TrAt H b u ∧ Fit 60 t ∧ Fit 60 u ∧ ∀ H' r, Same H H' → H r = none → TrAt H' r (lpr t u) → Q (.ref r) H'
/-- the letters of x and z -/
def LT (n x z : Nat) : List Nat := (List.range n).map fun k => ltr (x.testBit k).toNat (z.testBit k).toNat
theorem LT_len (n x z : Nat) : (LT n x z).length = n := by rw [LT, List.length_map, List.length_range]
theorem LT_lts (n x z : Nat) : Lts8 (LT n x z) := by
  intro c hc
  obtain ⟨k, _, rfl⟩ := List.mem_map.mp hc
  exact ltr_isL _ _
theorem lx_ltr (a b : Bool) : lx (ltr a.toNat b.toNat) = a.toNat := by cases a <;> cases b <;> decide
theorem lz_ltr (a b : Bool) : lz (ltr a.toNat b.toNat) = b.toNat := by cases a <;> cases b <;> decide
theorem bv_bits {f : Nat → Nat} (x : Nat) (h : Nat → Nat) (hf : ∀ k, f (h k) = (x.testBit k).toNat) : ∀ n, bv f ((List.range n).map h) = x % 2 ^ n
  | 0 => by
    show 0 = x % 1
    omega
  | n + 1 => by
    rw [List.range_succ, List.map_append, List.map_cons, List.map_nil, bv_app, bv_bits x h hf n, List.length_map, List.length_range, hf, Nat.mod_pow_succ, Nat.toNat_testBit]
theorem lx_LT {n x : Nat} (z : Nat) (h : x < 2 ^ n) : bv lx (LT n x z) = x := by
  rw [LT, bv_bits x _ (fun k => lx_ltr _ _), Nat.mod_eq_of_lt h]
theorem lz_LT {n z : Nat} (x : Nat) (h : z < 2 ^ n) : bv lz (LT n x z) = z := by
  rw [LT, bv_bits z _ (fun k => lz_ltr _ _), Nat.mod_eq_of_lt h]
def TX (n : Nat) (t : T3) : List Nat := (if t.2.2 = 0 then [] else [45]) ++ LT n t.1 t.2.1
def spText : Sp := fun vs H Q _ => ∃ (a : Addr) (n : Nat) (t : T3), vs = [.ref a, .int (n : Nat)] ∧ TrAt H a t ∧ Fit n t ∧ n ≤ 60 ∧ Q (.str (mS (TX n t))) H
theorem tri0 (a b c : V) : atI [a, b, c] 0 = some a := at_of (j := 0) rfl rfl
theorem tri1 (a b c : V) : atI [a, b, c] 1 = some b := at_of (j := 1) rfl rfl
theorem tri2 (a b c : V) : atI [a, b, c] 2 = some c := at_of (j := 2) rfl rfl
section
variable {P : Program} {w : World} {K : PySem.W.Frag} {mg : Str → Option Value} {base : Heap}
theorem ok_cr {f fO : Addr} {fd dO : FuncData} {k : Nat} (F : Fun K "_law_crosses" "_law_crosses" sCross f fd) (FO : Fun K "_law_ones" "_law_ones" sOnes fO dO) (bO : Binds K dO ["_law_number"] []) (gO : mg "_law_ones" = some (.ref fO)) (B : Bl mg) : FnOk P w K mg base CX0 (k + 2) f fd ["_law_one", "_law_two"] spCr := by
  have GO : FnOk P w K mg base CX0 (k + 1) fO dO ["_law_number"] spOnes := ok_ones FO B
  refine F.ok scCross (fun vs H Q E h => ?_) (fun cdv A outer s H vs Q E hr h => ?_)
  · obtain ⟨a, b, t, u, rfl, _⟩ := h
    rfl
  · obtain ⟨a, b, t, u, rfl, et, eu, ft, fu, q⟩ := h
    refine ⟨_, pss_one (ps_ret (pe_op op_mod (pe_callTy call_int1 (by rfl) B.int bootI (pa_cons (pe_call GO hr (by rfl) gO FO.kp bO .nil pass0 (pa_cons (pe_op op_xor (pe_op op_and (pe_ix ix_tup (pv 0) pe_int (fun _ _ => rfl)) (pe_ix ix_tup (pv 1) pe_int (fun _ _ => rfl))) (pe_op op_and (pe_ix ix_tup (pv 0) pe_int (fun _ _ => rfl)) (pe_ix ix_tup (pv 1) pe_int (fun _ _ => rfl)))) pa_nil)) pa_nil)) pe_int)), ?_⟩
    have sq : SqT K H a [.int (t.1 : Nat), .int (t.2.1 : Nat), .int (t.2.2 : Nat)] := .inl (.inl et)
    have sq' : SqT K H b [.int (u.1 : Nat), .int (u.2.1 : Nat), .int (u.2.2 : Nat)] := .inl (.inl eu)
    have le := pc_le 60 _ (Nat.xor_lt_two_pow (Nat.lt_of_le_of_lt (Nat.and_le_left (m := u.2.1)) ft.1) (Nat.lt_of_le_of_lt (Nat.and_le_left (m := u.1)) ft.2.1))
    refine ⟨_, rfl, a, _, _, _, rfl, rfl, sq, tri0 _ _ _, _, rfl, b, _, _, _, rfl, rfl, sq', tri1 _ _ _, _, _, rfl, rfl, _, rfl, a, _, _, _, rfl, rfl, sq, tri1 _ _ _, _, rfl, b, _, _, _, rfl, rfl, sq', tri0 _ _ _, _, _, rfl, rfl, _, _, rfl, rfl, (t.1 &&& u.2.1) ^^^ (t.2.1 &&& u.1), ?_, by omega, .inl ⟨_, rfl, _, _, rfl, rfl, by show (0 : Int) < 2; decide, ?_⟩⟩
    · show [V.int (Builtin.bitXor (Builtin.bitAnd (t.1 : Nat) (u.2.1 : Nat)) (Builtin.bitAnd (t.2.1 : Nat) (u.1 : Nat)))] = _
      rw [band, band, bxor]
    · have e : ((pc ((t.1 &&& u.2.1) ^^^ (t.2.1 &&& u.1)) : Nat) : Int) % 2 = ((crN t u : Nat) : Int) := by
        unfold crN
        omega
      show Q (V.int (((pc ((t.1 &&& u.2.1) ^^^ (t.2.1 &&& u.1)) : Nat) : Int) % 2)) H
      rw [e]
      exact q
theorem ok_prod {f fO : Addr} {fd dO : FuncData} {k : Nat} (F : Fun K "_law_product" "_law_product" sProd f fd) (FO : Fun K "_law_ones" "_law_ones" sOnes fO dO) (bO : Binds K dO ["_law_number"] []) (gO : mg "_law_ones" = some (.ref fO)) (B : Bl mg) : FnOk P w K mg base CX0 (k + 2) f fd ["_law_one", "_law_two"] spProd := by
  have GO : FnOk P w K mg base CX0 (k + 1) fO dO ["_law_number"] spOnes := ok_ones FO B
  refine F.ok scProd (fun vs H Q E h => ?_) (fun cdv A outer s H vs Q E hr h => ?_)
  · obtain ⟨a, b, t, u, rfl, _⟩ := h
    rfl
  · obtain ⟨a, b, t, u, rfl, et, eu, ft, fu, q⟩ := h
    refine ⟨_, C8.pss_cut (ps_par (i := 2) (j := 3) rfl scProd.nd rfl rfl (by decide) rfl rfl (pa_cons (pe_op op_xor (pe_ix ix_tup (pv 0) pe_int (fun _ _ => rfl)) (pe_ix ix_tup (pv 1) pe_int (fun _ _ => rfl))) (pa_cons (pe_op op_xor (pe_ix ix_tup (pv 0) pe_int (fun _ _ => rfl)) (pe_ix ix_tup (pv 1) pe_int (fun _ _ => rfl))) pa_nil)) rfl)
      (C8.pss_cut (ps_set (i := 4) scProd.nd rfl (.inl rfl) (pe_op op_add (pe_call GO hr (by rfl) gO FO.kp bO .nil pass0 (pa_cons (pe_op op_and (pe_ix ix_tup (pv 0) pe_int (fun _ _ => rfl)) (pe_ix ix_tup (pv 0) pe_int (fun _ _ => rfl))) pa_nil)) (pe_call GO hr (by rfl) gO FO.kp bO .nil pass0 (pa_cons (pe_op op_and (pe_ix ix_tup (pv 1) pe_int (fun _ _ => rfl)) (pe_ix ix_tup (pv 1) pe_int (fun _ _ => rfl))) pa_nil))))
      (C8.pss_cut (ps_set (i := 4) scProd.nd rfl (.inl rfl) (pe_op op_add (pe_op op_sub (pv 4) (pe_call GO hr (by rfl) gO FO.kp bO .nil pass0 (pa_cons (pe_op op_and (pv 2) (pv 3)) pa_nil))) (pe_op op_mul pe_int (pe_call GO hr (by rfl) gO FO.kp bO .nil pass0 (pa_cons (pe_op op_and (pe_ix ix_tup (pv 0) pe_int (fun _ _ => rfl)) (pe_ix ix_tup (pv 1) pe_int (fun _ _ => rfl))) pa_nil)))))
      (pss_one (ps_ret (pe_tup (pa_cons (pv 2) (pa_cons (pv 3) (pa_cons (pe_op op_fdiv (pe_op op_mod (pe_callTy call_int1 (by rfl) B.int bootI (pa_cons (pe_op op_add (pv 4) (pe_op op_mul pe_int (pe_op op_add (pe_ix ix_tup (pv 0) pe_int (fun _ _ => rfl)) (pe_ix ix_tup (pv 1) pe_int (fun _ _ => rfl))))) pa_nil)) pe_int) pe_int) pa_nil)))))))), ?_⟩
    have sq : ∀ {G : Hp}, Same H G → SqT K G a [.int (t.1 : Nat), .int (t.2.1 : Nat), .int (t.2.2 : Nat)] := fun sg => .inl (.inl (sg _ _ et))
    have sq' : ∀ {G : Hp}, Same H G → SqT K G b [.int (u.1 : Nat), .int (u.2.1 : Nat), .int (u.2.2 : Nat)] := fun sg => .inl (.inl (sg _ _ eu))
    have s0 : Same H H := fun _ _ e => e
    have lt : ∀ {x y : Nat}, x < 2 ^ 60 → pc (x &&& y) ≤ 63 := fun {x y} h => Nat.le_trans (pc_le 60 _ (Nat.lt_of_le_of_lt Nat.and_le_left h)) (by decide)
    refine ⟨fun σ' H' => σ' = [some (.ref a), some (.ref b), some (.int (t.1 ^^^ u.1 : Nat)), some (.int (t.2.1 ^^^ u.2.1 : Nat)), none] ∧ H' = H, ?_, ?_⟩
    · refine ⟨_, rfl, a, _, _, _, rfl, rfl, sq s0, tri0 _ _ _, _, rfl, b, _, _, _, rfl, rfl, sq' s0, tri0 _ _ _, _, _, rfl, rfl, _, rfl, a, _, _, _, rfl, rfl, sq s0, tri1 _ _ _, _, rfl, b, _, _, _, rfl, rfl, sq' s0, tri1 _ _ _, _, _, rfl, rfl, _, _, rfl, ?_, rfl⟩
      show [_, _, some (V.int (Builtin.bitXor (t.1 : Nat) (u.1 : Nat))), some (V.int (Builtin.bitXor (t.2.1 : Nat) (u.2.1 : Nat))), _] = _
      rw [bxor, bxor]
    rintro _ H1 ⟨rfl, eH⟩
    have eH' := eH.symm
    subst eH'
    refine ⟨fun σ' H' => σ' = [some (.ref a), some (.ref b), some (.int (t.1 ^^^ u.1 : Nat)), some (.int (t.2.1 ^^^ u.2.1 : Nat)), some (.int ((pc (t.1 &&& t.2.1) : Int) + (pc (u.1 &&& u.2.1) : Int)))] ∧ H' = H, ?_, ?_⟩
    · refine ⟨_, rfl, a, _, _, _, rfl, rfl, sq s0, tri0 _ _ _, _, rfl, a, _, _, _, rfl, rfl, sq s0, tri1 _ _ _, _, _, rfl, rfl, t.1 &&& t.2.1, ?_, lt ft.1, ?_⟩
      · show [V.int (Builtin.bitAnd (t.1 : Nat) (t.2.1 : Nat))] = _
        rw [band]
      refine ⟨_, rfl, b, _, _, _, rfl, rfl, sq' s0, tri0 _ _ _, _, rfl, b, _, _, _, rfl, rfl, sq' s0, tri1 _ _ _, _, _, rfl, rfl, u.1 &&& u.2.1, ?_, lt fu.1, _, _, rfl, rfl, rfl, rfl⟩
      show [V.int (Builtin.bitAnd (u.1 : Nat) (u.2.1 : Nat))] = _
      rw [band]
    rintro _ H1 ⟨rfl, eH⟩
    have eH' := eH.symm
    subst eH'
    refine ⟨fun σ' H' => σ' = [some (.ref a), some (.ref b), some (.int (t.1 ^^^ u.1 : Nat)), some (.int (t.2.1 ^^^ u.2.1 : Nat)), some (.int (lpP t u))] ∧ H' = H, ?_, ?_⟩
    · refine ⟨_, rfl, _, rfl, _, rfl, _, _, rfl, rfl, (t.1 ^^^ u.1) &&& (t.2.1 ^^^ u.2.1), ?_, lt (Nat.xor_lt_two_pow ft.1 fu.1), _, _, rfl, rfl, ?_⟩
      · show [V.int (Builtin.bitAnd (t.1 ^^^ u.1 : Nat) (t.2.1 ^^^ u.2.1 : Nat))] = _
        rw [band]
      refine ⟨_, rfl, a, _, _, _, rfl, rfl, sq s0, tri1 _ _ _, _, rfl, b, _, _, _, rfl, rfl, sq' s0, tri0 _ _ _, _, _, rfl, rfl, t.2.1 &&& u.1, ?_, lt ft.2.1, _, _, rfl, rfl, .inl ⟨by decide, by decide⟩, _, _, rfl, rfl, rfl, rfl⟩
      show [V.int (Builtin.bitAnd (t.2.1 : Nat) (u.1 : Nat))] = _
      rw [band]
    rintro _ H1 ⟨rfl, eH⟩
    have eH' := eH.symm
    subst eH'
    refine ⟨_, rfl, _, rfl, _, rfl, _, rfl, a, _, _, _, rfl, rfl, sq s0, tri2 _ _ _, _, rfl, b, _, _, _, rfl, rfl, sq' s0, tri2 _ _ _, _, _, rfl, rfl, _, _, rfl, rfl, .inl ⟨by decide, by decide⟩, _, _, rfl, rfl, .inl ⟨_, rfl, _, _, rfl, rfl, by show (0 : Int) < 4; decide, _, _, rfl, rfl, ?_, by show 3 ≤ sizeLine; decide, fun r nr => q _ r (same_new nr) nr ?_⟩⟩
    · show CDiv ((lpP t u + 2 * ((t.2.2 : Int) + (u.2.2 : Int))) % 4) 2
      exact ⟨by decide, by decide⟩
    · unfold TrAt
      rw [upd_same]
      show some (HO.tup [V.int (t.1 ^^^ u.1 : Nat), V.int (t.2.1 ^^^ u.2.1 : Nat), V.int ((lpP t u + 2 * ((t.2.2 : Int) + (u.2.2 : Int))) % 4 / 2)]) = some (HO.tup [V.int (t.1 ^^^ u.1 : Nat), V.int (t.2.1 ^^^ u.2.1 : Nat), V.int ((((lpP t u + 2 * ((t.2.2 : Int) + (u.2.2 : Int))) % 4 / 2).toNat : Nat) : Int)])
      rw [Int.toNat_of_nonneg (by omega)]
theorem ok_text {f fL : Addr} {fd dL : FuncData} {k : Nat} (F : Fun K "_law_text" "_law_text" sText f fd) (FL : Fun K "_law_letters" "_law_letters" sLett fL dL) (bL : Binds K dL ["_law_string", "_law_size"] []) (gL : mg "_law_letters" = some (.ref fL)) (B : Bl mg) : FnOk P w K mg base CX0 (k + 2) f fd ["_law_string", "_law_size"] spText := by
  have GL : FnOk P w K mg base CX0 (k + 1) fL dL ["_law_string", "_law_size"] spLett := ok_lett FL B
  refine F.ok scText (fun vs H Q E h => ?_) (fun cdv A outer s H vs Q E hr h => ?_)
  · obtain ⟨a, n, t, rfl, _⟩ := h
    rfl
  · obtain ⟨a, n, t, rfl, et, ft, hn, q⟩ := h
    refine ⟨_, pss_one (ps_ret (pe_op op_add_str (pe_ifExp (pt_truth (pe_ix ix_tup (pv 0) pe_int (fun _ _ => rfl)) (by intro _; rfl)) pe_str pe_str) (pe_call GL hr (by rfl) gL FL.kp bL .nil pass0 (pa_cons (pv 0) (pa_cons (pv 1) pa_nil))))), ?_⟩
    have el : TrAt H a (bv lx (LT n t.1 t.2.1), bv lz (LT n t.1 t.2.1), t.2.2) := by rw [lx_LT _ ft.1, lz_LT _ ft.2.1]; exact et
    have ln := LT_len n t.1 t.2.1
    have lm : (mS (LT n t.1 t.2.1)).length = n := by rw [mS_len]; exact ln
    refine ⟨_, rfl, a, _, _, _, rfl, rfl, .inl (.inl et), tri2 _ _ _, _, rfl, ?_⟩
    by_cases z : t.2.2 = 0
    · rw [z]
      refine iteF ⟨_, rfl, _, rfl, a, LT n t.1 t.2.1, _, by rw [ln]; rfl, el, LT_lts _ _ _, by omega, _, _, rfl, rfl, ?_, ?_⟩
      · rw [e_no]
        show 0 + (mS (LT n t.1 t.2.1)).length ≤ sizeLine
        rw [lm]
        exact Nat.le_trans (by omega : 0 + n ≤ 60) (by decide)
      · have : (("" : Str) ++ mS (LT n t.1 t.2.1)) = mS (TX n t) := by
          rw [e_no, TX, if_pos z]
          exact mS_app [] _
        rw [this]
        exact q
    · have nz : (((t.2.2 : Nat) : Int) != 0) = true := bne_iff_ne.mpr (by omega)
      rw [nz]
      refine iteT ⟨_, rfl, _, rfl, a, LT n t.1 t.2.1, _, by rw [ln]; rfl, el, LT_lts _ _ _, by omega, _, _, rfl, rfl, ?_, ?_⟩
      · rw [e_minus]
        show 1 + (mS (LT n t.1 t.2.1)).length ≤ sizeLine
        rw [lm]
        exact Nat.le_trans (by omega : 1 + n ≤ 61) (by decide)
      · have : (("-" : Str) ++ mS (LT n t.1 t.2.1)) = mS (TX n t) := by
          rw [e_minus, TX, if_neg z]
          exact mS_app [45] _
        rw [this]
        exact q
end
end KQ
namespace KQ
open PySem PySem.Spec PyProof.Rows L2
theorem scGate : FnScope ["_law_string", "_law_kind", "_law_places", "_law_x", "_law_z", "_law_sign", "_law_a", "_law_one", "_law_two", "_law_turn", "_law_b", "_law_first", "_law_second", "_law_other"] ["_law_string", "_law_kind", "_law_places"] (defScope sGate) := ⟨rfl, rfl, rfl, by decide +kernel, rfl, by decide +kernel, by decide +kernel⟩
def G1 (k : Str) : Prop := k = "h" ∨ k = "s" ∨ k = "x" ∨ k = "z"
def G2 (k : Str) : Prop := k = "cx" ∨ k = "cz" ∨ k = "swap"
def spGate (K : PySem.W.Frag) : Sp := fun vs H Q _ => ∃ (s q : Addr) (kd : Str) (n : Nat) (t : T3) (ps : List Nat), vs = [.ref s, .str kd, .ref q] ∧ TrAt H s t ∧ Fit n t ∧ n ≤ 60 ∧ SqL K H q (natV ps) ∧ (∀ a ∈ ps, a < n) ∧ 1 ≤ ps.length ∧ (G1 kd ∨ (G2 kd ∧ 2 ≤ ps.length)) ∧
  ∀ H' r u, Same H H' → H r = none → TrAt H' r u → Fit n u → gB kd (ps.getD 0 0) (ps.getD 1 0) (t.1, t.2.1) = (u.1, u.2.1) → Q (.ref r) H'
theorem bitl (x a : Nat) : x / 2 ^ a % 2 < 2 := Nat.mod_lt _ (by decide)
theorem sh_lt {i a n : Nat} (h : i < 2) (ha : a < n) : i * 2 ^ a < 2 ^ n := by
  have : 2 ^ a * 2 ≤ 2 ^ n := by
    rw [← Nat.pow_succ]
    exact Nat.pow_le_pow_right (by decide) ha
  rcases (by omega : i = 0 ∨ i = 1) with rfl | rfl
  · rw [Nat.zero_mul]; exact Nat.two_pow_pos n
  · rw [Nat.one_mul]; have := Nat.two_pow_pos a; omega
theorem x_lt {i j : Nat} (h : i < 2) (k : j < 2) : i ^^^ j < 2 := Nat.xor_lt_two_pow (n := 1) h k
theorem m_lt {i j : Nat} (h : i < 2) (k : j < 2) : i * j < 2 := by
  rcases (by omega : i = 0 ∨ i = 1) with rfl | rfl <;> omega
theorem csh {i a : Nat} (h : i < 2) (ha : a ≤ 60) : CShl (i : Int) (a : Int) := by
  refine ⟨by omega, ?_⟩
  have : (2 : Int) ^ 27 = 134217728 := by decide
  have : Builtin.Int.intBits (i : Int) ≤ 1 := by
    rcases (by omega : i = 0 ∨ i = 1) with rfl | rfl <;> decide
  omega
theorem i_sh (i a : Nat) : (i : Int) * 2 ^ a = ((i * 2 ^ a : Nat) : Int) := by push_cast; rfl
theorem i_div (x a : Nat) : ((x : Int) / 2 ^ a % 2) = ((x / 2 ^ a % 2 : Nat) : Int) := by push_cast; rfl
section
variable {P : Program} {w : World} {K : PySem.W.Frag} {mg : Str → Option Value} {base : Heap}
theorem ok_gate {f : Addr} {fd : FuncData} {k : Nat} (F : Fun K "_law_gate" "_law_gate" sGate f fd) (B : Bl mg) : FnOk P w K mg base CX0 (k + 1) f fd ["_law_string", "_law_kind", "_law_places"] (spGate K) := by
  refine F.ok scGate (fun vs H Q E h => ?_) (fun cdv A outer s0 H vs Q E hr h => ?_)
  · obtain ⟨s, q, kd, n, t, ps, rfl, _⟩ := h
    rfl
  · obtain ⟨s, q, kd, n, t, ps, rfl, et, ft, hn, hS, hps, hp1, hk, w⟩ := h
    have hu := hu_of hr
    refine ⟨_, (C8.pss_cut (ps_asg (pv 0) (pg_tup rfl (pgs_cons (pg_name (i := 3) scGate.nd rfl (.inl rfl)) (pgs_cons (pg_name (i := 4) scGate.nd rfl (.inl rfl)) (pgs_cons (pg_name (i := 5) scGate.nd rfl (.inl rfl)) pgs_nil)))))
      (C8.pss_cut (ps_set (i := 6) scGate.nd rfl (.inl rfl) (pe_ix ix_list (pv 2) pe_int (fun _ _ => rfl)))
      (C8.pss_cut (ps_par (i := 7) (j := 8) rfl scGate.nd rfl rfl (by decide) rfl rfl (pa_cons (pe_op op_mod (pe_callTy call_int1 (by rfl) B.int bootI (pa_cons (pe_op op_shrN (pv 3) (pv 6)) pa_nil)) pe_int) (pa_cons (pe_op op_mod (pe_callTy call_int1 (by rfl) B.int bootI (pa_cons (pe_op op_shrN (pv 4) (pv 6)) pa_nil)) pe_int) pa_nil)) rfl)
      (C8.pss_cut (ps_if (pt_cmpR op_in_seq (pv 1) (pe_lst (pa_cons pe_str (pa_cons pe_str (pa_cons pe_str pa_nil)))) (by with_unfolding_all rfl)) (pss_one (ps_ret (pe_tup (pa_cons (pv 3) (pa_cons (pv 4) (pa_cons (pe_op op_xor (pv 5) (pe_dget hu (pe_disp (pps_cons pe_str (pv 8) (pps_cons pe_str (pe_op op_xor (pv 7) (pv 8)) (pps_cons pe_str (pv 7) pps_nil))) (by rfl) (by rfl) (fun z => by cases z) (by decide)) (pv 1) (fun _ _ => rfl))) pa_nil)))))) pss_nil)
      (C8.pss_cut (ps_if (pt_cmpR op_in_seq (pv 1) (pe_lst (pa_cons pe_str (pa_cons pe_str pa_nil))) (by with_unfolding_all rfl)) (C8.pss_cut (ps_set (i := 9) scGate.nd rfl (.inl rfl) (pe_op op_shlN (pe_op op_xor (pv 7) (pv 8)) (pv 6))) (pss_one (ps_ret (pe_ifExp (pt_cmpR op_eq (pv 1) pe_str (nomark _)) (pe_tup (pa_cons (pe_op op_xor (pv 3) (pv 9)) (pa_cons (pe_op op_xor (pv 4) (pv 9)) (pa_cons (pe_op op_xor (pv 5) (pe_op op_mul (pv 7) (pv 8))) pa_nil)))) (pe_tup (pa_cons (pv 3) (pa_cons (pe_op op_xor (pv 4) (pe_op op_shlN (pv 7) (pv 6))) (pa_cons (pe_op op_xor (pv 5) (pe_op op_mul (pv 7) (pv 8))) pa_nil)))))))) pss_nil)
      (C8.pss_cut (ps_set (i := 10) scGate.nd rfl (.inl rfl) (pe_ix ix_list (pv 2) pe_int (fun _ _ => rfl)))
      (C8.pss_cut (ps_par (i := 11) (j := 12) rfl scGate.nd rfl rfl (by decide) rfl rfl (pa_cons (pe_op op_mod (pe_callTy call_int1 (by rfl) B.int bootI (pa_cons (pe_op op_shrN (pv 3) (pv 10)) pa_nil)) pe_int) (pa_cons (pe_op op_mod (pe_callTy call_int1 (by rfl) B.int bootI (pa_cons (pe_op op_shrN (pv 4) (pv 10)) pa_nil)) pe_int) pa_nil)) rfl)
      (C8.pss_cut (ps_if (pt_cmpR op_eq (pv 1) pe_str (nomark _)) (pss_one (ps_ret (pe_tup (pa_cons (pe_op op_xor (pv 3) (pe_op op_shlN (pv 7) (pv 10))) (pa_cons (pe_op op_xor (pv 4) (pe_op op_shlN (pv 12) (pv 6))) (pa_cons (pe_op op_xor (pv 5) (pe_op op_mul (pe_op op_mul (pv 7) (pv 12)) (pe_op op_sub pe_int (pe_op op_xor (pv 11) (pv 8))))) pa_nil)))))) pss_nil)
      (C8.pss_cut (ps_if (pt_cmpR op_eq (pv 1) pe_str (nomark _)) (pss_one (ps_ret (pe_tup (pa_cons (pv 3) (pa_cons (pe_op op_xor (pe_op op_xor (pv 4) (pe_op op_shlN (pv 11) (pv 6))) (pe_op op_shlN (pv 7) (pv 10))) (pa_cons (pe_op op_xor (pv 5) (pe_op op_mul (pe_op op_mul (pv 7) (pv 11)) (pe_op op_xor (pv 8) (pv 12)))) pa_nil)))))) pss_nil)
      (C8.pss_cut (ps_par (i := 9) (j := 13) rfl scGate.nd rfl rfl (by decide) rfl rfl (pa_cons (pe_op op_xor (pv 7) (pv 11)) (pa_cons (pe_op op_xor (pv 8) (pv 12)) pa_nil)) rfl)
      (pss_one (ps_ret (pe_tup (pa_cons (pe_op op_xor (pe_op op_xor (pv 3) (pe_op op_shlN (pv 9) (pv 6))) (pe_op op_shlN (pv 9) (pv 10))) (pa_cons (pe_op op_xor (pe_op op_xor (pv 4) (pe_op op_shlN (pv 13) (pv 6))) (pe_op op_shlN (pv 13) (pv 10))) (pa_cons (pv 5) pa_nil)))))))))))))))), ?_⟩
    have fin : ∀ {X Z S : Int} {G : Hp} {r : Addr} (u : T3), Same H G → G r = none → X = (u.1 : Nat) → Z = (u.2.1 : Nat) → S = (u.2.2 : Nat) → Fit n u → gB kd (ps.getD 0 0) (ps.getD 1 0) (t.1, t.2.1) = (u.1, u.2.1) → Q (.ref r) (upd G r (.tup [.int X, .int Z, .int S])) := by
      intro X Z S G r u sg nr e1 e2 e3 fu gu
      refine w _ r u (sg.trans (same_new nr)) (off_same sg nr) ?_ fu gu
      unfold TrAt
      rw [upd_same, e1, e2, e3]
    have s0 : Same H H := fun _ _ e => e
    obtain ⟨x, z, sg⟩ := t
    obtain ⟨fx, fz, fs⟩ := ft
    obtain ⟨a, ps', rfl⟩ : ∃ a ps', ps = a :: ps' := by
      cases ps with
      | nil => simp at hp1
      | cons a ps' => exact ⟨a, ps', rfl⟩
    have ha : a < n := hps a (List.mem_cons_self ..)
    refine ⟨fun σ' H' => σ' = [some (.ref s), some (.str kd), some (.ref q), some (.int (x : Nat)), some (.int (z : Nat)), some (.int (sg : Nat)), none, none, none, none, none, none, none, none] ∧ H' = H, ⟨_, rfl, _, _, rfl, .inl (.inl et), rfl, _, _, rfl, _, _, rfl, _, _, rfl, rfl, rfl, rfl⟩, ?_⟩
    rintro _ H1 ⟨rfl, eH⟩
    have eH' := eH.symm
    subst eH'
    refine ⟨fun σ' H' => σ' = [some (.ref s), some (.str kd), some (.ref q), some (.int (x : Nat)), some (.int (z : Nat)), some (.int (sg : Nat)), some (.int (a : Nat)), none, none, none, none, none, none, none] ∧ H' = H, ⟨_, rfl, q, _, _, _, rfl, rfl, hS, at_of (j := 0) rfl rfl, rfl, rfl⟩, ?_⟩
    rintro _ H1 ⟨rfl, eH⟩
    have eH' := eH.symm
    subst eH'
    refine ⟨fun σ' H' => σ' = [some (.ref s), some (.str kd), some (.ref q), some (.int (x : Nat)), some (.int (z : Nat)), some (.int (sg : Nat)), some (.int (a : Nat)), some (.int (x / 2 ^ a % 2 : Nat)), some (.int (z / 2 ^ a % 2 : Nat)), none, none, none, none, none] ∧ H' = H, ?_, ?_⟩
    · refine ⟨_, rfl, _, rfl, (x : Int), a, rfl, rfl, .inl ⟨_, rfl, _, _, rfl, rfl, (by show (0 : Int) < 2; decide), _, rfl, _, rfl, (z : Int), a, rfl, rfl, .inl ⟨_, rfl, _, _, rfl, rfl, (by show (0 : Int) < 2; decide), _, _, rfl, ?_, rfl⟩⟩⟩
      show [_, _, _, _, _, _, _, some (V.int ((x : Int) / 2 ^ a % 2)), some (V.int ((z : Int) / 2 ^ a % 2)), _, _, _, _, _] = _
      rw [i_div, i_div]
    rintro _ H1 ⟨rfl, eH⟩
    have eH' := eH.symm
    subst eH'
    have l1 := bitl x a
    have l2 := bitl z a
    generalize ho : x / 2 ^ a % 2 = one at l1 ⊢
    generalize ht : z / 2 ^ a % 2 = two at l2 ⊢
    have nxy : ¬ ("x" : Str) = "y" := by decide +kernel
    have nxz : ¬ ("x" : Str) = "z" := by decide +kernel
    have nyz : ¬ ("y" : Str) = "z" := by decide +kernel
    have nyx : ¬ ("y" : Str) = "x" := by decide +kernel
    have nzx : ¬ ("z" : Str) = "x" := by decide +kernel
    have nzy : ¬ ("z" : Str) = "y" := by decide +kernel
    have mg3 : ∀ u v w : V, mergeK [] [((.inr "x" : Key), u), (.inr "y", v), (.inr "z", w)] = [((.inr "x" : Key), u), (.inr "y", v), (.inr "z", w)] := fun u v w => by
      simp [mergeK, putK, nxy, nxz, nyz, nyx, nzx, nzy]
    have vx : ∀ u v w : V, valV [((.inr "x" : Key), u), (.inr "y", v), (.inr "z", w)] (.inr "x") = some u := fun u v w => valV_pos rfl
    have vz : ∀ u v w : V, valV [((.inr "x" : Key), u), (.inr "y", v), (.inr "z", w)] (.inr "z") = some w := fun u v w => by
      simp [valV, List.find?, nxz, nyz]
    by_cases k3 : kd = "x" ∨ kd = "z"
    · refine ⟨fun _ _ => False, ?_, fun _ _ z => z.elim⟩
      refine ⟨_, rfl, by show 3 ≤ sizeLine; decide, fun l nl => ⟨l, _, rfl, .inl (SqL.of upd_same), rfl, rfl, true, ?_, ?_⟩⟩
      · rcases k3 with rfl | rfl <;> decide +kernel
      refine iteT ?_
      refine ⟨_, rfl, _, rfl, _, rfl, fun p hp => ?_⟩
      refine ⟨_, rfl, _, rfl, _, rfl, _, _, rfl, rfl, _, rfl, ?_⟩
      have sl : Same H (upd (upd (upd H l (.lst [V.str "x", V.str "y", V.str "z"])) p (.dK [])) p (.dK (mergeK [] [((.inr "x" : Key), V.int (two : Nat)), (.inr "y", V.int (Builtin.bitXor (one : Nat) (two : Nat))), (.inr "z", V.int (one : Nat))]))) := (same_new nl).trans (by
        rw [upd_upd]
        exact same_new hp)
      rcases k3 with rfl | rfl
      · refine ⟨upd_same, [((.inr "x" : Key), V.int (two : Nat)), (.inr "y", V.int (Builtin.bitXor (one : Nat) (two : Nat))), (.inr "z", V.int (one : Nat))], rfl, by show 3 ≤ 15; decide, _, rfl, p, .int (two : Nat), rfl, ?_, _, _, rfl, rfl, by show 3 ≤ sizeLine; decide, fun r nr => fin (x, z, sg ^^^ two) sl nr rfl rfl (bxor _ _) ⟨fx, fz, x_lt fs l2⟩ (gB_n (by decide +kernel) (by decide +kernel) (by decide +kernel) (by decide +kernel) (by decide +kernel))⟩
        have := DGet.k (k := (.inr "x" : Key)) (upd_same (H := upd (upd H l (.lst [V.str "x", V.str "y", V.str "z"])) p (.dK [])) (a := p) (o := .dK (mergeK [] [((.inr "x" : Key), V.int (two : Nat)), (.inr "y", V.int (Builtin.bitXor (one : Nat) (two : Nat))), (.inr "z", V.int (one : Nat))])))
        rw [mg3, vx] at this
        rw [mg3]
        exact this
      · refine ⟨upd_same, [((.inr "x" : Key), V.int (two : Nat)), (.inr "y", V.int (Builtin.bitXor (one : Nat) (two : Nat))), (.inr "z", V.int (one : Nat))], rfl, by show 3 ≤ 15; decide, _, rfl, p, .int (one : Nat), rfl, ?_, _, _, rfl, rfl, by show 3 ≤ sizeLine; decide, fun r nr => fin (x, z, sg ^^^ one) sl nr rfl rfl (bxor _ _) ⟨fx, fz, x_lt fs l1⟩ (gB_n (by decide +kernel) (by decide +kernel) (by decide +kernel) (by decide +kernel) (by decide +kernel))⟩
        have := DGet.k (k := (.inr "z" : Key)) (upd_same (H := upd (upd H l (.lst [V.str "x", V.str "y", V.str "z"])) p (.dK [])) (a := p) (o := .dK (mergeK [] [((.inr "x" : Key), V.int (two : Nat)), (.inr "y", V.int (Builtin.bitXor (one : Nat) (two : Nat))), (.inr "z", V.int (one : Nat))])))
        rw [mg3, vz] at this
        rw [mg3]
        exact this
    have k3' : ∀ {b : V}, b = .str kd → inV b [V.str "x", V.str "y", V.str "z"] = false := fun {b} e => by
      rcases hk with (rfl | rfl | rfl | rfl) | ⟨rfl | rfl | rfl, _⟩ <;> first | (exact absurd (by simp) k3) | (rw [e]; decide +kernel)
    refine ⟨fun σ' H' => σ' = [some (.ref s), some (.str kd), some (.ref q), some (.int (x : Nat)), some (.int (z : Nat)), some (.int (sg : Nat)), some (.int (a : Nat)), some (.int (one : Nat)), some (.int (two : Nat)), none, none, none, none, none] ∧ Same H H', ?_, ?_⟩
    · refine ⟨_, rfl, by show 3 ≤ sizeLine; decide, fun l nl => ⟨l, _, rfl, .inl (SqL.of upd_same), rfl, rfl, false, ?_, iteF ⟨rfl, same_new nl⟩⟩⟩
      exact congrArg V.bl (k3' rfl)
    rintro _ H1 ⟨rfl, s1⟩
    by_cases k4 : kd = "h" ∨ kd = "s"
    · refine ⟨fun _ _ => False, ?_, fun _ _ z => z.elim⟩
      refine ⟨_, rfl, by show 2 ≤ sizeLine; decide, fun l nl => ⟨l, _, rfl, .inl (SqL.of upd_same), rfl, rfl, true, ?_, ?_⟩⟩
      · rcases k4 with rfl | rfl <;> decide +kernel
      have s2 := s1.trans (same_new (o := .lst [V.str "h", V.str "s"]) nl)
      generalize upd H1 l (.lst [V.str "h", V.str "s"]) = H2 at s2 ⊢
      have lx1 := x_lt l1 l2
      refine iteT ⟨fun σ' H' => σ' = [some (.ref s), some (.str kd), some (.ref q), some (.int (x : Nat)), some (.int (z : Nat)), some (.int (sg : Nat)), some (.int (a : Nat)), some (.int (one : Nat)), some (.int (two : Nat)), some (.int ((one ^^^ two) * 2 ^ a : Nat)), none, none, none, none] ∧ H' = H2, ?_, ?_⟩
      · refine ⟨_, rfl, _, rfl, _, _, rfl, rfl, _, rfl, ((one ^^^ two : Nat) : Int), a, ?_, rfl, csh lx1 (by omega), ?_, rfl⟩
        · show V.int (Builtin.bitXor (one : Nat) (two : Nat)) = _
          rw [bxor]
        · rw [i_sh]
          rfl
      rintro _ H3 ⟨rfl, eH⟩
      subst eH
      have lt := sh_lt lx1 ha
      have lm := m_lt l1 l2
      have em : ((one : Int) * (two : Int)) = ((one * two : Nat) : Int) := by push_cast; rfl
      rcases k4 with rfl | rfl
      · refine ⟨_, rfl, rfl, true, by decide +kernel, iteT ?_⟩
        refine ⟨_, rfl, _, rfl, _, _, rfl, rfl, _, rfl, _, rfl, _, _, rfl, rfl, _, rfl, _, rfl, _, rfl, _, _, rfl, rfl, .inl ⟨by omega, by omega⟩, _, _, rfl, rfl, by show 3 ≤ sizeLine; decide, fun r nr => fin (x ^^^ (one ^^^ two) * 2 ^ a, z ^^^ (one ^^^ two) * 2 ^ a, sg ^^^ one * two) s2 nr (bxor _ _) (bxor _ _) ?_ ⟨Nat.xor_lt_two_pow fx lt, Nat.xor_lt_two_pow fz lt, x_lt fs lm⟩ (by subst ho ht; exact gB_h ..)⟩
        show Builtin.bitXor (sg : Nat) ((one : Int) * (two : Int)) = _
        rw [em, bxor]
      · refine ⟨_, rfl, rfl, false, by decide +kernel, iteF ?_⟩
        refine ⟨_, rfl, _, rfl, _, rfl, _, rfl, (one : Int), a, rfl, rfl, csh l1 (by omega), _, _, rfl, rfl, _, rfl, _, rfl, _, rfl, _, _, rfl, rfl, .inl ⟨by omega, by omega⟩, _, _, rfl, rfl, by show 3 ≤ sizeLine; decide, fun r nr => fin (x, z ^^^ one * 2 ^ a, sg ^^^ one * two) s2 nr rfl ?_ ?_ ⟨fx, Nat.xor_lt_two_pow fz (sh_lt l1 ha), x_lt fs lm⟩ (by subst ho ht; exact gB_s ..)⟩
        · show Builtin.bitXor (z : Nat) ((one : Int) * 2 ^ a) = _
          rw [i_sh, bxor]
        · show Builtin.bitXor (sg : Nat) ((one : Int) * (two : Int)) = _
          rw [em, bxor]
    have k2 : G2 kd ∧ 2 ≤ (a :: ps').length := by
      rcases hk with (h | h | h | h) | h
      · exact absurd (.inl h) k4
      · exact absurd (.inr h) k4
      · exact absurd (.inl h) k3
      · exact absurd (.inr h) k3
      · exact h
    obtain ⟨kg, hp2⟩ := k2
    have k4' : ∀ {b : V}, b = .str kd → inV b [V.str "h", V.str "s"] = false := fun {b} e => by
      rcases kg with rfl | rfl | rfl <;> (rw [e]; decide +kernel)
    refine ⟨fun σ' H' => σ' = [some (.ref s), some (.str kd), some (.ref q), some (.int (x : Nat)), some (.int (z : Nat)), some (.int (sg : Nat)), some (.int (a : Nat)), some (.int (one : Nat)), some (.int (two : Nat)), none, none, none, none, none] ∧ Same H H', ?_, ?_⟩
    · refine ⟨_, rfl, by show 2 ≤ sizeLine; decide, fun l nl => ⟨l, _, rfl, .inl (SqL.of upd_same), rfl, rfl, false, ?_, iteF ⟨rfl, s1.trans (same_new nl)⟩⟩⟩
      exact congrArg V.bl (k4' rfl)
    rintro _ H2 ⟨rfl, s2⟩
    obtain ⟨b, ps2, rfl⟩ : ∃ b ps2, ps' = b :: ps2 := by
      cases ps' with
      | nil => simp at hp2
      | cons b ps2 => exact ⟨b, ps2, rfl⟩
    have hb : b < n := hps b (List.mem_cons_of_mem _ (List.mem_cons_self ..))
    refine ⟨fun σ' H' => σ' = [some (.ref s), some (.str kd), some (.ref q), some (.int (x : Nat)), some (.int (z : Nat)), some (.int (sg : Nat)), some (.int (a : Nat)), some (.int (one : Nat)), some (.int (two : Nat)), none, some (.int (b : Nat)), none, none, none] ∧ H' = H2, ⟨_, rfl, q, _, _, _, rfl, rfl, Same.seq s2 hS, at_of (j := 1) rfl rfl, rfl, rfl⟩, ?_⟩
    rintro _ H3 ⟨rfl, eH⟩
    subst eH
    refine ⟨fun σ' H' => σ' = [some (.ref s), some (.str kd), some (.ref q), some (.int (x : Nat)), some (.int (z : Nat)), some (.int (sg : Nat)), some (.int (a : Nat)), some (.int (one : Nat)), some (.int (two : Nat)), none, some (.int (b : Nat)), some (.int (x / 2 ^ b % 2 : Nat)), some (.int (z / 2 ^ b % 2 : Nat)), none] ∧ H' = H3, ?_, ?_⟩
    · refine ⟨_, rfl, _, rfl, (x : Int), b, rfl, rfl, .inl ⟨_, rfl, _, _, rfl, rfl, (by show (0 : Int) < 2; decide), _, rfl, _, rfl, (z : Int), b, rfl, rfl, .inl ⟨_, rfl, _, _, rfl, rfl, (by show (0 : Int) < 2; decide), _, _, rfl, ?_, rfl⟩⟩⟩
      show [_, _, _, _, _, _, _, _, _, _, _, some (V.int ((x : Int) / 2 ^ b % 2)), some (V.int ((z : Int) / 2 ^ b % 2)), _] = _
      rw [i_div, i_div]
    rintro _ H4 ⟨rfl, eH⟩
    subst eH
    have l3 := bitl x b
    have l4 := bitl z b
    generalize hf : x / 2 ^ b % 2 = fst at l3 ⊢
    generalize hs : z / 2 ^ b % 2 = snd at l4 ⊢
    have bits : ∀ u : Nat, u < 2 → u = 0 ∨ u = 1 := fun u h => by omega
    by_cases kc : kd = "cx"
    · subst kc
      obtain ⟨v, hv, ev⟩ : ∃ v : Nat, v < 2 ∧ ((one : Int) * (snd : Int)) * (1 - Builtin.bitXor (fst : Nat) (two : Nat)) = (v : Int) := by
        rw [bxor]
        rcases bits one l1 with rfl | rfl <;> rcases bits snd l4 with rfl | rfl <;> rcases bits fst l3 with rfl | rfl <;> rcases bits two l2 with rfl | rfl <;> first | exact ⟨0, by decide, by decide⟩ | exact ⟨1, by decide, by decide⟩
      refine ⟨fun _ _ => False, ?_, fun _ _ z => z.elim⟩
      refine ⟨_, rfl, rfl, true, by decide +kernel, iteT ?_⟩
      refine ⟨_, rfl, _, rfl, _, rfl, (one : Int), b, rfl, rfl, csh l1 (by omega), _, _, rfl, rfl, _, rfl, _, rfl, _, rfl, (snd : Int), a, rfl, rfl, csh l4 (by omega), _, _, rfl, rfl, _, rfl, _, rfl, _, rfl, _, _, rfl, rfl, .inl ⟨by omega, by omega⟩, _, rfl, _, rfl, _, _, rfl, rfl, _, _, rfl, rfl, _, _, rfl, rfl, ?_, _, _, rfl, rfl, by show 3 ≤ sizeLine; decide, fun r nr => fin (x ^^^ one * 2 ^ b, z ^^^ snd * 2 ^ a, sg ^^^ v) s2 nr ?_ ?_ ?_ ⟨Nat.xor_lt_two_pow fx (sh_lt l1 hb), Nat.xor_lt_two_pow fz (sh_lt l4 ha), x_lt fs hv⟩ (by subst ho hs; exact gB_cx ..)⟩
      · refine .inl ?_
        have : (one : Int) * (snd : Int) = ((one * snd : Nat) : Int) := by push_cast; rfl
        have := m_lt l1 l4
        constructor <;> (show _; omega)
      · show Builtin.bitXor (x : Nat) ((one : Int) * 2 ^ b) = _
        rw [i_sh, bxor]
      · show Builtin.bitXor (z : Nat) ((snd : Int) * 2 ^ a) = _
        rw [i_sh, bxor]
      · show Builtin.bitXor (sg : Nat) (((one : Int) * (snd : Int)) * (1 - Builtin.bitXor (fst : Nat) (two : Nat))) = _
        rw [ev, bxor]
    refine ⟨fun σ' H' => σ' = [some (.ref s), some (.str kd), some (.ref q), some (.int (x : Nat)), some (.int (z : Nat)), some (.int (sg : Nat)), some (.int (a : Nat)), some (.int (one : Nat)), some (.int (two : Nat)), none, some (.int (b : Nat)), some (.int (fst : Nat)), some (.int (snd : Nat)), none] ∧ H' = H4, ?_, ?_⟩
    · refine ⟨_, rfl, rfl, false, ?_, iteF ⟨rfl, rfl⟩⟩
      rcases kg with rfl | rfl | rfl
      · exact absurd rfl kc
      · decide +kernel
      · decide +kernel
    rintro _ H5 ⟨rfl, eH⟩
    subst eH
    by_cases kz : kd = "cz"
    · subst kz
      obtain ⟨v, hv, ev⟩ : ∃ v : Nat, v < 2 ∧ ((one : Int) * (fst : Int)) * Builtin.bitXor (two : Nat) (snd : Nat) = (v : Int) := by
        rw [bxor]
        rcases bits one l1 with rfl | rfl <;> rcases bits snd l4 with rfl | rfl <;> rcases bits fst l3 with rfl | rfl <;> rcases bits two l2 with rfl | rfl <;> first | exact ⟨0, by decide, by decide⟩ | exact ⟨1, by decide, by decide⟩
      refine ⟨fun _ _ => False, ?_, fun _ _ z => z.elim⟩
      refine ⟨_, rfl, rfl, true, by decide +kernel, iteT ?_⟩
      refine ⟨_, rfl, _, rfl, _, rfl, _, rfl, (fst : Int), a, rfl, rfl, csh l3 (by omega), _, _, rfl, rfl, _, rfl, _, rfl, (one : Int), b, rfl, rfl, csh l1 (by omega), _, _, rfl, rfl, _, rfl, _, rfl, _, rfl, _, _, rfl, rfl, .inl ⟨by omega, by omega⟩, _, rfl, _, rfl, _, _, rfl, rfl, _, _, rfl, rfl, ?_, _, _, rfl, rfl, by show 3 ≤ sizeLine; decide, fun r nr => fin (x, (z ^^^ fst * 2 ^ a) ^^^ one * 2 ^ b, sg ^^^ v) s2 nr rfl ?_ ?_ ⟨fx, Nat.xor_lt_two_pow (Nat.xor_lt_two_pow fz (sh_lt l3 ha)) (sh_lt l1 hb), x_lt fs hv⟩ (by subst ho hf; exact gB_cz ..)⟩
      · refine .inl ?_
        have : (one : Int) * (fst : Int) = ((one * fst : Nat) : Int) := by push_cast; rfl
        have := m_lt l1 l3
        constructor <;> (show _; omega)
      · show Builtin.bitXor (Builtin.bitXor (z : Nat) ((fst : Int) * 2 ^ a)) ((one : Int) * 2 ^ b) = _
        rw [i_sh, i_sh, bxor, bxor]
      · show Builtin.bitXor (sg : Nat) (((one : Int) * (fst : Int)) * Builtin.bitXor (two : Nat) (snd : Nat)) = _
        rw [ev, bxor]
    refine ⟨fun σ' H' => σ' = [some (.ref s), some (.str kd), some (.ref q), some (.int (x : Nat)), some (.int (z : Nat)), some (.int (sg : Nat)), some (.int (a : Nat)), some (.int (one : Nat)), some (.int (two : Nat)), none, some (.int (b : Nat)), some (.int (fst : Nat)), some (.int (snd : Nat)), none] ∧ H' = H5, ?_, ?_⟩
    · refine ⟨_, rfl, rfl, false, ?_, iteF ⟨rfl, rfl⟩⟩
      rcases kg with rfl | rfl | rfl
      · exact absurd rfl kc
      · exact absurd rfl kz
      · decide +kernel
    rintro _ H6 ⟨rfl, eH⟩
    subst eH
    have ks : kd = "swap" := by
      rcases kg with h | h | h
      · exact absurd h kc
      · exact absurd h kz
      · exact h
    have lu := x_lt l1 l3
    have lv := x_lt l2 l4
    refine ⟨fun σ' H' => σ' = [some (.ref s), some (.str kd), some (.ref q), some (.int (x : Nat)), some (.int (z : Nat)), some (.int (sg : Nat)), some (.int (a : Nat)), some (.int (one : Nat)), some (.int (two : Nat)), some (.int (one ^^^ fst : Nat)), some (.int (b : Nat)), some (.int (fst : Nat)), some (.int (snd : Nat)), some (.int (two ^^^ snd : Nat))] ∧ H' = H6, ?_, ?_⟩
    · refine ⟨_, rfl, _, rfl, _, _, rfl, rfl, _, rfl, _, rfl, _, _, rfl, rfl, _, _, rfl, ?_, rfl⟩
      show [_, _, _, _, _, _, _, _, _, some (V.int (Builtin.bitXor (one : Nat) (fst : Nat))), _, _, _, some (V.int (Builtin.bitXor (two : Nat) (snd : Nat)))] = _
      rw [bxor, bxor]
    rintro _ H7 ⟨rfl, eH⟩
    subst eH
    generalize hu9 : one ^^^ fst = u at lu ⊢
    generalize hv9 : two ^^^ snd = v at lv ⊢
    refine ⟨_, rfl, _, rfl, _, rfl, (u : Int), a, rfl, rfl, csh lu (by omega), _, _, rfl, rfl, _, rfl, _, rfl, (u : Int), b, rfl, rfl, csh lu (by omega), _, _, rfl, rfl, _, rfl, _, rfl, _, rfl, (v : Int), a, rfl, rfl, csh lv (by omega), _, _, rfl, rfl, _, rfl, _, rfl, (v : Int), b, rfl, rfl, csh lv (by omega), _, _, rfl, rfl, _, rfl, by show 3 ≤ sizeLine; decide, fun r nr => fin ((x ^^^ u * 2 ^ a) ^^^ u * 2 ^ b, (z ^^^ v * 2 ^ a) ^^^ v * 2 ^ b, sg) s2 nr ?_ ?_ rfl ⟨Nat.xor_lt_two_pow (Nat.xor_lt_two_pow fx (sh_lt lu ha)) (sh_lt lu hb), Nat.xor_lt_two_pow (Nat.xor_lt_two_pow fz (sh_lt lv ha)) (sh_lt lv hb), fs⟩ (by subst hu9 hv9; subst ho ht hf hs; rw [ks]; exact gB_swap ..)⟩
    · show Builtin.bitXor (Builtin.bitXor (x : Nat) ((u : Int) * 2 ^ a)) ((u : Int) * 2 ^ b) = _
      rw [i_sh, i_sh, bxor, bxor]
    · show Builtin.bitXor (Builtin.bitXor (z : Nat) ((v : Int) * 2 ^ a)) ((v : Int) * 2 ^ b) = _
      rw [i_sh, i_sh, bxor, bxor]
end
end KQ
namespace KQ
open PySem PySem.Spec PyProof.Rows L2
theorem fold_rep (c : Nat) : ∀ (n : Nat) (a : Array Nat), (List.replicate n (#[c] : Array Nat)).foldl (· ++ ·) a = a ++ (List.replicate n c).toArray
  | 0, a => by simp
  | n + 1, a => by
    rw [List.replicate_succ, List.foldl_cons, fold_rep c n, List.replicate_succ]
    apply Array.ext'
    simp
/-- one sign, n times -/
theorem op_mul_sign {X : Cx} : OpR X (binaryOp .Mult) (fun x y H Q => ∃ c n : Nat, x = .str ⟨#[c]⟩ ∧ y = .int (n : Int) ∧ 0 < n ∧ n ≤ 10000 ∧ Q (.str ⟨(List.replicate n c).toArray⟩) H) := by
  intro pins s σ H x y v u Q I rx ry want
  obtain ⟨c, n, rfl, rfl, h0, hn, q⟩ := want
  obtain ⟨t, rfl⟩ := rx
  obtain ⟨t', rfl⟩ := ry
  have n1 : ¬ (n : Int) < 1 := by omega
  have len1 : (⟨#[c]⟩ : Str).length = 1 := rfl
  refine PySem.P.mul_str ?_ (fun _ _ => ?_) (fun _ _ => ?_) ?_
  · rw [decide_eq_false (by omega : ¬ (n : Int) < -(2 ^ 63)), decide_eq_false (by omega : ¬ (n : Int) ≥ 2 ^ 63)]
    rfl
  · rw [len1]
    intro z
    have h1 : (1 : Int) ≤ (2 ^ 63 - 1) / (n : Int) := (Int.le_ediv_iff_mul_le (by omega)).mpr (by omega)
    have z' : (2 ^ 63 - 1) / (n : Int) < 1 := z
    omega
  · rw [len1, Nat.one_mul, Int.toNat_natCast]
    show decide (n > 2 ^ 24) = false
    exact decide_eq_false (by omega)
  · rw [if_neg n1]
    by_cases e : n = 1
    · subst e
      rw [if_pos (show (((1 : Nat) : Int) == 1 || (⟨#[c]⟩ : Str).length == 0) = true from rfl)]
      exact ⟨.str ⟨#[c]⟩, H, I, ⟨t, rfl⟩, q⟩
    · have ne : ((n : Int) == 1 || (⟨#[c]⟩ : Str).length == 0) = false := by
        have h1 : ((n : Int) == 1) = false := beq_eq_false_iff_ne.mpr (by omega)
        rw [h1]
        rfl
      rw [ne]
      rw [if_neg Bool.false_ne_true, Int.toNat_natCast]
      have key : (List.replicate n (⟨#[c]⟩ : Str).cps).foldl (· ++ ·) #[] = (List.replicate n c).toArray := by
        rw [fold_rep]
        simp
      rw [key]
      refine ⟨?_, ⟨.str ⟨(List.replicate n c).toArray⟩, H, I.tok _, ⟨_, rfl⟩, q⟩⟩
      show (List.replicate n c).toArray.size ≤ sizeLine
      rw [List.size_toArray, List.length_replicate]
      exact Nat.le_trans hn (by decide)
theorem op_mul_sign0 {X : Cx} : OpR X (binaryOp .Mult) (fun x y H Q => ∃ c n : Nat, x = .str ⟨#[c]⟩ ∧ y = .int (n : Int) ∧ n ≤ 10000 ∧ Q (.str ⟨(List.replicate n c).toArray⟩) H) := by
  intro pins s σ H x y v u Q I rx ry want
  obtain ⟨c, n, rfl, rfl, hn, q⟩ := want
  by_cases h0 : 0 < n
  · exact op_mul_sign pins s σ H _ _ v u Q I rx ry ⟨c, n, rfl, rfl, h0, hn, q⟩
  · obtain rfl : n = 0 := by omega
    obtain ⟨t, rfl⟩ := rx
    obtain ⟨t', rfl⟩ := ry
    refine PySem.P.mul_str ?_ (fun _ _ => ?_) (fun _ _ => ?_) ?_
    · rfl
    · rename_i h1 _
      exact absurd (show ((0 : Nat) : Int) < 1 by decide) h1
    · rename_i h1 _
      exact absurd (show ((0 : Nat) : Int) < 1 by decide) h1
    · rw [if_pos (show ((0 : Nat) : Int) < 1 by decide)]
      exact ⟨Nat.zero_le _, ⟨.str Str.empty, H, I.tok _, ⟨_, rfl⟩, q⟩⟩
end KQ
namespace KQ
open PySem PySem.Spec PyProof.Rows L2
theorem scCode : FnScope ["_law_pen_here", "_law_size", "_law_rank", "_law_gauged", "_law_marks", "_law_pairs", "_law_gates", "_law_lap", "_law_string", "_law_x", "_law_z", "_law_rows", "_law_other", "_law_gauge", "_law_kind", "_law_places", "_law_k"] ["_law_pen_here", "_law_size", "_law_rank", "_law_gauged"] (defScope sCode) := ⟨rfl, rfl, rfl, by decide +kernel, rfl, by decide +kernel, by decide +kernel⟩
instance (k : Str) : Decidable (G2 k) := inferInstanceAs (Decidable (_ ∨ _ ∨ _))
abbrev RLs := List (Addr × T3)
def refR (R : RLs) : List V := R.map fun r => V.ref r.1
def RsAt (n : Nat) (H : Hp) (R : RLs) : Prop := ∀ r ∈ R, TrAt H r.1 r.2 ∧ Fit n r.2
abbrev PrLs := List (Addr × (Addr × T3) × (Addr × T3))
def refQ (R : PrLs) : List V := R.map fun r => V.ref r.1
def QsAt (n : Nat) (H : Hp) (R : PrLs) : Prop := ∀ r ∈ R, H r.1 = some (.tup [.ref r.2.1.1, .ref r.2.2.1]) ∧ TrAt H r.2.1.1 r.2.1.2 ∧ Fit n r.2.1.2 ∧ TrAt H r.2.2.1 r.2.2.2 ∧ Fit n r.2.2.2
abbrev GtLs := List (Addr × Str × Addr × List Nat)
def refG (G : GtLs) : List V := G.map fun g => V.ref g.1
def GtAt (n : Nat) (gl : Addr) (H : Hp) (G : GtLs) : Prop := ∀ g ∈ G, H g.1 = some (.tup [.str g.2.1, .ref g.2.2.1]) ∧ H g.2.2.1 = some (.lst (natV g.2.2.2)) ∧ g.2.2.1 ≠ gl ∧ (∀ a ∈ g.2.2.2, a < n) ∧ 1 ≤ g.2.2.2.length ∧ (G1 g.2.1 ∨ (G2 g.2.1 ∧ 2 ≤ g.2.2.2.length)) ∧ g.2.2.2.Nodup
theorem refR_at {R : RLs} {i : Nat} {v : V} (h : (refR R)[i]? = some v) : ∃ r, R[i]? = some r ∧ v = .ref r.1 := by
  unfold refR at h
  rw [List.getElem?_map] at h
  obtain ⟨q, hq, rfl⟩ := Option.map_eq_some_iff.mp h
  exact ⟨q, hq, rfl⟩
theorem refR_len (R : RLs) : (refR R).length = R.length := List.length_map ..
theorem refQ_at {R : PrLs} {i : Nat} {v : V} (h : (refQ R)[i]? = some v) : ∃ r, R[i]? = some r ∧ v = .ref r.1 := by
  unfold refQ at h
  rw [List.getElem?_map] at h
  obtain ⟨q, hq, rfl⟩ := Option.map_eq_some_iff.mp h
  exact ⟨q, hq, rfl⟩
theorem refQ_len (R : PrLs) : (refQ R).length = R.length := List.length_map ..
theorem refG_at {R : GtLs} {i : Nat} {v : V} (h : (refG R)[i]? = some v) : ∃ r, R[i]? = some r ∧ v = .ref r.1 := by
  unfold refG at h
  rw [List.getElem?_map] at h
  obtain ⟨q, hq, rfl⟩ := Option.map_eq_some_iff.mp h
  exact ⟨q, hq, rfl⟩
theorem refG_len (R : GtLs) : (refG R).length = R.length := List.length_map ..
theorem RsAt.same {n : Nat} {H H' : Hp} {R : RLs} (s : Same H H') (h : RsAt n H R) : RsAt n H' R := fun r hr => ⟨s _ _ (h r hr).1, (h r hr).2⟩
theorem RsAt.put {n : Nat} {H : Hp} {R : RLs} {D : Addr} {xs : List V} {o : HO} (e : H D = some (.lst xs)) (h : RsAt n H R) : RsAt n (upd H D o) R := fun r hr => by
  obtain ⟨e2, f⟩ := h r hr
  refine ⟨?_, f⟩
  unfold TrAt at *
  rw [upd_ne fun z => by rw [z, e] at e2; cases e2]
  exact e2
theorem RsAt.kb {n : Nat} {H H' : Hp} {R : RLs} {p : Addr} {kv : List (Key × V)} (hp : H p = some (.dK kv)) (k : KB p H H') (h : RsAt n H R) : RsAt n H' R := fun r hr => by
  obtain ⟨e2, f⟩ := h r hr
  refine ⟨k _ _ e2 fun z => ?_, f⟩
  unfold TrAt at e2
  rw [z, hp] at e2
  cases e2
theorem QsAt.same {n : Nat} {H H' : Hp} {R : PrLs} (s : Same H H') (h : QsAt n H R) : QsAt n H' R := fun r hr => let ⟨a, b, c, d, e⟩ := h r hr; ⟨s _ _ a, s _ _ b, c, s _ _ d, e⟩
theorem QsAt.put {n : Nat} {H : Hp} {R : PrLs} {D : Addr} {xs : List V} {o : HO} (e : H D = some (.lst xs)) (h : QsAt n H R) : QsAt n (upd H D o) R := fun r hr => by
  obtain ⟨a, b, c, d, f⟩ := h r hr
  unfold TrAt at *
  refine ⟨?_, ?_, c, ?_, f⟩
  · rw [upd_ne fun z => by rw [z, e] at a; cases a]; exact a
  · rw [upd_ne fun z => by rw [z, e] at b; cases b]; exact b
  · rw [upd_ne fun z => by rw [z, e] at d; cases d]; exact d
theorem QsAt.kb {n : Nat} {H H' : Hp} {R : PrLs} {p : Addr} {kv : List (Key × V)} (hp : H p = some (.dK kv)) (k : KB p H H') (h : QsAt n H R) : QsAt n H' R := fun r hr => by
  obtain ⟨a, b, c, d, f⟩ := h r hr
  unfold TrAt at b d
  exact ⟨k _ _ a fun z => (by rw [z, hp] at a; cases a), k _ _ b fun z => (by rw [z, hp] at b; cases b), c, k _ _ d fun z => (by rw [z, hp] at d; cases d), f⟩
def LK (k c : Nat) : List Nat := List.replicate k 73 ++ [c]
theorem LK_len (k c : Nat) : (LK k c).length = k + 1 := by simp [LK]
theorem LK_lts (k : Nat) {c : Nat} (h : isL c = true) : Lts8 (LK k c) := by
  intro d hd
  rcases List.mem_append.mp hd with q | q
  · rw [List.eq_of_mem_replicate q]
    exact isL_iff.mpr (.inl rfl)
  · rw [List.mem_singleton.mp q]
    exact h
theorem oft_fit {size : Nat} {L : List Nat} (h : L.length ≤ size) : Fit size (bv lx L, bv lz L, 0) := by
  have up : ∀ {x : Nat}, x < 2 ^ L.length → x < 2 ^ size := fun k => Nat.lt_of_lt_of_le k (Nat.pow_le_pow_right (by decide) h)
  exact ⟨up (bv_lt lx_lt L), up (bv_lt lz_lt L), by show 0 < 2; decide⟩
theorem e_Zc : ("Z" : Str) = ⟨#[90]⟩ := by decide +kernel
theorem e_Xc : ("X" : Str) = ⟨#[88]⟩ := by decide +kernel
theorem LK_txt (k c : Nat) : ((⟨(List.replicate k 73).toArray⟩ : Str) ++ (⟨#[c]⟩ : Str)) = mS (LK k c) := mS_app _ [c]
theorem LK_small (k : Nat) (h : k ≤ 25) (x : Str) (hx : x.length = 1) : ((⟨(List.replicate k 73).toArray⟩ : Str)).length + x.length ≤ sizeLine := by
  rw [hx]
  refine Nat.le_trans ?_ (by decide : 26 ≤ sizeLine)
  show (List.replicate k 73).toArray.size + 1 ≤ 26
  simp
  omega
theorem kb_lst {H H' : Hp} {p c x : Addr} {n : Nat} {xs : List V} (P : PenAt H p c n) (k : KB p H H') (e : H x = some (.lst xs)) : H' x = some (.lst xs) := by
  obtain ⟨ns, a, d, f, hp, _⟩ := P
  exact k _ _ e fun z => by rw [z, hp] at e; cases e
theorem kb_rs {H H' : Hp} {p c : Addr} {n m : Nat} {R : RLs} (P : PenAt H p c n) (k : KB p H H') (h : RsAt m H R) : RsAt m H' R := by
  obtain ⟨ns, a, d, f, hp, _⟩ := P
  exact h.kb hp k
theorem kb_qs {H H' : Hp} {p c : Addr} {n m : Nat} {R : PrLs} (P : PenAt H p c n) (k : KB p H H') (h : QsAt m H R) : QsAt m H' R := by
  obtain ⟨ns, a, d, f, hp, _⟩ := P
  exact h.kb hp k
theorem kb_gt {H H' : Hp} {p c gl : Addr} {n m : Nat} {R : GtLs} (P : PenAt H p c n) (k : KB p H H') (h : GtAt m gl H R) : GtAt m gl H' R := by
  obtain ⟨ns, a, d, f, hp, _⟩ := P
  intro g hg
  obtain ⟨e1, e2, r⟩ := h g hg
  exact ⟨k _ _ e1 fun z => (by rw [z, hp] at e1; cases e1), k _ _ e2 fun z => (by rw [z, hp] at e2; cases e2), r⟩
theorem code_kv (u v w x : V) : mergeK [] [((.inr "size" : Key), u), (.inr "rows", v), (.inr "gauge", w), (.inr "hidden", x)] = [((.inr "size" : Key), u), (.inr "rows", v), (.inr "gauge", w), (.inr "hidden", x)] := by
  have h1 : ¬ ("size" : Str) = "rows" := by decide +kernel
  have h2 : ¬ ("size" : Str) = "gauge" := by decide +kernel
  have h3 : ¬ ("size" : Str) = "hidden" := by decide +kernel
  have h4 : ¬ ("rows" : Str) = "gauge" := by decide +kernel
  have h5 : ¬ ("rows" : Str) = "hidden" := by decide +kernel
  have h6 : ¬ ("gauge" : Str) = "hidden" := by decide +kernel
  simp [mergeK, putK, h1, h2, h3, h4, h5, h6]
def bz (r : Addr × T3) : T2 := (r.2.1, r.2.2.1)
def bz2 (s : Addr × (Addr × T3) × (Addr × T3)) : T2 × T2 := (bz s.2.1, bz s.2.2)
def mk0 (i : Nat) : List T2 := (List.range i).map fun k => (0, 2 ^ k)
def pr0 (rank i : Nat) : List (T2 × T2) := (List.range i).map fun k => ((2 ^ (rank + k), 0), (0, 2 ^ (rank + k)))
def L2p (L : T2 → T2) (q : T2 × T2) : T2 × T2 := (L q.1, L q.2)
def MkB (R : RLs) (i : Nat) : Prop := R.length = i ∧ R.map bz = mk0 i
def PrB (S : PrLs) (rank i : Nat) : Prop := S.length = i ∧ S.map bz2 = pr0 rank i
theorem bv_LK {f : Nat → Nat} (h : f 73 = 0) (c : Nat) : ∀ i, bv f (LK i c) = f c * 2 ^ i
  | 0 => by
    show f c + 2 * 0 = _
    simp
  | i + 1 => by
    have := bv_LK h c i
    show f 73 + 2 * bv f (LK i c) = _
    rw [this, h, Nat.pow_succ, Nat.zero_add, Nat.mul_comm 2, Nat.mul_assoc]
theorem MkB.snoc {R : RLs} {i : Nat} (h : MkB R i) (t : Addr) : MkB (R ++ [(t, (bv lx (LK i 90), bv lz (LK i 90), 0))]) (i + 1) := by
  refine ⟨by rw [List.length_append, h.1]; rfl, ?_⟩
  unfold mk0
  rw [List.map_append, h.2, List.range_succ, List.map_append]
  show _ ++ [(bv lx (LK i 90), bv lz (LK i 90))] = _
  rw [bv_LK (by decide), bv_LK (by decide), show lx 90 = 0 by decide, show lz 90 = 1 by decide, Nat.zero_mul, Nat.one_mul]
  rfl
theorem PrB.snoc {S : PrLs} {rank i : Nat} (h : PrB S rank i) (r t u : Addr) : PrB (S ++ [(r, (t, (bv lx (LK (rank + i) 88), bv lz (LK (rank + i) 88), 0)), (u, (bv lx (LK (rank + i) 90), bv lz (LK (rank + i) 90), 0)))]) rank (i + 1) := by
  refine ⟨by rw [List.length_append, h.1]; rfl, ?_⟩
  unfold pr0
  rw [List.map_append, h.2, List.range_succ, List.map_append]
  show _ ++ [((bv lx (LK (rank + i) 88), bv lz (LK (rank + i) 88)), (bv lx (LK (rank + i) 90), bv lz (LK (rank + i) 90)))] = _
  rw [bv_LK (by decide), bv_LK (by decide), bv_LK (by decide), bv_LK (by decide), show lx 90 = 0 by decide, show lz 90 = 1 by decide, show lx 88 = 1 by decide, show lz 88 = 0 by decide, Nat.zero_mul, Nat.one_mul]
  rfl
/-- numbers with ascending top bits -/
def MsOk (ms : List Nat) (i : Nat) : Prop := ms.length = i ∧ ∀ (k m : Nat), ms[k]? = some m → 2 ^ k ≤ m ∧ m < 2 ^ (k + 1)
theorem MsOk.nil : MsOk [] 0 := ⟨rfl, fun k m h => by cases h⟩
theorem MsOk.snoc {ms : List Nat} {i m : Nat} (h : MsOk ms i) (h1 : 2 ^ i ≤ m) (h2 : m < 2 ^ (i + 1)) : MsOk (ms ++ [m]) (i + 1) := by
  refine ⟨by rw [List.length_append, h.1]; rfl, fun k x hx => ?_⟩
  by_cases hk : k < ms.length
  · rw [List.getElem?_append_left hk] at hx
    exact h.2 k x hx
  · have lk := (List.getElem?_eq_some_iff.mp hx).1
    rw [List.length_append, List.length_singleton] at lk
    have ek : k = ms.length := by omega
    rw [ek, List.getElem?_append_right (Nat.le_refl _), Nat.sub_self] at hx
    injection hx with hx
    rw [ek, h.1, ← hx]
    exact ⟨h1, h2⟩
theorem MsOk.lt {ms : List Nat} {i m : Nat} (h : MsOk ms i) (hm : m ∈ ms) : m < 2 ^ i := by
  obtain ⟨k, hk⟩ := List.getElem?_of_mem hm
  have := (List.getElem?_eq_some_iff.mp hk).1
  have := h.1
  exact Nat.lt_of_lt_of_le (h.2 k m hk).2 (Nat.pow_le_pow_right (by decide) (by omega))
theorem top_x {i m k : Nat} (h1 : 2 ^ i ≤ m) (h2 : m < 2 ^ (i + 1)) (hk : k < 2 ^ i) : 2 ^ i ≤ m ^^^ k ∧ m ^^^ k < 2 ^ (i + 1) := by
  have hd := Nat.div_add_mod m (2 ^ i)
  have h3 : m / 2 ^ i = 1 := by
    rw [Nat.pow_succ] at h2
    exact Nat.div_eq_of_lt_le (by omega) (by omega)
  rw [h3] at hd
  have hm : m = 2 ^ i * 1 + m % 2 ^ i := hd.symm
  have hr : m % 2 ^ i < 2 ^ i := Nat.mod_lt _ (Nat.two_pow_pos i)
  have hx : m % 2 ^ i ^^^ k < 2 ^ i := Nat.xor_lt_two_pow hr hk
  have e : m ^^^ k = 2 ^ i * 1 + (m % 2 ^ i ^^^ k) := by
    apply Nat.eq_of_testBit_eq
    intro j
    rw [Nat.testBit_xor]
    by_cases hj : j < i
    · rw [Nat.testBit_two_pow_mul_add _ hx, if_pos hj, Nat.testBit_xor, Nat.testBit_mod_two_pow, decide_eq_true hj, Bool.true_and]
    · rw [Nat.testBit_two_pow_mul_add _ hx, if_neg hj, Nat.testBit_lt_two_pow (Nat.lt_of_lt_of_le hk (Nat.pow_le_pow_right (by decide) (by omega))), Bool.xor_false]
      conv => lhs; rw [hm]
      rw [Nat.testBit_two_pow_mul_add _ hr, if_neg hj]
  rw [Nat.pow_succ, e]
  omega
theorem gate_pl {kd : Str} {ps : List Nat} {n : Nat} (hps : ∀ a ∈ ps, a < n) (h1 : 1 ≤ ps.length) (h : G1 kd ∨ (G2 kd ∧ 2 ≤ ps.length)) (nd : ps.Nodup) : ps.getD 0 0 < n ∧ ps.getD 1 0 < n ∧ PlOk kd (ps.getD 0 0) (ps.getD 1 0) := by
  match ps, h1 with
  | [a], _ =>
    have := hps a (List.mem_cons_self ..)
    refine ⟨this, by show 0 < n; omega, .inr ?_⟩
    rcases h with h | ⟨_, h⟩
    · rcases h with rfl | rfl | rfl | rfl <;> decide +kernel
    · simp at h
  | a :: b :: r, _ =>
    refine ⟨hps a (List.mem_cons_self ..), hps b (List.mem_cons_of_mem _ (List.mem_cons_self ..)), .inl ?_⟩
    show a ≠ b
    rw [List.nodup_cons] at nd
    intro z
    exact nd.1 (z ▸ List.mem_cons_self ..)
theorem cutV_from (xs : List V) (k : Nat) : cutV xs (some (k : Int)) none = xs.drop k := by
  unfold cutV
  rw [HT.sIx_none, HT.sIx_nat]
  by_cases h : k ≤ xs.length
  · rw [Nat.min_eq_left h, List.take_of_length_le (by rw [List.length_drop]; omega)]
  · rw [Nat.min_eq_right (by omega), Nat.sub_self, List.take_zero, List.drop_of_length_le (by omega)]
def flatQ (S : PrLs) : RLs := S.flatMap fun s => [s.2.1, s.2.2]
theorem flatQ_len (S : PrLs) : (flatQ S).length = 2 * S.length := by
  induction S with
  | nil => rfl
  | cons s S ih =>
    show ([s.2.1, s.2.2] ++ flatQ S).length = 2 * (S.length + 1)
    rw [List.length_append, ih]
    show 2 + 2 * S.length = _
    omega
theorem flatQ_app (S T : PrLs) : flatQ (S ++ T) = flatQ S ++ flatQ T := List.flatMap_append ..
theorem flatQ_mem {S : PrLs} {r : Addr × T3} (h : r ∈ flatQ S) : ∃ s ∈ S, r = s.2.1 ∨ r = s.2.2 := by
  obtain ⟨s, hs, hr⟩ := List.mem_flatMap.mp h
  rcases List.mem_cons.mp hr with e | e
  · exact ⟨s, hs, .inl e⟩
  · exact ⟨s, hs, .inr (List.mem_singleton.mp e)⟩
theorem QsAt.flat {n : Nat} {H : Hp} {S T : PrLs} (h : QsAt n H S) (sub : ∀ s ∈ T, s ∈ S) : RsAt n H (flatQ T) := fun r hr => by
  obtain ⟨s, hs, e⟩ := flatQ_mem hr
  obtain ⟨_, a, b, c, d⟩ := h s (sub s hs)
  rcases e with e | e
  · exact e ▸ ⟨a, b⟩
  · exact e ▸ ⟨c, d⟩
/-- rows and pairs of a drawn code -/
structure CodeL (size rank : Nat) (R : RLs) (S : PrLs) (L : T2 → T2) (ms : List Nat) : Prop where
  symp : Symp size L
  asc : MsOk ms rank
  rows : (R.map bz).Perm (ms.map fun m => L (0, m))
  pairs : S.map bz2 = (pr0 rank (size - rank)).map (L2p L)
def spCode (K : PySem.W.Frag) : Sp := fun vs H Q _ => ∃ (p c : Addr) (n size rank gd : Nat), vs = [.ref p, .int (size : Nat), .int (rank : Nat), .int (gd : Nat)] ∧ PenAt H p c n ∧ n + 5000 < 1000000 ∧ 1 ≤ size ∧ size ≤ 25 ∧ rank + gd ≤ size ∧
  ∀ H' d lr lg lh R S L ms n', KB p H H' → PenAt H' p c n' → n' ≤ n + 5000 → H d = none → H' d = some (.dK [(.inr "size", .int (size : Nat)), (.inr "rows", .ref lr), (.inr "gauge", .ref lg), (.inr "hidden", .ref lh)]) → H' lr = some (.lst (refR R)) → RsAt size H' R → R.length = rank → H' lg = some (.lst (refR (flatQ (S.take gd)))) → H' lh = some (.lst (refQ (S.drop gd))) → QsAt size H' S → CodeL size rank R S L ms → Q (.ref d) H'
section
variable {P : Program} {w : World} {K : PySem.W.Frag} {mg : Str → Option Value} {base : Heap}
theorem ok_code {f fD fP fS fT fG fM fO : Addr} {fd dD dP dS dT dG dM dO : FuncData} {k : Nat} (F : Fun K "_law_drawn_code" "_law_drawn_code" sCode f fd) (FD : Fun K "_law_draw" "_law_draw" sDraw fD dD) (bD : Binds K dD ["_law_pen_here", "_law_many"] []) (gD : mg "_law_draw" = some (.ref fD))
    (FP : Fun K "_law_pick" "_law_pick" sPick fP dP) (bP : Binds K dP ["_law_pen_here", "_law_some"] []) (gP : mg "_law_pick" = some (.ref fP)) (FS : Fun K "_law_shuffled" "_law_shuffled" sShuf fS dS) (bS : Binds K dS ["_law_pen_here", "_law_some"] []) (gS : mg "_law_shuffled" = some (.ref fS))
    (FT : Fun K "_law_of_text" "_law_of_text" sOfT fT dT) (bT : Binds K dT ["_law_text_here"] []) (gT : mg "_law_of_text" = some (.ref fT)) (FG : Fun K "_law_gate" "_law_gate" sGate fG dG) (bG : Binds K dG ["_law_string", "_law_kind", "_law_places"] []) (gG : mg "_law_gate" = some (.ref fG))
    (FM : Fun K "_law_product" "_law_product" sProd fM dM) (bM : Binds K dM ["_law_one", "_law_two"] []) (gM : mg "_law_product" = some (.ref fM)) (FO : Fun K "_law_ones" "_law_ones" sOnes fO dO) (bO : Binds K dO ["_law_number"] []) (gO : mg "_law_ones" = some (.ref fO)) (B : Bl mg) :
    FnOk P w K mg base CX0 (k + 3) f fd ["_law_pen_here", "_law_size", "_law_rank", "_law_gauged"] (spCode K) := by
  have GD : FnOk P w K mg base CX0 (k + 1) fD dD ["_law_pen_here", "_law_many"] spDraw := ok_draw FD B.int B.len
  have GP : FnOk P w K mg base CX0 (k + 2) fP dP ["_law_pen_here", "_law_some"] (spPick K) := ok_pick FP FD bD gD B.int B.len
  have GS : FnOk P w K mg base CX0 (k + 2) fS dS ["_law_pen_here", "_law_some"] (spShuf K) := ok_shuf FS FD bD gD B
  have GT : FnOk P w K mg base CX0 (k + 1) fT dT ["_law_text_here"] spOfT := ok_oft FT B
  have GG : FnOk P w K mg base CX0 (k + 1) fG dG ["_law_string", "_law_kind", "_law_places"] (spGate K) := ok_gate FG B
  have GM : FnOk P w K mg base CX0 (k + 2) fM dM ["_law_one", "_law_two"] spProd := ok_prod FM FO bO gO B
  refine F.ok scCode (fun vs H Q E h => ?_) (fun cdv A outer s H vs Q E hr h => ?_)
  · obtain ⟨p, c, n, size, rank, gd, rfl, _⟩ := h
    rfl
  · obtain ⟨p, c, n, size, rank, gd, rfl, hP, hn, z1, z25, hrg, q⟩ := h
    have hrk : rank ≤ size := by omega
    have r2 : Room (k + 2) _ := hr
    have r1 : Room (k + 1) _ := hr.mono (by omega)
    refine ⟨_, (C8.pss_cut (ps_setLc (i := 4) (own := [("_law_k", 16)]) (g := gName 16) (by rfl) scCode.nd rfl rfl (sw_true rfl rfl rfl (by decide +kernel)) (pi_range1 (by rfl) B.range (pa_cons (pv 2) pa_nil)) (blkOk_by (own := [("_law_k", 16)]) (N := ["_law_pen_here", "_law_size", "_law_rank", "_law_gauged", "_law_marks", "_law_pairs", "_law_gates", "_law_lap", "_law_string", "_law_x", "_law_z", "_law_rows", "_law_other", "_law_gauge", "_law_kind", "_law_places", "_law_k"]) (sc := defScope sCode) (by decide +kernel)) (fun _ _ _ _ _ => pg_name (i := 16) scCode.nd rfl (Or.inl rfl)) (fun _ _ _ _ _ => pts_nil) (fun _ _ _ _ _ => (pe_call GT r1 (by rfl) gT FT.kp bT .nil pass0 (pa_cons (pe_op op_add_str (pe_op op_mul_sign0 pe_str (pv 16)) pe_str) pa_nil))))
      (C8.pss_cut (ps_setLc (i := 5) (own := [("_law_k", 16)]) (g := gName 16) (by rfl) scCode.nd rfl rfl (sw_true rfl rfl rfl (by decide +kernel)) (pi_range2 (by rfl) B.range (pa_cons (pv 2) (pa_cons (pv 1) pa_nil))) (blkOk_by (own := [("_law_k", 16)]) (N := ["_law_pen_here", "_law_size", "_law_rank", "_law_gauged", "_law_marks", "_law_pairs", "_law_gates", "_law_lap", "_law_string", "_law_x", "_law_z", "_law_rows", "_law_other", "_law_gauge", "_law_kind", "_law_places", "_law_k"]) (sc := defScope sCode) (by decide +kernel)) (fun _ _ _ _ _ => pg_name (i := 16) scCode.nd rfl (Or.inl rfl)) (fun _ _ _ _ _ => pts_nil) (fun _ _ _ _ _ => (pe_tup (pa_cons (pe_call GT r1 (by rfl) gT FT.kp bT .nil pass0 (pa_cons (pe_op op_add_str (pe_op op_mul_sign0 pe_str (pv 16)) pe_str) pa_nil)) (pa_cons (pe_call GT r1 (by rfl) gT FT.kp bT .nil pass0 (pa_cons (pe_op op_add_str (pe_op op_mul_sign0 pe_str (pv 16)) pe_str) pa_nil)) pa_nil)))))
      (C8.pss_cut (ps_set (i := 6) scCode.nd rfl (.inl rfl) (pe_lst pa_nil))
      (C8.pss_cut (ps_for PassesOwn.never rfl (pi_range1 (by rfl) B.range (pa_cons (pe_op op_add pe_int (pe_call GD r1 (by rfl) gD FD.kp bD .nil pass0 (pa_cons (pv 0) (pa_cons (pe_op op_mul pe_int (pv 1)) pa_nil)))) pa_nil)) (pg_name (i := 7) scCode.nd rfl (.inl rfl)) (C8.pss_cut (ps_set (i := 14) scCode.nd rfl (.inr rfl) (pe_call GP r2 (by rfl) gP FP.kp bP .nil pass0 (pa_cons (pv 0) (pa_cons (pe_lst (pa_cons pe_str (pa_cons pe_str (pa_cons pe_str (pa_cons pe_str (pa_cons pe_str (pa_cons pe_str (pa_cons pe_str (pa_cons pe_str pa_nil))))))))) pa_nil)))) (C8.pss_cut (ps_set (i := 15) scCode.nd rfl (.inr rfl) (pe_slice sl_list (pe_call GS r2 (by rfl) gS FS.kp bS .nil pass0 (pa_cons (pv 0) (pa_cons (pe_listRg rfl (by rfl) B.list (prg_1 (by rfl) B.range (pv 1))) pa_nil))) po_none (po_some (pe_ifExp (pt_cmpR op_in_seq (pv 14) (pe_lst (pa_cons pe_str (pa_cons pe_str (pa_cons pe_str pa_nil)))) (by with_unfolding_all rfl)) pe_int pe_int)))) (pss_one (ps_if (PW.pt (pw_or (pt_cmpR op_gt (pe_callB call_len_seq (by rfl) B.len PySem.boot_len (pa_cons (pv 15) pa_nil)) pe_int (nomark _)) (pw_or1 (pt_cmpR op_notIn_seq (pv 14) (pe_lst (pa_cons pe_str (pa_cons pe_str (pa_cons pe_str pa_nil)))) (by with_unfolding_all rfl))))) (pss_one (ps_expr (pe_bm PySem.F.plainAttrs_list PySem.F.slot_list_append PySem.F.type_list_append mt_append (pv 6) (pa_cons (pe_tup (pa_cons (pv 14) (pa_cons (pv 15) pa_nil))) pa_nil)))) pss_nil)))))
      (C8.pss_cut (ps_for PassesOwn.never rfl (pi_list (pv 6)) (pg_tup rfl (pgs_cons (pg_name (i := 14) scCode.nd rfl (.inr rfl)) (pgs_cons (pg_name (i := 15) scCode.nd rfl (.inr rfl)) pgs_nil))) (C8.pss_cut (ps_setLc (i := 4) (own := [("_law_string", 8)]) (g := gName 8) (by rfl) scCode.nd rfl rfl (sw_true rfl rfl rfl (by decide +kernel)) (pi_list (pv 4)) (blkOk_by (own := [("_law_string", 8)]) (N := ["_law_pen_here", "_law_size", "_law_rank", "_law_gauged", "_law_marks", "_law_pairs", "_law_gates", "_law_lap", "_law_string", "_law_x", "_law_z", "_law_rows", "_law_other", "_law_gauge", "_law_kind", "_law_places", "_law_k"]) (sc := defScope sCode) (by decide +kernel)) (fun _ _ _ _ _ => pg_name (i := 8) scCode.nd rfl (Or.inl rfl)) (fun _ _ _ _ _ => pts_nil) (fun _ _ _ _ _ => (pe_call GG r1 (by rfl) gG FG.kp bG .nil pass0 (pa_cons (pv 8) (pa_cons (pv 14) (pa_cons (pv 15) pa_nil)))))) (pss_one (ps_setLc (i := 5) (own := [("_law_x", 9), ("_law_z", 10)]) (g := gTup K 2 (gCons (gName 9) (gCons (gName 10) gNil))) (by rfl) scCode.nd rfl rfl (sw_true rfl rfl rfl (by decide +kernel)) (pi_list (pv 5)) (blkOk_by (own := [("_law_x", 9), ("_law_z", 10)]) (N := ["_law_pen_here", "_law_size", "_law_rank", "_law_gauged", "_law_marks", "_law_pairs", "_law_gates", "_law_lap", "_law_string", "_law_x", "_law_z", "_law_rows", "_law_other", "_law_gauge", "_law_kind", "_law_places", "_law_k"]) (sc := defScope sCode) (by decide +kernel)) (fun _ _ _ _ _ => pg_tup rfl (pgs_cons (pg_name (i := 9) scCode.nd rfl (Or.inl rfl)) (pgs_cons (pg_name (i := 10) scCode.nd rfl (Or.inl rfl)) pgs_nil))) (fun _ _ _ _ _ => pts_nil) (fun _ _ _ _ _ => (pe_tup (pa_cons (pe_call GG r1 (by rfl) gG FG.kp bG .nil pass0 (pa_cons (pv 9) (pa_cons (pv 14) (pa_cons (pv 15) pa_nil)))) (pa_cons (pe_call GG r1 (by rfl) gG FG.kp bG .nil pass0 (pa_cons (pv 10) (pa_cons (pv 14) (pa_cons (pv 15) pa_nil)))) pa_nil))))))))
      (C8.pss_cut (ps_set (i := 11) scCode.nd rfl (.inl rfl) (pe_lst pa_nil))
      (C8.pss_cut (ps_for PassesOwn.never rfl (pi_list (pv 4)) (pg_name (i := 8) scCode.nd rfl (.inl rfl)) (C8.pss_cut (ps_for PassesOwn.never rfl (pi_list (pe_slice sl_list (pe_call GS r2 (by rfl) gS FS.kp bS .nil pass0 (pa_cons (pv 0) (pa_cons (pv 11) pa_nil))) po_none (po_some (pe_call GD r1 (by rfl) gD FD.kp bD .nil pass0 (pa_cons (pv 0) (pa_cons pe_int pa_nil)))))) (pg_name (i := 12) scCode.nd rfl (.inl rfl)) (pss_one (ps_set (i := 8) scCode.nd rfl (.inl rfl) (pe_call GM r2 (by rfl) gM FM.kp bM .nil pass0 (pa_cons (pv 8) (pa_cons (pv 12) pa_nil)))))) (pss_one (ps_expr (pe_bm PySem.F.plainAttrs_list PySem.F.slot_list_append PySem.F.type_list_append mt_append (pv 11) (pa_cons (pe_tup (pa_cons (pe_ix ix_tup (pv 8) pe_int (fun _ _ => rfl)) (pa_cons (pe_ix ix_tup (pv 8) pe_int (fun _ _ => rfl)) (pa_cons (pe_call GD r1 (by rfl) gD FD.kp bD .nil pass0 (pa_cons (pv 0) (pa_cons pe_int pa_nil))) pa_nil)))) pa_nil))))))
      (C8.pss_cut (ps_set (i := 13) scCode.nd rfl (.inl rfl) (pe_lst pa_nil))
      (C8.pss_cut (ps_for PassesOwn.never rfl (pi_list (pe_slice sl_list (pv 5) po_none (po_some (pv 3)))) (pg_tup rfl (pgs_cons (pg_name (i := 9) scCode.nd rfl (.inl rfl)) (pgs_cons (pg_name (i := 10) scCode.nd rfl (.inl rfl)) pgs_nil))) (pss_one (ps_set (i := 13) scCode.nd rfl (.inl rfl) (pe_op op_cat (pv 13) (pe_lst (pa_cons (pv 9) (pa_cons (pv 10) pa_nil)))))))
      (pss_one (ps_ret (pe_disp (pps_cons pe_str (pv 1) (pps_cons pe_str (pe_call GS r2 (by rfl) gS FS.kp bS .nil pass0 (pa_cons (pv 0) (pa_cons (pv 11) pa_nil))) (pps_cons pe_str (pv 13) (pps_cons pe_str (pe_slice sl_list (pv 5) (po_some (pv 3)) po_none) pps_nil)))) (by rfl) (by rfl) (fun z => by cases z) (by decide))))))))))))), ?_⟩
    obtain ⟨pp, pc0⟩ := hP.some
    refine ⟨fun σ' H' => ∃ (m : Addr) (R : RLs), σ' = [some (.ref p), some (.int (size : Nat)), some (.int (rank : Nat)), some (.int (gd : Nat)), some (.ref m), none, none, none, none, none, none, none, none, none, none, none, none] ∧ Same H H' ∧ H m = none ∧ H' m = some (.lst (refR R)) ∧ RsAt size H' R ∧ MkB R rank, ?_, ?_⟩
    · refine ⟨_, rfl, _, rfl, by omega, by omega, fun D nD => ?_⟩
      rw [Int.toNat_natCast]
      refine lc_range (lo := 0) (n := rank) (Pv := fun i Hc => Same H Hc ∧ ∃ R : RLs, Hc D = some (.lst (refR R)) ∧ RsAt size Hc R ∧ MkB R i) ⟨same_new nD, [], upd_same, fun r hr => (by cases hr), rfl, rfl⟩ ?_ ?_
      · rintro i Hc hi ⟨sc, R, eD, hR, lR⟩
        refine ⟨rfl, _, rfl, 73, i, by rw [e_I], by show V.int (0 + (i : Nat)) = _; rw [Int.zero_add], by omega, _, _, rfl, rfl, LK_small i (by omega) _ (by decide +kernel), LK i 90, by rw [e_Zc, LK_txt]; rfl, LK_lts i (isL_iff.mpr (by omega)), by rw [LK_len]; omega, fun H' t s' nt et => ?_⟩
        have eD' := s' _ _ eD
        refine ⟨refR R, eD', ?_, same_put0 (sc.trans s') nD, R ++ [(t, (bv lx (LK i 90), bv lz (LK i 90), 0))], ?_, RsAt.put eD' fun r hr' => ?_, ?_⟩
        · rw [refR_len]
          have := lR.1
          exact Nat.lt_of_le_of_lt (by omega : _ ≤ 100) (by decide)
        · rw [upd_same]
          unfold refR
          rw [List.map_append]
          rfl
        · rcases List.mem_append.mp hr' with k' | k'
          · exact hR.same s' r k'
          · rw [List.mem_singleton.mp k']
            exact ⟨et, oft_fit (by rw [LK_len]; omega)⟩
        · exact lR.snoc t
      · rintro Hc ⟨sc, R, eD, hR, lR⟩
        exact ⟨D, R, rfl, sc, nD, eD, hR, lR⟩
    rintro _ H1 ⟨m, R, rfl, s1, nm, em, hR, lR⟩
    refine ⟨fun σ' H' => ∃ (q : Addr) (S : PrLs), σ' = [some (.ref p), some (.int (size : Nat)), some (.int (rank : Nat)), some (.int (gd : Nat)), some (.ref m), some (.ref q), none, none, none, none, none, none, none, none, none, none, none] ∧ Same H1 H' ∧ H1 q = none ∧ H' q = some (.lst (refQ S)) ∧ QsAt size H' S ∧ PrB S rank (size - rank), ?_, ?_⟩
    · refine ⟨_, rfl, _, rfl, _, _, rfl, ⟨by omega, by omega, by omega, by omega⟩, fun D nD => ?_⟩
      refine lc_range (lo := (rank : Int)) (n := ((size : Int) - (rank : Int)).toNat) (Pv := fun i Hc => Same H1 Hc ∧ ∃ S : PrLs, Hc D = some (.lst (refQ S)) ∧ QsAt size Hc S ∧ PrB S rank i) ⟨same_new nD, [], upd_same, fun r hr => (by cases hr), rfl, rfl⟩ ?_ ?_
      · rintro i Hc hi ⟨sc, S, eD, hS, lS⟩
        have ei : V.int ((rank : Int) + (i : Nat)) = V.int ((rank + i : Nat) : Int) := by push_cast; rfl
        refine ⟨rfl, _, rfl, 73, rank + i, by rw [e_I], ei, by omega, _, _, rfl, rfl, LK_small (rank + i) (by omega) _ (by decide +kernel), LK (rank + i) 88, by rw [e_Xc, LK_txt]; rfl, LK_lts _ (isL_iff.mpr (by omega)), by rw [LK_len]; omega, fun H2 t2 s2 n2 e2 => ?_⟩
        refine ⟨_, rfl, 73, rank + i, by rw [e_I], ei, by omega, _, _, rfl, rfl, LK_small (rank + i) (by omega) _ (by decide +kernel), LK (rank + i) 90, by rw [e_Zc, LK_txt]; rfl, LK_lts _ (isL_iff.mpr (by omega)), by rw [LK_len]; omega, fun H3 t3 s3 n3 e3 => ?_⟩
        refine ⟨by show 2 ≤ sizeLine; decide, fun r nr => ?_⟩
        have n4 : Same H3 (upd H3 r (.tup [.ref t2, .ref t3])) := same_new nr
        have sr := (s2.trans s3).trans n4
        have eD' := sr _ _ eD
        have f : Fit size (bv lx (LK (rank + i) 88), bv lz (LK (rank + i) 88), 0) := oft_fit (by rw [LK_len]; omega)
        have g : Fit size (bv lx (LK (rank + i) 90), bv lz (LK (rank + i) 90), 0) := oft_fit (by rw [LK_len]; omega)
        refine ⟨refQ S, eD', ?_, same_put0 (sc.trans sr) nD, S ++ [(r, (t2, (bv lx (LK (rank + i) 88), bv lz (LK (rank + i) 88), 0)), (t3, (bv lx (LK (rank + i) 90), bv lz (LK (rank + i) 90), 0)))], ?_, QsAt.put eD' fun r' hr' => ?_, ?_⟩
        · rw [refQ_len]
          have := lS.1
          exact Nat.lt_of_le_of_lt (by omega : _ ≤ 100) (by decide)
        · rw [upd_same]
          unfold refQ
          rw [List.map_append]
          rfl
        · rcases List.mem_append.mp hr' with k' | k'
          · exact hS.same sr r' k'
          · rw [List.mem_singleton.mp k']
            exact ⟨upd_same, n4 _ _ (s3 _ _ e2), f, n4 _ _ e3, g⟩
        · exact lS.snoc r t2 t3
      · rintro Hc ⟨sc, S, eD, hS, lS⟩
        exact ⟨D, S, rfl, sc, nD, eD, hS, by rw [show size - rank = ((size : Int) - (rank : Int)).toNat by omega]; exact lS⟩
    rintro _ H2 ⟨qa, S, rfl, s2, nq, eq, hS, lS⟩
    have em2 := s2 _ _ em
    have hR2 := hR.same s2
    have s12 := s1.trans s2
    refine ⟨fun σ' H' => ∃ (g : Addr), σ' = [some (.ref p), some (.int (size : Nat)), some (.int (rank : Nat)), some (.int (gd : Nat)), some (.ref m), some (.ref qa), some (.ref g), none, none, none, none, none, none, none, none, none, none] ∧ Same H2 H' ∧ H2 g = none ∧ H' g = some (.lst []), ⟨by show 0 ≤ sizeLine; decide, fun g ng => ⟨g, rfl, same_new ng, ng, upd_same⟩⟩, ?_⟩
    rintro _ H3 ⟨g, rfl, s3, ng, eg⟩
    have s13 := s12.trans s3
    have em3 := s3 _ _ em2
    have hR3 := hR2.same s3
    have eq3 := s3 _ _ eq
    have hS3 := hS.same s3
    have P3 : PenAt H3 p c n := hP.ext s13
    have ng1 : H g = none := off_same s12 ng
    refine ⟨fun σ' H' => ∃ (v7 v14 v15 : Option V) (G : GtLs) (n' : Nat), σ' = [some (.ref p), some (.int (size : Nat)), some (.int (rank : Nat)), some (.int (gd : Nat)), some (.ref m), some (.ref qa), some (.ref g), v7, none, none, none, none, none, none, v14, v15, none] ∧ KB p H H' ∧ PenAt H' p c n' ∧ n' ≤ n + 4000 ∧ H' g = some (.lst (refG G)) ∧ GtAt size g H' G ∧ H' m = some (.lst (refR R)) ∧ RsAt size H' R ∧ H' qa = some (.lst (refQ S)) ∧ QsAt size H' S ∧ G.length ≤ 200, ?_, ?_⟩
    · have sz5 : (5 : Int) * (size : Int) = ((5 * size : Nat) : Int) := by push_cast; rfl
      refine ⟨_, rfl, _, rfl, _, _, rfl, rfl, .inl ⟨by decide, by decide⟩, p, c, n, 5 * (size : Int), rfl, P3, by omega, by omega, ?_, fun r0 H4 hr0 hr1 hP4 k4 => ?_⟩
      · have : (5 * (size : Int)).natAbs ≤ 125 := by omega
        exact Nat.lt_of_le_of_lt this (by decide)
      have kb4 : KB p H H4 := (KB.of s13).trans (KB.eq k4)
      have kk : KB p H3 H4 := KB.eq k4
      obtain ⟨j, hj⟩ : ∃ j : Nat, 2 + r0 = (j : Int) := ⟨(2 + r0).toNat, by omega⟩
      have hj' : j ≤ 126 := by omega
      refine ⟨_, _, rfl, rfl, 2 + r0, rfl, by omega, by omega, ?_⟩
      rw [hj, Int.toNat_natCast]
      refine for_range (lo := 0) (n := j) (fun i σ' H' => ∃ (v7 v14 v15 : Option V) (G : GtLs), σ' = [some (.ref p), some (.int (size : Nat)), some (.int (rank : Nat)), some (.int (gd : Nat)), some (.ref m), some (.ref qa), some (.ref g), v7, none, none, none, none, none, none, v14, v15, none] ∧ KB p H H' ∧ PenAt H' p c (n + 1 + (size + 1) * i) ∧ H' g = some (.lst (refG G)) ∧ GtAt size g H' G ∧ H' m = some (.lst (refR R)) ∧ RsAt size H' R ∧ H' qa = some (.lst (refQ S)) ∧ QsAt size H' S ∧ G.length ≤ i)
        ⟨none, none, none, [], rfl, kb4, hP4, kb_lst P3 kk eg, (fun _ h => by cases h), kb_lst P3 kk em3, kb_rs P3 kk hR3, kb_lst P3 kk eq3, kb_qs P3 kk hS3, Nat.le_refl _⟩ ?_ ?_
      rotate_left
      · rintro _ H6 ⟨v7, v14, v15, G, rfl, kb6, P6, eg6, hG6, em6, hR6, eq6, hS6, lG⟩
        have : (size + 1) * j ≤ 26 * 126 := Nat.mul_le_mul (by omega) hj'
        exact ⟨v7, v14, v15, G, _, rfl, kb6, P6, by omega, eg6, hG6, em6, hR6, eq6, hS6, by omega⟩
      rintro i _ H6 hi ⟨v7, v14, v15, G, rfl, kb6, P6, eg6, hG6, em6, hR6, eq6, hS6, lG⟩
      have hsi : (size + 1) * i ≤ 26 * 126 := Nat.mul_le_mul (by omega) (by omega)
      refine ⟨fun σ' H' => ∃ kd : Str, σ' = [some (.ref p), some (.int (size : Nat)), some (.int (rank : Nat)), some (.int (gd : Nat)), some (.ref m), some (.ref qa), some (.ref g), some (.int (0 + (i : Nat))), none, none, none, none, none, none, some (.str kd), v15, none] ∧ KB p H6 H' ∧ PenAt H' p c (n + 1 + (size + 1) * i + 1) ∧ (G1 kd ∨ G2 kd), ?_, ?_⟩
      · refine ⟨_, rfl, by show 8 ≤ sizeLine; decide, fun r nr => ⟨p, c, r, _, _, rfl, P6.ext (same_new nr), by omega, .inl (SqL.of upd_same), by simp, by show 8 ≤ 1000; decide, fun j v H7 hj hP7 k7 => ?_⟩⟩
        have kb : KB p H6 H7 := (KB.of (same_new nr)).trans (KB.eq k7)
        have := List.mem_of_getElem? hj
        simp only [List.mem_cons, List.mem_nil_iff, or_false] at this
        rcases this with rfl | rfl | rfl | rfl | rfl | rfl | rfl | rfl
        · exact ⟨_, rfl, kb, hP7, .inl (.inl rfl)⟩
        · exact ⟨_, rfl, kb, hP7, .inl (.inr (.inl rfl))⟩
        · exact ⟨_, rfl, kb, hP7, .inr (.inl rfl)⟩
        · exact ⟨_, rfl, kb, hP7, .inr (.inl rfl)⟩
        · exact ⟨_, rfl, kb, hP7, .inr (.inr (.inl rfl))⟩
        · exact ⟨_, rfl, kb, hP7, .inr (.inr (.inr rfl))⟩
        · exact ⟨_, rfl, kb, hP7, .inl (.inr (.inr (.inl rfl)))⟩
        · exact ⟨_, rfl, kb, hP7, .inl (.inr (.inr (.inr rfl)))⟩
      rintro _ H7 ⟨kd, rfl, kb7, P7, hkd⟩
      have eg7 := kb_lst P6 kb7 eg6
      have hG7 := kb_gt P6 kb7 hG6
      have in2 : inV (V.str kd) [V.str "cx", V.str "cz", V.str "swap"] = decide (G2 kd) := by
        rcases hkd with (rfl | rfl | rfl | rfl) | (rfl | rfl | rfl)
        · rw [decide_eq_false (by unfold G2; decide +kernel)]; decide +kernel
        · rw [decide_eq_false (by unfold G2; decide +kernel)]; decide +kernel
        · rw [decide_eq_false (by unfold G2; decide +kernel)]; decide +kernel
        · rw [decide_eq_false (by unfold G2; decide +kernel)]; decide +kernel
        · rw [decide_eq_true (by unfold G2; decide +kernel)]; decide +kernel
        · rw [decide_eq_true (by unfold G2; decide +kernel)]; decide +kernel
        · rw [decide_eq_true (by unfold G2; decide +kernel)]; decide +kernel
      refine ⟨fun σ' H' => ∃ (pl : Addr) (ps : List Nat), σ' = [some (.ref p), some (.int (size : Nat)), some (.int (rank : Nat)), some (.int (gd : Nat)), some (.ref m), some (.ref qa), some (.ref g), some (.int (0 + (i : Nat))), none, none, none, none, none, none, some (.str kd), some (.ref pl), none] ∧ KB p H7 H' ∧ PenAt H' p c (n + 1 + (size + 1) * (i + 1)) ∧ H' pl = some (.lst (natV ps)) ∧ pl ≠ g ∧ (∀ a ∈ ps, a < size) ∧ 1 ≤ ps.length ∧ ps.length ≤ 2 ∧ ps.Nodup, ?_, ?_⟩
      · refine ⟨_, rfl, _, rfl, _, rfl, ?_, fun q0 nq0 => ?_⟩
        · exact ⟨by decide, by decide, by omega, by omega, by omega⟩
        have eV : rgV 0 (size : Int) = natV (List.range size) := by
          unfold rgV natV
          rw [show ((size : Int) - 0).toNat = size by omega]
          refine List.map_congr_left fun j _ => ?_
          show V.int (0 + (j : Int)) = _
          rw [Int.zero_add]
        rw [eV]
        refine ⟨p, c, q0, _, _, rfl, P7.ext (same_new nq0), by omega, SqL.of upd_same, by rw [natV_len, List.length_range]; omega, fun H8 r ys pm hl hm hP8 k8 nr er => ?_⟩
        rw [natV_len, List.length_range] at hl hP8
        have kb8 : KB p H7 H8 := (KB.of (same_new nq0)).trans k8
        have nr7 : H7 r = none := off_same (same_new nq0) nr
        obtain ⟨us, rfl⟩ : ∃ us : List Nat, ys = natV us := by
          refine ⟨ys.map fun v => match v with | .int i => i.toNat | _ => 0, ?_⟩
          unfold natV
          rw [List.map_map]
          refine (List.map_id ys).symm.trans (List.map_congr_left fun y hy => ?_)
          obtain ⟨j, _, rfl⟩ := List.mem_map.mp (hm y hy)
          rfl
        have lus : us.length = size := by rw [← hl, natV_len]
        have hus : ∀ a ∈ us, a < size := fun a ha => by
          have := hm (.int (a : Nat)) (List.mem_map.mpr ⟨a, ha, rfl⟩)
          obtain ⟨j, hj, e⟩ := List.mem_map.mp this
          have := V.int.inj e
          have := List.mem_range.mp hj
          omega
        have ndu : us.Nodup := by
          have h1 : (natV (List.range size)).Nodup := List.pairwise_map.mpr (List.nodup_range.imp fun {a b} h z => h (by have := V.int.inj z; omega))
          have h2 := (pm.nodup_iff).mpr h1
          exact (List.pairwise_map.mp h2).imp fun {a b} h z => h (by rw [z])
        have ePen : n + 1 + (size + 1) * (i + 1) = n + 1 + (size + 1) * i + 1 + size := by rw [Nat.mul_succ]; omega
        have take2 : ∀ (t : Nat) (H9 : Hp) (r2 : Addr), 1 ≤ t → t ≤ 2 → Same H8 H9 → H9 r2 = none → KB p H7 (upd H9 r2 (.lst (natV (us.take t)))) ∧ PenAt (upd H9 r2 (.lst (natV (us.take t)))) p c (n + 1 + (size + 1) * (i + 1)) ∧ r2 ≠ g ∧ (∀ a ∈ us.take t, a < size) ∧ 1 ≤ (us.take t).length ∧ (us.take t).length ≤ 2 ∧ (us.take t).Nodup := by
          intro t H9 r2 t1 t2 s9 nr2
          refine ⟨(kb8.sm s9).sm (same_new nr2), ?_, ?_, fun a ha => hus a (List.mem_of_mem_take ha), by rw [List.length_take]; omega, by rw [List.length_take]; omega, ndu.sublist (List.take_sublist t us)⟩
          · rw [ePen]
            exact (hP8.ext s9).ext (same_new nr2)
          · exact fun z => by
              have e := s9 _ _ (kb_lst P7 kb8 eg7)
              rw [z, e] at nr2
              cases nr2
        have cut : ∀ t : Nat, cutV (natV us) none (some (t : Int)) = natV (us.take t) := fun t => by
          rw [cutV_to]
          unfold natV
          rw [List.map_take]
        by_cases g2 : G2 kd
        · refine ⟨_, rfl, by show 3 ≤ sizeLine; decide, fun l nl => ⟨l, _, rfl, .inl (SqL.of upd_same), rfl, rfl, true, (by show V.bl (inV (V.str kd) [V.str "cx", V.str "cz", V.str "swap"]) = _; rw [in2, decide_eq_true g2]), iteT ⟨2, rfl, r, _, rfl, SqL.of ((same_new nl) _ _ er), fun r2 nr2 => ?_⟩⟩⟩
          obtain ⟨a1, a2, a3, a4, a5, a6⟩ := take2 2 _ r2 (by omega) (by omega) (same_new nl) nr2
          rw [show (some (2 : Int)) = some ((2 : Nat) : Int) from rfl, cut]
          exact ⟨r2, us.take 2, rfl, a1, a2, upd_same, a3, a4, a5, a6⟩
        · refine ⟨_, rfl, by show 3 ≤ sizeLine; decide, fun l nl => ⟨l, _, rfl, .inl (SqL.of upd_same), rfl, rfl, false, (by show V.bl (inV (V.str kd) [V.str "cx", V.str "cz", V.str "swap"]) = _; rw [in2, decide_eq_false g2]), iteF ⟨1, rfl, r, _, rfl, SqL.of ((same_new nl) _ _ er), fun r2 nr2 => ?_⟩⟩⟩
          obtain ⟨a1, a2, a3, a4, a5, a6⟩ := take2 1 _ r2 (by omega) (by omega) (same_new nl) nr2
          rw [show (some (1 : Int)) = some ((1 : Nat) : Int) from rfl, cut]
          exact ⟨r2, us.take 1, rfl, a1, a2, upd_same, a3, a4, a5, a6⟩
      rintro _ H8 ⟨pl, ps, rfl, kb8, P8, epl, plg, hps, lp1, lp2, ndp⟩
      have kb68 := kb7.trans kb8
      have eg8 := kb_lst P6 kb68 eg6
      have hG8 := kb_gt P6 kb68 hG6
      have em8 := kb_lst P6 kb68 em6
      have hR8 := kb_rs P6 kb68 hR6
      have eq8 := kb_lst P6 kb68 eq6
      have hS8 := kb_qs P6 kb68 hS6
      have kbH8 := kb6.trans kb68
      have hpk : ∃ kv, H8 p = some (.dK kv) := let ⟨ns, a, d, f, hp, _⟩ := P8; ⟨_, hp⟩
      have fin : ∀ H9, Same H8 H9 → (G1 kd ∨ (G2 kd ∧ 2 ≤ ps.length)) → ∀ r, H9 r = none → KB p H (upd (upd H9 r (.tup [.str kd, .ref pl])) g (.lst (refG G ++ [.ref r]))) ∧ PenAt (upd (upd H9 r (.tup [.str kd, .ref pl])) g (.lst (refG G ++ [.ref r]))) p c (n + 1 + (size + 1) * (i + 1)) ∧ GtAt size g (upd (upd H9 r (.tup [.str kd, .ref pl])) g (.lst (refG G ++ [.ref r]))) (G ++ [(r, kd, pl, ps)]) := by
        intro H9 s9 cond r nr
        have n1 : Same H9 (upd H9 r (.tup [.str kd, .ref pl])) := same_new nr
        have s8r := s9.trans n1
        have egr := s8r _ _ eg8
        have gp : g ≠ p := fun z => by
          obtain ⟨kv, hp⟩ := hpk
          rw [z, hp] at eg8
          cases eg8
        have gc : g ≠ c := fun z => by
          obtain ⟨ns, a, d, f, hp, hc, _⟩ := hP
          rw [z] at ng1
          rw [hc] at ng1
          cases ng1
        refine ⟨?_, ?_, ?_⟩
        · exact (kbH8.sm s8r).up ng1
        · exact PenAt.same (P8.ext s8r) (upd_ne gp.symm) (upd_ne gc.symm)
        · intro x hx
          have tupne : ∀ {y : Addr} {xs : List V}, (upd H9 r (.tup [.str kd, .ref pl])) y = some (.tup xs) → y ≠ g := fun {y xs} e z => by
            rw [z, egr] at e
            cases e
          rcases List.mem_append.mp hx with h | h
          · obtain ⟨e1, e2, e3, e4⟩ := hG8 x h
            have e1' := s8r _ _ e1
            exact ⟨by rw [upd_ne (tupne e1')]; exact e1', by rw [upd_ne e3]; exact s8r _ _ e2, e3, e4⟩
          · rw [List.mem_singleton.mp h]
            have e1' : (upd H9 r (.tup [.str kd, .ref pl])) r = some (.tup [.str kd, .ref pl]) := upd_same
            exact ⟨by rw [upd_ne (tupne e1')]; exact e1', by rw [upd_ne plg]; exact s8r _ _ epl, plg, hps, lp1, cond, ndp⟩
      have nog : ∀ {H9 : Hp} {r : Addr} {xs : List V} (x : Addr), Same H8 H9 → H9 r = none → H8 x = some (.lst xs) → x ≠ g → (upd (upd H9 r (.tup [.str kd, .ref pl])) g (.lst (refG G ++ [.ref r]))) x = some (.lst xs) := fun {H9 r xs} x s9 nr e ne => by
        rw [upd_ne ne, upd_ne (ne_of_none (s9 _ _ e) nr)]
        exact s9 _ _ e
      have mg : m ≠ g := fun z => by rw [z] at em2; rw [em2] at ng; cases ng
      have qg : qa ≠ g := fun z => by rw [z] at eq; rw [eq] at ng; cases ng
      have lG100 : (refG G).length < sizeLine := by
        rw [refG_len]
        exact Nat.lt_of_le_of_lt (by omega : _ ≤ 200) (by decide)
      refine ⟨_, rfl, pl, _, rfl, .inl (SqL.of epl), _, _, rfl, rfl, _, rfl, ite2 (fun z => ?_) (fun z => ?_)⟩
      · have l2 : 2 ≤ ps.length := by
          have := of_decide_eq_true z
          rw [natV_len] at this
          omega
        have cond : G1 kd ∨ (G2 kd ∧ 2 ≤ ps.length) := hkd.elim .inl fun h => .inr ⟨h, l2⟩
        refine ⟨_, rfl, .inl ⟨rfl, _, SqL.of eg8⟩, _, rfl, _, rfl, by show 2 ≤ sizeLine; decide, fun r nr => ⟨g, _, _, rfl, rfl, (upd_ne (ne_of_none eg8 nr)).trans eg8, lG100, ?_⟩⟩
        obtain ⟨a1, a2, a3⟩ := fin H8 (fun _ _ e => e) cond r nr
        refine ⟨_, _, _, G ++ [(r, kd, pl, ps)], rfl, a1, a2, ?_, a3, nog m (fun _ _ e => e) nr em8 mg, RsAt.put ((same_new nr) _ _ eg8) (hR8.same (same_new nr)), nog qa (fun _ _ e => e) nr eq8 qg, QsAt.put ((same_new nr) _ _ eg8) (hS8.same (same_new nr)), ?_⟩
        · rw [upd_same]
          unfold refG
          rw [List.map_append]
          rfl
        · rw [List.length_append, List.length_singleton]
          omega
      · refine ⟨_, rfl, by show 3 ≤ sizeLine; decide, fun l nl => ⟨l, _, rfl, .inl (SqL.of upd_same), rfl, rfl, !decide (G2 kd), (by show V.bl (!inV (V.str kd) [V.str "cx", V.str "cz", V.str "swap"]) = _; rw [in2]), ?_⟩⟩
        have sl := same_new (o := .lst [V.str "cx", V.str "cz", V.str "swap"]) nl
        generalize upd H8 l (.lst [V.str "cx", V.str "cz", V.str "swap"]) = H9 at sl ⊢
        have eg9 := sl _ _ eg8
        by_cases g2 : G2 kd
        · rw [decide_eq_true g2]
          exact iteF ⟨_, _, _, G, rfl, kbH8.sm sl, P8.ext sl, eg9, (fun x hx => let ⟨e1, e2, e3⟩ := hG8 x hx; ⟨sl _ _ e1, sl _ _ e2, e3⟩), sl _ _ em8, hR8.same sl, sl _ _ eq8, hS8.same sl, by omega⟩
        · rw [decide_eq_false g2]
          have cond : G1 kd ∨ (G2 kd ∧ 2 ≤ ps.length) := hkd.elim .inl fun h => absurd h g2
          refine iteT ⟨_, rfl, .inl ⟨rfl, _, SqL.of eg9⟩, _, rfl, _, rfl, by show 2 ≤ sizeLine; decide, fun r nr => ⟨g, _, _, rfl, rfl, (upd_ne (ne_of_none eg9 nr)).trans eg9, lG100, ?_⟩⟩
          obtain ⟨a1, a2, a3⟩ := fin H9 sl cond r nr
          refine ⟨_, _, _, G ++ [(r, kd, pl, ps)], rfl, a1, a2, ?_, a3, nog m sl nr em8 mg, RsAt.put ((same_new nr) _ _ eg9) ((hR8.same sl).same (same_new nr)), nog qa sl nr eq8 qg, QsAt.put ((same_new nr) _ _ eg9) ((hS8.same sl).same (same_new nr)), ?_⟩
          · rw [upd_same]
            unfold refG
            rw [List.map_append]
            rfl
          · rw [List.length_append, List.length_singleton]
            omega
    rintro _ H4 ⟨v7, v14, v15, G, n4, rfl, k4, P4, ln4, eg4, hG, em4, hR4, eq4, hS4, lG⟩
    refine ⟨fun σ' H' => ∃ (v7 v8 v9 v10 v14 v15 : Option V) (m' qa' : Addr) (R' : RLs) (S' : PrLs), σ' = [some (.ref p), some (.int (size : Nat)), some (.int (rank : Nat)), some (.int (gd : Nat)), some (.ref m'), some (.ref qa'), some (.ref g), v7, v8, v9, v10, none, none, none, v14, v15, none] ∧ Same H4 H' ∧ H' m' = some (.lst (refR R')) ∧ RsAt size H' R' ∧ R'.length = rank ∧ H' qa' = some (.lst (refQ S')) ∧ QsAt size H' S' ∧ S'.length ≤ 25 ∧ ∃ L, Symp size L ∧ R'.map bz = (mk0 rank).map L ∧ S'.map bz2 = (pr0 rank (size - rank)).map (L2p L), ?_, ?_⟩
    · refine ⟨_, rfl, g, rfl, ⟨_, SqL.of eg4⟩, for_list (K := K) (a := g) (xs := refG G) (fun i σ' H' => ∃ (v7 v8 v9 v10 v14 v15 : Option V) (m' qa' : Addr) (R' : RLs) (S' : PrLs), σ' = [some (.ref p), some (.int (size : Nat)), some (.int (rank : Nat)), some (.int (gd : Nat)), some (.ref m'), some (.ref qa'), some (.ref g), v7, v8, v9, v10, none, none, none, v14, v15, none] ∧ Same H4 H' ∧ H' m' = some (.lst (refR R')) ∧ RsAt size H' R' ∧ R'.length = rank ∧ H' qa' = some (.lst (refQ S')) ∧ QsAt size H' S' ∧ S'.length ≤ 25 ∧ ∃ L, Symp size L ∧ R'.map bz = (mk0 rank).map L ∧ S'.map bz2 = (pr0 rank (size - rank)).map (L2p L))
        ⟨v7, none, none, none, v14, v15, m, qa, R, S, rfl, fun _ _ e => e, em4, hR4, lR.1, eq4, hS4, by have := lS.1; omega, fun u => u, Symp.id size, by rw [lR.2, List.map_id'], by rw [lS.2]; exact (List.map_id _).symm⟩ (fun i σ' H' _ ⟨_, _, _, _, _, _, _, _, _, _, _, s', _⟩ => SqL.of (s' _ _ eg4)) ?_ ?_⟩
      rotate_left
      · rintro σ' H' h
        exact h
      rintro i y σ' H5 hi ⟨v7, v8, v9, v10, v14, v15, m', qa', R', S', rfl, s5, em5, hR5, lR5, eq5, hS5, lS5, L, sL, eL1, eL2⟩
      obtain ⟨gt, hgt, rfl⟩ := refG_at hi
      obtain ⟨e1, e2, e3, e4, e5, e6, e7⟩ := hG gt (List.mem_of_getElem? hgt)
      have e1' := s5 _ _ e1
      have e2' := s5 _ _ e2
      obtain ⟨ga, kd, pl, ps⟩ := gt
      refine ⟨ga, _, rfl, .inl (.inl e1'), rfl, _, _, rfl, _, _, rfl, rfl, ?_⟩
      refine ⟨fun σ' H' => ∃ (v8 v9 v10 : Option V) (m2 : Addr) (R2 : RLs), σ' = [some (.ref p), some (.int (size : Nat)), some (.int (rank : Nat)), some (.int (gd : Nat)), some (.ref m2), some (.ref qa'), some (.ref g), v7, v8, v9, v10, none, none, none, some (.str kd), some (.ref pl), none] ∧ Same H5 H' ∧ H' m2 = some (.lst (refR R2)) ∧ RsAt size H' R2 ∧ R2.length = rank ∧ R2.map bz = (R'.map bz).map (gB kd (ps.getD 0 0) (ps.getD 1 0)), ?_, ?_⟩
      · refine ⟨_, rfl, m', rfl, ⟨_, SqL.of em5⟩, fun D nD => ?_⟩
        refine lc_list (K := K) (a := m') (xs := refR R') (Pv := fun j Hc => Same H5 Hc ∧ ∃ N : RLs, Hc D = some (.lst (refR N)) ∧ RsAt size Hc N ∧ N.length = j ∧ N.map bz = ((R'.take j).map bz).map (gB kd (ps.getD 0 0) (ps.getD 1 0))) ⟨same_new nD, [], upd_same, fun r hr => (by cases hr), rfl, rfl⟩ (fun j Hc _ ⟨sc, _⟩ => SqL.of (sc _ _ em5)) ?_ ?_
        · rintro j y Hc hj ⟨sc, N, eD, hN, lN, bN⟩
          obtain ⟨r, hr', rfl⟩ := refR_at hj
          obtain ⟨et, ft⟩ := hR5.same sc r (List.mem_of_getElem? hr')
          have jl := (List.getElem?_eq_some_iff.mp hr').1
          refine ⟨rfl, _, rfl, _, rfl, _, rfl, r.1, pl, kd, size, r.2, ps, rfl, et, ft, by omega, SqL.of (sc _ _ e2'), e4, e5, e6, fun H' x u s' nx ex' fx gu => ?_⟩
          have eD' := s' _ _ eD
          refine ⟨refR N, eD', ?_, same_put0 (sc.trans s') nD, N ++ [(x, u)], ?_, RsAt.put eD' fun r' h' => ?_, ?_, ?_⟩
          · rw [refR_len]
            exact Nat.lt_of_le_of_lt (by omega : _ ≤ 100) (by decide)
          · rw [upd_same]
            unfold refR
            rw [List.map_append]
            rfl
          · rcases List.mem_append.mp h' with k' | k'
            · exact hN.same s' r' k'
            · rw [List.mem_singleton.mp k']
              exact ⟨ex', fx⟩
          · rw [List.length_append, List.length_singleton, lN]
          · rw [List.map_append, bN, take_snoc hr', List.map_append, List.map_append]
            exact congrArg (_ ++ [·]) gu.symm
        · rintro Hc ⟨sc, N, eD, hN, lN, bN⟩
          rw [refR_len] at lN bN
          rw [List.take_length] at bN
          exact ⟨_, _, _, D, N, rfl, sc, eD, hN, lN.trans lR5, bN⟩
      rintro _ H6 ⟨v8, v9, v10, m2, R2, rfl, s6, em6, hR6, lR6, bR6⟩
      have eq6 := s6 _ _ eq5
      have hS6 := hS5.same s6
      have e26 := s6 _ _ e2'
      refine ⟨_, rfl, qa', rfl, ⟨_, SqL.of eq6⟩, fun D nD => ?_⟩
      refine lc_list (K := K) (a := qa') (xs := refQ S') (Pv := fun j Hc => Same H6 Hc ∧ ∃ N : PrLs, Hc D = some (.lst (refQ N)) ∧ QsAt size Hc N ∧ N.length = j ∧ N.map bz2 = ((S'.take j).map bz2).map (L2p (gB kd (ps.getD 0 0) (ps.getD 1 0)))) ⟨same_new nD, [], upd_same, fun r hr => (by cases hr), rfl, rfl⟩ (fun j Hc _ ⟨sc, _⟩ => SqL.of (sc _ _ eq6)) ?_ ?_
      · rintro j y Hc hj ⟨sc, N, eD, hN, lN, bN⟩
        obtain ⟨r, hr', rfl⟩ := refQ_at hj
        obtain ⟨er, et, ft, ez, fz⟩ := hS6.same sc r (List.mem_of_getElem? hr')
        have jl := (List.getElem?_eq_some_iff.mp hr').1
        refine ⟨r.1, _, rfl, .inl (.inl er), rfl, _, _, rfl, _, _, rfl, rfl, rfl, _, rfl, _, rfl, _, rfl, r.2.1.1, pl, kd, size, r.2.1.2, ps, rfl, et, ft, by omega, SqL.of (sc _ _ e26), e4, e5, e6, fun H7 x u s7 nx ex' fx gu => ?_⟩
        refine ⟨_, rfl, _, rfl, _, rfl, r.2.2.1, pl, kd, size, r.2.2.2, ps, rfl, s7 _ _ ez, fz, by omega, SqL.of (s7 _ _ (sc _ _ e26)), e4, e5, e6, fun H8 x2 u2 s8 nx2 ex2 fx2 gu2 => ⟨by show 2 ≤ sizeLine; decide, fun t nt => ?_⟩⟩
        have n9 : Same H8 (upd H8 t (.tup [.ref x, .ref x2])) := same_new nt
        have s79 := (s7.trans s8).trans n9
        have eD' := s79 _ _ eD
        refine ⟨refQ N, eD', ?_, same_put0 (sc.trans s79) nD, N ++ [(t, (x, u), (x2, u2))], ?_, QsAt.put eD' fun r' h' => ?_, ?_, ?_⟩
        · rw [refQ_len]
          exact Nat.lt_of_le_of_lt (by omega : _ ≤ 100) (by decide)
        · rw [upd_same]
          unfold refQ
          rw [List.map_append]
          rfl
        · rcases List.mem_append.mp h' with k' | k'
          · exact hN.same s79 r' k'
          · rw [List.mem_singleton.mp k']
            exact ⟨upd_same, n9 _ _ (s8 _ _ ex'), fx, n9 _ _ ex2, fx2⟩
        · rw [List.length_append, List.length_singleton, lN]
        · rw [List.map_append, bN, take_snoc hr', List.map_append, List.map_append]
          refine congrArg (_ ++ [·]) (Prod.ext ?_ ?_)
          · exact gu.symm
          · exact gu2.symm
      · rintro Hc ⟨sc, N, eD, hN, lN, bN⟩
        rw [refQ_len] at lN bN
        rw [List.take_length] at bN
        obtain ⟨pa, pb, pk⟩ := gate_pl e4 e5 e6 e7
        exact ⟨_, _, _, _, _, _, m2, D, R2, N, rfl, (s5.trans s6).trans sc, sc _ _ em6, hR6.same sc, lR6, eD, hN, by omega, _, sL.gate pa pb pk, by rw [bR6, eL1, List.map_map]; rfl, by rw [bN, eL2, List.map_map]; rfl⟩
    rintro _ H5 ⟨v7, v8, v9, v10, v14, v15, m', qa', R', S', rfl, s5, em5, hR5, lR5, eq5, hS5, lS5, L, sL, eL1, eL2⟩
    have k5 : KB p H H5 := k4.sm s5
    have P5 : PenAt H5 p c n4 := P4.ext s5
    have off_kb : ∀ {H' : Hp} {t : Addr} {k : Nat}, KB p H H' → PenAt H' p c k → H' t = none → H t = none := fun {H' t k} kb P nt => by
      obtain ⟨ns, a, d, f, hp, _⟩ := P
      cases e : H t with
      | none => rfl
      | some o =>
        have : H' t = some o := kb _ _ e (fun z => by rw [z, hp] at nt; cases nt)
        rw [nt] at this
        cases this
    refine ⟨fun σ' H' => ∃ rw' : Addr, σ' = [some (.ref p), some (.int (size : Nat)), some (.int (rank : Nat)), some (.int (gd : Nat)), some (.ref m'), some (.ref qa'), some (.ref g), v7, v8, v9, v10, some (.ref rw'), none, none, v14, v15, none] ∧ H5 rw' = none ∧ H' = upd H5 rw' (.lst []), ⟨by show 0 ≤ sizeLine; decide, fun t nt => ⟨t, rfl, nt, rfl⟩⟩, ?_⟩
    rintro _ H6 ⟨rw', rfl, nrw, eH⟩
    have s6 : Same H5 H6 := eH ▸ same_new nrw
    have erw : H6 rw' = some (.lst []) := eH ▸ upd_same
    have nrwH : H rw' = none := off_kb k5 P5 nrw
    have mrw : m' ≠ rw' := ne_of_none em5 nrw
    have qrw : qa' ≠ rw' := ne_of_none eq5 nrw
    refine ⟨fun σ' H' => ∃ (v8 v12 : Option V) (W : RLs) (n' : Nat), σ' = [some (.ref p), some (.int (size : Nat)), some (.int (rank : Nat)), some (.int (gd : Nat)), some (.ref m'), some (.ref qa'), some (.ref g), v7, v8, v9, v10, some (.ref rw'), v12, none, v14, v15, none] ∧ KB p H H' ∧ PenAt H' p c n' ∧ n' ≤ n4 + 30 * rank ∧ H' m' = some (.lst (refR R')) ∧ RsAt size H' R' ∧ H' rw' = some (.lst (refR W)) ∧ RsAt size H' W ∧ W.length = rank ∧ H' qa' = some (.lst (refQ S')) ∧ QsAt size H' S' ∧ ∃ ms, MsOk ms rank ∧ W.map bz = ms.map fun m => L (0, m), ?_, ?_⟩
    · refine ⟨_, rfl, m', rfl, ⟨_, SqL.of (s6 _ _ em5)⟩, for_list (K := K) (a := m') (xs := refR R') (fun i σ' H' => ∃ (v8 v12 : Option V) (W : RLs) (n' : Nat), σ' = [some (.ref p), some (.int (size : Nat)), some (.int (rank : Nat)), some (.int (gd : Nat)), some (.ref m'), some (.ref qa'), some (.ref g), v7, v8, v9, v10, some (.ref rw'), v12, none, v14, v15, none] ∧ KB p H H' ∧ PenAt H' p c n' ∧ n' ≤ n4 + 30 * i ∧ H' m' = some (.lst (refR R')) ∧ RsAt size H' R' ∧ H' rw' = some (.lst (refR W)) ∧ RsAt size H' W ∧ W.length = i ∧ H' qa' = some (.lst (refQ S')) ∧ QsAt size H' S' ∧ ∃ ms, MsOk ms i ∧ W.map bz = ms.map fun m => L (0, m))
        ⟨v8, none, [], n4, rfl, k5.sm s6, P5.ext s6, by omega, s6 _ _ em5, hR5.same s6, erw, (fun _ h => by cases h), rfl, s6 _ _ eq5, hS5.same s6, [], MsOk.nil, rfl⟩ (fun i σ' H' _ ⟨_, _, _, _, _, _, _, _, e, _⟩ => SqL.of e) ?_ ?_⟩
      rotate_left
      · rintro σ' H' ⟨a1, a2, a3, a4, a5, a6, a7, a8, a9, a10, a11, a12, a13, a14, a15, ms, a16, a17⟩
        rw [refR_len, lR5] at a8 a13 a16
        exact ⟨a1, a2, a3, a4, a5, a6, a7, a8, a9, a10, a11, a12, a13, a14, a15, ms, a16, a17⟩
      rintro i y σ' H7 hi ⟨v8, v12, W, n', rfl, k7, P7, ln7, em7, hR7, erw7, hW7, lW7, eq7, hS7, ms, hms, bW⟩
      obtain ⟨r, hr', rfl⟩ := refR_at hi
      have ir : i < rank := by rw [← lR5]; exact (List.getElem?_eq_some_iff.mp hr').1
      obtain ⟨et, ft⟩ := hR7 r (List.mem_of_getElem? hr')
      have br : bz r = L (0, 2 ^ i) := by
        have e := congrArg (·[i]?) eL1
        simp only [List.getElem?_map, hr'] at e
        unfold mk0 at e
        rw [List.getElem?_map, List.getElem?_range ir] at e
        exact Option.some.inj e
      have hlow : ∀ w1 ∈ W, ∃ m, m < 2 ^ i ∧ bz w1 = L (0, m) := fun w1 h1 => by
        have : bz w1 ∈ ms.map fun m => L (0, m) := bW ▸ List.mem_map_of_mem h1
        obtain ⟨m, hm, e⟩ := List.mem_map.mp this
        exact ⟨m, hms.lt hm, e.symm⟩
      refine ⟨fun σ' H' => ∃ (v12 : Option V) (sa : Addr) (u : T3) (n'' mm : Nat), σ' = [some (.ref p), some (.int (size : Nat)), some (.int (rank : Nat)), some (.int (gd : Nat)), some (.ref m'), some (.ref qa'), some (.ref g), v7, some (.ref sa), v9, v10, some (.ref rw'), v12, none, v14, v15, none] ∧ KB p H7 H' ∧ PenAt H' p c n'' ∧ n'' ≤ n' + 27 ∧ TrAt H' sa u ∧ Fit size u ∧ 2 ^ i ≤ mm ∧ mm < 2 ^ (i + 1) ∧ (u.1, u.2.1) = L (0, mm), ?_, ?_⟩
      · refine ⟨_, rfl, _, rfl, p, c, rw', n', refR W, rfl, P7, by omega, SqL.of erw7, by rw [refR_len]; omega, fun H8 r8 ys _ hl hm hP8 k8 nr8 er8 => ?_⟩
        rw [refR_len] at hP8
        refine ⟨_, rfl, p, c, _, 2, rfl, hP8, by omega, by decide, by decide, fun r0 H9 hr0 hr1 hP9 k9 => ?_⟩
        have kb9 : KB p H7 H9 := k8.trans (KB.eq k9)
        have er9 : H9 r8 = some (.lst ys) := kb_lst hP8 (KB.eq k9) er8
        obtain ⟨j0, hj0⟩ : ∃ j : Nat, r0 = (j : Int) := ⟨r0.toNat, by omega⟩
        refine ⟨r0, rfl, r8, ys, rfl, SqL.of er9, fun q nq => ⟨q, rfl, ⟨_, SqL.of upd_same⟩, ?_⟩⟩
        rw [hj0, cutV_to]
        have n10 : Same H9 (upd H9 q (.lst (ys.take j0))) := same_new nq
        have e10 : (upd H9 q (.lst (ys.take j0))) q = some (.lst (ys.take j0)) := upd_same
        have hW9 := kb_rs P7 kb9 hW7
        have ft9 := kb_rs P7 kb9 hR7
        obtain ⟨et9, _⟩ := ft9 r (List.mem_of_getElem? hr')
        generalize upd H9 q (.lst (ys.take j0)) = H10 at n10 e10 ⊢
        refine for_list (K := K) (a := q) (xs := ys.take j0) (fun _ σ' H' => ∃ (v12 : Option V) (sa : Addr) (u : T3) (mm : Nat), σ' = [some (.ref p), some (.int (size : Nat)), some (.int (rank : Nat)), some (.int (gd : Nat)), some (.ref m'), some (.ref qa'), some (.ref g), v7, some (.ref sa), v9, v10, some (.ref rw'), v12, none, v14, v15, none] ∧ Same H10 H' ∧ TrAt H' sa u ∧ Fit size u ∧ 2 ^ i ≤ mm ∧ mm < 2 ^ (i + 1) ∧ (u.1, u.2.1) = L (0, mm))
          ⟨v12, r.1, r.2, 2 ^ i, rfl, fun _ _ e => e, n10 _ _ et9, ft, Nat.le_refl _, Nat.pow_lt_pow_right (by decide) (by omega), br⟩ (fun i σ' H' _ ⟨_, _, _, _, _, s', _⟩ => SqL.of (s' _ _ e10)) ?_ ?_
        · rintro i2 y σ' H11 hi2 ⟨v12, sa, u, mm, rfl, s11, eu, fu, mm1, mm2, bu⟩
          have ym : y ∈ refR W := hm y (List.mem_of_mem_take (List.mem_of_getElem? hi2))
          obtain ⟨w1, hw1, rfl⟩ := List.mem_map.mp ym
          obtain ⟨ew, fw⟩ := (hW9.same (n10.trans s11)) w1 hw1
          have up60 : ∀ {t : T3}, Fit size t → Fit 60 t := fun h => ⟨Nat.lt_of_lt_of_le h.1 (Nat.pow_le_pow_right (by decide) (by omega)), Nat.lt_of_lt_of_le h.2.1 (Nat.pow_le_pow_right (by decide) (by omega)), h.2.2⟩
          obtain ⟨ml, hml, bw⟩ := hlow w1 hw1
          obtain ⟨t1, t2⟩ := top_x mm1 mm2 hml
          exact ⟨_, rfl, _, rfl, sa, w1.1, u, w1.2, rfl, eu, ew, up60 fu, up60 fw, fun H12 x s12 nx ex' => ⟨_, x, lpr u w1.2, mm ^^^ ml, rfl, s11.trans s12, ex', lpr_fit fu fw, t1, t2, by
            have e := sL.lin (0, mm) (0, ml)
            rw [← bu, ← bw] at e
            rw [show ((0 : Nat), mm ^^^ ml) = xr2 (0, mm) (0, ml) by unfold xr2; rw [Nat.xor_self], e]
            rfl⟩⟩
        · rintro σ' H11 ⟨v12, sa, u, mm, rfl, s11, eu, fu, mm1, mm2, bu⟩
          exact ⟨v12, sa, u, _, mm, rfl, (kb9.sm n10).sm s11, (hP9.ext n10).ext s11, by omega, eu, fu, mm1, mm2, bu⟩
      rintro _ H8 ⟨v12', sa, u, n8, mm, rfl, k8, P8, ln8, eu, fu, mm1, mm2, bu⟩
      have erw8 := kb_lst P7 k8 erw7
      have sq : ∀ {G : Hp}, TrAt G sa u → SqT K G sa [.int (u.1 : Nat), .int (u.2.1 : Nat), .int (u.2.2 : Nat)] := fun e => .inl (.inl e)
      refine ⟨_, rfl, .inl ⟨rfl, _, SqL.of erw8⟩, _, rfl, sa, _, _, _, rfl, rfl, sq eu, tri0 _ _ _, _, rfl, sa, _, _, _, rfl, rfl, sq eu, tri1 _ _ _, _, rfl, p, c, n8, 2, rfl, P8, by omega, by decide, by decide, fun r0 H9 hr0 hr1 hP9 k9 => ⟨by show 3 ≤ sizeLine; decide, fun x nx => ?_⟩⟩
      have kb9 : KB p H7 H9 := k8.trans (KB.eq k9)
      have n10 : Same H9 (upd H9 x (.tup [.int (u.1 : Nat), .int (u.2.1 : Nat), .int r0])) := same_new nx
      have kb10 := kb9.sm n10
      have erw10 := kb_lst P7 kb10 erw7
      have P10 := hP9.ext n10
      have ex10 : (upd H9 x (.tup [.int (u.1 : Nat), .int (u.2.1 : Nat), .int r0])) x = some (.tup [.int (u.1 : Nat), .int (u.2.1 : Nat), .int r0]) := upd_same
      generalize upd H9 x (.tup [.int (u.1 : Nat), .int (u.2.1 : Nat), .int r0]) = H10 at n10 kb10 erw10 P10 ex10 ⊢
      have rp : rw' ≠ p := fun z => by
        obtain ⟨ns, a, d, f, hp, _⟩ := P10
        rw [z, hp] at erw10
        cases erw10
      have rc : rw' ≠ c := fun z => by
        obtain ⟨ns, a, d, f, hp, hc, _⟩ := hP
        rw [z, hc] at nrwH
        cases nrwH
      refine ⟨rw', _, _, rfl, rfl, erw10, ?_, _, _, W ++ [(x, (u.1, u.2.1, r0.toNat))], n8 + 1, rfl, (k7.trans kb10).up nrwH, P10.same (upd_ne rp.symm) (upd_ne rc.symm), by omega, ?_, RsAt.put erw10 (kb_rs P7 kb10 hR7), ?_, RsAt.put erw10 fun r' h' => ?_, ?_, ?_, QsAt.put erw10 (kb_qs P7 kb10 hS7), ms ++ [mm], hms.snoc mm1 mm2, by rw [List.map_append, bW, List.map_append]; exact congrArg (_ ++ [·]) bu⟩
      · rw [refR_len]
        exact Nat.lt_of_le_of_lt (by omega : _ ≤ 100) (by decide)
      · rw [upd_ne mrw]
        exact kb_lst P7 kb10 em7
      · rw [upd_same]
        unfold refR
        rw [List.map_append]
        rfl
      · rcases List.mem_append.mp h' with k' | k'
        · exact kb_rs P7 kb10 hW7 r' k'
        · rw [List.mem_singleton.mp k']
          refine ⟨?_, fu.1, fu.2.1, by show r0.toNat < 2; omega⟩
          have : r0 = ((r0.toNat : Nat) : Int) := by omega
          rw [this] at ex10
          exact ex10
      · rw [List.length_append, List.length_singleton, lW7]
      · rw [upd_ne qrw]
        exact kb_lst P7 kb10 eq7
    rintro _ H7 ⟨v8, v12, W, n7, rfl, k7, P7, ln7, em7, hR7, erw7, hW7, lW7, eq7, hS7, ms, hms, bW⟩
    refine ⟨fun σ' H' => ∃ ga : Addr, σ' = [some (.ref p), some (.int (size : Nat)), some (.int (rank : Nat)), some (.int (gd : Nat)), some (.ref m'), some (.ref qa'), some (.ref g), v7, v8, v9, v10, some (.ref rw'), v12, some (.ref ga), v14, v15, none] ∧ Same H7 H' ∧ H' ga = some (.lst []), ⟨by show 0 ≤ sizeLine; decide, fun t nt => ⟨t, rfl, same_new nt, upd_same⟩⟩, ?_⟩
    rintro _ H8 ⟨ga, rfl, s8, ega⟩
    refine ⟨fun σ' H' => ∃ (v9 v10 : Option V) (ga : Addr), σ' = [some (.ref p), some (.int (size : Nat)), some (.int (rank : Nat)), some (.int (gd : Nat)), some (.ref m'), some (.ref qa'), some (.ref g), v7, v8, v9, v10, some (.ref rw'), v12, some (.ref ga), v14, v15, none] ∧ Same H8 H' ∧ H' ga = some (.lst (refR (flatQ (S'.take gd)))), ?_, ?_⟩
    · refine ⟨_, rfl, _, rfl, gd, rfl, qa', _, rfl, SqL.of (s8 _ _ eq7), fun q nq => ⟨q, rfl, ⟨_, SqL.of upd_same⟩, ?_⟩⟩
      have ec : cutV (refQ S') none (some (gd : Nat)) = refQ (S'.take gd) := (cutV_to (refQ S') gd).trans (by unfold refQ; rw [List.map_take])
      rw [ec]
      have sq9 : Same H8 (upd H8 q (.lst (refQ (S'.take gd)))) := same_new nq
      have eq9 : (upd H8 q (.lst (refQ (S'.take gd)))) q = some (.lst (refQ (S'.take gd))) := upd_same
      generalize upd H8 q (.lst (refQ (S'.take gd))) = Hq at sq9 eq9 ⊢
      refine for_list (K := K) (a := q) (xs := refQ (S'.take gd)) (fun i σ' H' => ∃ (v9 v10 : Option V) (ga : Addr), σ' = [some (.ref p), some (.int (size : Nat)), some (.int (rank : Nat)), some (.int (gd : Nat)), some (.ref m'), some (.ref qa'), some (.ref g), v7, v8, v9, v10, some (.ref rw'), v12, some (.ref ga), v14, v15, none] ∧ Same Hq H' ∧ H' ga = some (.lst (refR (flatQ ((S'.take gd).take i)))))
        ⟨v9, v10, ga, rfl, fun _ _ e => e, sq9 _ _ ega⟩ (fun i σ' H' _ ⟨_, _, _, _, s', _⟩ => SqL.of (s' _ _ eq9)) ?_ ?_
      rotate_left
      · rintro σ' H' ⟨v9, v10, ga, e, s', e'⟩
        rw [refQ_len, List.take_length] at e'
        exact ⟨v9, v10, ga, e, sq9.trans s', e'⟩
      rintro i y σ' H9 hi ⟨v9, v10, ga, rfl, s9, ega9⟩
      obtain ⟨r, hr', rfl⟩ := refQ_at hi
      obtain ⟨er, _⟩ := hS7 r (List.mem_of_mem_take (List.mem_of_getElem? hr'))
      have il : i < (S'.take gd).length := (List.getElem?_eq_some_iff.mp hr').1
      have er9 := s9 _ _ (sq9 _ _ (s8 _ _ er))
      refine ⟨r.1, _, rfl, .inl (.inl er9), rfl, _, _, rfl, _, _, rfl, rfl, ?_⟩
      refine ⟨_, rfl, _, rfl, _, rfl, by show 2 ≤ sizeLine; decide, fun t nt => ?_⟩
      have n6 := same_new (o := .lst [V.ref r.2.1.1, V.ref r.2.2.1]) nt
      refine ⟨ga, t, _, [V.ref r.2.1.1, V.ref r.2.2.1], rfl, rfl, n6 _ _ ega9, upd_same, ?_, fun x nx => ?_⟩
      · rw [refR_len, flatQ_len, List.length_take]
        rw [List.length_take] at il
        exact Nat.le_trans (by show 2 * _ + 2 ≤ 100; omega) (by decide)
      have n7 := n6.trans (same_new (o := .lst (refR (flatQ ((S'.take gd).take i)) ++ [V.ref r.2.1.1, V.ref r.2.2.1])) nx)
      refine ⟨_, _, x, rfl, s9.trans n7, ?_⟩
      rw [upd_same, take_snoc hr', flatQ_app]
      unfold refR
      rw [List.map_append]
      rfl
    rintro _ H9 ⟨v9, v10, ga, rfl, s9, ega9⟩
    have s79 := s8.trans s9
    have k9 := k7.sm s79
    have P9 := P7.ext s79
    have erw9 := s79 _ _ erw7
    have hW9 := hW7.same s79
    have eq9 := s79 _ _ eq7
    have hS9 := hS7.same s79
    intro d nd
    have hpk : ∃ kv, H9 p = some (.dK kv) := let ⟨ns, a, d, f, hp, _⟩ := P9; ⟨_, hp⟩
    have hck : ∃ o, H9 c = some o := let ⟨ns, a, d, f, hp, hc, _⟩ := P9; ⟨_, hc⟩
    have dp : d ≠ p := fun z => by
      obtain ⟨kv, hp⟩ := hpk
      rw [z, hp] at nd
      cases nd
    have dc : d ≠ c := fun z => by
      obtain ⟨o, hc⟩ := hck
      rw [z, hc] at nd
      cases nd
    have nd0 : H d = none := off_kb k9 P9 nd
    have n1 : Same H9 (upd H9 d (.dK [])) := same_new nd
    refine ⟨_, rfl, _, rfl, _, rfl, p, c, rw', n7, refR W, rfl, P9.ext n1, by omega, SqL.of (n1 _ _ erw9), by rw [refR_len]; omega, fun H10 lr ys pm hl hm hP10 k10 nlr elr => ?_⟩
    rw [refR_len] at hP10 hl
    have kb10 : KB p H9 H10 := (KB.of n1).trans k10
    have ed10 : H10 d = some (.dK []) := k10 _ _ upd_same dp
    have ega10 := kb_lst P9 kb10 ega9
    have eq10 := kb_lst P9 kb10 eq9
    obtain ⟨R2, pR2, rfl⟩ := perm_map_inv pm
    have hR2 : ∀ r ∈ R2, r ∈ W := fun r h => pR2.mem_iff.mp h
    have hS10 := kb_qs P9 kb10 hS9
    refine ⟨_, rfl, _, rfl, _, rfl, gd, rfl, qa', _, rfl, SqL.of eq10, fun lh nlh => ?_⟩
    have n2 := same_new (o := .lst (cutV (refQ S') (some (gd : Nat)) none)) nlh
    have kb11 := kb10.sm n2
    have ed11 := n2 _ _ ed10
    have hW11 := kb_rs P9 kb11 hW9
    have elr11 := n2 _ _ elr
    have P11 := hP10.ext n2
    have ega11 := n2 _ _ ega10
    have hS11 := hS10.same n2
    have elh11 : (upd H10 lh (.lst (cutV (refQ S') (some (gd : Nat)) none))) lh = some (.lst (refQ (S'.drop gd))) := by
      rw [upd_same, cutV_from (refQ S') gd]
      unfold refQ
      rw [List.map_drop]
    generalize upd H10 lh (.lst (cutV (refQ S') (some (gd : Nat)) none)) = H11 at n2 kb11 ed11 hW11 elr11 P11 ega11 hS11 elh11 ⊢
    refine ⟨ed11, [((.inr "size" : Key), V.int (size : Nat)), (.inr "rows", .ref lr), (.inr "gauge", .ref ga), (.inr "hidden", .ref lh)], rfl, by show 4 ≤ 15; decide, ?_⟩
    rw [code_kv]
    have lne : ∀ {y : Addr} {xs : List V}, H11 y = some (.lst xs) → y ≠ d := fun {y xs} e z => by rw [z, ed11] at e; cases e
    refine q _ d lr ga lh R2 S' L ms (n7 + W.length) ((k9.trans kb11).up nd0) (P11.same (upd_ne dp.symm) (upd_ne dc.symm)) (by omega) nd0 upd_same ?_ (fun r hr' => ?_) ?_ ((upd_ne (lne ega11)).trans ega11) ((upd_ne (lne elh11)).trans elh11) (fun q' hq' => ?_) ⟨sL, hms, bW ▸ pR2.map bz, eL2⟩
    · rw [upd_ne fun z => by rw [z, ed11] at elr11; cases elr11]
      exact elr11
    · obtain ⟨e1, e2⟩ := hW11 r (hR2 r hr')
      refine ⟨?_, e2⟩
      unfold TrAt at *
      rw [upd_ne fun z => by rw [z, ed11] at e1; cases e1]
      exact e1
    · rw [pR2.length_eq]
      exact lW7
    · obtain ⟨a, b, c', d', e'⟩ := hS11 q' hq'
      unfold TrAt at *
      have tne : ∀ {y : Addr} {xs : List V}, H11 y = some (.tup xs) → y ≠ d := fun {y xs} e z => by rw [z, ed11] at e; cases e
      exact ⟨(upd_ne (tne a)).trans a, (upd_ne (tne b)).trans b, c', (upd_ne (tne d')).trans d', e'⟩
end
end KQ
namespace KQ
/-- the program's numbers of a string of the law -/
def phi (n : Nat) (t : T3) : Hl := (fB n t.1 t.2.1, (2 * t.2.2 + pc (t.1 &&& t.2.1)) % 4)
theorem phi_sg {n : Nat} {t : T3} (h : Fit n t) : Sg n (phi n t) := by
  refine ⟨Nat.mod_lt _ (by decide), ?_⟩
  show (2 * t.2.2 + pc (t.1 &&& t.2.1)) % 4 % 2 = tw n (fB n t.1 t.2.1) (fB n t.1 t.2.1)
  rw [tw_fB h.2.1, Nat.and_comm t.2.1]
  omega
theorem pc_and_x (a b c d : Nat) : pc ((a ^^^ b) &&& (c ^^^ d)) % 2 = (pc (a &&& c) + pc (a &&& d) + pc (b &&& c) + pc (b &&& d)) % 2 := by
  rw [Nat.and_xor_distrib_right, pc_xor, Nat.and_xor_distrib_left, Nat.and_xor_distrib_left]
  have h1 := pc_xor (a &&& c) (a &&& d)
  have h2 := pc_xor (b &&& c) (b &&& d)
  omega
theorem crN_com {n : Nat} {t u : T3} (h : Fit n t) (k : Fit n u) : crN t u = 0 ↔ Com n (phi n t) (phi n u) := by
  unfold Com phi crN
  show pc ((t.1 &&& u.2.1) ^^^ (t.2.1 &&& u.1)) % 2 = 0 ↔ tw n (fB n t.1 t.2.1) (fB n u.1 u.2.1) = tw n (fB n u.1 u.2.1) (fB n t.1 t.2.1)
  rw [tw_fB h.2.1, tw_fB k.2.1, pc_xor, Nat.and_comm u.2.1]
  omega
theorem phi_mul {n : Nat} {t u : T3} (h : Fit n t) (k : Fit n u) (c : Com n (phi n t) (phi n u)) : phi n (lpr t u) = hp n (phi n t) (phi n u) := by
  unfold Com at c
  have c' : tw n (fB n t.1 t.2.1) (fB n u.1 u.2.1) = tw n (fB n u.1 u.2.1) (fB n t.1 t.2.1) := c
  rw [tw_fB h.2.1, tw_fB k.2.1] at c'
  have px := pc_and_x t.1 u.1 t.2.1 u.2.1
  unfold phi hp lpr
  refine Prod.ext ?_ ?_
  · exact (fB_xor n t.1 t.2.1 u.1 u.2.1).symm
  · show (2 * (((lpP t u + 2 * ((t.2.2 : Int) + (u.2.2 : Int))) % 4) / 2).toNat + pc ((t.1 ^^^ u.1) &&& (t.2.1 ^^^ u.2.1))) % 4 = ((2 * t.2.2 + pc (t.1 &&& t.2.1)) % 4 + (2 * u.2.2 + pc (u.1 &&& u.2.1)) % 4 + 2 * tw n (fB n t.1 t.2.1) (fB n u.1 u.2.1)) % 4
    rw [tw_fB h.2.1]
    unfold lpP
    rw [Nat.and_comm t.1 u.2.1, Nat.and_comm u.1 t.2.1] at px
    generalize pc ((t.1 ^^^ u.1) &&& (t.2.1 ^^^ u.2.1)) = P at *
    generalize pc (t.1 &&& t.2.1) = A at *
    generalize pc (u.1 &&& u.2.1) = B at *
    generalize pc (t.2.1 &&& u.1) = C at *
    generalize pc (u.2.1 &&& t.1) = D at *
    omega
theorem phi_zero (n : Nat) : phi n (0, 0, 0) = (0, 0) := by
  unfold phi fB
  have e : rv n 0 = 0 := by
    apply Nat.eq_of_testBit_eq
    intro j
    rw [rv_bit, Nat.zero_testBit, Nat.zero_testBit, Bool.and_false]
  show (2 ^ n * rv n 0 + rv n 0, (2 * 0 + pc (0 &&& 0)) % 4) = (0, 0)
  rw [e, Nat.zero_and, pc_zero, Nat.mul_zero]
/-- the program's letters of the law's text -/
theorem bL_LT {n : Nat} {t : T3} (h : Fit n t) : bL (LT n t.1 t.2.1) = (phi n t).1 := by
  rw [bL_fB, LT_len, lx_LT _ h.1, lz_LT _ h.2.1]
  rfl
theorem cnt_LT {n : Nat} {t : T3} (h : Fit n t) : (LT n t.1 t.2.1).count 89 = pc (t.1 &&& t.2.1) := by
  rw [← yc (LT_lts n t.1 t.2.1), lx_LT _ h.1, lz_LT _ h.2.1, Nat.and_comm]
end KQ
namespace KQ
open PySem PySem.Spec PyProof.Rows L2
structure Bse (n : Nat) (bs : List Hl) : Prop where
  cs : CS n bs
  ind : Indep (bs.map Prod.fst)
def InG (n : Nat) (bs : List Hl) (h : Hl) : Prop := ∃ m, m < 2 ^ bs.length ∧ h = pr n bs m bs.length
theorem InG.zero (n : Nat) (bs : List Hl) : InG n bs (0, 0) := ⟨0, Nat.two_pow_pos _, (pr_zero _).symm⟩
theorem InG.hp {n : Nat} {bs : List Hl} (C : CS n bs) {h g : Hl} (a : InG n bs h) (b : InG n bs g) : InG n bs (hp n h g) := by
  obtain ⟨m, hm, rfl⟩ := a
  obtain ⟨k, hk, rfl⟩ := b
  exact ⟨m ^^^ k, Nat.xor_lt_two_pow hm hk, (pr_xor C m k (Nat.le_refl _)).symm⟩
theorem InG.sg {n : Nat} {bs : List Hl} (C : CS n bs) {h : Hl} (a : InG n bs h) : Sg n h := by
  obtain ⟨m, _, rfl⟩ := a
  exact pr_sg C m (Nat.le_refl _)
theorem InG.com {n : Nat} {bs : List Hl} (C : CS n bs) {h g : Hl} (a : InG n bs h) (b : InG n bs g) : Com n h g := by
  obtain ⟨m, _, rfl⟩ := a
  obtain ⟨k, _, rfl⟩ := b
  exact pr_com k (fun x hx => (pr_com m (fun y hy => C.com x hx y hy) (Nat.le_refl _)).symm) (Nat.le_refl _)
theorem InG.one {n : Nat} {bs : List Hl} (B : Bse n bs) {h g : Hl} (a : InG n bs h) (b : InG n bs g) (e : h.1 = g.1) : h = g := by
  obtain ⟨m, hm, rfl⟩ := a
  obtain ⟨k, hk, rfl⟩ := b
  rw [pr_fst, pr_fst] at e
  have : m = k := indep_one B.ind (by rw [List.length_map]; exact hm) (by rw [List.length_map]; exact hk) e
  rw [this]
theorem pr_pow {n : Nat} {bs : List Hl} {i : Nat} (hb : (bs.getD i (0, 0)).2 < 4) : ∀ k, i < k → pr n bs (2 ^ i) k = bs.getD i (0, 0)
  | 0, h => absurd h (Nat.not_lt_zero _)
  | k + 1, h => by
    unfold pr
    by_cases e : k = i
    · subst e
      rw [if_pos (by rw [Nat.testBit_two_pow_self]), pr_bits (m' := 0) (fun j hj => by rw [Nat.testBit_two_pow, Nat.zero_testBit, decide_eq_false (by omega)]), pr_zero, hp_zl hb]
    · rw [if_neg (by rw [Nat.testBit_two_pow, decide_eq_false (fun z => e z.symm)]; decide)]
      exact pr_pow hb k (by omega)
theorem InG.mem {n : Nat} {bs : List Hl} (C : CS n bs) {h : Hl} (m : h ∈ bs) : InG n bs h := by
  obtain ⟨i, hi⟩ := List.getElem?_of_mem m
  have il := (List.getElem?_eq_some_iff.mp hi).1
  have e : bs.getD i (0, 0) = h := by rw [List.getD_eq_getElem?_getD, hi]; rfl
  exact ⟨2 ^ i, Nat.pow_lt_pow_right (by decide) il, by rw [pr_pow (by rw [e]; exact (C.sg h m).1) _ il, e]⟩
theorem InG.pr {n : Nat} {bs : List Hl} (C : CS n bs) {hs : List Hl} (h : ∀ a ∈ hs, InG n bs a) (m : Nat) : ∀ k, k ≤ hs.length → InG n bs (pr n hs m k)
  | 0, _ => InG.zero n bs
  | k + 1, hk => by
    unfold KQ.pr
    split
    · exact (InG.pr C h m k (by omega)).hp C (h _ (getD_mem (by omega)))
    · exact InG.pr C h m k (by omega)
theorem good_of {n : Nat} {bs : List Hl} (B : Bse n bs) {gs : List Hl} (h : ∀ g ∈ gs, InG n bs g) {i : Nat} (hi : i < gs.length) : Good n gs i := by
  intro mk hk e
  have lt : ∀ k ∈ keptL gs i, k < gs.length := fun k hk => Nat.lt_trans (keptL_lt gs i k hk) hi
  have a : InG n bs (KQ.pr n (hsK gs (keptL gs i)) mk (keptL gs i).length) := InG.pr B.cs (fun a ha => h a (hsK_mem lt a ha)) mk _ (by rw [hsK_len]; exact Nat.le_refl _)
  have e1 : (KQ.pr n (hsK gs (keptL gs i)) mk (keptL gs i).length).1 = sx (kb gs (keptL gs i)) mk := by
    have := pr_fst (n := n) (hs := hsK gs (keptL gs i)) mk
    rw [hsK_len, hsK_fst] at this
    exact this
  exact congrArg Prod.snd (a.one B (h _ (getD_mem hi)) (e1.trans e))
theorem low2 {size m : Nat} (h : m < 2 ^ size) : Fit2 size (0, m) := ⟨Nat.two_pow_pos _, h⟩
theorem fbL {L : T2 → T2} {n : Nat} (s : Symp n L) (k k' : Nat) : fB n (L (0, k)).1 (L (0, k)).2 ^^^ fB n (L (0, k')).1 (L (0, k')).2 = fB n (L (0, k ^^^ k')).1 (L (0, k ^^^ k')).2 := by
  have e := s.lin (0, k) (0, k')
  have e' : xr2 ((0 : Nat), k) (0, k') = (0, k ^^^ k') := by unfold xr2; rw [Nat.xor_self]
  rw [e'] at e
  rw [e, fB_xor]
  rfl
theorem fbL_one {L : T2 → T2} {n : Nat} (s : Symp n L) {m k : Nat} (hm : m < 2 ^ n) (hk : k < 2 ^ n) (e : fB n (L (0, m)).1 (L (0, m)).2 = fB n (L (0, k)).1 (L (0, k)).2) : m = k := by
  have f1 := s.fit _ (low2 hm)
  have f2 := s.fit _ (low2 hk)
  obtain ⟨e1, e2⟩ := fB_inj f1.1 f1.2 f2.1 f2.2 e
  exact congrArg Prod.snd (s.one (low2 hm) (low2 hk) (Prod.ext e1 e2))
theorem fbL_zero {L : T2 → T2} {n : Nat} (s : Symp n L) : (0 : Nat) = fB n (L (0, 0)).1 (L (0, 0)).2 := by
  rw [s.zero]
  exact (congrArg Prod.fst (phi_zero n)).symm
theorem indep_L {L : T2 → T2} {n rank : Nat} (s : Symp n L) (hr : rank ≤ n) {ms : List Nat} (asc : MsOk ms rank) : Indep (ms.map fun m => fB n (L (0, m)).1 (L (0, m)).2) := by
  intro i x hx sp
  rw [List.getElem?_map] at hx
  obtain ⟨m, hm, rfl⟩ := Option.map_eq_some_iff.mp hx
  have hmi := asc.2 i m hm
  have il : i < ms.length := (List.getElem?_eq_some_iff.mp hm).1
  have lr := asc.1
  have pw : 2 ^ i ≤ 2 ^ n := Nat.pow_le_pow_right (by decide) (by omega)
  have pw1 : 2 ^ (i + 1) ≤ 2 ^ n := Nat.pow_le_pow_right (by decide) (by omega)
  have sub : Sub (fun y => ∃ k, k < 2 ^ i ∧ y = fB n (L (0, k)).1 (L (0, k)).2) := by
    refine ⟨⟨0, Nat.two_pow_pos _, fbL_zero s⟩, ?_⟩
    rintro x y ⟨k, hk, rfl⟩ ⟨k', hk', rfl⟩
    exact ⟨k ^^^ k', Nat.xor_lt_two_pow hk hk', fbL s k k'⟩
  have mem : ∀ a ∈ (ms.map fun m => fB n (L (0, m)).1 (L (0, m)).2).take i, ∃ k, k < 2 ^ i ∧ a = fB n (L (0, k)).1 (L (0, k)).2 := by
    intro a ha
    rw [← List.map_take] at ha
    obtain ⟨k, hk, ek⟩ := List.mem_map.mp ha
    obtain ⟨j, hj⟩ := List.getElem?_of_mem hk
    have jl : j < (ms.take i).length := (List.getElem?_eq_some_iff.mp hj).1
    rw [List.length_take] at jl
    have ji : j < i := by omega
    rw [List.getElem?_take_of_lt ji] at hj
    have h2 := (asc.2 j k hj).2
    have pj : 2 ^ (j + 1) ≤ 2 ^ i := Nat.pow_le_pow_right (by decide) (by omega)
    exact ⟨k, Nat.lt_of_lt_of_le h2 pj, ek.symm⟩
  obtain ⟨k, hk, e⟩ := sp _ sub mem
  have := fbL_one s (Nat.lt_of_lt_of_le hmi.2 pw1) (Nat.lt_of_lt_of_le hk pw) e
  subst this
  exact absurd hmi.1 (Nat.not_le_of_lt hk)
/-- a drawn code's rows -/
theorem code_base {size rank : Nat} {R : RLs} {S : PrLs} {L : T2 → T2} {ms : List Nat} (hr : rank ≤ size) (hR : ∀ r ∈ R, Fit size r.2) (c : CodeL size rank R S L ms) : ∃ bs, Bse size bs ∧ bs.length = rank ∧ ∀ r ∈ R, InG size bs (phi size r.2) := by
  obtain ⟨R0, p0, e0⟩ := perm_map_inv c.rows.symm
  have mem : ∀ {r}, r ∈ R0 ↔ r ∈ R := p0.mem_iff
  have at0 : ∀ r ∈ R0, ∃ m ∈ ms, bz r = L (0, m) := fun r h => by
    have : bz r ∈ ms.map fun m => L (0, m) := e0 ▸ List.mem_map_of_mem h
    obtain ⟨m, hm, e⟩ := List.mem_map.mp this
    exact ⟨m, hm, e.symm⟩
  have msl : ∀ m ∈ ms, Fit2 size (0, m) := fun m hm => low2 (Nat.lt_of_lt_of_le (c.asc.lt hm) (Nat.pow_le_pow_right (by decide) hr))
  have crz : ∀ m m' : Nat, cr2 (0, m) (0, m') = 0 := fun m m' => by
    rw [cr2_b]
    show (pc (0 &&& m') + pc (m &&& 0)) % 2 = 0
    rw [Nat.zero_and, Nat.and_zero, pc_zero]
  have C : CS size (R0.map fun r => phi size r.2) := by
    refine ⟨fun a ha => ?_, fun a ha b hb => ?_⟩
    · obtain ⟨r, h, rfl⟩ := List.mem_map.mp ha
      exact phi_sg (hR r (mem.mp h))
    · obtain ⟨r, h, rfl⟩ := List.mem_map.mp ha
      obtain ⟨q, k, rfl⟩ := List.mem_map.mp hb
      refine (crN_com (hR r (mem.mp h)) (hR q (mem.mp k))).mp ?_
      obtain ⟨m, hm, e⟩ := at0 r h
      obtain ⟨m', hm', e'⟩ := at0 q k
      have e3 : cr2 (bz r) (bz q) = 0 := by rw [e, e', c.symp.cr _ _ (msl m hm) (msl m' hm'), crz]
      exact e3
  have len : (R0.map fun r => phi size r.2).length = rank := by
    have := congrArg List.length e0
    rw [List.length_map, List.length_map] at this
    rw [List.length_map, ← this, c.asc.1]
  have eF : (R0.map fun r => phi size r.2).map Prod.fst = ms.map fun m => fB size (L (0, m)).1 (L (0, m)).2 := by
    have h1 : (R0.map fun r => phi size r.2).map Prod.fst = (R0.map bz).map fun v => fB size v.1 v.2 := by
      rw [List.map_map, List.map_map]
      exact List.map_congr_left fun r _ => rfl
    rw [h1, ← e0, List.map_map]
    exact List.map_congr_left fun m _ => rfl
  have ind : Indep ((R0.map fun r => phi size r.2).map Prod.fst) := by
    rw [eF]
    exact indep_L c.symp hr c.asc
  exact ⟨_, ⟨C, ind⟩, len, fun r h => InG.mem C (List.mem_map_of_mem (mem.mpr h))⟩
def gsT (n : Nat) (R : RLs) : List Hl := R.map fun r => phi n r.2
theorem gsT_in {n : Nat} {bs : List Hl} {R : RLs} (h : ∀ r ∈ R, InG n bs (phi n r.2)) : ∀ g ∈ gsT n R, InG n bs g := fun g hg => by
  obtain ⟨r, hr, rfl⟩ := List.mem_map.mp hg
  exact h r hr
end KQ
namespace KQ
open PySem PySem.Spec PyProof.Rows L2
abbrev sSyn : Stmt := inClass (topS 46) 3
abbrev sCkG : Stmt := topS 56
theorem scSyn : FnScope ["self", "string"] ["self", "string"] (defScope sSyn) := ⟨rfl, rfl, rfl, by decide +kernel, rfl, by decide +kernel, by decide +kernel⟩
theorem scCkG : FnScope ["group", "gauge", "index", "string"] ["group", "gauge"] (defScope sCkG) := ⟨rfl, rfl, rfl, by decide +kernel, rfl, by decide +kernel, by decide +kernel⟩
/-- a field within a comprehension (K told) -/
theorem pe_fldK {X : Cx} {e : Expr} {f : Str} {pos : Pos} {ta : TE} (K : PySem.W.Frag) (hK : X.K = K) (he : PE X e ta) (hb : attributeBase e f X.env (eval e X.env) = eval e X.env) : PE X (.Attribute e f pos) (tFld K ta f) := by
  subst hK
  exact pe_fld he hb
def crs (n b : Nat) (os : List Nat) : List Nat := os.map fun o => pc (ex n b &&& o) % 2
/-- b meets all of these evenly -/
def Even (n b : Nat) (os : List Nat) : Prop := ∀ o ∈ os, pc (ex n b &&& o) % 2 = 0
theorem nb_zero : ∀ {l : List Nat}, (∀ c ∈ l, c = 0) → nb 0 l = 0
  | [], _ => rfl
  | c :: l, h => by
    rw [h c (List.mem_cons_self ..)]
    exact nb_zero (l := l) fun d hd => h d (List.mem_cons_of_mem _ hd)
theorem crs_zero {n b : Nat} {os : List Nat} (h : Even n b os) : ∀ c ∈ crs n b os, c = 0 := fun c hc => by
  obtain ⟨o, ho, rfl⟩ := List.mem_map.mp hc
  exact h o ho
theorem crs_two (n b : Nat) (os : List Nat) : ∀ c ∈ crs n b os, c < 2 := fun c hc => by
  obtain ⟨o, _, rfl⟩ := List.mem_map.mp hc
  exact Nat.mod_lt _ (by decide)
theorem crs_row (n b : Nat) (os : List Nat) : rowV os.length (nb 0 (crs n b os)) = natV (crs n b os) := by
  have := row_nb (crs n b os) (crs_two n b os)
  rw [show (crs n b os).length = os.length from List.length_map ..] at this
  unfold rowV natV
  rw [this]
abbrev gbs (M : GLs) : List Nat := (hls M).map Prod.fst
theorem gbs_len (M : GLs) : (gbs M).length = M.length := by rw [List.length_map, hls_len]
theorem GroupAt.same {CG C : Addr} {H H' : Hp} {a : Addr} {n : Nat} {M : GLs} (s : Same H H') (h : GroupAt CG C H a n M) : GroupAt CG C H' a n M := by
  obtain ⟨dx, fs, p, b, r, M', e, l1, l2, l3, l4, l5, l6, hp, hM, hb, hr, hP, eM⟩ := h
  exact ⟨dx, fs, p, b, r, M', s _ _ e, l1, l2, l3, l4, l5, l6, s _ _ hp, hM.same s, s _ _ hb, s _ _ hr, fun q hq => (hP q hq).same s, eM⟩
def spSyn (CG C : Addr) : Sp := fun vs H Q _ => ∃ (g a : Addr) (n : Nat) (M : GLs) (R : List Nat) (p : Nat), vs = [.ref g, .ref a] ∧ GroupAt CG C H g n M ∧ PauliAt C H a R p ∧ (∀ c ∈ R, isL c = true) ∧ R ≠ [] ∧ R.length = n ∧ n ≤ 300 ∧ M.length ≤ 100 ∧
  ∀ H' t, Same H H' → FzT H' t (natV (crs n (bL R) (gbs M))) → Q (.ref t) H'
def spCkG (CG C : Addr) : Sp := fun vs H Q _ => ∃ (g t : Addr) (n : Nat) (M : GLs) (L : PLs), vs = [.ref g, .ref t] ∧ GroupAt CG C H g n M ∧ H t = some (.tup (refP L)) ∧ PsAt C H L ∧ PsOk L ∧ n ≤ 300 ∧ M.length ≤ 100 ∧
  (∀ q ∈ L, q.2.1.length = n) ∧ (∀ q ∈ L, q.2.2 % 2 = 0) ∧ (∀ q ∈ L, Even n (bL q.2.1) (gbs M)) ∧ ∀ H', Same H H' → Q .non H'
section
variable {P : Program} {w : World} {K : PySem.W.Frag} {mg : Str → Option Value} {base : Heap}
theorem ok_syn {f fX fT fH fP fB C CG fI fE fG : Addr} {fd dX dT dH dP dB : FuncData} {k : Nat} (F : Fun K "syndrome_of" "Group.syndrome_of" sSyn f fd) (FX : Fun K "crossing" "crossing" sCrossg fX dX) (bX : Binds K dX ["size", "bits", "others"] []) (gX : mg "crossing" = some (.ref fX))
    (FT : Fun K "bit_tuple" "bit_tuple" sBits fT dT) (bT : Binds K dT ["number", "many"] []) (gT : mg "bit_tuple" = some (.ref fT))
    (FH : Fun K "second_half" "second_half" sHalf fH dH) (bH : Binds K dH ["size", "bits"] []) (gH : mg "second_half" = some (.ref fH))
    (FP : Fun K "parity" "parity" sPar fP dP) (bP : Binds K dP ["number"] []) (gP : mg "parity" = some (.ref fP))
    (FB : Fun K "bits_of" "bits_of" sBof fB dB) (bB : Binds K dB ["string"] []) (gB : mg "bits_of" = some (.ref fB)) (N : PCl K mg C fI fE) (G : GCl K mg CG fG) (B : Bl mg) :
    FnOk P w K mg base CX0 (k + 3) f fd ["self", "string"] (spSyn CG C) := by
  have GX : FnOk P w K mg base CX0 (k + 2) fX dX ["size", "bits", "others"] (spCrossg K) := ok_crossg FX FH bH gH FP bP gP
  have GT : FnOk P w K mg base CX0 (k + 2) fT dT ["number", "many"] spBits := ok_bits FT B
  have GB : FnOk P w K mg base CX0 (k + 2) fB dB ["string"] (spBof C) := ok_bof FB N B
  refine F.ok scSyn (fun vs H Q E h => ?_) (fun cdv A outer s H vs Q E hr h => ?_)
  · obtain ⟨g, a, n, M, R, p, rfl, _⟩ := h
    rfl
  · obtain ⟨g, a, n, M, R, p, rfl, hG, hP, hR, h0, hl, hn, hM, q⟩ := h
    refine ⟨_, C8.pss_cut (ps_if (pt_cmpR op_ne (pe_fld (pv 1) rfl) (pe_fld (pv 0) rfl) (nomark _)) pss_never pss_nil)
      (pss_one (ps_ret (pe_call GT hr (by rfl) gT FT.kp bT .nil pass0 (pa_cons (pe_call GX hr (by rfl) gX FX.kp bX .nil pass0 (pa_cons (pe_fld (pv 0) rfl) (pa_cons (pe_call GB hr (by rfl) gB FB.kp bB .nil pass0 (pa_cons (pv 1) pa_nil)) (pa_cons (pe_fld (pv 0) rfl) pa_nil)))) (pa_cons (pe_fld (pv 0) rfl) pa_nil))))), ?_⟩
    obtain ⟨dx, fs, p1, b1, r1, M', e, l1, l2, l3, l4, l5, l6, hp, hHl, hb, hr1, hPs, eM⟩ := id hG
    obtain ⟨dy, gs, e', k1, k2, k3, k4⟩ := id hP
    refine ⟨fun σ' H' => σ' = [some (.ref g), some (.ref a)] ∧ H' = H, ?_, ?_⟩
    · refine ⟨_, rfl, a, C, dy, gs, _, rfl, e', N.cl, N.nS, k3, _, rfl, g, CG, dx, fs, _, rfl, e, G.cl, G.nS, l1, rfl, false, ?_, iteF ⟨rfl, rfl⟩⟩
      rw [hl]
      exact congrArg V.bl (by rw [decide_eq_true rfl]; rfl)
    rintro _ H1 ⟨rfl, rfl⟩
    refine ⟨_, rfl, g, CG, dx, fs, _, rfl, e, G.cl, G.nS, l1, _, rfl, a, R, p, rfl, hP, hR, h0, by omega, fun H2 s2 => ?_⟩
    refine ⟨_, rfl, g, CG, dx, fs, _, rfl, s2 _ _ e, G.cl, G.nB, l3, n, bL R, b1, gbs M, rfl, .inr (SqT.of (s2 _ _ hb)), hn, by have := bL_lt R; rw [hl] at this; exact this, ?_⟩
    refine ⟨_, rfl, g, CG, dx, fs, _, rfl, s2 _ _ e, G.cl, G.nK, l5, nb 0 (crs n (bL R) (gbs M)), M.length, rfl, hM, fun t H3 s3 _ fz => q H3 t (s2.trans s3) ?_⟩
    have := crs_row n (bL R) (gbs M)
    rw [gbs_len] at this
    rw [← this]
    exact fz
theorem ok_ckg {f fS fX fT fH fP fB C CG fI fE fG : Addr} {fd dS dX dT dH dP dB : FuncData} {k : Nat} (F : Fun K "_check_gauge" "_check_gauge" sCkG f fd) (FS : Fun K "syndrome_of" "Group.syndrome_of" sSyn fS dS) (bS : Binds K dS ["self", "string"] []) (mS' : Meth K CG "syndrome_of" fS)
    (FX : Fun K "crossing" "crossing" sCrossg fX dX) (bX : Binds K dX ["size", "bits", "others"] []) (gX : mg "crossing" = some (.ref fX))
    (FT : Fun K "bit_tuple" "bit_tuple" sBits fT dT) (bT : Binds K dT ["number", "many"] []) (gT : mg "bit_tuple" = some (.ref fT))
    (FH : Fun K "second_half" "second_half" sHalf fH dH) (bH : Binds K dH ["size", "bits"] []) (gH : mg "second_half" = some (.ref fH))
    (FP : Fun K "parity" "parity" sPar fP dP) (bP : Binds K dP ["number"] []) (gP : mg "parity" = some (.ref fP))
    (FB : Fun K "bits_of" "bits_of" sBof fB dB) (bB : Binds K dB ["string"] []) (gB : mg "bits_of" = some (.ref fB)) (N : PCl K mg C fI fE) (G : GCl K mg CG fG) (B : Bl mg) :
    FnOk P w K mg base CX0 (k + 4) f fd ["group", "gauge"] (spCkG CG C) := by
  have GS : FnOk P w K mg base CX0 (k + 3) fS dS ["self", "string"] (spSyn CG C) := ok_syn FS FX bX gX FT bT gT FH bH gH FP bP gP FB bB gB N G B
  refine F.ok scCkG (fun vs H Q E h => ?_) (fun cdv A outer s H vs Q E hr h => ?_)
  · obtain ⟨g, t, n, M, L, rfl, _⟩ := h
    rfl
  · obtain ⟨g, t, n, M, L, rfl, hG, et, hP, O, hn, hM, hlen, hph, hev, q⟩ := h
    refine ⟨_, C8.pss_cut (ps_for PassesOwn.never rfl (pi_enumT (by rfl) B.enum (pa_cons (pv 1) pa_nil)) (pg_tup rfl (pgs_cons (pg_name (i := 2) scCkG.nd rfl (.inl rfl)) (pgs_cons (pg_name (i := 3) scCkG.nd rfl (.inl rfl)) pgs_nil)))
        (C8.pss_cut (ps_if (pt_cmpR op_ne (pe_fld (pv 3) rfl) (pe_fld (pv 0) rfl) (nomark _)) pss_never pss_nil)
        (C8.pss_cut (ps_if (pt_cmpR op_eq (pe_op op_mod (pe_fld (pv 3) rfl) pe_int) pe_int (nomark _)) pss_never pss_nil)
        (pss_one (ps_if (pt_cmpR op_in_seq pe_int (pe_meth (pv 0) G.cl mS' GS hr bS .nil pass0 (pa_cons (pv 3) pa_nil)) (by rfl)) pss_never pss_nil)))))
      pss_nil, ?_⟩
    refine ⟨fun σ' H' => Same H H', ?_, ?_⟩
    · refine ⟨_, rfl, t, _, rfl, SqT.of et, L2.for_it (walk_enumt K t (refP L)) (fun i σ H' => (∃ v2 v3 : Option V, σ = [some (.ref g), some (.ref t), v2, v3]) ∧ Same H H')
        ⟨⟨none, none, rfl⟩, fun _ _ e => e⟩ (fun i σ H' _ ⟨_, s1⟩ => SqT.of (s1 _ _ et)) ?_ ?_⟩
      · rintro j x _ H2 H3 hj ⟨⟨v2, v3, rfl⟩, s1⟩ ⟨T, x1, x2, rfl, nT, rfl, g1, g2⟩
        cases Option.some.inj g1
        obtain ⟨r, hr', rfl⟩ := refP_at g2
        have hm := List.mem_of_getElem? hr'
        have s3 := s1.trans (same_new (o := .tup [.int (j : Nat), .ref r.1]) nT)
        have eT : (upd H2 T (.tup [.int (j : Nat), .ref r.1])) T = some (.tup [.int (j : Nat), .ref r.1]) := upd_same
        generalize upd H2 T (.tup [.int (j : Nat), .ref r.1]) = H3 at s3 eT ⊢
        refine ⟨T, _, rfl, .inl (.inl eT), rfl, _, _, rfl, _, _, rfl, rfl, ?_⟩
        have hG3 := hG.same s3
        have hP3 := (hP r hm).same s3
        obtain ⟨dx, fs, p1, b1, r1, M', e, l1, l2, l3, l4, l5, l6, hp, hHl, hb, hr1, hPs, eM⟩ := id hG3
        obtain ⟨dy, gs, e', k1, k2, k3, k4⟩ := id hP3
        have hl := hlen r hm
        refine ⟨fun σ' H' => σ' = [some (.ref g), some (.ref t), some (.int (j : Nat)), some (.ref r.1)] ∧ H' = H3, ?_, ?_⟩
        · refine ⟨_, rfl, r.1, C, dy, gs, _, rfl, e', N.cl, N.nS, k3, _, rfl, g, CG, dx, fs, _, rfl, e, G.cl, G.nS, l1, rfl, false, ?_, iteF ⟨rfl, rfl⟩⟩
          rw [hl]
          exact congrArg V.bl (by rw [decide_eq_true rfl]; rfl)
        rintro _ H4 ⟨rfl, rfl⟩
        refine ⟨fun σ' H' => σ' = [some (.ref g), some (.ref t), some (.int (j : Nat)), some (.ref r.1)] ∧ H' = H4, ?_, ?_⟩
        · refine ⟨_, rfl, r.1, C, dy, gs, _, rfl, e', N.cl, N.nP, k2, _, _, rfl, rfl, (by show (0 : Int) < 2; decide), rfl, false, ?_, iteF ⟨rfl, rfl⟩⟩
          exact congrArg V.bl (decide_eq_false fun z => by
            have e2 : (r.2.2 : Int) % 2 = 1 := V.int.inj z
            have := hph r hm
            omega)
        rintro _ H5 ⟨rfl, rfl⟩
        refine ⟨_, rfl, g, dx, fs, rfl, e, l6, _, rfl, g, r.1, n, M, r.2.1, r.2.2, rfl, hG3, hP3, O.isl r hm, O.ne r hm, hl, hn, hM, fun H6 t6 s6 fz => ?_⟩
        refine ⟨t6, natV (crs n (bL r.2.1) (gbs M)), rfl, .inr (TupIs.sq (.inr fz)), rfl, ?_, ?_⟩
        · rw [natV_int]
          exact flat_ints _
        refine ⟨false, ?_, ⟨⟨_, _, rfl⟩, s3.trans s6⟩⟩
        show V.bl (inV (.int 1) (natV _)) = _
        rw [inV_one, decide_eq_false]
        intro h1
        have := crs_zero (hev r hm) 1 h1
        omega
      · rintro σ H2 ⟨_, s1⟩
        exact s1
    rintro σ H2 s2
    exact q _ s2
end
end KQ
namespace KQ
open PySem PySem.Spec PyProof.Rows L2
theorem ex_xor {n a b : Nat} (ha : a < 2 ^ (2 * n)) (hb : b < 2 ^ (2 * n)) : ex n (a ^^^ b) = ex n a ^^^ ex n b := by
  apply Nat.eq_of_testBit_eq
  intro j
  unfold ex
  rw [Nat.testBit_or, Nat.testBit_xor, Nat.testBit_or, Nat.testBit_or, Nat.testBit_shiftRight, Nat.testBit_shiftRight, Nat.testBit_shiftRight, Nat.testBit_mul_two_pow, Nat.testBit_mul_two_pow, Nat.testBit_mul_two_pow, Nat.testBit_mod_two_pow, Nat.testBit_mod_two_pow, Nat.testBit_mod_two_pow, Nat.testBit_xor, Nat.testBit_xor]
  by_cases h : n ≤ j
  · have za : a.testBit (n + j) = false := Nat.testBit_lt_two_pow (Nat.lt_of_lt_of_le ha (Nat.pow_le_pow_right (by decide) (by omega)))
    have zb : b.testBit (n + j) = false := Nat.testBit_lt_two_pow (Nat.lt_of_lt_of_le hb (Nat.pow_le_pow_right (by decide) (by omega)))
    rw [za, zb, decide_eq_true h]
    by_cases h2 : j - n < n
    · rw [decide_eq_true h2]
      simp
    · rw [decide_eq_false h2]
      simp
  · rw [decide_eq_false h]
    simp
/-- do two strings meet oddly -/
def cx (n b o : Nat) : Nat := pc (ex n b &&& o) % 2
theorem cx_xl {n a b : Nat} (ha : a < 2 ^ (2 * n)) (hb : b < 2 ^ (2 * n)) (o : Nat) : cx n (a ^^^ b) o = (cx n a o + cx n b o) % 2 := by
  unfold cx
  rw [ex_xor ha hb, Nat.and_xor_distrib_right, pc_xor]
  omega
theorem cx_xr (n b o p : Nat) : cx n b (o ^^^ p) = (cx n b o + cx n b p) % 2 := by
  unfold cx
  rw [Nat.and_xor_distrib_left, pc_xor]
  omega
theorem cx_lt (n b o : Nat) : cx n b o < 2 := Nat.mod_lt _ (by decide)
theorem nb_xor : ∀ (l : List (Nat × Nat)) (t u : Nat), (∀ p ∈ l, p.1 < 2 ∧ p.2 < 2) → nb (t ^^^ u) (l.map fun p => (p.1 + p.2) % 2) = nb t (l.map Prod.fst) ^^^ nb u (l.map Prod.snd)
  | [], _, _, _ => rfl
  | p :: l, t, u, h => by
    obtain ⟨h1, h2⟩ := h p (List.mem_cons_self ..)
    have e : 2 * (t ^^^ u) + (p.1 + p.2) % 2 = (2 * t + p.1) ^^^ (2 * u + p.2) := by
      apply Nat.eq_of_testBit_eq
      intro j
      cases j with
      | zero =>
        rw [Nat.testBit_xor, Nat.testBit_zero, Nat.testBit_zero, Nat.testBit_zero]
        rcases Nat.mod_two_eq_zero_or_one p.1 with q | q <;> rcases Nat.mod_two_eq_zero_or_one p.2 with r | r <;> simp [Nat.add_mod, q, r]
      | succ j =>
        rw [Nat.testBit_xor, Nat.testBit_succ, Nat.testBit_succ, Nat.testBit_succ, show (2 * (t ^^^ u) + (p.1 + p.2) % 2) / 2 = t ^^^ u by omega, show (2 * t + p.1) / 2 = t by omega, show (2 * u + p.2) / 2 = u by omega, Nat.testBit_xor]
    show nb (2 * (t ^^^ u) + (p.1 + p.2) % 2) (l.map _) = nb (2 * t + p.1) (l.map _) ^^^ nb (2 * u + p.2) (l.map _)
    rw [e]
    exact nb_xor l _ _ fun q hq => h q (List.mem_cons_of_mem _ hq)
theorem crs_xor {n a b : Nat} (ha : a < 2 ^ (2 * n)) (hb : b < 2 ^ (2 * n)) (os : List Nat) : nb 0 (crs n (a ^^^ b) os) = nb 0 (crs n a os) ^^^ nb 0 (crs n b os) := by
  have := nb_xor (os.map fun o => (cx n a o, cx n b o)) 0 0 fun p hp => by
    obtain ⟨o, _, rfl⟩ := List.mem_map.mp hp
    exact ⟨cx_lt _ _ _, cx_lt _ _ _⟩
  rw [List.map_map, List.map_map, List.map_map] at this
  have e : (os.map fun o => cx n (a ^^^ b) o) = os.map ((fun p : Nat × Nat => (p.1 + p.2) % 2) ∘ fun o => (cx n a o, cx n b o)) := List.map_congr_left fun o _ => cx_xl ha hb o
  show nb 0 (os.map fun o => cx n (a ^^^ b) o) = _
  rw [e]
  exact this
theorem nb_eq_zero : ∀ {l : List Nat}, nb 0 l = 0 → ∀ c ∈ l, c = 0
  | [], _, c, hc => by cases hc
  | d :: l, h, c, hc => by
    have e : nb d l = 0 := by
      have : nb 0 (d :: l) = nb (2 * 0 + d) l := rfl
      rw [this, Nat.mul_zero, Nat.zero_add] at h
      exact h
    rw [nb_eq] at e
    have p := Nat.two_pow_pos l.length
    have d0 : d = 0 := by
      rcases Nat.eq_zero_or_pos d with z | z
      · exact z
      · have := Nat.mul_le_mul z (Nat.le_refl (2 ^ l.length))
        omega
    rcases List.mem_cons.mp hc with k | k
    · rw [k, d0]
    · exact nb_eq_zero (l := l) (by omega) c k
theorem crs_iff {n b : Nat} {os : List Nat} : nb 0 (crs n b os) = 0 ↔ Even n b os :=
  ⟨fun h o ho => nb_eq_zero h _ (List.mem_map_of_mem (f := fun o => pc (ex n b &&& o) % 2) ho), fun h => nb_zero (crs_zero h)⟩
/-- the crossing with others, as a linear map of all numbers -/
def phC (n : Nat) (os : List Nat) (b : Nat) : Nat := nb 0 (crs n (b % 2 ^ (2 * n)) os)
theorem phC_lin (n : Nat) (os : List Nat) : Lin (phC n os) := fun x y => by
  unfold phC
  rw [Nat.xor_mod_two_pow]
  exact crs_xor (Nat.mod_lt _ (Nat.two_pow_pos _)) (Nat.mod_lt _ (Nat.two_pow_pos _)) os
theorem phC_at {n b : Nat} (h : b < 2 ^ (2 * n)) (os : List Nat) : phC n os b = nb 0 (crs n b os) := by
  unfold phC
  rw [Nat.mod_eq_of_lt h]
theorem phC_iff {n b : Nat} (h : b < 2 ^ (2 * n)) {os : List Nat} : phC n os b = 0 ↔ Even n b os := by
  rw [phC_at h, crs_iff]
theorem spn_lt {T : List Nat} {k x : Nat} (h : ∀ a ∈ T, a < 2 ^ k) (hx : Spn T x) : x < 2 ^ k := hx (fun y => y < 2 ^ k) ⟨Nat.two_pow_pos _, fun _ _ a b => Nat.xor_lt_two_pow a b⟩ h
/-- what meets all of these evenly meets all that they make so -/
theorem Even.spn {n b x : Nat} {T : List Nat} (h : Even n b T) (hx : Spn T x) : cx n b x = 0 := hx (fun y => cx n b y = 0) ⟨by show pc (ex n b &&& 0) % 2 = 0; rw [Nat.and_zero, pc_zero], fun p q (a : cx n b p = 0) (c : cx n b q = 0) => by show cx n b (p ^^^ q) = 0; rw [cx_xr, a, c]⟩ h
theorem kept_spn (gs : List Hl) : ∀ i, i ≤ gs.length → ∀ x, Spn (kb gs (keptL gs i)) x ↔ Spn ((gs.take i).map Prod.fst) x
  | 0, _, x => Iff.rfl
  | i + 1, hi, x => by
    have ih := kept_spn gs i (by omega)
    have hg : gs[i]? = some (gs.getD i (0, 0)) := by rw [List.getD_eq_getElem?_getD, List.getElem?_eq_getElem (by omega : i < gs.length)]; rfl
    have et : (gs.take (i + 1)).map Prod.fst = (gs.take i).map Prod.fst ++ [(gs.getD i (0, 0)).1] := by rw [take_snoc hg, List.map_append]; rfl
    rw [et]
    unfold keptL
    split
    · rename_i z
      have zs : Spn (kb gs (keptL gs i)) (gs.getD i (0, 0)).1 := inSp_spn.mp z
      refine spn_iff_of (fun a ha => spn_snoc_skip ((ih a).mp (spn_mem ha))) (fun a ha => ?_) x
      rcases List.mem_append.mp ha with k | k
      · exact (ih a).mpr (spn_mem k)
      · rw [List.mem_singleton.mp k]
        exact zs
    · have ek : kb gs (keptL gs i ++ [i]) = kb gs (keptL gs i) ++ [(gs.getD i (0, 0)).1] := by
        unfold kb
        rw [List.map_append]
        rfl
      rw [ek]
      refine spn_iff_of (fun a ha => ?_) (fun a ha => ?_) x
      · rcases List.mem_append.mp ha with k | k
        · exact spn_snoc_skip ((ih a).mp (spn_mem k))
        · rw [List.mem_singleton.mp k]
          exact spn_mem (List.mem_append_right _ (List.mem_singleton.mpr rfl))
      · rcases List.mem_append.mp ha with k | k
        · exact spn_snoc_skip ((ih a).mpr (spn_mem k))
        · rw [List.mem_singleton.mp k]
          exact spn_mem (List.mem_append_right _ (List.mem_singleton.mpr rfl))
theorem ind_ecT (U : List Nat) (h : Indep U) : ∀ i, i ≤ U.length → ∃ V : List Nat, Ec V ∧ (∀ x, Spn V x ↔ Spn (U.take i) x) ∧ V.length = i
  | 0, _ => ⟨[], ⟨fun _ z => (by cases z), List.Pairwise.nil⟩, fun _ => Iff.rfl, rfl⟩
  | i + 1, hi => by
    obtain ⟨V, E, sV, lV⟩ := ind_ecT U h i (by omega)
    have hg : U[i]? = some (U.getD i 0) := by rw [List.getD_eq_getElem?_getD, List.getElem?_eq_getElem (by omega : i < U.length)]; rfl
    have ns := h i _ hg
    have v0 : rst V (U.getD i 0) ≠ 0 := fun z => ns ((sV _).mp ((spn_rst E _).mpr z))
    exact ⟨V ++ [rst V (U.getD i 0)], E.snoc v0 (rst_clear E), fun x => by rw [take_snoc hg]; exact spn_add0 sV x, by rw [List.length_append, lV]; rfl⟩
/-- independent numbers have a table of as many rows -/
theorem ind_ec (U : List Nat) (h : Indep U) : ∃ V : List Nat, Ec V ∧ (∀ x, Spn V x ↔ Spn U x) ∧ V.length = U.length := by
  obtain ⟨V, E, s, l⟩ := ind_ecT U h U.length (Nat.le_refl _)
  rw [List.take_length] at s
  exact ⟨V, E, s, l⟩
theorem ind_len {T U : List Nat} (E : Ec T) (h : Indep U) (s : ∀ x, Spn T x ↔ Spn U x) : T.length = U.length := by
  obtain ⟨V, F, sV, lV⟩ := ind_ec U h
  rw [len_eq E F fun x => (s x).trans (sV x).symm, lV]
/-- what the table of a made group is to the strings that made it -/
theorem made_tab {n : Nat} {gs T : List Hl} {M : GLs} (R : RedAt n gs gs.length T) (pm : (hls M).Perm T) : Red (gbs M) ∧ (∀ x, Spn (gbs M) x ↔ Spn (gs.map Prod.fst) x) ∧ M.length = (keptL gs gs.length).length := by
  have r1 := R.tab.red.perm (pm.symm.map Prod.fst)
  have sp : ∀ x, Spn (gbs M) x ↔ Spn (kb gs (keptL gs gs.length)) x := fun x => by
    rw [spn_perm (pm.map Prod.fst) x, R.tab.spn x, hsK_fst]
  refine ⟨r1, fun x => ?_, ?_⟩
  · rw [sp x, kept_spn gs gs.length (Nat.le_refl _) x, List.take_length]
  · obtain ⟨U, rU, sU, lU⟩ := ind_ec (kb gs (keptL gs gs.length)) R.ind
    rw [← gbs_len M, len_eq r1.ec rU (fun x => (sp x).trans (sU x).symm), lU, kb_len]
end KQ
namespace KQ
open PySem PySem.Spec PyProof.Rows L2
abbrev sCkC : Stmt := topS 57
theorem scCkC : FnScope ["group", "gauge_bits", "bits", "pairs"] ["group", "gauge_bits"] (defScope sCkC) := ⟨rfl, rfl, rfl, by decide +kernel, rfl, by decide +kernel, by decide +kernel⟩
def spCkC (CG C : Addr) : Sp := fun vs H Q _ => ∃ (g t : Addr) (n : Nat) (M : GLs) (gs : List Nat), vs = [.ref g, .ref t] ∧ GroupAt CG C H g n M ∧ H t = some (.tup (natV gs)) ∧ n ≤ 300 ∧ gs.length ≤ 100 ∧ (∀ b ∈ gs, b < 2 ^ (2 * n)) ∧ Red (gbs M) ∧
  (∀ x, Spn gs x → Even n x gs → Spn (gbs M) x) ∧ ∀ H', Same H H' → Q .non H'
theorem refV_len (L : List (Addr × Nat × Nat)) : (refV L).length = L.length := List.length_map ..
theorem refV_app (L N : List (Addr × Nat × Nat)) : refV (L ++ N) = refV L ++ refV N := List.map_append ..
/-- pairs of the crossings of some bits with others and the bits -/
def PrsAt (n : Nat) (os : List Nat) (H : Hp) (bs : List Nat) (N : List (Addr × Nat × Nat)) : Prop := MkAt H N ∧ N.map (·.2) = bs.map fun b => (nb 0 (crs n b os), b)
theorem PrsAt.mk {n : Nat} {os : List Nat} {H : Hp} {bs : List Nat} {N : List (Addr × Nat × Nat)} (h : PrsAt n os H bs N) : mkL N = bs := by
  have := congrArg (List.map Prod.snd) h.2
  rw [List.map_map, List.map_map] at this
  exact this.trans (List.map_id'' (fun _ => rfl) _)
theorem PrsAt.fit {n : Nat} {os : List Nat} {H : Hp} {bs : List Nat} {N : List (Addr × Nat × Nat)} (h : PrsAt n os H bs N) (hb : ∀ b ∈ bs, b < 2 ^ (2 * n)) : ∀ p ∈ N, phC n os p.2.2 = p.2.1 := fun p hp => by
  have : p.2 ∈ bs.map fun b => (nb 0 (crs n b os), b) := h.2 ▸ List.mem_map_of_mem (f := (·.2)) hp
  obtain ⟨b, hm, e⟩ := List.mem_map.mp this
  rw [← e]
  exact phC_at (hb b hm) os
theorem PrsAt.snoc {n b : Nat} {os : List Nat} {H : Hp} {D T : Addr} {xs : List V} {o : HO} {bs : List Nat} {N : List (Addr × Nat × Nat)} (h : PrsAt n os H bs N) (eD : H D = some (.lst xs)) (eT : H T = some (.tup [.int (nb 0 (crs n b os) : Nat), .int (b : Nat)])) :
    PrsAt n os (upd H D o) (bs ++ [b]) (N ++ [(T, nb 0 (crs n b os), b)]) := by
  refine ⟨fun p hp => ?_, by rw [List.map_append, h.2, List.map_append]; rfl⟩
  have e : H p.1 = some (.tup [.int (p.2.1 : Nat), .int (p.2.2 : Nat)]) := by
    rcases List.mem_append.mp hp with k | k
    · exact h.1 p k
    · rw [List.mem_singleton.mp k]
      exact eT
  rw [upd_ne (ne_of e eD (by intro z; cases z))]
  exact e
theorem PrsAt.same {n : Nat} {os : List Nat} {H H' : Hp} {bs : List Nat} {N : List (Addr × Nat × Nat)} (s : Same H H') (h : PrsAt n os H bs N) : PrsAt n os H' bs N := ⟨fun p hp => s _ _ (h.1 p hp), h.2⟩
theorem PrsAt.len {n : Nat} {os : List Nat} {H : Hp} {bs : List Nat} {N : List (Addr × Nat × Nat)} (h : PrsAt n os H bs N) : N.length = bs.length := by
  have := congrArg List.length h.2
  rwa [List.length_map, List.length_map] at this
section
variable {P : Program} {w : World} {K : PySem.W.Frag} {mg : Str → Option Value} {base : Heap}
theorem ok_ckc {f fX fH fP fR fL fB CG C fG : Addr} {fd dX dH dP dR dL dB : FuncData} {k : Nat} (F : Fun K "_check_centre" "_check_centre" sCkC f fd)
    (FX : Fun K "crossing" "crossing" sCrossg fX dX) (bX : Binds K dX ["size", "bits", "others"] []) (gX : mg "crossing" = some (.ref fX))
    (FH : Fun K "second_half" "second_half" sHalf fH dH) (bH : Binds K dH ["size", "bits"] []) (gH : mg "second_half" = some (.ref fH))
    (FP : Fun K "parity" "parity" sPar fP dP) (bP : Binds K dP ["number"] []) (gP : mg "parity" = some (.ref fP))
    (FR : Fun K "relations" "relations" sRel fR dR) (bR : Binds K dR ["pairs"] []) (gR : mg "relations" = some (.ref fR))
    (FL : Fun K "_lowered" "_lowered" sLow fL dL) (bL : Binds K dL ["number", "marks", "table"] []) (gL : mg "lowered_bitnumbers" = some (.ref fL))
    (FB : Fun K "rest_by" "rest_by" sRestBy fB dB) (bB : Binds K dB ["number", "table"] []) (gB : mg "rest_by" = some (.ref fB)) (G : GCl K mg CG fG) (B : Bl mg) :
    FnOk P w K mg base CX0 (k + 3) f fd ["group", "gauge_bits"] (spCkC CG C) := by
  have GX : FnOk P w K mg base CX0 (k + 2) fX dX ["size", "bits", "others"] (spCrossg K) := ok_crossg FX FH bH gH FP bP gP
  have GR : FnOk P w K mg base CX0 (k + 2) fR dR ["pairs"] (spRel K) := ok_rel FR FL bL gL
  have GB : FnOk P w K mg base CX0 (k + 2) fB dB ["number", "table"] (spRestBy K) := ok_restby FB B
  refine F.ok scCkC (fun vs H Q E h => ?_) (fun cdv A outer s H vs Q E hr h => ?_)
  · obtain ⟨g, t, n, M, gs, rfl, _⟩ := h
    rfl
  · obtain ⟨g, t, n, M, gs, rfl, hG, et, hn, hl, hb, hR, hc, q⟩ := h
    refine ⟨_, C8.pss_cut (ps_setLc (i := 3) (own := [("bits", 2)]) (g := gName 2) (by rfl) scCkC.nd rfl rfl (sw_true rfl rfl rfl (by decide +kernel)) (pi_tup (pv 1)) (blkOk_by (own := [("bits", 2)]) (N := ["group", "gauge_bits", "bits", "pairs"]) (sc := defScope sCkC) (by decide +kernel)) (fun _ _ _ _ _ => pg_name (i := 2) scCkC.nd rfl (Or.inl rfl)) (fun _ _ _ _ _ => pts_nil)
        (fun _ _ _ _ _ => pe_tup (pa_cons (pe_call GX hr (by rfl) gX FX.kp bX .nil pass0 (pa_cons (pe_fldK K rfl (pv 0) rfl) (pa_cons (pv 2) (pa_cons (pv 1) pa_nil)))) (pa_cons (pv 2) pa_nil))))
      (pss_one (ps_for PassesOwn.never rfl (pi_list (pe_call GR hr (by rfl) gR FR.kp bR .nil pass0 (pa_cons (pv 3) pa_nil))) (pg_name (i := 2) scCkC.nd rfl (.inl rfl))
        (pss_one (ps_if (pt_truth (pe_call GB hr (by rfl) gB FB.kp bB .nil pass0 (pa_cons (pv 2) (pa_cons (pe_fld (pv 0) rfl) pa_nil))) (by intro _; rfl)) pss_never pss_nil)))), ?_⟩
    refine ⟨fun σ' H' => ∃ (D : Addr) (N : List (Addr × Nat × Nat)), σ' = [some (.ref g), some (.ref t), none, some (.ref D)] ∧ Same H H' ∧ H' D = some (.lst (refV N)) ∧ PrsAt n gs H' gs N, ?_, ?_⟩
    · refine ⟨_, rfl, t, rfl, ⟨_, SqT.of et⟩, fun D nD => ?_⟩
      refine lc_tup (K := K) (a := t) (xs := natV gs) (Pv := fun j Hc => Same H Hc ∧ ∃ N : List (Addr × Nat × Nat), Hc D = some (.lst (refV N)) ∧ PrsAt n gs Hc (gs.take j) N) ⟨same_new nD, [], upd_same, fun p hp => (by cases hp), rfl⟩ (fun j Hc _ ⟨sc, _⟩ => SqT.of (sc _ _ et)) ?_ ?_
      · rintro j y Hc hj ⟨sc, N, eD, hN⟩
        obtain ⟨b, hb', rfl⟩ := natV_at hj
        obtain ⟨dx, fs, p1, b1, r1, M', e, l1, l2, l3, l4, l5, l6, hp, hHl, hbb, hr1, hPs, eM⟩ := id (hG.same sc)
        refine ⟨rfl, _, rfl, g, CG, dx, fs, _, rfl, e, G.cl, G.nS, l1, _, rfl, _, rfl, n, b, t, gs, rfl, .inr (SqT.of (sc _ _ et)), hn, hb b (List.mem_of_getElem? hb'), _, rfl, by show 2 ≤ sizeLine; decide, fun T nT => ?_⟩
        have s2 := same_new (o := .tup [.int (nb 0 (crs n b gs) : Nat), .int (b : Nat)]) nT
        have eD' := s2 _ _ eD
        refine ⟨refV N, eD', ?_, same_put0 (sc.trans s2) nD, N ++ [(T, nb 0 (crs n b gs), b)], ?_, ?_⟩
        · rw [refV_len, hN.len, List.length_take]
          exact Nat.lt_of_le_of_lt (by omega : _ ≤ 100) (by decide)
        · rw [upd_same, refV_app]
          rfl
        · rw [take_snoc hb']
          exact (hN.same s2).snoc eD' upd_same
      · rintro Hc ⟨sc, N, eD, hN⟩
        rw [natV_len, List.take_length] at hN
        exact ⟨D, N, rfl, sc, eD, hN⟩
    rintro _ H1 ⟨D, N, rfl, s1, eD, hN⟩
    refine ⟨_, rfl, D, N, phC n gs, rfl, SqL.of eD, hN.1, by rw [hN.len]; exact hl, phC_lin n gs, hN.fit hb, fun H2 l F s2 nl el R lF _ => ?_⟩
    refine ⟨l, rfl, ⟨_, SqL.of el⟩, for_list (K := K) (a := l) (xs := natV F) (fun i σ H' => (∃ v2 : Option V, σ = [some (.ref g), some (.ref t), v2, some (.ref D)]) ∧ H' = H2)
      ⟨⟨none, rfl⟩, rfl⟩ (fun i σ H' _ ⟨_, e⟩ => by rw [e]; exact SqL.of el) ?_ ?_⟩
    · rintro i y _ _ hi ⟨⟨v2, rfl⟩, rfl⟩
      obtain ⟨b, hb', rfl⟩ := natV_at hi
      have hm := List.mem_of_getElem? hb'
      obtain ⟨dx, fs, p1, b1, r1, M', e, l1, l2, l3, l4, l5, l6, hp, hHl, hbb, hr1, hPs, eM⟩ := id (hG.same (s1.trans s2))
      have sp := R.span b hm
      rw [hN.mk] at sp
      have z : rst (gbs M) b = 0 := (spn_rst hR.ec b).mp (hc b sp ((phC_iff (spn_lt hb sp)).mp (R.zero b hm)))
      refine ⟨_, rfl, _, rfl, g, CG, dx, fs, _, rfl, e, G.cl, G.nB, l3, b, b1, gbs M, rfl, .inr (SqT.of hbb), hR.nz, ?_⟩
      rw [z]
      exact ⟨_, rfl, iteF ⟨⟨_, rfl⟩, rfl⟩⟩
    · rintro σ _ ⟨_, rfl⟩
      exact q _ (s1.trans s2)
end
end KQ
namespace KQ
open PySem PySem.Spec PyProof.Rows L2
abbrev sCkH : Stmt := topS 58
abbrev sPart : Stmt := topS 61
abbrev sLM : Stmt := topS 53
theorem scCkH : FnScope ["size", "hidden", "barred", "index", "pair", "string", "one", "other"] ["size", "hidden", "barred"] (defScope sCkH) := ⟨rfl, rfl, rfl, by decide +kernel, rfl, by decide +kernel, by decide +kernel⟩
theorem scPart : FnScope ["hidden", "found", "one", "other"] ["hidden"] (defScope sPart) := ⟨rfl, rfl, rfl, by decide +kernel, rfl, by decide +kernel, by decide +kernel⟩
theorem scLM : FnScope ["size", "others", "found", "place", "bits", "one", "other"] ["size", "others"] (defScope sLM) := ⟨rfl, rfl, rfl, by decide +kernel, rfl, by decide +kernel, by decide +kernel⟩
/-- pairs of strings: the pair's own address, both strings -/
abbrev HPs := List (Addr × (Addr × List Nat × Nat) × (Addr × List Nat × Nat))
def refS (S : HPs) : List V := S.map fun s => V.ref s.1
theorem refS_len (S : HPs) : (refS S).length = S.length := List.length_map ..
theorem refS_at {S : HPs} {i : Nat} {v : V} (h : (refS S)[i]? = some v) : ∃ s, S[i]? = some s ∧ v = .ref s.1 := by
  unfold refS at h
  rw [List.getElem?_map] at h
  obtain ⟨s, hs, rfl⟩ := Option.map_eq_some_iff.mp h
  exact ⟨s, hs, rfl⟩
def HPAt (C : Addr) (H : Hp) (S : HPs) : Prop := ∀ s ∈ S, H s.1 = some (.tup [.ref s.2.1.1, .ref s.2.2.1]) ∧ PauliAt C H s.2.1.1 s.2.1.2.1 s.2.1.2.2 ∧ PauliAt C H s.2.2.1 s.2.2.2.1 s.2.2.2.2
theorem HPAt.same {C : Addr} {H H' : Hp} {S : HPs} (s : Same H H') (h : HPAt C H S) : HPAt C H' S := fun x hx => let ⟨a, b, c⟩ := h x hx; ⟨s _ _ a, b.same s, c.same s⟩
/-- a string of this size without i -/
structure GStr (n : Nat) (q : List Nat × Nat) : Prop where
  isl : ∀ c ∈ q.1, isL c = true
  ne : q.1 ≠ []
  len : q.1.length = n
  ph : q.2 % 2 = 0
  p4 : q.2 < 4
theorem GStr.lt {n : Nat} {q : List Nat × Nat} (h : GStr n q) : bL q.1 < 2 ^ (2 * n) := by
  have := bL_lt q.1
  rwa [h.len] at this
def HPOk (n : Nat) (S : HPs) : Prop := ∀ s ∈ S, GStr n s.2.1.2 ∧ GStr n s.2.2.2
def hb1 (s : Addr × (Addr × List Nat × Nat) × (Addr × List Nat × Nat)) : List Nat := [bL s.2.1.2.1, bL s.2.2.2.1]
def hbs (S : HPs) : List Nat := S.flatMap hb1
theorem hbs_snoc (S : HPs) (s : Addr × (Addr × List Nat × Nat) × (Addr × List Nat × Nat)) : hbs (S ++ [s]) = hbs S ++ hb1 s := by
  unfold hbs
  rw [List.flatMap_append]
  exact congrArg (_ ++ ·) (List.append_nil _)
theorem hbs_len : ∀ S : HPs, (hbs S).length = 2 * S.length
  | [] => rfl
  | s :: S => by
    show (hb1 s ++ hbs S).length = 2 * (S.length + 1)
    rw [List.length_append, hbs_len S]
    show 2 + 2 * S.length = _
    omega
/-- each pair commutes with what is barred and with the pairs ahead, and both of it anticommute -/
def HidOk (n : Nat) (bs : List Nat) (S : HPs) : Prop := ∀ (i : Nat) s, S[i]? = some s → Even n (bL s.2.1.2.1) (bs ++ hbs (S.take i)) ∧ Even n (bL s.2.2.2.1) (bs ++ hbs (S.take i)) ∧ cx n (bL s.2.1.2.1) (bL s.2.2.2.1) = 1
def spCkH (C : Addr) : Sp := fun vs H Q _ => ∃ (n : Nat) (t b : Addr) (S : HPs) (bs : List Nat), vs = [.int (n : Nat), .ref t, .ref b] ∧ H t = some (.tup (refS S)) ∧ HPAt C H S ∧ HPOk n S ∧ H b = some (.lst (natV bs)) ∧ n ≤ 300 ∧ bs.length + 2 * S.length ≤ 200 ∧
  HidOk n bs S ∧ ∀ H', Same H H' → Q .non H'
def spPart (C : Addr) : Sp := fun vs H Q _ => ∃ (n : Nat) (t : Addr) (S : HPs), vs = [.ref t] ∧ H t = some (.tup (refS S)) ∧ HPAt C H S ∧ HPOk n S ∧ n ≤ 300 ∧ S.length ≤ 100 ∧
  ∀ H' l os, Same H H' → H l = none → H' l = some (.lst (natV os)) → os.length = 2 * S.length → Q (.ref l) H'
def spLM : Sp := fun vs H Q _ => ∃ (n : Nat) (a : Addr) (os : List Nat), vs = [.int (n : Nat), .ref a] ∧ H a = some (.lst (natV os)) ∧ n ≤ 300 ∧ ∀ H' t, Same H H' → Q (.ref t) H'
section
variable {P : Program} {w : World} {K : PySem.W.Frag} {mg : Str → Option Value} {base : Heap}
theorem ok_ckh {f fX fH fP fB C fI fE : Addr} {fd dX dH dP dB : FuncData} {k : Nat} (F : Fun K "_check_hidden" "_check_hidden" sCkH f fd)
    (FX : Fun K "crossing" "crossing" sCrossg fX dX) (bX : Binds K dX ["size", "bits", "others"] []) (gX : mg "crossing" = some (.ref fX))
    (FH : Fun K "second_half" "second_half" sHalf fH dH) (bH : Binds K dH ["size", "bits"] []) (gH : mg "second_half" = some (.ref fH))
    (FP : Fun K "parity" "parity" sPar fP dP) (bP : Binds K dP ["number"] []) (gP : mg "parity" = some (.ref fP))
    (FB : Fun K "bits_of" "bits_of" sBof fB dB) (bB : Binds K dB ["string"] []) (gB : mg "bits_of" = some (.ref fB)) (N : PCl K mg C fI fE) (B : Bl mg) :
    FnOk P w K mg base CX0 (k + 3) f fd ["size", "hidden", "barred"] (spCkH C) := by
  have GX : FnOk P w K mg base CX0 (k + 2) fX dX ["size", "bits", "others"] (spCrossg K) := ok_crossg FX FH bH gH FP bP gP
  have GB : FnOk P w K mg base CX0 (k + 2) fB dB ["string"] (spBof C) := ok_bof FB N B
  refine F.ok scCkH (fun vs H Q E h => ?_) (fun cdv A outer s H vs Q E hr h => ?_)
  · obtain ⟨n, t, b, S, bs, rfl, _⟩ := h
    rfl
  · obtain ⟨n, t, b, S, bs, rfl, et, hS, hO, eb, hn, hl, hid, q⟩ := h
    refine ⟨_, C8.pss_cut (ps_for PassesOwn.never rfl (pi_enumT (by rfl) B.enum (pa_cons (pv 1) pa_nil)) (pg_tup rfl (pgs_cons (pg_name (i := 3) scCkH.nd rfl (.inl rfl)) (pgs_cons (pg_name (i := 4) scCkH.nd rfl (.inl rfl)) pgs_nil)))
        (C8.pss_cut (ps_if (pt_truth (pe_lc (own := [("string", 5)]) (g := gName 5) (by rfl) scCkH.nd (pi_tup (pv 4)) (blkOk_by (own := [("string", 5)]) (N := ["size", "hidden", "barred", "index", "pair", "string", "one", "other"]) (sc := defScope sCkH) (by decide +kernel))
            (fun _ _ _ _ _ => pg_name (i := 5) scCkH.nd rfl (Or.inl rfl)) (fun _ _ _ _ _ => pts_one (PW.pt (pw_or (pt_cmpR op_ne (pe_fldK K rfl (pv 5) rfl) (pv 0) (nomark _)) (pw_or1 (pt_cmpR op_eq (pe_op op_mod (pe_fldK K rfl (pv 5) rfl) pe_int) pe_int (nomark _)))))) (fun _ _ _ _ _ => pv 5)) (by intro _; rfl)) pss_never pss_nil)
        (C8.pss_cut (ps_asg (pe_lc (own := [("string", 5)]) (g := gName 5) (by rfl) scCkH.nd (pi_tup (pv 4)) (blkOk_by (own := [("string", 5)]) (N := ["size", "hidden", "barred", "index", "pair", "string", "one", "other"]) (sc := defScope sCkH) (by decide +kernel))
            (fun _ _ _ _ _ => pg_name (i := 5) scCkH.nd rfl (Or.inl rfl)) (fun _ _ _ _ _ => pts_nil) (fun _ _ _ _ _ => pe_call GB hr (by rfl) gB FB.kp bB .nil pass0 (pa_cons (pv 5) pa_nil))) (pg_unl rfl (pgs_cons (pg_name (i := 6) scCkH.nd rfl (.inl rfl)) (pgs_cons (pg_name (i := 7) scCkH.nd rfl (.inl rfl)) pgs_nil))))
        (C8.pss_cut (ps_if (PW.pt (pw_or (pt_truth (pe_call GX hr (by rfl) gX FX.kp bX .nil pass0 (pa_cons (pv 0) (pa_cons (pv 6) (pa_cons (pv 2) pa_nil)))) (by intro _; rfl)) (pw_or (pt_truth (pe_call GX hr (by rfl) gX FX.kp bX .nil pass0 (pa_cons (pv 0) (pa_cons (pv 7) (pa_cons (pv 2) pa_nil)))) (by intro _; rfl))
            (pw_or1 (pt_not (pt_truth (pe_call GX hr (by rfl) gX FX.kp bX .nil pass0 (pa_cons (pv 0) (pa_cons (pv 6) (pa_cons (pe_lst (pa_cons (pv 7) pa_nil)) pa_nil)))) (by intro _; rfl))))))) pss_never pss_nil)
        (pss_one (ps_set (i := 2) scCkH.nd rfl (.inl rfl) (pe_lst (StX.pa_star (pv 2) (pa_cons (pv 6) (pa_cons (pv 7) pa_nil))))))))))
      pss_nil, ?_⟩
    refine ⟨fun σ' H' => Same H H', ?_, ?_⟩
    · refine ⟨_, rfl, t, _, rfl, SqT.of et, L2.for_it (walk_enumt K t (refS S)) (fun i σ H' => ∃ (b' : Addr) (v3 v4 v5 v6 v7 : Option V), σ = [some (.int (n : Nat)), some (.ref t), some (.ref b'), v3, v4, v5, v6, v7] ∧ Same H H' ∧ H' b' = some (.lst (natV (bs ++ hbs (S.take i)))))
        ⟨b, none, none, none, none, none, rfl, fun _ _ e => e, by rw [List.take_zero]; show H b = some (.lst (natV (bs ++ []))); rw [List.append_nil]; exact eb⟩ (fun i σ H' _ ⟨_, _, _, _, _, _, _, s1, _⟩ => SqT.of (s1 _ _ et)) ?_ ?_⟩
      · rintro j x _ H2 H3 hj ⟨b', v3, v4, v5, v6, v7, rfl, s1, eb'⟩ ⟨T, x1, x2, rfl, nT, rfl, g1, g2⟩
        cases Option.some.inj g1
        obtain ⟨r, hr', rfl⟩ := refS_at g2
        have hm := List.mem_of_getElem? hr'
        have jl := (List.getElem?_eq_some_iff.mp hr').1
        have s3' := same_new (o := .tup [.int (j : Nat), .ref r.1]) nT
        have eT : (upd H2 T (.tup [.int (j : Nat), .ref r.1])) T = some (.tup [.int (j : Nat), .ref r.1]) := upd_same
        have s3 := s1.trans s3'
        have eb3 := s3' _ _ eb'
        generalize upd H2 T (.tup [.int (j : Nat), .ref r.1]) = H3 at s3 eT eb3 ⊢
        refine ⟨T, _, rfl, .inl (.inl eT), rfl, _, _, rfl, _, _, rfl, rfl, ?_⟩
        obtain ⟨er, pa, pb⟩ := hS.same s3 r hm
        obtain ⟨oa, ob⟩ := hO r hm
        have both : ∀ {i : Nat} {y : V}, [V.ref r.2.1.1, V.ref r.2.2.1][i]? = some y → ∃ (a : Addr) (R : List Nat) (p : Nat), y = .ref a ∧ PauliAt C H3 a R p ∧ GStr n (R, p) ∧ (hb1 r)[i]? = some (bL R) := fun {i y} e => by
          match i with
          | 0 => exact ⟨_, _, _, (Option.some.inj e).symm, pa, oa, rfl⟩
          | 1 => exact ⟨_, _, _, (Option.some.inj e).symm, pb, ob, rfl⟩
          | i + 2 => cases e
        refine ⟨fun σ' H' => σ' = [some (.int (n : Nat)), some (.ref t), some (.ref b'), some (.int (j : Nat)), some (.ref r.1), v5, v6, v7] ∧ Same H3 H', ?_, ?_⟩
        · refine ⟨_, rfl, r.1, rfl, ⟨_, SqT.of er⟩, fun D nD => ?_⟩
          refine lc_tup (K := K) (a := r.1) (xs := [.ref r.2.1.1, .ref r.2.2.1]) (Pv := fun i Hc => Same H3 Hc ∧ Hc D = some (.lst [])) ⟨same_new nD, upd_same⟩ (fun i Hc _ ⟨sc, _⟩ => SqT.of (sc _ _ er)) ?_ ?_
          · rintro i y Hc hi ⟨sc, eD⟩
            obtain ⟨a, R, p, rfl, pR, oR, _⟩ := both hi
            obtain ⟨dy, gs, e', k1, k2, k3, k4⟩ := id (pR.same sc)
            refine ⟨rfl, _, rfl, a, C, dy, gs, _, rfl, e', N.cl, N.nS, k3, _, rfl, rfl, false, ?_, ?_⟩
            · rw [oR.len]
              exact congrArg V.bl (by rw [decide_eq_true rfl]; rfl)
            refine iteF ⟨_, rfl, a, C, dy, gs, _, rfl, e', N.cl, N.nP, k2, _, _, rfl, rfl, (by show (0 : Int) < 2; decide), rfl, false, ?_, iteF ⟨sc, eD⟩⟩
            exact congrArg V.bl (decide_eq_false fun z => by
              have e2 : (p : Int) % 2 = 1 := V.int.inj z
              have := oR.ph
              omega)
          · rintro Hc ⟨sc, eD⟩
            exact ⟨false, .inl ⟨[], SqL.of eD, rfl⟩, iteF ⟨rfl, sc⟩⟩
        rintro _ H4 ⟨rfl, s4⟩
        refine ⟨fun σ' H' => σ' = [some (.int (n : Nat)), some (.ref t), some (.ref b'), some (.int (j : Nat)), some (.ref r.1), v5, some (.int (bL r.2.1.2.1 : Nat)), some (.int (bL r.2.2.2.1 : Nat))] ∧ Same H4 H', ?_, ?_⟩
        · refine ⟨_, rfl, r.1, rfl, ⟨_, SqT.of (s4 _ _ er)⟩, fun D nD => ?_⟩
          refine lc_tup (K := K) (a := r.1) (xs := [.ref r.2.1.1, .ref r.2.2.1]) (Pv := fun i Hc => Same H4 Hc ∧ Hc D = some (.lst (natV ((hb1 r).take i)))) ⟨same_new nD, upd_same⟩ (fun i Hc _ ⟨sc, _⟩ => SqT.of (sc _ _ (s4 _ _ er))) ?_ ?_
          · rintro i y Hc hi ⟨sc, eD⟩
            obtain ⟨a, R, p, rfl, pR, oR, hq⟩ := both hi
            refine ⟨rfl, _, rfl, a, R, p, rfl, (pR.same s4).same sc, oR.isl, oR.ne, by rw [oR.len]; exact hn, fun H' s' => ⟨_, s' _ _ eD, ?_, same_put0 (sc.trans s') nD, ?_⟩⟩
            · rw [natV_len, List.length_take]
              exact Nat.lt_of_le_of_lt (Nat.le_trans (Nat.min_le_right _ _) (by show 2 ≤ 2; decide)) (by decide : 2 < sizeLine)
            · rw [upd_same, take_snoc hq, natV_app]
              rfl
          · rintro Hc ⟨sc, eD⟩
            exact ⟨D, _, rfl, SqL.of eD, rfl, _, _, rfl, _, _, rfl, rfl, rfl, sc⟩
        rintro _ H5 ⟨rfl, s5⟩
        obtain ⟨c1, c2, c3⟩ := hid j r hr'
        have eb5 := s5 _ _ (s4 _ _ eb3)
        refine ⟨fun σ' H' => σ' = [some (.int (n : Nat)), some (.ref t), some (.ref b'), some (.int (j : Nat)), some (.ref r.1), v5, some (.int (bL r.2.1.2.1 : Nat)), some (.int (bL r.2.2.2.1 : Nat))] ∧ Same H5 H', ?_, ?_⟩
        · refine ⟨_, rfl, _, rfl, _, rfl, n, bL r.2.1.2.1, b', _, rfl, .inl (SqL.of eb5), hn, oa.lt, ?_⟩
          show ∃ k, TruV K (.int (nb 0 (crs n (bL r.2.1.2.1) _) : Nat)) _ k ∧ _
          rw [crs_iff.mpr c1]
          refine ⟨false, rfl, iteF ⟨_, rfl, _, rfl, _, rfl, n, bL r.2.2.2.1, b', _, rfl, .inl (SqL.of eb5), hn, ob.lt, ?_⟩⟩
          show ∃ k, TruV K (.int (nb 0 (crs n (bL r.2.2.2.1) _) : Nat)) _ k ∧ _
          rw [crs_iff.mpr c2]
          refine ⟨false, rfl, iteF ⟨_, rfl, _, rfl, _, rfl, by show 1 ≤ sizeLine; decide, fun l nl => ⟨n, bL r.2.1.2.1, l, [bL r.2.2.2.1], rfl, .inl (SqL.of upd_same), hn, oa.lt, ?_⟩⟩⟩
          have e1 : nb 0 (crs n (bL r.2.1.2.1) [bL r.2.2.2.1]) = 1 := by
            show 2 * 0 + cx n (bL r.2.1.2.1) (bL r.2.2.2.1) = 1
            rw [c3]
          show ∃ k, TruV K (.int (nb 0 (crs n (bL r.2.1.2.1) [bL r.2.2.2.1]) : Nat)) _ k ∧ _
          rw [e1]
          exact ⟨true, rfl, iteF ⟨rfl, same_new nl⟩⟩
        rintro _ H6 ⟨rfl, s6⟩
        have eb6 := s6 _ _ eb5
        have ln : (bs ++ hbs (S.take j)).length ≤ 200 := by
          rw [List.length_append, hbs_len, List.length_take]
          omega
        refine ⟨_, rfl, b', _, rfl, .inr (SqL.of eb6), _, rfl, _, rfl, ?_, fun l nl => ⟨l, _, _, _, _, _, rfl, (((s3.trans s4).trans s5).trans s6).trans (same_new nl), ?_⟩⟩
        · rw [List.length_append, natV_len]
          exact Nat.le_trans (by show _ + 2 ≤ 202; omega) (by decide : 202 ≤ sizeLine)
        · rw [upd_same, take_snoc hr', hbs_snoc, ← List.append_assoc, natV_app (bs ++ _)]
          rfl
      · rintro σ H2 ⟨_, _, _, _, _, _, _, s1, _⟩
        exact s1
    rintro σ H2 s2
    exact q _ s2
theorem ok_part {f fB C fI fE : Addr} {fd dB : FuncData} {k : Nat} (F : Fun K "_partners" "_partners" sPart f fd) (FB : Fun K "bits_of" "bits_of" sBof fB dB) (bB : Binds K dB ["string"] []) (gB : mg "bits_of" = some (.ref fB)) (N : PCl K mg C fI fE) (B : Bl mg) :
    FnOk P w K mg base CX0 (k + 2) f fd ["hidden"] (spPart C) := by
  have GB : FnOk P w K mg base CX0 (k + 1) fB dB ["string"] (spBof C) := ok_bof FB N B
  refine F.ok scPart (fun vs H Q E h => ?_) (fun cdv A outer s H vs Q E hr h => ?_)
  · obtain ⟨n, t, S, rfl, _⟩ := h
    rfl
  · obtain ⟨n, t, S, rfl, et, hS, hO, hn, hl, q⟩ := h
    refine ⟨_, C8.pss_cut (ps_set (i := 1) scPart.nd rfl (.inl rfl) (pe_lst pa_nil))
      (C8.pss_cut (ps_for PassesOwn.never rfl (pi_tup (pv 0)) (pg_tup rfl (pgs_cons (pg_name (i := 2) scPart.nd rfl (.inl rfl)) (pgs_cons (pg_name (i := 3) scPart.nd rfl (.inl rfl)) pgs_nil)))
        (pss_cons (ps_expr (pe_bm PySem.F.plainAttrs_list PySem.F.slot_list_append PySem.F.type_list_append mt_append (pv 1) (pa_cons (pe_call GB hr (by rfl) gB FB.kp bB .nil pass0 (pa_cons (pv 3) pa_nil)) pa_nil)))
        (pss_one (ps_expr (pe_bm PySem.F.plainAttrs_list PySem.F.slot_list_append PySem.F.type_list_append mt_append (pv 1) (pa_cons (pe_call GB hr (by rfl) gB FB.kp bB .nil pass0 (pa_cons (pv 2) pa_nil)) pa_nil))))))
      (pss_one (ps_ret (pv 1)))), ?_⟩
    refine ⟨fun σ' H' => ∃ fo, σ' = [some (.ref t), some (.ref fo), none, none] ∧ Same H H' ∧ H fo = none ∧ H' fo = some (.lst []), ⟨by show 0 ≤ sizeLine; decide, fun l nl => ⟨l, rfl, same_new nl, nl, upd_same⟩⟩, ?_⟩
    rintro _ H1 ⟨fo, rfl, s1, nf, ef⟩
    refine ⟨fun σ' H' => ∃ (v2 v3 : Option V) (os : List Nat), σ' = [some (.ref t), some (.ref fo), v2, v3] ∧ Same H H' ∧ H' fo = some (.lst (natV os)) ∧ os.length = 2 * S.length, ?_, ?_⟩
    · refine ⟨_, rfl, t, rfl, ⟨_, SqT.of (s1 _ _ et)⟩, for_tup (K := K) (a := t) (xs := refS S) (fun i σ' H' => ∃ (v2 v3 : Option V) (os : List Nat), σ' = [some (.ref t), some (.ref fo), v2, v3] ∧ Same H H' ∧ H' fo = some (.lst (natV os)) ∧ os.length = 2 * i)
        ⟨none, none, [], rfl, s1, ef, rfl⟩ (fun i σ' H' _ ⟨_, _, _, _, s2, _⟩ => SqT.of (s2 _ _ et)) ?_ ?_⟩
      · rintro i y _ H2 hi ⟨v2, v3, os, rfl, s2, ef2, lo⟩
        obtain ⟨r, hr', rfl⟩ := refS_at hi
        have hm := List.mem_of_getElem? hr'
        have il := (List.getElem?_eq_some_iff.mp hr').1
        obtain ⟨er, pa, pb⟩ := hS.same s2 r hm
        obtain ⟨oa, ob⟩ := hO r hm
        have nfz : ∀ {G : Hp} {z : Addr} {R : List Nat} {p : Nat} {o : HO}, PauliAt C G z R p → G fo = some (.lst (natV os)) → PauliAt C (upd G fo o) z R p := fun h e => h.put e
        refine ⟨r.1, _, rfl, .inl (.inl er), rfl, _, _, rfl, _, _, rfl, rfl, ?_⟩
        refine ⟨_, rfl, .inl ⟨rfl, _, SqL.of ef2⟩, _, rfl, _, _, _, rfl, pb, ob.isl, ob.ne, by rw [ob.len]; exact hn, fun H3 s3 => ⟨fo, _, _, rfl, rfl, s3 _ _ ef2, ?_, ?_⟩⟩
        · rw [natV_len]
          exact Nat.lt_of_le_of_lt (by omega : _ ≤ 200) (by decide)
        have ef3 : (upd H3 fo (.lst (natV os ++ [V.int (bL r.2.2.2.1 : Nat)]))) fo = some (.lst (natV (os ++ [bL r.2.2.2.1]))) := by
          rw [upd_same, natV_app]
          rfl
        have pa3 := nfz (o := .lst (natV os ++ [V.int (bL r.2.2.2.1 : Nat)])) (pa.same s3) (s3 _ _ ef2)
        have s4 : Same H (upd H3 fo (.lst (natV os ++ [V.int (bL r.2.2.2.1 : Nat)]))) := same_put0 (s2.trans s3) nf
        generalize upd H3 fo (.lst (natV os ++ [V.int (bL r.2.2.2.1 : Nat)])) = H4 at ef3 pa3 s4 ⊢
        refine ⟨_, rfl, .inl ⟨rfl, _, SqL.of ef3⟩, _, rfl, _, _, _, rfl, pa3, oa.isl, oa.ne, by rw [oa.len]; exact hn, fun H5 s5 => ⟨fo, _, _, rfl, rfl, s5 _ _ ef3, ?_, _, _, os ++ [bL r.2.2.2.1] ++ [bL r.2.1.2.1], rfl, same_put0 (s4.trans s5) nf, ?_, ?_⟩⟩
        · rw [natV_len, List.length_append, List.length_singleton]
          exact Nat.lt_of_le_of_lt (by omega : _ ≤ 201) (by decide)
        · rw [upd_same, natV_app (os ++ [bL r.2.2.2.1])]
          rfl
        · rw [List.length_append, List.length_append, lo]
          show 2 * i + 1 + 1 = _
          omega
      · rintro _ H2 ⟨v2, v3, os, rfl, s2, ef2, lo⟩
        rw [refS_len] at lo
        exact ⟨v2, v3, os, rfl, s2, ef2, lo⟩
    rintro _ H2 ⟨v2, v3, os, rfl, s2, ef2, lo⟩
    exact ⟨_, rfl, q H2 fo os s2 nf ef2 lo⟩
theorem ok_lm {f fX fH fP fS : Addr} {fd dX dH dP dS : FuncData} {k : Nat} (F : Fun K "letter_marks" "letter_marks" sLM f fd)
    (FX : Fun K "crossing" "crossing" sCrossg fX dX) (bX : Binds K dX ["size", "bits", "others"] []) (gX : mg "crossing" = some (.ref fX))
    (FH : Fun K "second_half" "second_half" sHalf fH dH) (bH : Binds K dH ["size", "bits"] []) (gH : mg "second_half" = some (.ref fH))
    (FP : Fun K "parity" "parity" sPar fP dP) (bP : Binds K dP ["number"] []) (gP : mg "parity" = some (.ref fP))
    (FS : Fun K "single_bits" "single_bits" sSing fS dS) (bS : Binds K dS ["size", "places"] []) (gS : mg "single_bits" = some (.ref fS)) (B : Bl mg) :
    FnOk P w K mg base CX0 (k + 3) f fd ["size", "others"] spLM := by
  have GX : FnOk P w K mg base CX0 (k + 2) fX dX ["size", "bits", "others"] (spCrossg K) := ok_crossg FX FH bH gH FP bP gP
  have GS : FnOk P w K mg base CX0 (k + 2) fS dS ["size", "places"] spSing := ok_sing FS
  refine F.ok scLM (fun vs H Q E h => ?_) (fun cdv A outer s H vs Q E hr h => ?_)
  · obtain ⟨n, a, os, rfl, _⟩ := h
    rfl
  · obtain ⟨n, a, os, rfl, ea, hn, q⟩ := h
    refine ⟨_, C8.pss_cut (ps_set (i := 2) scLM.nd rfl (.inl rfl) (pe_lst pa_nil))
      (C8.pss_cut (ps_for PassesOwn.never rfl (pi_range1 (by rfl) B.range (pa_cons (pv 0) pa_nil)) (pg_name (i := 3) scLM.nd rfl (.inl rfl))
        (C8.pss_cut (ps_asg (pe_lc (own := [("bits", 4)]) (g := gName 4) (by rfl) scLM.nd (pi_list (pe_call GS hr (by rfl) gS FS.kp bS .nil pass0 (pa_cons (pv 0) (pa_cons (pe_lst (pa_cons (pv 3) pa_nil)) pa_nil)))) (blkOk_by (own := [("bits", 4)]) (N := ["size", "others", "found", "place", "bits", "one", "other"]) (sc := defScope sLM) (by decide +kernel))
            (fun _ _ _ _ _ => pg_name (i := 4) scLM.nd rfl (Or.inl rfl)) (fun _ _ _ _ _ => pts_nil) (fun _ _ _ _ _ => pe_call GX hr (by rfl) gX FX.kp bX .nil pass0 (pa_cons (pv 0) (pa_cons (pv 4) (pa_cons (pv 1) pa_nil))))) (pg_unl rfl (pgs_cons (pg_name (i := 5) scLM.nd rfl (.inl rfl)) (pgs_cons (pg_name (i := 6) scLM.nd rfl (.inl rfl)) pgs_nil))))
        (pss_one (ps_expr (pe_bm PySem.F.plainAttrs_list PySem.F.slot_list_append PySem.F.type_list_append mt_append (pv 2) (pa_cons (pe_disp (pps_cons pe_str pe_int (pps_cons pe_str (pv 5) (pps_cons pe_str (pe_op op_xor (pv 5) (pv 6)) (pps_cons pe_str (pv 6) pps_nil)))) (by rfl) (by rfl) (fun z => by cases z) (by decide)) pa_nil))))))
      (pss_one (ps_ret (pe_callTy call_tuple_of (by rfl) B.tuple bootT (pa_cons (pv 2) pa_nil))))), ?_⟩
    refine ⟨fun σ' H' => ∃ fo, σ' = [some (.int (n : Nat)), some (.ref a), some (.ref fo), none, none, none, none] ∧ Same H H' ∧ H fo = none ∧ H' fo = some (.lst []), ⟨by show 0 ≤ sizeLine; decide, fun l nl => ⟨l, rfl, same_new nl, nl, upd_same⟩⟩, ?_⟩
    rintro _ H1 ⟨fo, rfl, s1, nf, ef⟩
    refine ⟨fun σ' H' => ∃ (v3 v4 v5 v6 : Option V) (xs : List V), σ' = [some (.int (n : Nat)), some (.ref a), some (.ref fo), v3, v4, v5, v6] ∧ Same H H' ∧ H' fo = some (.lst xs), ?_, ?_⟩
    · refine ⟨_, rfl, _, rfl, by omega, by omega, ?_⟩
      rw [Int.toNat_natCast]
      refine for_range (lo := 0) (n := n) (fun i σ' H' => ∃ (v3 v4 v5 v6 : Option V) (xs : List V), σ' = [some (.int (n : Nat)), some (.ref a), some (.ref fo), v3, v4, v5, v6] ∧ Same H H' ∧ H' fo = some (.lst xs) ∧ xs.length ≤ i)
        ⟨none, none, none, none, [], rfl, s1, ef, Nat.le_refl _⟩ ?_ ?_
      rotate_left
      · rintro _ H2 ⟨v3, v4, v5, v6, xs, rfl, s2, e2, _⟩
        exact ⟨v3, v4, v5, v6, xs, rfl, s2, e2⟩
      rintro i _ H2 hi ⟨v3, v4, v5, v6, xs, rfl, s2, e2, lx⟩
      refine ⟨fun σ' H' => ∃ x z : Nat, σ' = [some (.int (n : Nat)), some (.ref a), some (.ref fo), some (.int (0 + (i : Nat))), v4, some (.int (x : Nat)), some (.int (z : Nat))] ∧ Same H2 H', ?_, ?_⟩
      · refine ⟨_, rfl, _, rfl, by show 1 ≤ sizeLine; decide, fun l nl => ?_⟩
        have ei : V.int (0 + (i : Nat)) = V.int (i : Nat) := by rw [Int.zero_add]
        have sl := same_new (o := .lst [V.int (0 + (i : Nat))]) nl
        have el : (upd H2 l (.lst [V.int (0 + (i : Nat))])) l = some (.lst (natV [i])) := by rw [upd_same, ei]; rfl
        generalize upd H2 l (.lst [V.int (0 + (i : Nat))]) = H3 at sl el ⊢
        refine ⟨n, l, [i], rfl, .inl el, hn, fun p hp => by rw [List.mem_singleton.mp hp]; exact hi, by show 1 ≤ 300; decide, fun H4 m s4 nm em => ?_⟩
        refine ⟨m, rfl, ⟨_, SqL.of em⟩, fun D nD => ?_⟩
        have s24 := sl.trans s4
        refine lc_list (K := K) (a := m) (xs := natV (singL n [i])) (Pv := fun j Hc => Same H4 Hc ∧ ∃ cs : List Nat, Hc D = some (.lst (natV cs)) ∧ cs.length = j) ⟨same_new nD, [], upd_same, rfl⟩ (fun j Hc _ ⟨sc, _⟩ => SqL.of (sc _ _ em)) ?_ ?_
        · rintro j y Hc hj ⟨sc, cs, eD, lc⟩
          obtain ⟨b, hb, rfl⟩ := natV_at hj
          have jl : j < 2 := (List.getElem?_eq_some_iff.mp hb).1
          have blt : b < 2 ^ (2 * n) := by
            rcases List.mem_cons.mp (List.mem_of_getElem? hb) with k' | k'
            · rw [k']
              exact Nat.pow_lt_pow_right (by decide) (by omega)
            · rw [List.mem_singleton.mp k']
              exact Nat.pow_lt_pow_right (by decide) (by omega)
          refine ⟨rfl, _, rfl, _, rfl, _, rfl, n, b, a, os, rfl, .inl (SqL.of (sc _ _ (s4 _ _ (sl _ _ (s2 _ _ ea))))), hn, blt, _, eD, ?_, same_put0 sc nD, cs ++ [nb 0 (crs n b os)], ?_, ?_⟩
          · rw [natV_len]
            exact Nat.lt_of_le_of_lt (by omega : _ ≤ 2) (by decide)
          · rw [upd_same, natV_app]
            rfl
          · rw [List.length_append, lc]
            rfl
        · rintro Hc ⟨sc, cs, eD, lc⟩
          match cs, lc with
          | [x, z], _ => exact ⟨D, _, rfl, SqL.of eD, rfl, _, _, rfl, _, _, rfl, rfl, x, z, rfl, s24.trans sc⟩
      rintro _ H3 ⟨x, z, rfl, s3⟩
      have e3 := s3 _ _ e2
      refine ⟨_, rfl, .inl ⟨rfl, _, SqL.of e3⟩, fun d nd => ⟨_, rfl, _, rfl, _, rfl, _, _, rfl, rfl, _, rfl, upd_same, [((.inr "I" : Key), V.int 0), (.inr "X", V.int (x : Nat)), (.inr "Y", _), (.inr "Z", V.int (z : Nat))], rfl, by show 4 ≤ 15; decide, ?_⟩⟩
      have df : fo ≠ d := ne_of_none e3 nd
      refine ⟨fo, xs, _, rfl, rfl, ?_, ?_, _, _, _, _, _, rfl, ?_, upd_same, ?_⟩
      · rw [upd_ne df, upd_ne df]
        exact e3
      · exact Nat.lt_of_le_of_lt (by omega : _ ≤ 300) (by decide)
      · intro b o e
        have e' := s3 _ _ (s2 _ _ e)
        have bd := ne_of_none e' nd
        rw [upd_ne (ne_of_none e nf), upd_ne bd, upd_ne bd]
        exact e'
      · rw [List.length_append, List.length_singleton]
        omega
    rintro _ H2 ⟨v3, v4, v5, v6, xs, rfl, s2, e2⟩
    exact ⟨_, rfl, fo, _, rfl, .inl ⟨SqL.of e2, fun l nl => q _ _ (s2.trans (same_new nl))⟩⟩
end
end KQ
namespace KQ
open PySem PySem.Spec PyProof.Rows L2
abbrev sCI : Stmt := inClass (topS 55) 0
theorem scCI : FnScope ["self", "size", "strings", "gauge", "hidden", "string", "pair"] ["self", "size", "strings", "gauge", "hidden"] (defScope sCI) := ⟨rfl, rfl, rfl, by decide +kernel, rfl, by decide +kernel, by decide +kernel⟩
def rTupK (K : PySem.W.Frag) : List V → Hp → VK → Prop := fun xs H Q => ∃ a ys, xs = [.ref a] ∧ SqT K H a ys ∧ Q (.ref a) H
theorem call_tupK {X : Cx} (K : PySem.W.Frag) (hK : X.K = K) : CallR X (.type "tuple") (rTupK K) := by
  subst hK
  exact call_tupleT
structure DCl (K : PySem.W.Frag) (mg : Str → Option Value) (C fI : Addr) : Prop where
  cl : Cls K C
  nGr : NoAttr K C "group"
  nS : NoAttr K C "size"
  nGa : NoAttr K C "gauge"
  nGB : NoAttr K C "gauge_bits"
  nGT : NoAttr K C "gauge_table"
  nGd : NoAttr K C "gauged"
  nK : NoAttr K C "kept"
  nH : NoAttr K C "hidden"
  nM : NoAttr K C "marks"
  mkf : Mk K C fI
  g : mg "Code" = some (.ref C)
/-- all defs below Code.__init__ that Group's do not rest on -/
structure DEnv (K : PySem.W.Frag) (mg : Str → Option Value) (CG fSy fCg fCc fCh fPt fLm fRn fRb fRl fSg : Addr) (dSy dCg dCc dCh dPt dLm dRn dRb dRl dSg : FuncData) : Prop where
  FSy : Fun K "syndrome_of" "Group.syndrome_of" sSyn fSy dSy
  bSy : Binds K dSy ["self", "string"] []
  mSy : Meth K CG "syndrome_of" fSy
  FCg : Fun K "_check_gauge" "_check_gauge" sCkG fCg dCg
  bCg : Binds K dCg ["group", "gauge"] []
  gCg : mg "_check_gauge" = some (.ref fCg)
  FCc : Fun K "_check_centre" "_check_centre" sCkC fCc dCc
  bCc : Binds K dCc ["group", "gauge_bits"] []
  gCc : mg "_check_centre" = some (.ref fCc)
  FCh : Fun K "_check_hidden" "_check_hidden" sCkH fCh dCh
  bCh : Binds K dCh ["size", "hidden", "barred"] []
  gCh : mg "_check_hidden" = some (.ref fCh)
  FPt : Fun K "_partners" "_partners" sPart fPt dPt
  bPt : Binds K dPt ["hidden"] []
  gPt : mg "_partners" = some (.ref fPt)
  FLm : Fun K "letter_marks" "letter_marks" sLM fLm dLm
  bLm : Binds K dLm ["size", "others"] []
  gLm : mg "letter_marks" = some (.ref fLm)
  FRn : Fun K "reduced_numbers" "reduced_numbers" sRedN fRn dRn
  bRn : Binds K dRn ["numbers"] []
  gRn : mg "reduced_numbers" = some (.ref fRn)
  FRb : Fun K "rest_by" "rest_by" sRestBy fRb dRb
  bRb : Binds K dRb ["number", "table"] []
  gRb : mg "rest_by" = some (.ref fRb)
  FRl : Fun K "relations" "relations" sRel fRl dRl
  bRl : Binds K dRl ["pairs"] []
  gRl : mg "relations" = some (.ref fRl)
  FSg : Fun K "single_bits" "single_bits" sSing fSg dSg
  bSg : Binds K dSg ["size", "places"] []
  gSg : mg "single_bits" = some (.ref fSg)
/-- fields that are known -/
def Flds (fs : List (Str × V)) (L : List (Str × V)) : Prop := ∀ p ∈ L, fs.lookup p.1 = some p.2
theorem Flds.put {fs L : List (Str × V)} {f : Str} (v : V) (h : Flds fs L) (no : (L.map Prod.fst).contains f = false) : Flds (putF f v fs) ((f, v) :: L) := fun p hp => by
  rw [lookup_putF]
  rcases List.mem_cons.mp hp with k | k
  · rw [k, if_pos rfl]
  · rw [if_neg fun z => ?_]
    · exact h p k
    · have : (L.map Prod.fst).contains f = true := List.contains_iff_mem.mpr (z ▸ List.mem_map_of_mem (f := Prod.fst) k)
      rw [no] at this
      cases this
theorem GroupAt.but {CG C CD a dxa : Addr} {fsa : List (Str × V)} {H H' : Hp} {g : Addr} {n : Nat} {M : GLs} (ea : H a = some (.ins CD dxa fsa)) (b : But a H H') (n1 : CG ≠ CD) (n2 : C ≠ CD) (h : GroupAt CG C H g n M) : GroupAt CG C H' g n M := by
  obtain ⟨dx, fs, p, b1, r, M', e, l1, l2, l3, l4, l5, l6, hp, hM, hb, hr, hP, eM⟩ := h
  have tp : ∀ {x : Addr} {xs : List V}, H x = some (.tup xs) → H' x = some (.tup xs) := fun e => b _ _ (ne_of e ea fun z => by cases z) e
  refine ⟨dx, fs, p, b1, r, M', b _ _ (ne_of e ea fun z => n1 (HO.ins.inj z).1) e, l1, l2, l3, l4, l5, l6, tp hp, hM.but ea b, tp hb, tp hr, fun q hq => ?_, eM⟩
  obtain ⟨dx', fs', e1, e2⟩ := hP q hq
  exact ⟨dx', fs', b _ _ (ne_of e1 ea fun z => n2 (HO.ins.inj z).1) e1, e2⟩
theorem PauliAt.but {C CD a dxa : Addr} {fsa : List (Str × V)} {H H' : Hp} {x : Addr} {R : List Nat} {p : Nat} (ea : H a = some (.ins CD dxa fsa)) (b : But a H H') (n2 : C ≠ CD) (h : PauliAt C H x R p) : PauliAt C H' x R p := by
  obtain ⟨dx', fs', e1, e2⟩ := h
  exact ⟨dx', fs', b _ _ (ne_of e1 ea fun z => n2 (HO.ins.inj z).1) e1, e2⟩
theorem HPAt.but {C CD a dxa : Addr} {fsa : List (Str × V)} {H H' : Hp} {S : HPs} (ea : H a = some (.ins CD dxa fsa)) (b : But a H H') (n2 : C ≠ CD) (h : HPAt C H S) : HPAt C H' S := fun s hs => by
  obtain ⟨e, p, q⟩ := h s hs
  exact ⟨b _ _ (ne_of e ea fun z => by cases z) e, p.but ea b n2, q.but ea b n2⟩
abbrev lbs (L : PLs) : List Nat := L.map fun q => bL q.2.1
theorem lbs_gs (L : PLs) : (gsOf L).map Prod.fst = lbs L := by
  unfold gsOf lbs
  rw [List.map_map]
  rfl
/-- what a made code holds -/
def CodeAt (CD CG C : Addr) (H : Hp) (a : Addr) (n : Nat) (M : GLs) (gb GT : List Nat) : Prop := ∃ dx fs g b t, H a = some (.ins CD dx fs) ∧ Flds fs [("size", .int (n : Nat)), ("group", .ref g), ("gauge_bits", .ref b), ("gauge_table", .ref t), ("kept", .int ((n : Int) - M.length - ((GT.length : Int) - M.length) / 2))] ∧ GroupAt CG C H g n M ∧ H b = some (.tup (natV gb)) ∧ H t = some (.tup (natV GT))
/-- strings, gauge strings and hidden pairs that make a code -/
structure CodeOk (n : Nat) (L Lg : PLs) (S : HPs) : Prop where
  n1 : 1 ≤ n
  n300 : n ≤ 300
  okL : PsOk L
  okG : PsOk Lg
  few : L.length + Lg.length ≤ 100
  fewS : S.length ≤ 50
  lenL : ∀ q ∈ L, q.2.1.length = n
  lenG : ∀ q ∈ Lg, q.2.1.length = n
  phL : ∀ q ∈ L, q.2.2 % 2 = 0
  phG : ∀ q ∈ Lg, q.2.2 % 2 = 0
  com : ∀ i j, i < j → j < L.length → xg n (lbs L) i j = 0
  good : ∀ i, i < L.length → Good n (gsOf L) i
  gau : ∀ b ∈ lbs Lg, Even n b (lbs L)
  cen : ∀ x, Spn (lbs Lg) x → Even n x (lbs Lg) → Spn (lbs L) x
  okS : HPOk n S
  hid : HidOk n (lbs L ++ lbs Lg) S
  dim : ∀ U V : List Nat, Ec U → (∀ x, Spn U x ↔ Spn (lbs L) x) → Ec V → (∀ x, Spn V x ↔ Spn (lbs L ++ lbs Lg) x) → U.length ≤ V.length ∧ (n : Int) - U.length - ((V.length : Int) - U.length) / 2 ≤ S.length
def spCI (CD CG C : Addr) : Sp := fun vs H Q _ => ∃ (a dx : Addr) (n : Nat) (ts gs hs : Addr) (L Lg : PLs) (S : HPs), vs = [.ref a, .int (n : Nat), .ref ts, .ref gs, .ref hs] ∧ H a = some (.ins CD dx []) ∧ H ts = some (.lst (refP L)) ∧ PsAt C H L ∧
  H gs = some (.lst (refP Lg)) ∧ PsAt C H Lg ∧ H hs = some (.lst (refS S)) ∧ HPAt C H S ∧ CodeOk n L Lg S ∧
  ∀ H' M GT, But a H H' → CodeAt CD CG C H' a n M (lbs Lg) GT → M.length ≤ 100 → Red (gbs M) → (∀ x, Spn (gbs M) x ↔ Spn (lbs L) x) → GT.length ≤ 600 → Red GT → (∀ x, Spn GT x ↔ Spn (lbs L ++ lbs Lg) x) → Q .non H'
theorem Even.le {n b : Nat} {T U : List Nat} (h : Even n b T) (s : ∀ x ∈ U, Spn T x) : Even n b U := fun x hx => h.spn (s x hx)
theorem HidOk.le {n : Nat} {T U : List Nat} {S : HPs} (h : HidOk n T S) (s : ∀ x ∈ U, Spn T x) : HidOk n U S := fun i r hr => by
  obtain ⟨a, b, c⟩ := h i r hr
  have k : ∀ x ∈ U ++ hbs (S.take i), Spn (T ++ hbs (S.take i)) x := fun x hx => by
    rcases List.mem_append.mp hx with q | q
    · exact spn_le (fun y hy => spn_mem (List.mem_append_left _ hy)) (s x q)
    · exact spn_mem (List.mem_append_right _ q)
  exact ⟨a.le k, b.le k, c⟩
/-- a code while it is made -/
structure Cs (C CG CD a dx : Addr) (n : Nat) (H0 : Hp) (g : Addr) (M : GLs) (k : Nat) (F : List (Str × V)) (H : Hp) : Prop where
  but : But a H0 H
  obj : ∃ fs, H a = some (.ins CD dx fs) ∧ fs.length ≤ k ∧ Flds fs F
  grp : GroupAt CG C H g n M
theorem Cs.same {C CG CD a dx g : Addr} {n k : Nat} {H0 H H' : Hp} {M : GLs} {F : List (Str × V)} (c : Cs C CG CD a dx n H0 g M k F H) (s : Same H H') : Cs C CG CD a dx n H0 g M k F H' :=
  ⟨c.but.trans (But.of s), let ⟨fs, e, l, f⟩ := c.obj; ⟨fs, s _ _ e, l, f⟩, c.grp.same s⟩
theorem Cs.put {C CG CD a dx g : Addr} {n k : Nat} {H0 H : Hp} {M : GLs} {F : List (Str × V)} {fs : List (Str × V)} {f : Str} (v : V) (n1 : CG ≠ CD) (n2 : C ≠ CD) (c : Cs C CG CD a dx n H0 g M k F H) (e : H a = some (.ins CD dx fs)) (no : (F.map Prod.fst).contains f = false) :
    Cs C CG CD a dx n H0 g M (k + 1) ((f, v) :: F) (upd H a (.ins CD dx (putF f v fs))) := by
  obtain ⟨fs', e', l, fl⟩ := c.obj
  rw [e] at e'
  obtain rfl : fs = fs' := (HO.ins.inj (Option.some.inj e')).2.2
  exact ⟨c.but.trans But.upd, ⟨_, upd_same, Nat.le_trans (putF_le _ _ _) (by omega), fl.put v no⟩, c.grp.but e But.upd n1 n2⟩
theorem Cs.tup {C CG CD a dx g : Addr} {n k : Nat} {H0 H : Hp} {M : GLs} {F : List (Str × V)} {p : Addr} {xs : List V} {o : HO} (c : Cs C CG CD a dx n H0 g M k F H) (e : H p = some (.tup xs)) : (upd H a o) p = some (.tup xs) := by
  obtain ⟨fs', e', _⟩ := c.obj
  rw [upd_ne (ne_of e e' fun z => by cases z)]
  exact e
theorem Cs.lst {C CG CD a dx g : Addr} {n k : Nat} {H0 H : Hp} {M : GLs} {F : List (Str × V)} {p : Addr} {xs : List V} {fs : List (Str × V)} (c : Cs C CG CD a dx n H0 g M k F H) (e0 : H0 a = some (.ins CD dx fs)) (e : H0 p = some (.lst xs)) : H p = some (.lst xs) :=
  c.but _ _ (ne_of e e0 fun z => by cases z) e
theorem red_few {T : List Nat} {n : Nat} (E : Ec T) (h : ∀ r ∈ T, r < 2 ^ (2 * n)) : T.length ≤ 2 * n := by
  have := free_len E h
  omega
section
variable {P : Program} {w : World} {K : PySem.W.Frag} {mg : Str → Option Value} {base : Heap}
set_option linter.unusedVariables false in
theorem ok_cinit {dvC : List V} {f CD CG fG : Addr} {fd dG : FuncData} {C CT CB fI fE fB fBN hA lA : Addr} {dB dBN : FuncData} {fIs fHo fBo fHp fPa fCr fSh fBt fLg fLn fCk fRt fSo fFr fLo fC : Addr} {dI dIs dHo dBo dHp dPa dCr dSh dBt dLg dLn dCk dRt dSo dFr dLo dC : FuncData} {fSy fCg fCc fCh fPt fLm fRn fRb fRl fSg : Addr} {dSy dCg dCc dCh dPt dLm dRn dRb dRl dSg : FuncData}
    (F : FunD K "__init__" "Code.__init__" (defArgs sCI) (defBody sCI) (defScope sCI) dvC [] f fd) (DC : DCl K mg CD f) (FG : Fun K "__init__" "Group.__init__" sGI fG dG) (bGI : Binds K dG ["self", "size", "strings"] []) (G : GCl K mg CG fG) (cne : C ≠ CG) (n1 : CG ≠ CD) (n2 : C ≠ CD)
    (T : GEnv K w mg C CT CB fI fE fB fBN hA lA dB dBN fIs fHo fBo fHp fPa fCr fSh fBt fLg fLn fCk fRt fSo fFr fLo fC dI dIs dHo dBo dHp dPa dCr dSh dBt dLg dLn dCk dRt dSo dFr dLo dC) (D : DEnv K mg CG fSy fCg fCc fCh fPt fLm fRn fRb fRl fSg dSy dCg dCc dCh dPt dLm dRn dRb dRl dSg) :
    FnOk P w K mg base (L2.CX P w) 10 f fd ["self", "size", "strings", "gauge", "hidden"] (spCI CD CG C) := by
  have GGI : FnOk P w K mg base (L2.CX P w) 8 fG dG ["self", "size", "strings"] (spGI K C CG) := ok_ginit FG G cne T
  have GCg : FnOk P w K mg base CX0 9 fCg dCg ["group", "gauge"] (spCkG CG C) := ok_ckg D.FCg D.FSy D.bSy D.mSy T.FCr T.bCr T.gCr T.FBt T.bBt T.gBt T.FSh T.bSh T.gSh T.FPa T.bPa T.gPa T.FBo T.bBo T.gBo T.N G T.B
  have GBo : FnOk P w K mg base CX0 9 fBo dBo ["string"] (spBof C) := ok_bof T.FBo T.N T.B
  have GCc : FnOk P w K mg base CX0 9 fCc dCc ["group", "gauge_bits"] (spCkC CG C) := ok_ckc D.FCc T.FCr T.bCr T.gCr T.FSh T.bSh T.gSh T.FPa T.bPa T.gPa D.FRl D.bRl D.gRl T.FLn T.bLn T.gLn D.FRb D.bRb D.gRb G T.B
  have GRn : FnOk P w K mg base CX0 9 fRn dRn ["numbers"] (spRedN K) := ok_redn D.FRn D.FRb D.bRb D.gRb T.B
  have GCh : FnOk P w K mg base CX0 9 fCh dCh ["size", "hidden", "barred"] (spCkH C) := ok_ckh D.FCh T.FCr T.bCr T.gCr T.FSh T.bSh T.gSh T.FPa T.bPa T.gPa T.FBo T.bBo T.gBo T.N T.B
  have GPt : FnOk P w K mg base CX0 9 fPt dPt ["hidden"] (spPart C) := ok_part D.FPt T.FBo T.bBo T.gBo T.N T.B
  have GLm : FnOk P w K mg base CX0 9 fLm dLm ["size", "others"] spLM := ok_lm D.FLm T.FCr T.bCr T.gCr T.FSh T.bSh T.gSh T.FPa T.bPa T.gPa D.FSg D.bSg D.gSg T.B
  refine FunD.ok (CX := L2.CX P w) F scCI (fun vs H Q E h => ?_) (fun cdv A outer s H vs Q E hr h => ?_)
  · obtain ⟨a, dx, n, ts, gs, hs, L, Lg, S, rfl, _⟩ := h
    rfl
  · obtain ⟨a, dx, n, ts, gs, hs, L, Lg, S, rfl, ea, ets, hPL, egs, hPG, ehs, hS, O, q⟩ := h
    refine ⟨_, C8.pss_cut (ps_fld (pv 0) (pe_make G.mkf GGI hr (by rfl) G.g bGI .nil (passes_call (takes_of rfl rfl rfl rfl) (fun _ _ _ _ h => h)) (pa_cons (pv 1) (pa_cons (pv 2) pa_nil))) rfl)
      (C8.pss_cut (ps_fld (pv 0) (pv 1) rfl)
      (C8.pss_cut (ps_fld (pv 0) (pe_callTy call_tuple_of (by rfl) T.B.tuple bootT (pa_cons (pv 3) pa_nil)) rfl)
      (C8.pss_cut (ps_expr (pe_call GCg hr (by rfl) D.gCg D.FCg.kp D.bCg .nil pass0 (pa_cons (pe_fld (pv 0) rfl) (pa_cons (pe_fld (pv 0) rfl) pa_nil))))
      (C8.pss_cut (ps_fld (pv 0) (pe_callTy call_tuple_of (by rfl) T.B.tuple bootT (pa_cons (pe_lc (own := [("string", 5)]) (g := gName 5) (by rfl) scCI.nd (pi_tup (pe_fld (pv 0) rfl)) (blkOk_by (own := [("string", 5)]) (N := ["self", "size", "strings", "gauge", "hidden", "string", "pair"]) (sc := defScope sCI) (by decide +kernel))
          (fun _ _ _ _ _ => pg_name (i := 5) scCI.nd rfl (Or.inl rfl)) (fun _ _ _ _ _ => pts_nil) (fun _ _ _ _ _ => pe_call GBo hr (by rfl) T.gBo T.FBo.kp T.bBo .nil pass0 (pa_cons (pv 5) pa_nil))) pa_nil)) rfl)
      (C8.pss_cut (ps_expr (pe_call GCc hr (by rfl) D.gCc D.FCc.kp D.bCc .nil pass0 (pa_cons (pe_fld (pv 0) rfl) (pa_cons (pe_fld (pv 0) rfl) pa_nil))))
      (C8.pss_cut (ps_fld (pv 0) (pe_callTy call_tuple_of (by rfl) T.B.tuple bootT (pa_cons (pe_call GRn hr (by rfl) D.gRn D.FRn.kp D.bRn .nil pass0 (pa_cons (pe_lst (StX.pa_star (pe_fld (pe_fld (pv 0) rfl) rfl) (StX.pa_star (pe_fld (pv 0) rfl) pa_nil))) pa_nil)) pa_nil)) rfl)
      (C8.pss_cut (ps_fld (pv 0) (pe_op op_fdiv (pe_op op_sub (pe_callB call_len_seq (by rfl) T.B.len PySem.boot_len (pa_cons (pe_fld (pv 0) rfl) pa_nil)) (pe_fld (pe_fld (pv 0) rfl) rfl)) pe_int) rfl)
      (C8.pss_cut (ps_fld (pv 0) (pe_op op_sub (pe_op op_sub (pv 1) (pe_fld (pe_fld (pv 0) rfl) rfl)) (pe_fld (pv 0) rfl)) rfl)
      (C8.pss_cut (ps_if (pt_cmpR op_isN (pv 4) pe_non (nomark _)) pss_never
        (C8.pss_cut (ps_fld (pv 0) (pe_callTy call_tuple_of (by rfl) T.B.tuple bootT (pa_cons (pe_lc (own := [("pair", 6)]) (g := gName 6) (by rfl) scCI.nd (pi_list (pv 4)) (blkOk_by (own := [("pair", 6)]) (N := ["self", "size", "strings", "gauge", "hidden", "string", "pair"]) (sc := defScope sCI) (by decide +kernel))
            (fun _ _ _ _ _ => pg_name (i := 6) scCI.nd rfl (Or.inl rfl)) (fun _ _ _ _ _ => pts_nil) (fun _ _ _ _ _ => pe_callTy (call_tupK K rfl) (by rfl) T.B.tuple bootT (pa_cons (pv 6) pa_nil))) pa_nil)) rfl)
        (C8.pss_cut (ps_expr (pe_call GCh hr (by rfl) D.gCh D.FCh.kp D.bCh .nil pass0 (pa_cons (pv 1) (pa_cons (pe_fld (pv 0) rfl) (pa_cons (pe_lst (StX.pa_star (pe_fld (pe_fld (pv 0) rfl) rfl) (StX.pa_star (pe_fld (pv 0) rfl) pa_nil))) pa_nil)))))
        (pss_one (ps_if (pt_cmpR op_lt (pe_callB call_len_seq (by rfl) T.B.len PySem.boot_len (pa_cons (pe_fld (pv 0) rfl) pa_nil)) (pe_fld (pv 0) rfl) (nomark _)) pss_never pss_nil)))))
      (pss_one (ps_fld (pv 0) (pe_call GLm hr (by rfl) D.gLm D.FLm.kp D.bLm .nil pass0 (pa_cons (pv 1) (pa_cons (pe_lst (StX.pa_star (pe_fld (pe_fld (pv 0) rfl) rfl) (StX.pa_star (pe_call GPt hr (by rfl) D.gPt D.FPt.kp D.bPt .nil pass0 (pa_cons (pe_fld (pv 0) rfl) pa_nil)) pa_nil))) pa_nil))) rfl))))))))))), ?_⟩
    have neq : ∀ {p : Addr} {xs : List V}, H p = some (.lst xs) → p ≠ a := fun e => ne_of e ea fun z => by cases z
    refine ⟨fun σ' H' => ∃ (g : Addr) (M : GLs), σ' = [some (.ref a), some (.int (n : Nat)), some (.ref ts), some (.ref gs), some (.ref hs), none, none] ∧ Cs C CG CD a dx n H g M 1 [("group", .ref g)] H' ∧ M.length ≤ L.length ∧ Red (gbs M) ∧ (∀ x, Spn (gbs M) x ↔ Spn (lbs L) x), ?_, ?_⟩
    · refine ⟨_, rfl, _, rfl, fun g dg ng nd ned => ?_⟩
      have s0 : Same H (upd (upd H dg (.own g)) g (.ins CG dg [])) := (same_new nd).trans (same_new (by rw [upd_ne (Ne.symm ned)]; exact ng))
      have eg0 : (upd (upd H dg (.own g)) g (.ins CG dg [])) g = some (.ins CG dg []) := upd_same
      generalize upd (upd H dg (.own g)) g (.ins CG dg []) = H0 at s0 eg0 ⊢
      refine ⟨g, dg, n, ts, L, rfl, eg0, SqL.of (s0 _ _ ets), fun q hq => (hPL q hq).same s0, O.okL, O.n1, O.n300, O.lenL, O.phL, fun i j h1 h2 => by rw [lbs_gs]; exact O.com i j h1 h2, O.good, fun H1 M T' b gM pm pw R => ⟨rfl, ?_⟩⟩
      · have R' : RedAt n (gsOf L) (gsOf L).length T' := by rw [gsOf_len]; exact R
        obtain ⟨t1, t2, t3⟩ := made_tab R' pm
        have nga : ∀ {x : Addr} {o : HO}, H x = some o → x ≠ g := fun e z => by rw [z, ng] at e; cases e
        have ea1 := b _ _ (nga ea) (s0 _ _ ea)
        refine ⟨_, rfl, a, CD, dx, _, rfl, ea1, DC.cl, DC.nGr, by show 0 < 1000; decide, g, M, rfl, ⟨fun x o hx e => by rw [upd_ne hx]; exact b _ _ (nga e) (s0 _ _ e), ⟨_, upd_same, Nat.le_refl _, Flds.put (.ref g) (fun p hp => by cases hp) rfl⟩, gM.but ea1 But.upd n1 n2⟩, ?_, t1, fun x => ?_⟩
        · rw [t3]
          exact Nat.le_trans (keptL_len _ _) (by rw [gsOf_len]; exact Nat.le_refl _)
        · rw [t2 x, lbs_gs]
    rintro _ H1 ⟨g, M, rfl, c1, lM, redM, spM⟩
    have few := O.few
    have fewS := O.fewS
    have n300 := O.n300
    refine ⟨fun σ' H' => σ' = [some (.ref a), some (.int (n : Nat)), some (.ref ts), some (.ref gs), some (.ref hs), none, none] ∧ Cs C CG CD a dx n H g M 2 [("size", .int (n : Nat)), ("group", .ref g)] H', ?_, ?_⟩
    · obtain ⟨fs, e, lf, fl⟩ := c1.obj
      exact ⟨_, rfl, _, rfl, a, CD, dx, fs, rfl, e, DC.cl, DC.nS, by omega, rfl, c1.put (.int (n : Nat)) n1 n2 e rfl⟩
    rintro _ H2 ⟨rfl, c2⟩
    refine ⟨fun σ' H' => ∃ gt : Addr, σ' = [some (.ref a), some (.int (n : Nat)), some (.ref ts), some (.ref gs), some (.ref hs), none, none] ∧ Cs C CG CD a dx n H g M 3 [("gauge", .ref gt), ("size", .int (n : Nat)), ("group", .ref g)] H' ∧ H' gt = some (.tup (refP Lg)), ?_, ?_⟩
    · have e0 := c2.lst ea egs
      refine ⟨_, rfl, gs, _, rfl, .inl ⟨SqL.of e0, fun l nl => ?_⟩⟩
      have s1 := same_new (o := .tup (refP Lg)) nl
      have el : (upd H2 l (.tup (refP Lg))) l = some (.tup (refP Lg)) := upd_same
      have c := c2.same s1
      generalize upd H2 l (.tup (refP Lg)) = Hx at s1 el c ⊢
      obtain ⟨fs, e, lf, fl⟩ := c.obj
      exact ⟨_, rfl, a, CD, dx, fs, rfl, e, DC.cl, DC.nGa, by omega, l, rfl, c.put (.ref l) n1 n2 e rfl, c.tup el⟩
    rintro _ H3 ⟨gt, rfl, c3, egt⟩
    have pG : ∀ {H' : Hp} {k : Nat} {F : List (Str × V)}, Cs C CG CD a dx n H g M k F H' → PsAt C H' Lg := fun c q hq => (hPG q hq).but ea c.but n2
    have pS : ∀ {H' : Hp} {k : Nat} {F : List (Str × V)}, Cs C CG CD a dx n H g M k F H' → HPAt C H' S := fun c => hS.but ea c.but n2
    refine ⟨fun σ' H' => σ' = [some (.ref a), some (.int (n : Nat)), some (.ref ts), some (.ref gs), some (.ref hs), none, none] ∧ Cs C CG CD a dx n H g M 3 [("gauge", .ref gt), ("size", .int (n : Nat)), ("group", .ref g)] H' ∧ H' gt = some (.tup (refP Lg)), ?_, ?_⟩
    · obtain ⟨fs, e, lf, fl⟩ := c3.obj
      refine ⟨_, rfl, a, CD, dx, fs, _, rfl, e, DC.cl, DC.nGr, fl _ (.tail _ (.tail _ (.head _))), _, rfl, a, CD, dx, fs, _, rfl, e, DC.cl, DC.nGa, fl _ (.head _), g, gt, n, M, Lg, rfl, c3.grp, egt, pG c3, O.okG, n300, by omega, O.lenG, O.phG, fun q hq => (O.gau _ (List.mem_map_of_mem (f := fun q : Addr × List Nat × Nat => bL q.2.1) hq)).le fun x hx => (spM x).mp (spn_mem hx), fun H' s' => ⟨rfl, c3.same s', s' _ _ egt⟩⟩
    rintro _ H4 ⟨rfl, c4, egt4⟩
    refine ⟨fun σ' H' => ∃ gb : Addr, σ' = [some (.ref a), some (.int (n : Nat)), some (.ref ts), some (.ref gs), some (.ref hs), none, none] ∧ Cs C CG CD a dx n H g M 4 [("gauge_bits", .ref gb), ("gauge", .ref gt), ("size", .int (n : Nat)), ("group", .ref g)] H' ∧ H' gb = some (.tup (natV (lbs Lg))), ?_, ?_⟩
    · obtain ⟨fs, e, lf, fl⟩ := c4.obj
      refine ⟨_, rfl, a, CD, dx, fs, _, rfl, e, DC.cl, DC.nGa, fl _ (.head _), gt, rfl, ⟨_, SqT.of egt4⟩, fun D2 nD2 => ?_⟩
      refine lc_tup (K := K) (a := gt) (xs := refP Lg) (Pv := fun j Hc => Same H4 Hc ∧ Hc D2 = some (.lst (natV ((lbs Lg).take j)))) ⟨same_new nD2, upd_same⟩ (fun j Hc _ ⟨sc, _⟩ => SqT.of (sc _ _ egt4)) ?_ ?_
      · rintro j y Hc hj ⟨sc, ec⟩
        obtain ⟨q, hq, rfl⟩ := refP_at hj
        have hm := List.mem_of_getElem? hq
        refine ⟨rfl, _, rfl, q.1, q.2.1, q.2.2, rfl, (pG c4 q hm).same sc, O.okG.isl q hm, O.okG.ne q hm, O.okG.len q hm, fun H' s' => ⟨_, s' _ _ ec, ?_, same_put0 (sc.trans s') nD2, ?_⟩⟩
        · rw [natV_len, List.length_take, List.length_map]
          exact Nat.lt_of_le_of_lt (by omega : _ ≤ 100) (by decide)
        · have e2 : (lbs Lg)[j]? = some (bL q.2.1) := by rw [List.getElem?_map, hq]; rfl
          rw [upd_same, take_snoc e2, natV_app]
          rfl
      · rintro Hc ⟨sc, ec⟩
        rw [List.take_of_length_le (by rw [List.length_map, refP_len]; exact Nat.le_refl _)] at ec
        refine ⟨D2, _, rfl, .inl ⟨SqL.of ec, fun l nl => ?_⟩⟩
        have s1 := sc.trans (same_new (o := .tup (natV (lbs Lg))) nl)
        have el : (upd Hc l (.tup (natV (lbs Lg)))) l = some (.tup (natV (lbs Lg))) := upd_same
        have c := c4.same s1
        generalize upd Hc l (.tup (natV (lbs Lg))) = Hx at s1 el c ⊢
        obtain ⟨fs, e, lf, fl⟩ := c.obj
        exact ⟨_, rfl, a, CD, dx, fs, rfl, e, DC.cl, DC.nGB, by omega, l, rfl, c.put (.ref l) n1 n2 e rfl, c.tup el⟩
    rintro _ H5 ⟨gb, rfl, c5, egb⟩
    have ltG : ∀ b ∈ lbs Lg, b < 2 ^ (2 * n) := fun b hb => by
      obtain ⟨q, hq, rfl⟩ := List.mem_map.mp hb
      have := bL_lt q.2.1
      rwa [O.lenG q hq] at this
    have ltL : ∀ b ∈ lbs L, b < 2 ^ (2 * n) := fun b hb => by
      obtain ⟨q, hq, rfl⟩ := List.mem_map.mp hb
      have := bL_lt q.2.1
      rwa [O.lenL q hq] at this
    have ltM : ∀ b ∈ gbs M, b < 2 ^ (2 * n) := fun b hb => spn_lt ltL ((spM b).mp (spn_mem hb))
    refine ⟨fun σ' H' => σ' = [some (.ref a), some (.int (n : Nat)), some (.ref ts), some (.ref gs), some (.ref hs), none, none] ∧ Cs C CG CD a dx n H g M 4 [("gauge_bits", .ref gb), ("gauge", .ref gt), ("size", .int (n : Nat)), ("group", .ref g)] H' ∧ H' gb = some (.tup (natV (lbs Lg))), ?_, ?_⟩
    · obtain ⟨fs, e, lf, fl⟩ := c5.obj
      refine ⟨_, rfl, a, CD, dx, fs, _, rfl, e, DC.cl, DC.nGr, fl _ (.tail _ (.tail _ (.tail _ (.head _)))), _, rfl, a, CD, dx, fs, _, rfl, e, DC.cl, DC.nGB, fl _ (.head _), g, gb, n, M, lbs Lg, rfl, c5.grp, egb, n300, by rw [List.length_map]; omega, ltG, redM, fun x h1 h2 => (spM x).mpr (O.cen x h1 h2), fun H' s' => ⟨rfl, c5.same s', s' _ _ egb⟩⟩
    rintro _ H6 ⟨rfl, c6, egb6⟩
    have nvs : natV (gbs M) ++ (natV (lbs Lg) ++ []) = natV (gbs M ++ lbs Lg) := by rw [List.append_nil, natV_app]
    have lgg : (gbs M ++ lbs Lg).length ≤ 100 := by rw [List.length_append, gbs_len, List.length_map]; omega
    have spA : ∀ x, Spn (gbs M ++ lbs Lg) x ↔ Spn (lbs L ++ lbs Lg) x := fun x => spn_iff_of (fun y hy => by
      rcases List.mem_append.mp hy with k | k
      · exact spn_le (fun z hz => spn_mem (List.mem_append_left _ hz)) ((spM y).mp (spn_mem k))
      · exact spn_mem (List.mem_append_right _ k)) (fun y hy => by
      rcases List.mem_append.mp hy with k | k
      · exact spn_le (fun z hz => spn_mem (List.mem_append_left _ hz)) ((spM y).mpr (spn_mem k))
      · exact spn_mem (List.mem_append_right _ k)) x
    refine ⟨fun σ' H' => ∃ (tt : Addr) (GT : List Nat), σ' = [some (.ref a), some (.int (n : Nat)), some (.ref ts), some (.ref gs), some (.ref hs), none, none] ∧ Cs C CG CD a dx n H g M 5 [("gauge_table", .ref tt), ("gauge_bits", .ref gb), ("gauge", .ref gt), ("size", .int (n : Nat)), ("group", .ref g)] H' ∧ H' gb = some (.tup (natV (lbs Lg))) ∧ H' tt = some (.tup (natV GT)) ∧ Red GT ∧ (∀ x, Spn GT x ↔ Spn (lbs L ++ lbs Lg) x) ∧ GT.length ≤ 600, ?_, ?_⟩
    · obtain ⟨fs, e, lf, fl⟩ := c6.obj
      obtain ⟨dxg, fsg, p1, b1, r1, M', eg, l1, l2, l3, l4, l5, l6, ehp, hHl, ehb, ehr, hPs, eM⟩ := id c6.grp
      refine ⟨_, rfl, a, CD, dx, fs, _, rfl, e, DC.cl, DC.nGr, fl _ (.tail _ (.tail _ (.tail _ (.head _)))), g, CG, dxg, fsg, _, rfl, eg, G.cl, G.nB, l3, b1, _, rfl, .inl (SqT.of ehb), _, rfl, a, CD, dx, fs, _, rfl, e, DC.cl, DC.nGB, fl _ (.head _), gb, _, rfl, .inl (SqT.of egb6), ?_, fun l nl => ?_⟩
      · rw [nvs, natV_len]
        exact Nat.le_trans lgg (by decide)
      have s1 := same_new (o := .lst (natV (gbs M) ++ (natV (lbs Lg) ++ []))) nl
      have el : (upd H6 l (.lst (natV (gbs M) ++ (natV (lbs Lg) ++ [])))) l = some (.lst (natV (gbs M ++ lbs Lg))) := by rw [upd_same, nvs]
      have c := c6.same s1
      have egb7 := s1 _ _ egb6
      generalize upd H6 l (.lst (natV (gbs M) ++ (natV (lbs Lg) ++ []))) = Hx at el c egb7 ⊢
      refine ⟨l, gbs M ++ lbs Lg, rfl, SqL.of el, lgg, fun p ms H' s' np ep red pw sp lt ind => ⟨p, _, rfl, .inl ⟨SqL.of ep, fun l2 nl2 => ?_⟩⟩⟩
      have s2 := s'.trans (same_new (o := .tup (natV ms)) nl2)
      have el2 : (upd H' l2 (.tup (natV ms))) l2 = some (.tup (natV ms)) := upd_same
      have c' := c.same s2
      have egb8 := s2 _ _ egb7
      generalize upd H' l2 (.tup (natV ms)) = Hy at el2 c' egb8 ⊢
      obtain ⟨fs, e, lf, fl⟩ := c'.obj
      refine ⟨_, rfl, a, CD, dx, fs, rfl, e, DC.cl, DC.nGT, by omega, l2, ms, rfl, c'.put (.ref l2) n1 n2 e rfl, c'.tup egb8, c'.tup el2, red, fun x => (sp x).trans (spA x), ?_⟩
      have := red_few red.ec (lt (2 * n) fun b hb => by
        rcases List.mem_append.mp hb with k | k
        · exact ltM b k
        · exact ltG b k)
      omega
    rintro _ H7 ⟨tt, GT, rfl, c7, egb7, ett, redT, spT, lT⟩
    obtain ⟨dm1, dm2⟩ := O.dim (gbs M) GT redM.ec spM redT.ec spT
    rw [gbs_len] at dm1 dm2
    refine ⟨fun σ' H' => ∃ gv : Int, gv = ((GT.length : Int) - (M.length : Int)) / 2 ∧ σ' = [some (.ref a), some (.int (n : Nat)), some (.ref ts), some (.ref gs), some (.ref hs), none, none] ∧ Cs C CG CD a dx n H g M 6 [("gauged", .int gv), ("gauge_table", .ref tt), ("gauge_bits", .ref gb), ("gauge", .ref gt), ("size", .int (n : Nat)), ("group", .ref g)] H' ∧ H' gb = some (.tup (natV (lbs Lg))) ∧ H' tt = some (.tup (natV GT)), ?_, ?_⟩
    · obtain ⟨fs, e, lf, fl⟩ := c7.obj
      obtain ⟨dxg, fsg, p1, b1, r1, M', eg, l1, l2, l3, l4, l5, l6, ehp, hHl, ehb, ehr, hPs, eM⟩ := id c7.grp
      refine ⟨_, rfl, a, CD, dx, fs, _, rfl, e, DC.cl, DC.nGT, fl _ (.head _), tt, _, rfl, .inr (SqT.of ett), _, rfl, a, CD, dx, fs, _, rfl, e, DC.cl, DC.nGr, fl _ (.tail _ (.tail _ (.tail _ (.tail _ (.head _))))), g, CG, dxg, fsg, _, rfl, eg, G.cl, G.nK, l5, _, _, rfl, rfl, _, _, rfl, rfl, ⟨by decide, by decide⟩, _, rfl, a, CD, dx, fs, rfl, e, DC.cl, DC.nGd, by omega, _, ?_, rfl, c7.put _ n1 n2 e rfl, c7.tup egb7, c7.tup ett⟩
      rw [natV_len]
    rintro _ H8 ⟨gv, egv, rfl, c8, egb8, ett8⟩
    refine ⟨fun σ' H' => ∃ kv : Int, kv = (n : Int) - M.length - gv ∧ σ' = [some (.ref a), some (.int (n : Nat)), some (.ref ts), some (.ref gs), some (.ref hs), none, none] ∧ Cs C CG CD a dx n H g M 7 [("kept", .int kv), ("gauged", .int gv), ("gauge_table", .ref tt), ("gauge_bits", .ref gb), ("gauge", .ref gt), ("size", .int (n : Nat)), ("group", .ref g)] H' ∧ H' gb = some (.tup (natV (lbs Lg))) ∧ H' tt = some (.tup (natV GT)), ?_, ?_⟩
    · obtain ⟨fs, e, lf, fl⟩ := c8.obj
      obtain ⟨dxg, fsg, p1, b1, r1, M', eg, l1, l2, l3, l4, l5, l6, ehp, hHl, ehb, ehr, hPs, eM⟩ := id c8.grp
      exact ⟨_, rfl, _, rfl, a, CD, dx, fs, _, rfl, e, DC.cl, DC.nGr, fl _ (.tail _ (.tail _ (.tail _ (.tail _ (.tail _ (.head _)))))), g, CG, dxg, fsg, _, rfl, eg, G.cl, G.nK, l5, _, _, rfl, rfl, _, rfl, a, CD, dx, fs, _, rfl, e, DC.cl, DC.nGd, fl _ (.head _), _, _, rfl, rfl, _, rfl, a, CD, dx, fs, rfl, e, DC.cl, DC.nK, by omega, _, rfl, rfl, c8.put _ n1 n2 e rfl, c8.tup egb8, c8.tup ett8⟩
    rintro _ H9 ⟨kv, ekv, rfl, c9, egb9, ett9⟩
    refine ⟨fun σ' H' => ∃ ht : Addr, σ' = [some (.ref a), some (.int (n : Nat)), some (.ref ts), some (.ref gs), some (.ref hs), none, none] ∧ Cs C CG CD a dx n H g M 8 [("hidden", .ref ht), ("kept", .int kv), ("gauged", .int gv), ("gauge_table", .ref tt), ("gauge_bits", .ref gb), ("gauge", .ref gt), ("size", .int (n : Nat)), ("group", .ref g)] H' ∧ H' gb = some (.tup (natV (lbs Lg))) ∧ H' tt = some (.tup (natV GT)) ∧ H' ht = some (.tup (refS S)), ?_, ?_⟩
    · refine ⟨_, rfl, rfl, false, rfl, iteF ?_⟩
      refine ⟨fun σ' H' => ∃ ht : Addr, σ' = [some (.ref a), some (.int (n : Nat)), some (.ref ts), some (.ref gs), some (.ref hs), none, none] ∧ Cs C CG CD a dx n H g M 8 [("hidden", .ref ht), ("kept", .int kv), ("gauged", .int gv), ("gauge_table", .ref tt), ("gauge_bits", .ref gb), ("gauge", .ref gt), ("size", .int (n : Nat)), ("group", .ref g)] H' ∧ H' gb = some (.tup (natV (lbs Lg))) ∧ H' tt = some (.tup (natV GT)) ∧ H' ht = some (.tup (refS S)), ?_, ?_⟩
      · have e0 := c9.lst ea ehs
        refine ⟨_, rfl, hs, rfl, ⟨_, SqL.of e0⟩, fun D2 nD2 => ?_⟩
        refine lc_list (K := K) (a := hs) (xs := refS S) (Pv := fun j Hc => Same H9 Hc ∧ Hc D2 = some (.lst ((refS S).take j))) ⟨same_new nD2, upd_same⟩ (fun j Hc _ ⟨sc, _⟩ => SqL.of (sc _ _ e0)) ?_ ?_
        · rintro j y Hc hj ⟨sc, ec⟩
          obtain ⟨q, hq, rfl⟩ := refS_at hj
          have hm := List.mem_of_getElem? hq
          refine ⟨rfl, _, rfl, q.1, _, rfl, SqT.of (sc _ _ (pS c9 q hm).1), _, ec, ?_, same_put0 sc nD2, ?_⟩
          · rw [List.length_take, refS_len]
            exact Nat.lt_of_le_of_lt (by omega : _ ≤ 50) (by decide)
          · rw [upd_same, take_snoc hj]
        · rintro Hc ⟨sc, ec⟩
          rw [List.take_length] at ec
          refine ⟨D2, _, rfl, .inl ⟨SqL.of ec, fun l nl => ?_⟩⟩
          have s1 := sc.trans (same_new (o := .tup (refS S)) nl)
          have el : (upd Hc l (.tup (refS S))) l = some (.tup (refS S)) := upd_same
          have c := c9.same s1
          have q1 := s1 _ _ egb9
          have q2 := s1 _ _ ett9
          generalize upd Hc l (.tup (refS S)) = Hx at el c q1 q2 ⊢
          obtain ⟨fs, e, lf, fl⟩ := c.obj
          exact ⟨_, rfl, a, CD, dx, fs, rfl, e, DC.cl, DC.nH, by omega, l, rfl, c.put (.ref l) n1 n2 e rfl, c.tup q1, c.tup q2, c.tup el⟩
      rintro _ HA ⟨ht, rfl, cA, egbA, ettA, eht⟩
      refine ⟨fun σ' H' => σ' = [some (.ref a), some (.int (n : Nat)), some (.ref ts), some (.ref gs), some (.ref hs), none, none] ∧ Cs C CG CD a dx n H g M 8 [("hidden", .ref ht), ("kept", .int kv), ("gauged", .int gv), ("gauge_table", .ref tt), ("gauge_bits", .ref gb), ("gauge", .ref gt), ("size", .int (n : Nat)), ("group", .ref g)] H' ∧ H' gb = some (.tup (natV (lbs Lg))) ∧ H' tt = some (.tup (natV GT)) ∧ H' ht = some (.tup (refS S)), ?_, ?_⟩
      · obtain ⟨fs, e, lf, fl⟩ := cA.obj
        obtain ⟨dxg, fsg, p1, b1, r1, M', eg, l1, l2, l3, l4, l5, l6, ehp, hHl, ehb, ehr, hPs, eM⟩ := id cA.grp
        refine ⟨_, rfl, _, rfl, a, CD, dx, fs, _, rfl, e, DC.cl, DC.nH, fl _ (.head _), _, rfl, a, CD, dx, fs, _, rfl, e, DC.cl, DC.nGr, fl _ (.tail _ (.tail _ (.tail _ (.tail _ (.tail _ (.tail _ (.tail _ (.head _)))))))), g, CG, dxg, fsg, _, rfl, eg, G.cl, G.nB, l3, b1, _, rfl, .inl (SqT.of ehb), _, rfl, a, CD, dx, fs, _, rfl, e, DC.cl, DC.nGB, fl _ (.tail _ (.tail _ (.tail _ (.tail _ (.head _))))), gb, _, rfl, .inl (SqT.of egbA), ?_, fun l nl => ?_⟩
        · rw [nvs, natV_len]
          exact Nat.le_trans lgg (by decide)
        have s1 := same_new (o := .lst (natV (gbs M) ++ (natV (lbs Lg) ++ []))) nl
        have el : (upd HA l (.lst (natV (gbs M) ++ (natV (lbs Lg) ++ [])))) l = some (.lst (natV (gbs M ++ lbs Lg))) := by rw [upd_same, nvs]
        refine ⟨n, ht, l, S, gbs M ++ lbs Lg, rfl, s1 _ _ eht, pS (cA.same s1), O.okS, el, n300, by omega, O.hid.le fun x hx => (spA x).mp (spn_mem hx), fun H' s' => ?_⟩
        have s2 := s1.trans s'
        exact ⟨rfl, cA.same s2, s2 _ _ egbA, s2 _ _ ettA, s2 _ _ eht⟩
      rintro _ HB ⟨rfl, cB, egbB, ettB, ehtB⟩
      obtain ⟨fs, e, lf, fl⟩ := cB.obj
      refine ⟨_, rfl, a, CD, dx, fs, _, rfl, e, DC.cl, DC.nH, fl _ (.head _), ht, _, rfl, .inr (SqT.of ehtB), _, rfl, a, CD, dx, fs, _, rfl, e, DC.cl, DC.nK, fl _ (.tail _ (.head _)), _, _, rfl, rfl, false, ?_, iteF ⟨ht, rfl, cB, egbB, ettB, ehtB⟩⟩
      refine congrArg V.bl (decide_eq_false ?_)
      rw [refS_len]
      omega
    rintro _ HC ⟨ht, rfl, cC, egbC, ettC, ehtC⟩
    obtain ⟨fs, e, lf, fl⟩ := cC.obj
    obtain ⟨dxg, fsg, p1, b1, r1, M', eg, l1, l2, l3, l4, l5, l6, ehp, hHl, ehb, ehr, hPs, eM⟩ := id cC.grp
    refine ⟨_, rfl, _, rfl, a, CD, dx, fs, _, rfl, e, DC.cl, DC.nGr, fl _ (.tail _ (.tail _ (.tail _ (.tail _ (.tail _ (.tail _ (.tail _ (.head _)))))))), g, CG, dxg, fsg, _, rfl, eg, G.cl, G.nB, l3, b1, _, rfl, .inl (SqT.of ehb), _, rfl, a, CD, dx, fs, _, rfl, e, DC.cl, DC.nH, fl _ (.head _), n, ht, S, rfl, ehtC, pS cC, O.okS, n300, by omega, fun H' l os s' nl el lo => ⟨l, _, rfl, .inr (SqL.of el), ?_, fun l2 nl2 => ?_⟩⟩
    · rw [List.length_append, List.length_append, natV_len, natV_len, gbs_len, lo]
      exact Nat.le_trans (by show _ + (_ + 0) ≤ 300; omega) (by decide)
    have nv2 : natV (gbs M) ++ (natV os ++ []) = natV (gbs M ++ os) := by rw [List.append_nil, natV_app]
    have s2 := s'.trans (same_new (o := .lst (natV (gbs M) ++ (natV os ++ []))) nl2)
    have el2 : (upd H' l2 (.lst (natV (gbs M) ++ (natV os ++ [])))) l2 = some (.lst (natV (gbs M ++ os))) := by rw [upd_same, nv2]
    generalize upd H' l2 (.lst (natV (gbs M) ++ (natV os ++ []))) = Hx at s2 el2 ⊢
    refine ⟨n, l2, gbs M ++ os, rfl, el2, n300, fun H'' t s3 => ?_⟩
    have s4 := s2.trans s3
    have cD := cC.same s4
    have egbD := s4 _ _ egbC
    have ettD := s4 _ _ ettC
    obtain ⟨fs, e, lf, fl⟩ := cD.obj
    have cE := cD.put (.ref t) n1 n2 e (f := "marks") rfl
    obtain ⟨fs2, e2, lf2, fl2⟩ := cE.obj
    refine ⟨_, rfl, a, CD, dx, fs, rfl, e, DC.cl, DC.nM, by omega, q _ M GT cE.but ⟨dx, fs2, g, gb, tt, e2, fun p hp => ?_, cE.grp, cD.tup egbD, cD.tup ettD⟩ (by omega) redM spM lT redT spT⟩
    rcases List.mem_cons.mp hp with k | hp
    · exact k ▸ fl2 _ (.tail _ (.tail _ (.tail _ (.tail _ (.tail _ (.tail _ (.tail _ (.head _))))))))
    rcases List.mem_cons.mp hp with k | hp
    · exact k ▸ fl2 _ (.tail _ (.tail _ (.tail _ (.tail _ (.tail _ (.tail _ (.tail _ (.tail _ (.head _)))))))))
    rcases List.mem_cons.mp hp with k | hp
    · exact k ▸ fl2 _ (.tail _ (.tail _ (.tail _ (.tail _ (.tail _ (.head _))))))
    rcases List.mem_cons.mp hp with k | hp
    · exact k ▸ fl2 _ (.tail _ (.tail _ (.tail _ (.tail _ (.head _)))))
    · have := fl2 ("kept", .int kv) (.tail _ (.tail _ (.head _)))
      rw [List.mem_singleton.mp hp, ← egv, ← ekv]
      exact this
end
end KQ
namespace KQ
open PySem PySem.Spec PyProof.Rows L2
theorem SeqN.ty {K : PySem.W.Frag} {H : Hp} {a : Addr} {xs : List V} (h : SeqN H a xs) : ∃ t, (t = "tuple" ∨ t = "list") ∧ TyX K H (.ref a) (.type t) := by
  rcases h with e | e | ⟨o, _, _, e⟩
  · exact ⟨_, .inr rfl, .base (.lst e)⟩
  · exact ⟨_, .inl rfl, .base (.tup e)⟩
  · exact ⟨_, .inl rfl, .fTuple e⟩
def LotOk (n : Nat) (ps : List Nat) : Prop := ps.Pairwise (· < ·) ∧ ∀ p ∈ ps, p < n
/-- what the strings of a region are: within the lot, they commute with what is barred, none is made by the empty ones and those ahead, and with the empty ones they make all -/
structure RegOf (n : Nat) (ps bs es I : List Nat) : Prop where
  com : ∀ x ∈ I, Even n x bs
  win : ∀ x ∈ I, Spn (singL n ps) x
  ind : ∀ (i : Nat) x, I[i]? = some x → ¬ Spn (es ++ I.take i) x
  all : ∀ x, Spn (singL n ps) x → Even n x bs → Spn (es ++ I) x
theorem singL_len (n : Nat) : ∀ ps : List Nat, (singL n ps).length = 2 * ps.length
  | [] => rfl
  | p :: ps => by
    show ([2 ^ (2 * n - 1 - p), 2 ^ (n - 1 - p)] ++ singL n ps).length = 2 * (ps.length + 1)
    rw [List.length_append, singL_len n ps]
    show 2 + 2 * ps.length = _
    omega
theorem singL_lt {n : Nat} {ps : List Nat} (h : ∀ p ∈ ps, p < n) : ∀ b ∈ singL n ps, b < 2 ^ (2 * n) := fun b hb => by
  obtain ⟨p, hp, hb⟩ := List.mem_flatMap.mp hb
  have := h p hp
  rcases List.mem_cons.mp hb with k | k
  · rw [k]
    exact Nat.pow_lt_pow_right (by decide) (by omega)
  · rw [List.mem_singleton.mp k]
    exact Nat.pow_lt_pow_right (by decide) (by omega)
theorem CodeAt.same {CD CG C : Addr} {H H' : Hp} {c : Addr} {n : Nat} {M : GLs} {gb GT : List Nat} (s : Same H H') (h : CodeAt CD CG C H c n M gb GT) : CodeAt CD CG C H' c n M gb GT := by
  obtain ⟨dx, fs, g, b, t, e, f, gr, eb, et⟩ := h
  exact ⟨dx, fs, g, b, t, s _ _ e, f, gr.same s, s _ _ eb, s _ _ et⟩
theorem lot_len : ∀ {ps : List Nat} {n : Nat}, ps.Pairwise (· < ·) → (∀ p ∈ ps, p < n) → ps.length ≤ n
  | ps, n, h1, h2 => by
    have nd : ps.Nodup := h1.imp fun h => Nat.ne_of_lt h
    have := List.Nodup.length_le_of_subset nd (fun p hp => List.mem_range.mpr (h2 p hp))
    rwa [List.length_range] at this
end KQ
namespace KQ
open PySem PySem.Spec PyProof.Rows L2
abbrev sLTimes : Stmt := topS 69
/-- the letter at k, I behind the end -/
def letAt (L : List Nat) (k : Nat) : Nat := (L[k]?).getD 73
theorem letAt_isL {L : List Nat} (hL : ∀ c ∈ L, isL c = true) (k : Nat) : isL (letAt L k) = true := by
  unfold letAt
  cases e : L[k]? with
  | none => exact isL_iff.mpr (.inl rfl)
  | some c => exact hL c (List.mem_of_getElem? e)
theorem bit_at {f : Nat → Nat} (hf : ∀ c, f c < 2) (h73 : f 73 = 0) (L : List Nat) (k : Nat) : ((bv f L : Nat) : Int) / 2 ^ ((0 : Int) + (k : Nat)).toNat % 2 = ((f (letAt L k) : Nat) : Int) := by
  unfold letAt
  cases e : L[k]? with
  | some c => exact shr_bit hf e
  | none =>
    have hk : L.length ≤ k := List.getElem?_eq_none_iff.mp e
    have lt : bv f L < 2 ^ k := Nat.lt_of_lt_of_le (bv_lt hf L) (Nat.pow_le_pow_right (by decide) hk)
    rw [Int.zero_add, Int.toNat_natCast]
    show _ = ((f 73 : Nat) : Int)
    rw [h73]
    have z : bv f L / 2 ^ k = 0 := Nat.div_eq_of_lt lt
    have : (((bv f L / 2 ^ k % 2 : Nat)) : Int) = ((0 : Nat) : Int) := by rw [z]
    rw [← this]
    push_cast
    rfl
def powT : List (Key × V) := [(.inr "XY", .int 1), (.inr "YZ", .int 1), (.inr "ZX", .int 1), (.inr "YX", .int 3), (.inr "ZY", .int 3), (.inr "XZ", .int 3)]
theorem pow_at {c d : Nat} (hc : isL c = true) (hd : isL d = true) : ∃ q : Nat, (valV powT (.inr (mS [c, d]))).getD (.int 0) = .int (q : Int) := by
  have h : ∀ q : Nat, (valV powT (.inr (mS [c, d]))).getD (.int 0) = .int (q : Int) → ∃ q : Nat, (valV powT (.inr (mS [c, d]))).getD (.int 0) = .int (q : Int) := fun q e => ⟨q, e⟩
  rcases isL_iff.mp hc with rfl | rfl | rfl | rfl <;> rcases isL_iff.mp hd with rfl | rfl | rfl | rfl <;> first
    | exact h 0 (by decide +kernel)
    | exact h 1 (by decide +kernel)
    | exact h 3 (by decide +kernel)
theorem mPow : mergeK [] powT = powT := by decide +kernel
theorem scLT : FnScope ["_law_one", "_law_two", "_law_x", "_law_z", "_law_power", "_law_k", "_law_first", "_law_second"] ["_law_one", "_law_two"] (defScope sLTimes) := ⟨rfl, rfl, rfl, by decide +kernel, rfl, by decide +kernel, by decide +kernel⟩
def spLT : Sp := fun vs H Q _ => ∃ (t u : Addr) (L M : List Nat) (z1 z2 : Nat), vs = [.ref t, .ref u] ∧ H t = some (.tup [.int (bv lx L : Nat), .int (bv lz L : Nat), .int (z1 : Nat)]) ∧ H u = some (.tup [.int (bv lx M : Nat), .int (bv lz M : Nat), .int (z2 : Nat)]) ∧ L.length ≤ 60 ∧ M.length ≤ 60 ∧ z1 < 4 ∧ z2 < 4 ∧ (∀ c ∈ L, isL c = true) ∧ (∀ c ∈ M, isL c = true) ∧
  ∀ H' j r (p : Int), Same H H' → H' j = some (.tup [.int (bv lx L ^^^ bv lx M : Nat), .int (bv lz L ^^^ bv lz M : Nat)]) → H' r = some (.tup [.ref j, .int p]) → Q (.ref r) H'
section
variable {P : Program} {w : World} {K : PySem.W.Frag} {mg : Str → Option Value} {base : Heap}
theorem ok_lt {f : Addr} {fd : FuncData} {k : Nat} (F : Fun K "_law_times" "_law_times" sLTimes f fd) (B : Bl mg) (mm : mg "max" = none) : FnOk P w K mg base CX0 (k + 1) f fd ["_law_one", "_law_two"] spLT := by
  refine F.ok scLT (fun vs H Q E h => ?_) (fun cdv A outer s H vs Q E hr h => ?_)
  · obtain ⟨t, u, L, M, z1, z2, rfl, _⟩ := h
    rfl
  · obtain ⟨t, u, L, M, z1, z2, rfl, et, eu, hl, hlM, hz1, hz2, hL, hM, q⟩ := h
    have hu := hu_of hr
    refine ⟨_, C8.pss_cut (ps_par3 (i := 2) (j := 3) (l := 4) rfl scLT.nd rfl rfl rfl (by decide) (by decide) (by decide) rfl rfl rfl (pa_cons (pe_op op_xor (pe_ix ix_tup (pv 0) pe_int (fun _ _ => rfl)) (pe_ix ix_tup (pv 1) pe_int (fun _ _ => rfl))) (pa_cons (pe_op op_xor (pe_ix ix_tup (pv 0) pe_int (fun _ _ => rfl)) (pe_ix ix_tup (pv 1) pe_int (fun _ _ => rfl))) (pa_cons (pe_op op_mul pe_int (pe_op op_add (pe_ix ix_tup (pv 0) pe_int (fun _ _ => rfl)) (pe_ix ix_tup (pv 1) pe_int (fun _ _ => rfl)))) pa_nil))) rfl)
      (C8.pss_cut (ps_for PassesOwn.never rfl (pi_range1 (by rfl) B.range (pa_cons (pe_bits (pe_callB (call_maxInts rfl) (by rfl) mm (by decide +kernel) (pa_cons (pe_lst (pa_cons (pe_ix ix_tup (pv 0) pe_int (fun _ _ => rfl)) (pa_cons (pe_ix ix_tup (pv 0) pe_int (fun _ _ => rfl)) (pa_cons (pe_ix ix_tup (pv 1) pe_int (fun _ _ => rfl)) (pa_cons (pe_ix ix_tup (pv 1) pe_int (fun _ _ => rfl)) (pa_cons pe_int pa_nil)))))) pa_nil))) pa_nil)) (pg_name (i := 5) scLT.nd rfl (.inl rfl))
        (C8.pss_cut (ps_set (i := 6) scLT.nd rfl (.inl rfl) (pe_ix ix_str pe_str (pe_op op_add (pe_op op_mod (pe_callTy call_int1 (by rfl) B.int bootI (pa_cons (pe_op op_shr (pe_ix ix_tup (pv 0) pe_int (fun _ _ => rfl)) (pv 5)) pa_nil)) pe_int) (pe_op op_mul pe_int (pe_op op_mod (pe_callTy call_int1 (by rfl) B.int bootI (pa_cons (pe_op op_shr (pe_ix ix_tup (pv 0) pe_int (fun _ _ => rfl)) (pv 5)) pa_nil)) pe_int))) (fun _ _ => rfl)))
        (C8.pss_cut (ps_set (i := 7) scLT.nd rfl (.inl rfl) (pe_ix ix_str pe_str (pe_op op_add (pe_op op_mod (pe_callTy call_int1 (by rfl) B.int bootI (pa_cons (pe_op op_shr (pe_ix ix_tup (pv 1) pe_int (fun _ _ => rfl)) (pv 5)) pa_nil)) pe_int) (pe_op op_mul pe_int (pe_op op_mod (pe_callTy call_int1 (by rfl) B.int bootI (pa_cons (pe_op op_shr (pe_ix ix_tup (pv 1) pe_int (fun _ _ => rfl)) (pv 5)) pa_nil)) pe_int))) (fun _ _ => rfl)))
        (pss_one (ps_set (i := 4) scLT.nd rfl (.inl rfl) (pe_op op_add (pv 4) (pe_dget2 hu (pe_disp (pps_cons pe_str pe_int (pps_cons pe_str pe_int (pps_cons pe_str pe_int (pps_cons pe_str pe_int (pps_cons pe_str pe_int (pps_cons pe_str pe_int pps_nil)))))) (by rfl) (by rfl) (fun z => by cases z) (by decide)) (pe_op op_add_str (pv 6) (pv 7)) pe_int ⟨by rfl, by rfl, by rfl, by rfl⟩)))))))
      (pss_one (ps_ret (pe_tup (pa_cons (pe_tup (pa_cons (pv 2) (pa_cons (pv 3) pa_nil))) (pa_cons (pe_op op_mod (pe_callTy call_int1 (by rfl) B.int bootI (pa_cons (pv 4) pa_nil)) pe_int) pa_nil)))))), ?_⟩
    have j0 : ∀ a b c : V, atI [a, b, c] 0 = some a := fun _ _ _ => at_of (j := 0) rfl rfl
    have j1 : ∀ a b c : V, atI [a, b, c] 1 = some b := fun _ _ _ => at_of (j := 1) rfl rfl
    have j2 : ∀ a b c : V, atI [a, b, c] 2 = some c := fun _ _ _ => at_of (j := 2) rfl rfl
    have sq : SqT K H t [.int (bv lx L : Nat), .int (bv lz L : Nat), .int (z1 : Nat)] := .inl (.inl et)
    have sq' : SqT K H u [.int (bv lx M : Nat), .int (bv lz M : Nat), .int (z2 : Nat)] := .inl (.inl eu)
    refine ⟨fun σ' H' => σ' = [some (.ref t), some (.ref u), some (.int (bv lx L ^^^ bv lx M : Nat)), some (.int (bv lz L ^^^ bv lz M : Nat)), some (.int ((2 * (z1 + z2) : Nat) : Int)), none, none, none] ∧ H' = H, ?_, ?_⟩
    · refine ⟨_, rfl, t, _, _, _, rfl, rfl, sq, j0 _ _ _, _, rfl, u, _, _, _, rfl, rfl, sq', j0 _ _ _, _, _, rfl, rfl, _, rfl, t, _, _, _, rfl, rfl, sq, j1 _ _ _, _, rfl, u, _, _, _, rfl, rfl, sq', j1 _ _ _, _, _, rfl, rfl, ?_⟩
      refine ⟨_, rfl, t, _, _, _, rfl, rfl, sq, j2 _ _ _, _, rfl, u, _, _, _, rfl, rfl, sq', j2 _ _ _, _, _, rfl, rfl, _, _, rfl, rfl, .inl ⟨by decide, by decide⟩, _, _, _, rfl, ?_, rfl⟩
      show [_, _, some (V.int (Builtin.bitXor ((bv lx L : Nat) : Int) ((bv lx M : Nat) : Int))), some (V.int (Builtin.bitXor ((bv lz L : Nat) : Int) ((bv lz M : Nat) : Int))), some (V.int (2 * ((z1 : Int) + (z2 : Int)))), _, _, _] = _
      rw [bxor, bxor, show (2 * ((z1 : Int) + (z2 : Int))) = ((2 * (z1 + z2) : Nat) : Int) by push_cast; rfl]
    rintro _ H1 ⟨rfl, rfl⟩
    refine ⟨fun σ' H' => ∃ (pq : Nat) (s5 s6 s7 : Option V), σ' = [some (.ref t), some (.ref u), some (.int (bv lx L ^^^ bv lx M : Nat)), some (.int (bv lz L ^^^ bv lz M : Nat)), some (.int (pq : Int)), s5, s6, s7] ∧ Same H1 H', ?_, ?_⟩
    · refine ⟨_, rfl, t, _, _, _, rfl, rfl, sq, j0 _ _ _, _, rfl, t, _, _, _, rfl, rfl, sq, j1 _ _ _, _, rfl, u, _, _, _, rfl, rfl, sq', j0 _ _ _, _, rfl, u, _, _, _, rfl, rfl, sq', j1 _ _ _, by show 5 ≤ sizeLine; decide, fun r nr => ?_⟩
      refine ⟨r, [(bv lx L : Nat), (bv lz L : Nat), (bv lx M : Nat), (bv lz M : Nat), 1], rfl, SqL.of upd_same, by simp, fun Mx hm hle => ?_⟩
      have g1 := hle ((bv lx L : Nat) : Int) (by simp)
      have g2 := hle ((bv lz L : Nat) : Int) (by simp)
      have g5 := hle 1 (by simp)
      obtain ⟨mx, rfl⟩ : ∃ mx : Nat, Mx = (mx : Int) := ⟨Mx.toNat, by omega⟩
      have up : ∀ {f : Nat → Nat}, (∀ c, f c < 2) → ∀ {L : List Nat}, L.length ≤ 60 → bv f L < 2 ^ 60 := fun hf L h => Nat.lt_of_lt_of_le (bv_lt hf L) (Nat.pow_le_pow_right (by decide) h)
      have u1 := up lx_lt hl
      have u2 := up lz_lt hl
      have u3 := up lx_lt hlM
      have u4 := up lz_lt hlM
      have hmx : mx < 2 ^ 61 := by
        simp only [List.mem_cons, List.mem_nil_iff, or_false] at hm
        omega
      have hb : Builtin.Int.intBits (mx : Int) ≤ 61 := by
        unfold Builtin.Int.intBits
        rw [if_neg (by simp; omega), Int.natAbs_natCast]
        exact PySem.Flt.log2_lt_of (by decide) hmx
      refine ⟨_, rfl, _, rfl, by omega, by omega, for_range (n := Builtin.Int.intBits (mx : Int)) (fun i σ' H' => ∃ (pq : Nat) (s5 s6 s7 : Option V), σ' = [some (.ref t), some (.ref u), some (.int (bv lx L ^^^ bv lx M : Nat)), some (.int (bv lz L ^^^ bv lz M : Nat)), some (.int (pq : Int)), s5, s6, s7] ∧ Same H1 H')
        ⟨2 * (z1 + z2), none, none, none, rfl, same_new nr⟩ ?_ ?_⟩
      · rintro i _ H2 hi ⟨pq, s5, s6, s7, rfl, s2⟩
        have sqa : SqT K H2 t [.int (bv lx L : Nat), .int (bv lz L : Nat), .int (z1 : Nat)] := .inl (.inl (s2 _ _ et))
        have sqb : SqT K H2 u [.int (bv lx M : Nat), .int (bv lz M : Nat), .int (z2 : Nat)] := .inl (.inl (s2 _ _ eu))
        refine ⟨fun σ' H' => σ' = [some (.ref t), some (.ref u), some (.int (bv lx L ^^^ bv lx M : Nat)), some (.int (bv lz L ^^^ bv lz M : Nat)), some (.int (pq : Int)), some (.int (0 + (i : Nat))), some (.str (mS [letAt L i])), s7] ∧ H' = H2, ?_, ?_⟩
        · refine ⟨_, rfl, t, _, _, _, rfl, rfl, sqa, j0 _ _ _, _, rfl, _, _, rfl, rfl, by show (0 : Int) ≤ 0 + (i : Int); omega, .inl ⟨_, rfl, _, _, rfl, rfl, by show (0 : Int) < 2; decide, ?_⟩⟩
          refine ⟨_, rfl, t, _, _, _, rfl, rfl, sqa, j1 _ _ _, _, rfl, _, _, rfl, rfl, by show (0 : Int) ≤ 0 + (i : Int); omega, .inl ⟨_, rfl, _, _, rfl, rfl, by show (0 : Int) < 2; decide, _, _, rfl, rfl, .inl ⟨by decide, by decide⟩, ?_⟩⟩
          refine ⟨_, _, rfl, rfl, _, _, letAt L i, rfl, rfl, by show (4 : Nat) ≤ sizeLine; decide, ?_, ?_⟩
          · show atI _ (((bv lx L : Nat) : Int) / 2 ^ ((0 : Int) + (i : Nat)).toNat % 2 + 2 * (((bv lz L : Nat) : Int) / 2 ^ ((0 : Int) + (i : Nat)).toNat % 2)) = _
            rw [bit_at lx_lt (by decide) L i, bit_at lz_lt (by decide) L i, e_IXZY]
            have e2 : ((lx (letAt L i) : Nat) : Int) + 2 * ((lz (letAt L i) : Nat) : Int) = ((lx (letAt L i) + 2 * lz (letAt L i) : Nat) : Int) := by omega
            rw [e2]
            exact atI_nat (letter_back (letAt_isL hL i))
          · exact ⟨rfl, rfl⟩
        rintro _ H3 ⟨rfl, rfl⟩
        refine ⟨fun σ' H' => σ' = [some (.ref t), some (.ref u), some (.int (bv lx L ^^^ bv lx M : Nat)), some (.int (bv lz L ^^^ bv lz M : Nat)), some (.int (pq : Int)), some (.int (0 + (i : Nat))), some (.str (mS [letAt L i])), some (.str (mS [letAt M i]))] ∧ H' = H3, ?_, ?_⟩
        · refine ⟨_, rfl, u, _, _, _, rfl, rfl, sqb, j0 _ _ _, _, rfl, _, _, rfl, rfl, by show (0 : Int) ≤ 0 + (i : Int); omega, .inl ⟨_, rfl, _, _, rfl, rfl, by show (0 : Int) < 2; decide, ?_⟩⟩
          refine ⟨_, rfl, u, _, _, _, rfl, rfl, sqb, j1 _ _ _, _, rfl, _, _, rfl, rfl, by show (0 : Int) ≤ 0 + (i : Int); omega, .inl ⟨_, rfl, _, _, rfl, rfl, by show (0 : Int) < 2; decide, _, _, rfl, rfl, .inl ⟨by decide, by decide⟩, ?_⟩⟩
          refine ⟨_, _, rfl, rfl, _, _, letAt M i, rfl, rfl, by show (4 : Nat) ≤ sizeLine; decide, ?_, ?_⟩
          · show atI _ (((bv lx M : Nat) : Int) / 2 ^ ((0 : Int) + (i : Nat)).toNat % 2 + 2 * (((bv lz M : Nat) : Int) / 2 ^ ((0 : Int) + (i : Nat)).toNat % 2)) = _
            rw [bit_at lx_lt (by decide) M i, bit_at lz_lt (by decide) M i, e_IXZY]
            have e2 : ((lx (letAt M i) : Nat) : Int) + 2 * ((lz (letAt M i) : Nat) : Int) = ((lx (letAt M i) + 2 * lz (letAt M i) : Nat) : Int) := by omega
            rw [e2]
            exact atI_nat (letter_back (letAt_isL hM i))
          · exact ⟨rfl, rfl⟩
        rintro _ H4 ⟨rfl, rfl⟩
        refine ⟨_, rfl, fun d nd => ⟨upd_same, powT, rfl, by show 6 ≤ 15; decide, d, rfl, .inl ⟨_, .inl upd_same⟩, _, rfl, _, rfl, _, _, rfl, rfl, by show 1 + 1 ≤ sizeLine; decide, _, DGet.k (k := Sum.inr (mS [letAt L i] ++ mS [letAt M i])) upd_same, ?_⟩⟩
        obtain ⟨qq, key⟩ : ∃ q : Nat, (valV (mergeK [] powT) (Sum.inr (mS [letAt L i] ++ mS [letAt M i]))).getD (V.int 0) = .int (q : Int) := by
          rw [mPow, mS_app]
          exact pow_at (letAt_isL hL i) (letAt_isL hM i)
        show rI0 (fun i j => V.int (i + j)) _ ((valV (mergeK [] powT) (Sum.inr (mS [letAt L i] ++ mS [letAt M i]))).getD (V.int 0)) _ _
        rw [key]
        refine ⟨_, _, rfl, rfl, pq + qq, some (.int (0 + (i : Nat))), some (.str (mS [letAt L i])), some (.str (mS [letAt M i])), ?_, ?_⟩
        · rw [show ((pq + qq : Nat) : Int) = (pq : Int) + (qq : Int) by push_cast; rfl]
          rfl
        · intro b o e
          have hb : b ≠ d := ne_of_none (s2 _ _ e) nd
          rw [upd_ne hb, upd_ne hb]
          exact s2 _ _ e
      · rintro _ H2 ⟨pq, s5, s6, s7, rfl, s2⟩
        exact ⟨pq, s5, s6, s7, rfl, s2⟩
    rintro _ H2 ⟨pq, s5, s6, s7, rfl, s2⟩
    refine ⟨_, rfl, _, rfl, by show 2 ≤ sizeLine; decide, fun j nj => ⟨_, rfl, .inl ⟨_, rfl, _, _, rfl, rfl, by show (0 : Int) < 4; decide, by show 2 ≤ sizeLine; decide, fun r nr => ?_⟩⟩⟩
    exact q _ j r _ ((s2.trans (same_new nj)).trans (same_new nr)) (same_new nr _ _ upd_same) upd_same
end
end KQ
namespace KQ
open PySem PySem.Spec PyProof.Rows L2
def tDispT1 (tk tv : TE) : TE := fun σ H Q => ∀ d, H d = none → tk σ (upd H d (.dT [])) fun y H1 => tv σ H1 fun z H2 => ∃ (b : Addr) (ks : List L2.Key), y = .ref b ∧ H2 b = some (.tup (ks.map kV)) ∧ H2 d = some (.dT []) ∧ Q (.ref d) (upd H2 d (.dT [(ks, z)]))
theorem pe_dispT1 {X : Cx} {pos : Pos} {k v : Expr} {tk tv : TE} (hu : X.A.units + 1 < cLine) (hk : PE X k tk) (hv : PE X v tv) : PE X (.Dict [some k] [v] pos) (tDispT1 tk tv) := by
  refine ⟨fun pins s σ H Q I h => ?_⟩
  have fresh := I.hok.fresh (Nat.le_refl s.heap.objs.size)
  have I1 := I.laid (a := s.heap.objs.size) (o := .dT []) (h' := s.heap.push { cls := .type "dict", data := .dict #[] }) (t' := s.toks) (fun _ _ z => Heap.get?_push_of_some _ z) (Nat.le_refl _) (dt_empty s.heap I.big)
  have shape : (evalEachOpt [some k] X.env).zip ((evalEach [v] X.env).map fun u => do let x ← u; standAt pos; pure x) = [(eval k X.env, (do let x ← eval v X.env; standAt pos; pure x))].map fun p => (some p.1, p.2) := rfl
  rw [arm_eval_Dict, shape, dictDisplay_pairs _ (by simp) (by show 1 < 17; decide)]
  refine wpAny_bind (wpAny_standAt (wpAny_bind (wpAny_subDictH (knd := tupleKind (mixKind X.prog X.w)) (Q := fun d s' => wpAny (model X.prog X.w) X.A (pure (Value.ref d)) (EP X pins σ Q) X.xe s') ?_ (by show 1 ≤ 15; decide) ?_)))
  · exact Nat.lt_of_succ_lt hu
  refine evalPairs_cons (thn (hk.run pins _ σ _ _ I1 (h _ fresh)) fun u s1 ⟨y, H1, I2, r1, q1⟩ => wpAny_bind (thn (hv.run pins s1 σ H1 _ I2 q1) fun w2 s2 ⟨z, H2, I3, r2, b, ks, ey, eb, ed, q2⟩ => wpAny_bind (wpAny_standAt (wpAny_pure (evalPairs_nil ?_)))))
  subst ey
  obtain rfl : u = Value.ref b := r1
  obtain ⟨_, hd, xs, rel, dd⟩ := dt_of I3.hok ed
  cases rel
  refine ⟨[(ks, b, w2)], ⟨rfl, rfl, key_of I3.hok eb, trivial⟩, dd, fun h' tk' dd' hs => wpAny_pure ⟨.ref s.heap.objs.size, _, ?_, rfl, q2⟩⟩
  obtain ⟨q, es, ep, hq, h2, h3, h4, _, h5⟩ := dd'
  refine d_write I3 (by rw [ed]; exact True.intro) hs ⟨q, hq⟩ ⟨by show 1 ≤ sizeLine; decide, hd, [(ks, b, w2)], .cons ⟨rfl, ?_, r2⟩ .nil, q, es, ep, hq, h2, h3, h4, h5⟩
  rw [upd_ne (ne_of eb ed (fun z => nomatch z))]
  exact eb
end KQ
namespace KQ
open PySem PySem.Spec PyProof.Rows L2
abbrev sSpd : Stmt := topS 81
theorem scSpd : FnScope ["_law_strings", "_law_found", "_law_string", "_law_x", "_law_z"] ["_law_strings"] (defScope sSpd) := ⟨rfl, rfl, rfl, by decide +kernel, rfl, by decide +kernel, by decide +kernel⟩
def kk (p : T2) : List L2.Key := [.inl (p.1 : Int), .inl (p.2 : Int)]
theorem kk_inj {p q : T2} (h : kk p = kk q) : p = q := by
  unfold kk at h
  injection h with h1 h2
  injection h2 with h2 _
  have e1 : (p.1 : Int) = q.1 := Sum.inl.inj h1
  have e2 : (p.2 : Int) = q.2 := Sum.inl.inj h2
  exact Prod.ext (by omega) (by omega)
/-- a dict of these keys, each with the value True -/
def tD (ps : List T2) : List (List L2.Key × V) := ps.map fun p => (kk p, V.bl true)
theorem tD_len (ps : List T2) : (tD ps).length = ps.length := List.length_map ..
theorem tD_get : ∀ {ps : List T2} {p : T2}, (valV (tD ps) (kk p)).isSome = decide (p ∈ ps)
  | [], p => rfl
  | q :: ps, p => by
    show (valV ((kk q, V.bl true) :: tD ps) (kk p)).isSome = _
    by_cases e : q = p
    · subst e
      rw [valV_pos rfl]
      simp
    · rw [valV_neg fun z => e (kk_inj z), tD_get]
      congr 1
      simp [List.mem_cons, Ne.symm e]
theorem tD_put {ps : List T2} {p : T2} (h : p ∉ ps) : putK (tD ps) (kk p) (V.bl true) = tD (ps ++ [p]) := by
  unfold putK
  rw [if_neg]
  · unfold tD
    rw [List.map_append]
    rfl
  · intro z
    obtain ⟨kv, hk, e⟩ := List.any_eq_true.mp z
    obtain ⟨q, hq, rfl⟩ := List.mem_map.mp hk
    exact h (kk_inj (of_decide_eq_true e) ▸ hq)
/-- the smallest set of pairs with these and 0, closed under xor -/
def SpP (ss : List T2) (p : T2) : Prop := ∀ S : T2 → Prop, S (0, 0) → (∀ a b, S a → S b → S (xr2 a b)) → (∀ s ∈ ss, S s) → S p
theorem SpP.zero (ss : List T2) : SpP ss (0, 0) := fun _ z _ _ => z
theorem SpP.x {ss : List T2} {a b : T2} (h : SpP ss a) (k : SpP ss b) : SpP ss (xr2 a b) := fun S z x m => x _ _ (h S z x m) (k S z x m)
theorem SpP.mem {ss : List T2} {a : T2} (h : a ∈ ss) : SpP ss a := fun _ _ _ m => m a h
theorem SpP.le {ss tt : List T2} {a : T2} (h : SpP ss a) (k : ∀ s ∈ ss, SpP tt s) : SpP tt a := h _ (SpP.zero tt) (fun _ _ => SpP.x) k
theorem xr2_z (a : T2) : xr2 a (0, 0) = a := by unfold xr2; rw [Nat.xor_zero, Nat.xor_zero]
theorem xr2_assoc (a b c : T2) : xr2 (xr2 a b) c = xr2 a (xr2 b c) := by unfold xr2; rw [Nat.xor_assoc, Nat.xor_assoc]
theorem xr2_comm (a b : T2) : xr2 a b = xr2 b a := by unfold xr2; rw [Nat.xor_comm, Nat.xor_comm a.2]
theorem xr2_back (a s : T2) : xr2 (xr2 a s) s = a := by rw [xr2_assoc, xr2_self, xr2_z]
theorem xr2_inj {a b s : T2} (h : xr2 a s = xr2 b s) : a = b := by
  have := congrArg (xr2 · s) h
  simp only [xr2_back] at this
  exact this
theorem SpP.snoc {ss : List T2} {s p : T2} : SpP (ss ++ [s]) p ↔ SpP ss p ∨ SpP ss (xr2 p s) := by
  constructor
  · intro h
    refine h (fun p => SpP ss p ∨ SpP ss (xr2 p s)) (.inl (SpP.zero ss)) (fun a b ha hb => ?_) fun t ht => ?_
    · rcases ha with ha | ha <;> rcases hb with hb | hb
      · exact .inl (ha.x hb)
      · exact .inr (by rw [xr2_assoc]; exact ha.x hb)
      · exact .inr (by rw [xr2_comm a b, xr2_assoc]; exact hb.x ha)
      · have := ha.x hb
        rw [xr2_comm b s, xr2_assoc, ← xr2_assoc s s, xr2_self, xr2_comm (0, 0), xr2_z] at this
        exact .inl this
    · rcases List.mem_append.mp ht with k | k
      · exact .inl (SpP.mem k)
      · rw [List.mem_singleton.mp k]
        exact .inr (by rw [xr2_self]; exact SpP.zero ss)
  · rintro (h | h)
    · exact h.le fun t ht => SpP.mem (List.mem_append_left _ ht)
    · have := (h.le (tt := ss ++ [s]) fun t ht => SpP.mem (List.mem_append_left _ ht)).x (SpP.mem (List.mem_append_right _ (List.mem_singleton.mpr rfl)))
      rwa [xr2_back] at this
/-- the keys that the law has found: all products, each once -/
structure AllP (ss ps : List T2) : Prop where
  nd : ps.Nodup
  iff : ∀ p, p ∈ ps ↔ SpP ss p
theorem AllP.nil : AllP [] [(0, 0)] := ⟨List.nodup_cons.mpr ⟨fun h => (by cases h), List.nodup_nil⟩, fun p => ⟨fun h => by rw [List.mem_singleton.mp h]; exact SpP.zero [], fun h => h (fun p => p ∈ [(0, 0)]) (List.mem_singleton.mpr rfl) (fun a b ha hb => by rw [List.mem_singleton.mp ha, List.mem_singleton.mp hb]; exact List.mem_singleton.mpr rfl) (fun _ z => by cases z)⟩⟩
theorem AllP.same {ss ps : List T2} (A : AllP ss ps) {s : T2} (h : s ∈ ps) : AllP (ss ++ [s]) ps := ⟨A.nd, fun p => by
  rw [A.iff p, SpP.snoc]
  refine ⟨.inl, fun k => k.elim id fun k => ?_⟩
  have := k.x ((A.iff s).mp h)
  rwa [xr2_back] at this⟩
theorem AllP.new {ss ps : List T2} (A : AllP ss ps) {s p : T2} (h : s ∉ ps) (hp : p ∈ ps) : xr2 p s ∉ ps := fun z => by
  refine h ((A.iff s).mpr ?_)
  have := ((A.iff _).mp z).x ((A.iff p).mp hp)
  rwa [xr2_comm p s, xr2_back] at this
theorem AllP.more {ss ps : List T2} (A : AllP ss ps) {s : T2} (h : s ∉ ps) : AllP (ss ++ [s]) (ps ++ ps.map (xr2 · s)) := by
  refine ⟨List.nodup_append.mpr ⟨A.nd, List.Pairwise.map _ (fun a b h e => h (xr2_inj e)) A.nd, fun a ha b hb e => ?_⟩, fun p => ?_⟩
  · obtain ⟨c, hc, rfl⟩ := List.mem_map.mp hb
    exact A.new h hc (e ▸ ha)
  · rw [List.mem_append, SpP.snoc, A.iff p]
    refine or_congr Iff.rfl ⟨fun k => ?_, fun k => ?_⟩
    · obtain ⟨c, hc, rfl⟩ := List.mem_map.mp k
      rw [xr2_back]
      exact (A.iff c).mp hc
    · exact List.mem_map.mpr ⟨xr2 p s, (A.iff _).mpr k, xr2_back p s⟩
theorem SpP.fit {n : Nat} {ss : List T2} {p : T2} (h : ∀ s ∈ ss, Fit2 n s) (hp : SpP ss p) : Fit2 n p := hp (Fit2 n) ⟨Nat.two_pow_pos _, Nat.two_pow_pos _⟩ (fun _ _ a b => ⟨Nat.xor_lt_two_pow a.1 b.1, Nat.xor_lt_two_pow a.2 b.2⟩) h
theorem fit_len {n : Nat} {ps : List T2} (nd : ps.Nodup) (h : ∀ p ∈ ps, Fit2 n p) : ps.length ≤ 2 ^ n * 2 ^ n := by
  have inj : ∀ p ∈ ps, ∀ q ∈ ps, p.1 + 2 ^ n * p.2 = q.1 + 2 ^ n * q.2 → p = q := fun p hp q hq e => by
    have h1 := (h p hp).1
    have h2 := (h q hq).1
    have e1 : p.1 = q.1 := by
      have := congrArg (· % 2 ^ n) e
      simp only [Nat.add_mul_mod_self_left, Nat.mod_eq_of_lt h1, Nat.mod_eq_of_lt h2] at this
      exact this
    have e2 : p.2 = q.2 := by
      rw [e1] at e
      exact Nat.eq_of_mul_eq_mul_left (Nat.two_pow_pos n) (Nat.add_left_cancel e)
    exact Prod.ext e1 e2
  have nd2 : (ps.map fun p => p.1 + 2 ^ n * p.2).Nodup := by
    refine List.pairwise_map.mpr (List.Pairwise.imp_of_mem (fun {a b} ha hb hab e => hab (inj a ha b hb e)) nd)
  have := List.Nodup.length_le_of_subset (l₂ := List.range (2 ^ n * 2 ^ n)) nd2 (fun x hx => by
    obtain ⟨p, hp, rfl⟩ := List.mem_map.mp hx
    obtain ⟨h1, h2⟩ := h p hp
    refine List.mem_range.mpr ?_
    have : 2 ^ n * p.2 + 2 ^ n ≤ 2 ^ n * 2 ^ n := by
      rw [← Nat.mul_succ]
      exact Nat.mul_le_mul_left _ h2
    omega)
  rwa [List.length_map, List.length_range] at this
def spSpd (K : PySem.W.Frag) : Sp := fun vs H Q _ => ∃ (a : Addr) (n : Nat) (R : RLs), vs = [.ref a] ∧ SqL K H a (refR R) ∧ RsAt n H R ∧ n ≤ 7 ∧
  ∀ H' d ps, Same H H' → H' d = some (.dT (tD ps)) → AllP (R.map bz) ps → Q (.ref d) H'
theorem keys_at {H : Hp} : ∀ {ps : List T2} {bs : List Addr}, IsKeys H (tD ps) bs → bs.length = ps.length ∧ ∀ (i : Nat) b, bs[i]? = some b → ∃ p, ps[i]? = some p ∧ H b = some (.tup [.int (p.1 : Nat), .int (p.2 : Nat)])
  | [], [], _ => ⟨rfl, fun i b h => by cases h⟩
  | p :: ps, b :: bs, .cons h t => by
    obtain ⟨l, g⟩ := keys_at t
    refine ⟨by rw [List.length_cons, List.length_cons, l], fun i c hc => ?_⟩
    cases i with
    | zero => exact ⟨p, rfl, by rw [← Option.some.inj hc]; exact h⟩
    | succ i => exact g i c hc
section
variable {P : Program} {w : World} {K : PySem.W.Frag} {mg : Str → Option Value} {base : Heap}
theorem ok_spd {f : Addr} {fd : FuncData} {k : Nat} (F : Fun K "_law_spanned" "_law_spanned" sSpd f fd) (B : Bl mg) : FnOk P w K mg base CX0 (k + 1) f fd ["_law_strings"] (spSpd K) := by
  refine F.ok scSpd (fun vs H Q E h => ?_) (fun cdv A outer s H vs Q E hr h => ?_)
  · obtain ⟨a, n, R, rfl, _⟩ := h
    rfl
  · obtain ⟨a, n, R, rfl, hS, hR, hn, q⟩ := h
    have hu := hu_of hr
    refine ⟨_, C8.pss_cut (ps_set (i := 1) scSpd.nd rfl (.inl rfl) (pe_dispT1 hu (pe_tup (pa_cons pe_int (pa_cons pe_int pa_nil))) pe_bl))
      (C8.pss_cut (ps_for PassesOwn.never rfl (pi_list (pv 0)) (pg_name (i := 2) scSpd.nd rfl (.inl rfl))
        (pss_one (ps_if (pt_cmp (pc_dnotin hu (pe_tup (pa_cons (pe_ix ix_tup (pv 2) pe_int (fun _ _ => rfl)) (pa_cons (pe_ix ix_tup (pv 2) pe_int (fun _ _ => rfl)) pa_nil))) (pv 1)))
          (pss_one (ps_for PassesOwn.never rfl (pi_list (pe_callTy (call_list_dT rfl) (by rfl) B.list bootL (pa_cons (pv 1) pa_nil))) (pg_tup rfl (pgs_cons (pg_name (i := 3) scSpd.nd rfl (.inl rfl)) (pgs_cons (pg_name (i := 4) scSpd.nd rfl (.inl rfl)) pgs_nil)))
            (pss_one (ps_dput hu (pv 1) (pe_tup (pa_cons (pe_op op_xor (pv 3) (pe_ix ix_tup (pv 2) pe_int (fun _ _ => rfl))) (pa_cons (pe_op op_xor (pv 4) (pe_ix ix_tup (pv 2) pe_int (fun _ _ => rfl))) pa_nil))) pe_bl rfl)))) pss_nil)))
      (pss_one (ps_ret (pv 1)))), ?_⟩
    have f0 : ∀ s ∈ R.map bz, Fit2 n s := fun s hs => by
      obtain ⟨r, hr', rfl⟩ := List.mem_map.mp hs
      exact ⟨(hR r hr').2.1, (hR r hr').2.2.1⟩
    have few : ∀ {ps : List T2} {ss : List T2}, AllP ss ps → (∀ s ∈ ss, s ∈ R.map bz) → ps.length < sizeLine := fun {ps ss} A hs => by
      have l := fit_len A.nd fun p hp => ((A.iff p).mp hp).fit fun s h => f0 s (hs s h)
      have : 2 ^ n * 2 ^ n ≤ 2 ^ 14 := by
        rw [← Nat.pow_add]
        exact Nat.pow_le_pow_right (by decide) (by omega)
      exact Nat.lt_of_le_of_lt (Nat.le_trans l this) (by decide)
    refine ⟨fun σ' H' => ∃ d, σ' = [some (.ref a), some (.ref d), none, none, none] ∧ Same H H' ∧ H d = none ∧ H' d = some (.dT (tD [(0, 0)])), ?_, ?_⟩
    · intro d nd
      refine ⟨by show 2 ≤ sizeLine; decide, fun b nb => ⟨b, kk (0, 0), rfl, upd_same, ?_, ?_⟩⟩
      · rw [upd_ne fun z => ?_]
        · exact upd_same
        · rw [z, upd_same] at nb
          cases nb
      · have s1 : Same H (upd (upd H d (.dT [])) b (.tup [V.int 0, V.int 0])) := (same_new nd).trans (same_new nb)
        exact ⟨d, rfl, same_put0 s1 nd, nd, upd_same⟩
    rintro _ H1 ⟨d, rfl, s1, nd, ed⟩
    refine ⟨fun σ' H' => ∃ (v2 v3 v4 : Option V) (ps : List T2), σ' = [some (.ref a), some (.ref d), v2, v3, v4] ∧ Same H H' ∧ H' d = some (.dT (tD ps)) ∧ AllP (R.map bz) ps, ?_, ?_⟩
    · refine ⟨_, rfl, a, rfl, ⟨_, Same.seq s1 hS⟩, for_list (K := K) (a := a) (xs := refR R) (fun i σ' H' => ∃ (v2 v3 v4 : Option V) (ps : List T2), σ' = [some (.ref a), some (.ref d), v2, v3, v4] ∧ Same H H' ∧ H' d = some (.dT (tD ps)) ∧ AllP ((R.take i).map bz) ps)
        ⟨none, none, none, _, rfl, s1, ed, AllP.nil⟩ (fun i σ' H' _ ⟨_, _, _, _, _, s2, _⟩ => Same.seq s2 hS) ?_ ?_⟩
      · rintro i y _ H2 hi ⟨v2, v3, v4, ps, rfl, s2, ed2, A2⟩
        obtain ⟨r, hr', rfl⟩ := refR_at hi
        obtain ⟨er, fr⟩ := hR.same s2 r (List.mem_of_getElem? hr')
        have sub : ∀ s ∈ (R.take i).map bz, s ∈ R.map bz := fun s hs => by
          obtain ⟨q', hq, rfl⟩ := List.mem_map.mp hs
          exact List.mem_map_of_mem (List.mem_of_mem_take hq)
        have et : (R.take (i + 1)).map bz = (R.take i).map bz ++ [bz r] := by
          rw [take_snoc hr', List.map_append]
          rfl
        have sq : ∀ {G : Hp}, Same H2 G → SqT K G r.1 [.int (r.2.1 : Nat), .int (r.2.2.1 : Nat), .int (r.2.2.2 : Nat)] := fun s => .inl (.inl (s _ _ er))
        refine ⟨_, rfl, r.1, _, _, _, rfl, rfl, sq (fun _ _ e => e), tri0 _ _ _, _, rfl, r.1, _, _, _, rfl, rfl, sq (fun _ _ e => e), tri1 _ _ _, by show 2 ≤ sizeLine; decide, fun T nT => ?_⟩
        have s3 := same_new (o := .tup [.int (r.2.1 : Nat), .int (r.2.2.1 : Nat)]) nT
        have eT : (upd H2 T (.tup [.int (r.2.1 : Nat), .int (r.2.2.1 : Nat)])) T = some (.tup ((kk (bz r)).map kV)) := upd_same
        have ed3 := s3 _ _ ed2
        generalize upd H2 T (.tup [.int (r.2.1 : Nat), .int (r.2.2.1 : Nat)]) = H3 at s3 eT ed3 ⊢
        refine ⟨_, rfl, d, _, rfl, DGet.t ed3 eT, _, rfl, ?_⟩
        rw [tD_get]
        by_cases hm : bz r ∈ ps
        · rw [decide_eq_true hm]
          refine iteF ⟨_, _, _, ps, rfl, s2.trans s3, ed3, ?_⟩
          rw [et]
          exact A2.same hm
        · rw [decide_eq_false hm]
          refine iteT ⟨_, rfl, d, _, rfl, .inl ed3, fun l bs nl keys => ?_⟩
          obtain ⟨lb, gb⟩ := keys_at keys
          have s4 := same_new (o := .lst (bs.map V.ref)) nl
          have el : (upd H3 l (.lst (bs.map V.ref))) l = some (.lst (bs.map V.ref)) := upd_same
          have ed4 := s4 _ _ ed3
          generalize upd H3 l (.lst (bs.map V.ref)) = H4 at s4 el ed4 ⊢
          have s24 := s3.trans s4
          have nl3 : ∀ {b : Addr} {o : HO}, H3 b = some o → b ≠ d → True := fun _ _ => trivial
          refine ⟨l, rfl, ⟨_, SqL.of el⟩, for_list (K := K) (a := l) (xs := bs.map V.ref) (fun j σ' H' => ∃ (v3 v4 : Option V), σ' = [some (.ref a), some (.ref d), some (.ref r.1), v3, v4] ∧ (∀ b o, b ≠ d → H4 b = some o → H' b = some o) ∧ H' d = some (.dT (tD (ps ++ (ps.take j).map (xr2 · (bz r))))))
            ⟨v3, v4, rfl, fun _ _ _ e => e, by rw [List.take_zero]; show H4 d = some (.dT (tD (ps ++ []))); rw [List.append_nil]; exact ed4⟩ (fun j σ' H' _ ⟨_, _, _, k4, _⟩ => SqL.of (k4 _ _ (ne_of el ed4 (fun z => nomatch z)) el)) ?_ ?_⟩
          · rintro j y _ H5 hj ⟨v3, v4, rfl, k5, ed5⟩
            rw [List.getElem?_map] at hj
            obtain ⟨b, hb, rfl⟩ := Option.map_eq_some_iff.mp hj
            obtain ⟨p, hp, eb⟩ := gb j b hb
            have pm := List.mem_of_getElem? hp
            have jl := (List.getElem?_eq_some_iff.mp hp).1
            have eb5 := k5 _ _ (ne_of (s4 _ _ eb) ed4 (fun z => nomatch z)) (s4 _ _ eb)
            have er5 : H5 r.1 = some (.tup [.int (r.2.1 : Nat), .int (r.2.2.1 : Nat), .int (r.2.2.2 : Nat)]) := k5 _ _ (ne_of (s24 _ _ er) ed4 (fun z => nomatch z)) (s24 _ _ er)
            have sq5 : SqT K H5 r.1 [.int (r.2.1 : Nat), .int (r.2.2.1 : Nat), .int (r.2.2.2 : Nat)] := .inl (.inl er5)
            refine ⟨b, _, rfl, .inl (.inl eb5), rfl, _, _, rfl, _, _, rfl, rfl, ?_⟩
            refine ⟨_, rfl, _, rfl, _, rfl, r.1, _, _, _, rfl, rfl, sq5, tri0 _ _ _, _, _, rfl, rfl, _, rfl, _, rfl, r.1, _, _, _, rfl, rfl, sq5, tri1 _ _ _, _, _, rfl, rfl, by show 2 ≤ sizeLine; decide, fun T2' nT2 => ?_⟩
            have s6 := same_new (o := .tup [V.int (Builtin.bitXor (p.1 : Nat) (r.2.1 : Nat)), V.int (Builtin.bitXor (p.2 : Nat) (r.2.2.1 : Nat))]) nT2
            have eT6 : (upd H5 T2' (.tup [V.int (Builtin.bitXor (p.1 : Nat) (r.2.1 : Nat)), V.int (Builtin.bitXor (p.2 : Nat) (r.2.2.1 : Nat))])) T2' = some (.tup ((kk (xr2 p (bz r))).map kV)) := by
              rw [upd_same, bxor, bxor]
              rfl
            have ed6 := s6 _ _ ed5
            generalize upd H5 T2' (.tup [V.int (Builtin.bitXor (p.1 : Nat) (r.2.1 : Nat)), V.int (Builtin.bitXor (p.2 : Nat) (r.2.2.1 : Nat))]) = H6 at s6 eT6 ed6 ⊢
            have AM := A2.more hm
            have tk : (ps.take (j + 1)).map (xr2 · (bz r)) = (ps.take j).map (xr2 · (bz r)) ++ [xr2 p (bz r)] := by
              rw [take_snoc hp, List.map_append]
              rfl
            have new : xr2 p (bz r) ∉ ps ++ (ps.take j).map (xr2 · (bz r)) := fun z => by
              have nd' : (ps ++ (ps.take (j + 1)).map (xr2 · (bz r))).Nodup := by
                refine List.Sublist.nodup ?_ AM.nd
                exact List.Sublist.append (List.Sublist.refl _) ((List.take_sublist _ _).map _)
              rw [tk, ← List.append_assoc] at nd'
              exact (List.nodup_append.mp nd').2.2 _ z _ (List.mem_singleton.mpr rfl) rfl
            have len : (tD (ps ++ (ps.take j).map (xr2 · (bz r)))).length < sizeLine := by
              have := few (et ▸ AM) (fun s hs => by
                obtain ⟨q', hq, rfl⟩ := List.mem_map.mp hs
                exact List.mem_map_of_mem (List.mem_of_mem_take hq))
              rw [List.length_append, List.length_map] at this
              rw [tD_len, List.length_append, List.length_map, List.length_take]
              omega
            refine ⟨d, _, rfl, DPut.t ed6 eT6 len, _, _, rfl, fun b' o hb' e => ?_, ?_⟩
            · rw [upd_ne hb']
              exact s6 _ _ (k5 _ _ hb' e)
            · rw [upd_same, tD_put new, tk, List.append_assoc]
          · rintro _ H5 ⟨v3, v4, rfl, k5, ed5⟩
            rw [List.length_map, lb, List.take_length] at ed5
            refine ⟨_, _, _, _, rfl, fun b o e => ?_, ed5, ?_⟩
            · exact k5 _ _ (ne_of_none e nd) (s24 _ _ (s2 _ _ e))
            · rw [et]
              exact A2.more hm
      · rintro _ H2 ⟨v2, v3, v4, ps, rfl, s2, ed2, A2⟩
        rw [refR_len, List.take_length] at A2
        exact ⟨v2, v3, v4, ps, rfl, s2, ed2, A2⟩
    rintro _ H2 ⟨v2, v3, v4, ps, rfl, s2, ed2, A2⟩
    exact ⟨_, rfl, q H2 d ps s2 ed2 A2⟩
end
end KQ
namespace KQ
open PySem PySem.Spec PyProof.Rows L2
abbrev sPau : Stmt := topS 76
abbrev sHlv : Stmt := topS 83
theorem scPau : FnScope ["_law_string", "_law_size"] ["_law_string", "_law_size"] (defScope sPau) := ⟨rfl, rfl, rfl, by decide +kernel, rfl, by decide +kernel, by decide +kernel⟩
theorem scHlv : FnScope ["_law_number", "_law_many", "_law_lap"] ["_law_number"] (defScope sHlv) := ⟨rfl, rfl, rfl, by decide +kernel, rfl, by decide +kernel, by decide +kernel⟩
/-- head and letters of a row's text -/
def base (n : Nat) (t : T3) : List Nat × List Nat := (if t.2.2 = 0 then [] else [45], LT n t.1 t.2.1)
def Hd4L (h : List Nat) : Prop := h = [] ∨ h = [45] ∨ h = [105] ∨ h = [45, 105]
def phH (h : List Nat) : Nat := if h = [] then 0 else if h = [45] then 2 else if h = [105] then 1 else 3
theorem read_tx {h L : List Nat} (hh : Hd4L h) (hL : Lts8 L) (h0 : L ≠ []) : rest (h ++ L) = L ∧ ph (h ++ L) = phH h ∧ fine (h ++ L) := by
  rcases hh with rfl | rfl | rfl | rfl
  · exact read_head hL h0 0 _ _ rfl
  · exact read_head hL h0 2 _ _ rfl
  · exact read_head hL h0 3 _ _ rfl
  · exact read_head hL h0 5 _ _ rfl
theorem base_hd (n : Nat) (t : T3) : Hd4L (base n t).1 := by
  unfold base
  by_cases z : t.2.2 = 0
  · exact .inl (if_pos z)
  · exact .inr (.inl (if_neg z))
theorem base_ph {n : Nat} {t : T3} (h : Fit n t) : phH (base n t).1 = 2 * t.2.2 := by
  unfold base phH
  have := h.2.2
  by_cases z : t.2.2 = 0
  · simp [z]
  · have : t.2.2 = 1 := by omega
    simp [this]
def spPau (C : Addr) : Sp := fun vs H Q _ => ∃ (a : Addr) (n : Nat) (t : T3), vs = [.ref a, .int (n : Nat)] ∧ TrAt H a t ∧ Fit n t ∧ 1 ≤ n ∧ n ≤ 60 ∧ ∀ H' x, Same H H' → PauliAt C H' x (LT n t.1 t.2.1) (2 * t.2.2) → Q (.ref x) H'
def spHlv : Sp := fun vs H Q _ => ∃ m : Nat, vs = [.int (m : Nat)] ∧ m < 2 ^ 190 ∧ ∀ r : Nat, (∀ k, m = 2 ^ k → r = k) → Q (.int (r : Nat)) H
def lotOf (n i : Nat) : List Nat := (List.range n).filter fun p => i.testBit p
def maskL (ps : List Nat) : Nat := (ps.map (2 ^ ·)).sum
section
variable {P : Program} {w : World} {K : PySem.W.Frag} {mg : Str → Option Value} {base : Heap}
theorem ok_pau {f fT fL C CT fI fE fC fB hA : Addr} {fd dT dL dI dC dB : FuncData} (F : Fun K "_law_pauli" "_law_pauli" sPau f fd) (FT : Fun K "_law_text" "_law_text" sText fT dT) (bT : Binds K dT ["_law_string", "_law_size"] []) (gT : mg "_law_text" = some (.ref fT))
    (FL : Fun K "_law_letters" "_law_letters" sLett fL dL) (bL' : Binds K dL ["_law_string", "_law_size"] []) (gL : mg "_law_letters" = some (.ref fL)) (N : PCl K mg C fI fE) (FI : Fun K "__init__" "Pauli.__init__" sInit fI dI) (bI : Binds K dI ["self", "text"] [])
    (FC : Fun K "_cut_text" "_cut_text" sCut fC dC) (bC : Binds K dC ["text"] []) (gC : mg "_cut_text" = some (.ref fC)) (TT : BT K mg CT fB dB) (hd : Hd4 K mg hA) (B : Bl mg) : FnOk P w K mg base (L2.CX P w) 6 f fd ["_law_string", "_law_size"] (spPau C) := by
  have GI : FnOk P w K mg base (L2.CX P w) 4 fI dI ["self", "text"] (spInit C CT) := ok_init FI N FC bC gC TT hd B
  have GT : FnOk P w K mg base CX0 5 fT dT ["_law_string", "_law_size"] spText := ok_text FT FL bL' gL B
  refine F.okX scPau (fun vs H Q E h => ?_) (fun cdv A outer s H vs Q E hr h => ?_)
  · obtain ⟨a, n, t, rfl, _⟩ := h
    rfl
  · obtain ⟨a, n, t, rfl, et, ft, n1, hn, q⟩ := h
    refine ⟨_, pss_one (ps_ret (pe_make N.mkf GI hr (by rfl) N.g bI .nil (passes_call (takes_of rfl rfl rfl rfl) (fun _ _ _ _ h => h)) (pa_cons (pe_call GT hr (by rfl) gT FT.kp bT .nil pass0 (pa_cons (pv 0) (pa_cons (pv 1) pa_nil))) pa_nil))), ?_⟩
    refine ⟨_, rfl, _, rfl, a, n, t, rfl, et, ft, hn, fun x dx nx ndx ne => ?_⟩
    have L0 : LT n t.1 t.2.1 ≠ [] := fun z => by
      have := LT_len n t.1 t.2.1
      rw [z] at this
      simp at this
      omega
    obtain ⟨u1, u2, u3⟩ := read_tx (base_hd n t) (LT_lts n t.1 t.2.1) L0
    have s0 : Same H (upd (upd H dx (.own x)) x (.ins C dx [])) := (same_new ndx).trans (same_new (by rw [upd_ne (Ne.symm ne)]; exact nx))
    refine ⟨x, dx, _, rfl, upd_same, .inl ⟨_, rfl, ?_, .inl ⟨u3, fun H' PX k => ⟨rfl, ?_⟩⟩⟩⟩
    · show ((KQ.base n t).1 ++ LT n t.1 t.2.1).length ≤ 1000
      rw [List.length_append, LT_len]
      have : (KQ.base n t).1.length ≤ 2 := by
        rcases base_hd n t with e | e | e | e <;> rw [e] <;> decide
      omega
    · have PX' : PauliAt C H' x (rest ((KQ.base n t).1 ++ LT n t.1 t.2.1)) (ph ((KQ.base n t).1 ++ LT n t.1 t.2.1)) := PX
      rw [u1, u2, base_ph ft] at PX'
      exact q H' x (fun b o e => k b o (ne_of_none e nx) (s0 _ _ e)) PX'
theorem ok_hlv {f : Addr} {fd : FuncData} {k : Nat} (F : Fun K "_law_halvings" "_law_halvings" sHlv f fd) (B : Bl mg) : FnOk P w K mg base CX0 (k + 1) f fd ["_law_number"] spHlv := by
  refine F.ok scHlv (fun vs H Q E h => ?_) (fun cdv A outer s H vs Q E hr h => ?_)
  · obtain ⟨n, rfl, _⟩ := h
    rfl
  · obtain ⟨n, rfl, hn, q⟩ := h
    refine ⟨_, C8.pss_cut (ps_set (i := 1) scHlv.nd rfl (.inl rfl) pe_int)
      (C8.pss_cut (ps_for PassesOwn.never rfl (pi_range1 (by rfl) B.range (pa_cons pe_int pa_nil)) (pg_name (i := 2) scHlv.nd rfl (.inl rfl))
        (pss_cons (ps_if (pt_cmpR op_le (pv 0) pe_int (nomark _)) (pss_one ps_break) pss_nil)
        (pss_one (ps_par (i := 0) (j := 1) rfl scHlv.nd rfl rfl (by decide) rfl rfl (pa_cons (pe_op op_fdiv (pv 0) pe_int) (pa_cons (pe_op op_add (pv 1) pe_int) pa_nil)) rfl))))
      (pss_one (ps_ret (pv 1)))), ?_⟩
    refine ⟨fun σ' H' => σ' = [some (.int (n : Nat)), some (.int 0), none] ∧ H' = H, ⟨rfl, rfl⟩, ?_⟩
    rintro _ H1 ⟨rfl, rfl⟩
    refine ⟨fun σ' H' => ∃ (r : Nat) (v0 lap : Option V), (∀ k, n = 2 ^ k → r = k) ∧ σ' = [v0, some (.int (r : Nat)), lap] ∧ H' = H1, ?_, ?_⟩
    · refine ⟨200, rfl, by decide, by decide, for_range (n := 200) (fun i σ' H' => ∃ lap : Option V, σ' = [some (.int ((n / 2 ^ i : Nat) : Int)), some (.int (i : Int)), lap] ∧ H' = H1 ∧ (∀ k, n = 2 ^ k → i ≤ k) ∧ (i = 0 ∨ 1 < n / 2 ^ (i - 1))) ⟨none, by rw [Nat.pow_zero, Nat.div_one]; rfl, rfl, fun _ _ => Nat.zero_le _, .inl rfl⟩ ?_ ?_⟩
      · rintro i _ _ hi ⟨lap, rfl, rfl, hk, h0⟩
        refine ⟨_, rfl, _, _, rfl, rfl, _, rfl, ite2 (fun e => ?_) (fun e => ?_)⟩
        · have e' : ((n / 2 ^ i : Nat) : Int) ≤ 1 := of_decide_eq_true e
          refine ⟨i, _, _, fun k hn2 => ?_, rfl, rfl⟩
          have ik := hk k hn2
          rw [hn2, Nat.pow_div ik (by decide)] at e'
          by_cases h : k - i = 0
          · omega
          · have : 2 ^ 1 ≤ 2 ^ (k - i) := Nat.pow_le_pow_right (by decide) (by omega)
            have : (2 : Int) ≤ ((2 ^ (k - i) : Nat) : Int) := by exact_mod_cast this
            omega
        · have e' : ¬ ((n / 2 ^ i : Nat) : Int) ≤ 1 := fun z => e (decide_eq_true z)
          have big : 1 < n / 2 ^ i := by omega
          refine ⟨_, rfl, _, _, rfl, rfl, ⟨by decide, by decide⟩, _, rfl, _, _, rfl, rfl, _, _, rfl, some (.int (0 + (i : Int))), ?_, rfl, fun k hk2 => ?_, .inr big⟩
          · have : ((n / 2 ^ i : Nat) : Int) / 2 = ((n / 2 ^ (i + 1) : Nat) : Int) := by
              rw [Nat.pow_succ, ← Nat.div_div_eq_div_mul]
              push_cast
              rfl
            show [some (V.int (((n / 2 ^ i : Nat) : Int) / 2)), some (V.int ((i : Int) + 1)), some (V.int (0 + (i : Int)))] = _
            rw [this]
            rfl
          · have ik := hk k hk2
            rw [hk2, Nat.pow_div ik (by decide)] at big
            by_cases h : k - i = 0
            · rw [h] at big
              omega
            · omega
      · rintro _ _ ⟨lap, rfl, rfl, hk, h0⟩
        exfalso
        rcases h0 with h0 | h0
        · omega
        · have : n / 2 ^ (200 - 1) = 0 := Nat.div_eq_of_lt (Nat.lt_of_lt_of_le hn (Nat.pow_le_pow_right (by decide) (by decide)))
          omega
    rintro _ H2 ⟨r, v0, lap, hr2, rfl, rfl⟩
    exact ⟨_, rfl, q r hr2⟩
end
end KQ
namespace KQ
open PySem PySem.Spec PyProof.Rows L2
abbrev sKin : Stmt := topS 82
theorem hu64_of {A : Around} {k : Nat} (h : Room k A) : A.units + 64 < cLine := by
  have := h.un
  omega
theorem scKin : FnScope ["_law_code_here", "_law_size", "_law_found", "_law_empty", "_law_group", "_law_x", "_law_z", "_law_row", "_law_bare"] ["_law_code_here"] (defScope sKin) := ⟨rfl, rfl, rfl, by decide +kernel, rfl, by decide +kernel, by decide +kernel⟩
def dat3 (t : T3) : PyData := .tuple [.int (t.1 : Nat), .int (t.2.1 : Nat), .int (t.2.2 : Nat)]
theorem sh_rows (R : RLs) : SeqAt.shaped (.list (R.map fun r => dat3 r.2)) = true := by
  have h1 : PyData.canLayAll0 (R.map fun r => dat3 r.2) = true ∧ PyData.depthAll (R.map fun r => dat3 r.2) ≤ 1 := by
    induction R with
    | nil => exact ⟨rfl, Nat.zero_le _⟩
    | cons r R ih =>
      refine ⟨?_, ?_⟩
      · show (PyData.canLay0 (dat3 r.2) && PyData.canLayAll0 (R.map fun r => dat3 r.2)) = true
        rw [ih.1]
        rfl
      · show max (PyData.depth (dat3 r.2)) (PyData.depthAll (R.map fun r => dat3 r.2)) ≤ 1
        have : PyData.depth (dat3 r.2) ≤ 1 := Nat.le_refl _
        have := ih.2
        omega
  show (PyData.canLayAll0 _ && decide (PyData.depthAll _ + 1 ≤ 64)) = true
  rw [h1.1, decide_eq_true (by omega)]
  rfl
theorem dp_rows {K : PySem.W.Frag} {H : Hp} : ∀ {R : RLs}, (∀ r ∈ R, TrAt H r.1 r.2) → DpAll K H (refR R) (R.map fun r => dat3 r.2)
  | [], _ => .nil
  | r :: R, h => .cons (.tup (.inl (.inl (h r (List.mem_cons_self ..)))) (.cons (.int _) (.cons (.int _) (.cons (.int _) .nil)))) (dp_rows fun q hq => h q (List.mem_cons_of_mem _ hq))
/-- a list of strings, compared with [] -/
theorem eq_nil {K : PySem.W.Frag} {H : Hp} {D l : Addr} {R : RLs} (eD : H D = some (.lst (refR R))) (hR : ∀ r ∈ R, TrAt H r.1 r.2) (el : H l = some (.lst [])) :
    ∃ d e, Dp K H (.ref D) d ∧ Dp K H (.ref l) e ∧ SeqAt.shaped d = true ∧ SeqAt.shaped e = true ∧ PyData.eqv d e = R.isEmpty := by
  refine ⟨.list (R.map fun r => dat3 r.2), .list [], .lst (SqL.of eD) (dp_rows hR), .lst (SqL.of el) .nil, sh_rows R, rfl, ?_⟩
  cases R <;> rfl
abbrev cdk (n : Nat) (lr lg lh : Addr) : List (Key × V) := [(.inr "size", .int (n : Nat)), (.inr "rows", .ref lr), (.inr "gauge", .ref lg), (.inr "hidden", .ref lh)]
theorem cd_size {H : Hp} {a lr lg lh : Addr} {n : Nat} (e : H a = some (.dK (cdk n lr lg lh))) : DGet H a (.str "size") (some (.int (n : Nat))) := by
  have := DGet.k (k := (.inr "size" : Key)) e
  exact this
theorem cd_rows {H : Hp} {a lr lg lh : Addr} {n : Nat} (e : H a = some (.dK (cdk n lr lg lh))) : DGet H a (.str "rows") (some (.ref lr)) := by
  have h1 : ¬ ("size" : Str) = "rows" := by decide +kernel
  have := DGet.k (k := (.inr "rows" : Key)) e
  have v : valV (cdk n lr lg lh) (.inr "rows") = some (.ref lr) := by simp [valV, List.find?, h1]
  rw [v] at this
  exact this
theorem cd_gauge {H : Hp} {a lr lg lh : Addr} {n : Nat} (e : H a = some (.dK (cdk n lr lg lh))) : DGet H a (.str "gauge") (some (.ref lg)) := by
  have h1 : ¬ ("size" : Str) = "gauge" := by decide +kernel
  have h2 : ¬ ("rows" : Str) = "gauge" := by decide +kernel
  have := DGet.k (k := (.inr "gauge" : Key)) e
  have v : valV (cdk n lr lg lh) (.inr "gauge") = some (.ref lg) := by simp [valV, List.find?, h1, h2]
  rw [v] at this
  exact this
theorem cd_hidden {H : Hp} {a lr lg lh : Addr} {n : Nat} (e : H a = some (.dK (cdk n lr lg lh))) : DGet H a (.str "hidden") (some (.ref lh)) := by
  have h1 : ¬ ("size" : Str) = "hidden" := by decide +kernel
  have h2 : ¬ ("rows" : Str) = "hidden" := by decide +kernel
  have h3 : ¬ ("gauge" : Str) = "hidden" := by decide +kernel
  have := DGet.k (k := (.inr "hidden" : Key)) e
  have v : valV (cdk n lr lg lh) (.inr "hidden") = some (.ref lh) := by simp [valV, List.find?, h1, h2, h3]
  rw [v] at this
  exact this
abbrev KLs := List (T2 × Addr)
def kD (Ks : KLs) : List (List L2.Key × V) := Ks.map fun k => (kk k.1, V.ref k.2)
def KsAt (H : Hp) (fE fB fG : T2 → Bool) (Ks : KLs) : Prop := ∀ k ∈ Ks, H k.2 = some (.tup [.bl (fE k.1), .bl (fB k.1), .bl (fG k.1)])
def com2 (R : RLs) (p : T2) : Bool := (R.filter fun r => crN r.2 (p.1, p.2, 0) != 0).isEmpty
def gridR (n x : Nat) : List T2 := (List.range (2 ^ n)).map fun z => (x, z)
def grid (n m : Nat) : List T2 := (List.range m).flatMap (gridR n)
theorem kD_put {Ks : KLs} {p : T2} {b : Addr} (h : p ∉ Ks.map (·.1)) : putK (kD Ks) (kk p) (V.ref b) = kD (Ks ++ [(p, b)]) := by
  unfold putK
  rw [if_neg]
  · unfold kD
    rw [List.map_append]
    rfl
  · intro z
    obtain ⟨kv, hk, e⟩ := List.any_eq_true.mp z
    obtain ⟨q, hq, rfl⟩ := List.mem_map.mp hk
    exact h (kk_inj (of_decide_eq_true e) ▸ List.mem_map_of_mem (f := (·.1)) hq)
theorem grid_snoc (n m : Nat) : grid n (m + 1) = grid n m ++ gridR n m := by
  unfold grid
  rw [List.range_succ, List.flatMap_append]
  exact congrArg (_ ++ ·) (List.append_nil _)
theorem grid_mem {n m : Nat} {p : T2} : p ∈ grid n m ↔ p.1 < m ∧ p.2 < 2 ^ n := by
  unfold grid gridR
  constructor
  · intro h
    obtain ⟨x, hx, h⟩ := List.mem_flatMap.mp h
    obtain ⟨z, hz, rfl⟩ := List.mem_map.mp h
    exact ⟨List.mem_range.mp hx, List.mem_range.mp hz⟩
  · rintro ⟨h1, h2⟩
    exact List.mem_flatMap.mpr ⟨p.1, List.mem_range.mpr h1, List.mem_map.mpr ⟨p.2, List.mem_range.mpr h2, rfl⟩⟩
theorem grid_len (n : Nat) : ∀ m, (grid n m).length = m * 2 ^ n
  | 0 => by rw [Nat.zero_mul]; rfl
  | m + 1 => by
    rw [grid_snoc, List.length_append, grid_len n m, Nat.succ_mul]
    unfold gridR
    rw [List.length_map, List.length_range]
def spKin : Sp := fun vs H Q _ => ∃ (a : Addr) (n : Nat) (lr lg lh : Addr) (R G : RLs), vs = [.ref a] ∧ H a = some (.dK (cdk n lr lg lh)) ∧ H lr = some (.lst (refR R)) ∧ RsAt n H R ∧ H lg = some (.lst (refR G)) ∧ RsAt n H G ∧ n ≤ 7 ∧ R.length + G.length ≤ 60 ∧
  ∀ H' d Ks psE psG, Same H H' → H' d = some (.dT (kD Ks)) → KsAt H' (fun p => decide (p ∈ psE)) (com2 G) (fun p => decide (p ∈ psG)) Ks → AllP ((R ++ G).map bz) psE → AllP (R.map bz) psG → Ks.map (·.1) = (grid n (2 ^ n)).filter (com2 R) → Q (.ref d) H'
section
variable {P : Program} {w : World} {K : PySem.W.Frag} {mg : Str → Option Value} {base : Heap}
theorem ok_kin {f fS fX fO : Addr} {fd dS dX dO : FuncData} {k : Nat} (F : Fun K "_law_kinds" "_law_kinds" sKin f fd) (FS : Fun K "_law_spanned" "_law_spanned" sSpd fS dS) (bS : Binds K dS ["_law_strings"] []) (gS : mg "_law_spanned" = some (.ref fS))
    (FX : Fun K "_law_crosses" "_law_crosses" sCross fX dX) (bX : Binds K dX ["_law_one", "_law_two"] []) (gX : mg "_law_crosses" = some (.ref fX)) (FO : Fun K "_law_ones" "_law_ones" sOnes fO dO) (bO : Binds K dO ["_law_number"] []) (gO : mg "_law_ones" = some (.ref fO)) (B : Bl mg) :
    FnOk P w K mg base CX0 (k + 3) f fd ["_law_code_here"] spKin := by
  have GS : FnOk P w K mg base CX0 (k + 2) fS dS ["_law_strings"] (spSpd K) := ok_spd FS B
  have GX : FnOk P w K mg base CX0 (k + 2) fX dX ["_law_one", "_law_two"] spCr := ok_cr FX FO bO gO B
  refine F.ok scKin (fun vs H Q E h => ?_) (fun cdv A outer s H vs Q E hr h => ?_)
  · obtain ⟨a, n, lr, lg, lh, R, G, rfl, _⟩ := h
    rfl
  · obtain ⟨a, n, lr, lg, lh, R, G, rfl, ea, elr, hR, elg, hG, hn, hl, q⟩ := h
    have hu := hu_of hr
    refine ⟨_, C8.pss_cut (ps_par (i := 1) (j := 2) rfl scKin.nd rfl rfl (by decide) rfl rfl (pa_cons (pe_dget hu (pv 0) pe_str (fun _ _ => rfl)) (pa_cons pe_dnewT pa_nil)) rfl)
      (C8.pss_cut (ps_set (i := 3) scKin.nd rfl (.inl rfl) (pe_call GS hr (by rfl) gS FS.kp bS .nil pass0 (pa_cons (pe_op op_cat (pe_dget hu (pv 0) pe_str (fun _ _ => rfl)) (pe_dget hu (pv 0) pe_str (fun _ _ => rfl))) pa_nil)))
      (C8.pss_cut (ps_set (i := 4) scKin.nd rfl (.inl rfl) (pe_call GS hr (by rfl) gS FS.kp bS .nil pass0 (pa_cons (pe_dget hu (pv 0) pe_str (fun _ _ => rfl)) pa_nil)))
      (C8.pss_cut (ps_for PassesOwn.never rfl (pi_range1 (by rfl) B.range (pa_cons (pe_op op_oneShl pe_int (pv 1)) pa_nil)) (pg_name (i := 5) scKin.nd rfl (.inr rfl))
        (pss_one (ps_for PassesOwn.never rfl (pi_range1 (by rfl) B.range (pa_cons (pe_op op_oneShl pe_int (pv 1)) pa_nil)) (pg_name (i := 6) scKin.nd rfl (.inr rfl))
          (pss_one (ps_if (pt_cmpR (op_eqD (hu64_of hr)) (pe_lc (own := [("_law_row", 7)]) (g := gName 7) (by rfl) scKin.nd (pi_list (pe_dget hu (pv 0) pe_str (fun _ _ => rfl))) (blkOk_by (own := [("_law_row", 7)]) (N := ["_law_code_here", "_law_size", "_law_found", "_law_empty", "_law_group", "_law_x", "_law_z", "_law_row", "_law_bare"]) (sc := defScope sKin) (by decide +kernel))
            (fun _ _ _ _ _ => pg_name (i := 7) scKin.nd rfl (Or.inl rfl)) (fun _ _ _ _ _ => pts_tr K rfl (pe_call GX hr (by rfl) gX FX.kp bX .nil pass0 (pa_cons (pv 7) (pa_cons (pe_tup (pa_cons (pv 5) (pa_cons (pv 6) (pa_cons pe_int pa_nil)))) pa_nil))) (by intro _; rfl)) (fun _ _ _ _ _ => pv 7)) (pe_lst pa_nil) (nomark _))
            (C8.pss_cut (ps_set (i := 8) scKin.nd rfl (.inl rfl) (pe_cmpR (op_eqD (hu64_of hr)) (pe_lc (own := [("_law_row", 7)]) (g := gName 7) (by rfl) scKin.nd (pi_list (pe_dget hu (pv 0) pe_str (fun _ _ => rfl))) (blkOk_by (own := [("_law_row", 7)]) (N := ["_law_code_here", "_law_size", "_law_found", "_law_empty", "_law_group", "_law_x", "_law_z", "_law_row", "_law_bare"]) (sc := defScope sKin) (by decide +kernel))
            (fun _ _ _ _ _ => pg_name (i := 7) scKin.nd rfl (Or.inl rfl)) (fun _ _ _ _ _ => pts_tr K rfl (pe_call GX hr (by rfl) gX FX.kp bX .nil pass0 (pa_cons (pv 7) (pa_cons (pe_tup (pa_cons (pv 5) (pa_cons (pv 6) (pa_cons pe_int pa_nil)))) pa_nil))) (by intro _; rfl)) (fun _ _ _ _ _ => pv 7)) (pe_lst pa_nil) (nomark _)))
            (pss_one (ps_dput hu (pv 2) (pe_tup (pa_cons (pv 5) (pa_cons (pv 6) pa_nil))) (pe_tup (pa_cons (pe_cmp (pc_din hu (pe_tup (pa_cons (pv 5) (pa_cons (pv 6) pa_nil))) (pv 3))) (pa_cons (pv 8) (pa_cons (pe_cmp (pc_din hu (pe_tup (pa_cons (pv 5) (pa_cons (pv 6) pa_nil))) (pv 4))) pa_nil)))) rfl))) pss_nil)))))
      (pss_one (ps_ret (pv 2)))))), ?_⟩
    have pw : ∀ m : Nat, ((2 : Int) ^ m) = ((2 ^ m : Nat) : Int) := fun m => by push_cast; rfl
    have nn : (0 : Int) ≤ ((2 ^ n : Nat) : Int) := Int.natCast_nonneg _
    have p5 : 2 ^ n ≤ 2 ^ 7 := Nat.pow_le_pow_right (by decide) hn
    have up60 : ∀ {t : T3}, Fit n t → Fit 60 t := fun h => ⟨Nat.lt_of_lt_of_le h.1 (Nat.pow_le_pow_right (by decide) (by omega)), Nat.lt_of_lt_of_le h.2.1 (Nat.pow_le_pow_right (by decide) (by omega)), h.2.2⟩
    have fxz : ∀ {x z : Nat}, x < 2 ^ n → z < 2 ^ n → Fit n (x, z, 0) := fun h1 h2 => ⟨h1, h2, by show 0 < 2; decide⟩
    refine ⟨fun σ' H' => ∃ d, σ' = [some (.ref a), some (.int (n : Nat)), some (.ref d), none, none, none, none, none, none] ∧ Same H H' ∧ H d = none ∧ H' d = some (.dT (kD [])), ⟨_, rfl, a, _, rfl, cd_size ea, fun d nd => ⟨_, _, rfl, d, rfl, same_new nd, nd, upd_same⟩⟩, ?_⟩
    rintro _ H1 ⟨d, rfl, s1, nd, ed1⟩
    refine ⟨fun σ' H' => ∃ (e3 : Addr) (psE : List T2), σ' = [some (.ref a), some (.int (n : Nat)), some (.ref d), some (.ref e3), none, none, none, none, none] ∧ Same H H' ∧ H' d = some (.dT (kD [])) ∧ H' e3 = some (.dT (tD psE)) ∧ AllP ((R ++ G).map bz) psE, ?_, ?_⟩
    · refine ⟨_, rfl, a, _, rfl, cd_rows (s1 _ _ ea), _, rfl, a, _, rfl, cd_gauge (s1 _ _ ea), lr, lg, refR R, refR G, rfl, rfl, s1 _ _ elr, s1 _ _ elg, ?_, fun x nx => ?_⟩
      · rw [refR_len, refR_len]
        exact Nat.le_trans hl (by decide)
      have s2 := s1.trans (same_new (o := .lst (refR R ++ refR G)) nx)
      have sx := same_new (o := .lst (refR R ++ refR G)) nx
      have ex : (upd H1 x (.lst (refR R ++ refR G))) x = some (.lst (refR (R ++ G))) := by
        rw [upd_same]
        unfold refR
        rw [List.map_append]
      refine ⟨x, n, R ++ G, rfl, SqL.of ex, fun r hr' => ?_, by omega, fun H' e psE s' ee AE => ⟨e, psE, rfl, s2.trans s', s' _ _ (sx _ _ ed1), ee, AE⟩⟩
      rcases List.mem_append.mp hr' with k' | k'
      · exact hR.same s2 r k'
      · exact hG.same s2 r k'
    rintro _ H2 ⟨e3, psE, rfl, s2, ed2, ee2, AE⟩
    refine ⟨fun σ' H' => ∃ (e4 : Addr) (psG : List T2), σ' = [some (.ref a), some (.int (n : Nat)), some (.ref d), some (.ref e3), some (.ref e4), none, none, none, none] ∧ Same H H' ∧ H' d = some (.dT (kD [])) ∧ H' e3 = some (.dT (tD psE)) ∧ H' e4 = some (.dT (tD psG)) ∧ AllP (R.map bz) psG, ?_, ?_⟩
    · exact ⟨_, rfl, a, _, rfl, cd_rows (s2 _ _ ea), lr, n, R, rfl, SqL.of (s2 _ _ elr), hR.same s2, by omega, fun H' e psG s' ee AG => ⟨e, psG, rfl, s2.trans s', s' _ _ ed2, s' _ _ ee2, ee, AG⟩⟩
    rintro _ H3 ⟨e4, psG, rfl, s3, ed3, ee3, eg3, AG⟩
    have d3 : e3 ≠ d := fun z => by
      rw [z, ed3] at ee3
      have z0 : kD [] = tD psE := by injection ee3 with z; injection z
      have : psE = [] := by cases psE with | nil => rfl | cons _ _ => cases z0
      have h0 := (AE.iff (0, 0)).mpr (SpP.zero _)
      rw [this] at h0
      cases h0
    have d4 : e4 ≠ d := fun z => by
      rw [z, ed3] at eg3
      have z0 : kD [] = tD psG := by injection eg3 with z; injection z
      have : psG = [] := by cases psG with | nil => rfl | cons _ _ => cases z0
      have h0 := (AG.iff (0, 0)).mpr (SpP.zero _)
      rw [this] at h0
      cases h0
    let fE : T2 → Bool := fun p => decide (p ∈ psE)
    let fG : T2 → Bool := fun p => decide (p ∈ psG)
    let Inv : List T2 → Hp → Prop := fun done H' => (∀ b o, b ≠ d → H3 b = some o → H' b = some o) ∧ ∃ Ks : KLs, H' d = some (.dT (kD Ks)) ∧ KsAt H' fE (com2 G) fG Ks ∧ Ks.map (·.1) = done.filter (com2 R)
    refine ⟨fun σ' H' => ∃ (v5 v6 v7 v8 : Option V), σ' = [some (.ref a), some (.int (n : Nat)), some (.ref d), some (.ref e3), some (.ref e4), v5, v6, v7, v8] ∧ Inv (grid n (2 ^ n)) H', ?_, ?_⟩
    rotate_left
    · rintro _ H4 ⟨v5, v6, v7, v8, rfl, k4, Ks, ed4, hK, eK⟩
      refine ⟨_, rfl, q H4 d Ks psE psG (fun b o e => k4 _ _ (ne_of_none e nd) (s3 _ _ e)) ed4 hK AE AG eK⟩
    refine ⟨_, rfl, n, rfl, rfl, by omega, _, rfl, by rw [pw n]; omega, by rw [pw n]; omega, ?_⟩
    rw [pw n, Int.toNat_natCast]
    refine for_range (lo := 0) (n := 2 ^ n) (fun x σ' H' => ∃ (v5 v6 v7 v8 : Option V), σ' = [some (.ref a), some (.int (n : Nat)), some (.ref d), some (.ref e3), some (.ref e4), v5, v6, v7, v8] ∧ Inv (grid n x) H')
      ⟨none, none, none, none, rfl, fun _ _ _ e => e, [], ed3, (fun _ h => (by cases h)), rfl⟩ ?_ (fun σ' H' h => h)
    rintro x _ H4 hx ⟨v5, v6, v7, v8, rfl, I4⟩
    refine ⟨_, rfl, n, rfl, rfl, by omega, _, rfl, by rw [pw n]; omega, by rw [pw n]; omega, ?_⟩
    rw [pw n, Int.toNat_natCast]
    refine for_range (lo := 0) (n := 2 ^ n) (fun z σ' H' => ∃ (v6 v7 v8 : Option V), σ' = [some (.ref a), some (.int (n : Nat)), some (.ref d), some (.ref e3), some (.ref e4), some (.int (x : Nat)), v6, v7, v8] ∧ Inv (grid n x ++ (List.range z).map fun z => (x, z)) H')
      ⟨v6, v7, v8, by rw [Int.zero_add]; rfl, by show Inv (grid n x ++ []) H4; rw [List.append_nil]; exact I4⟩ ?_ (fun σ' H' ⟨v6, v7, v8, e, I⟩ => ⟨_, v6, v7, v8, e, by rw [grid_snoc]; exact I⟩)
    rintro z _ H5 hz ⟨v6, v7, v8, rfl, k5, Ks, ed5, hK, eK⟩
    have kp : ∀ {b : Addr} {xs : List V}, H3 b = some (.lst xs) → H5 b = some (.lst xs) := fun e => k5 _ _ (ne_of e ed3 (fun z => nomatch z)) e
    have kt : ∀ {b : Addr} {xs : List V}, H3 b = some (.tup xs) → H5 b = some (.tup xs) := fun e => k5 _ _ (ne_of e ed3 (fun z => nomatch z)) e
    have ea5 : H5 a = some (.dK (cdk n lr lg lh)) := k5 _ _ (ne_of (s3 _ _ ea) ed3 (fun z => nomatch z)) (s3 _ _ ea)
    have elr5 := kp (s3 _ _ elr)
    have elg5 := kp (s3 _ _ elg)
    have hR5 : RsAt n H5 R := fun r h => ⟨kt ((hR.same s3) r h).1, (hR r h).2⟩
    have hG5 : RsAt n H5 G := fun r h => ⟨kt ((hG.same s3) r h).1, (hG r h).2⟩
    have ez : V.int (0 + (z : Nat)) = V.int (z : Nat) := by rw [Int.zero_add]
    rw [ez]
    refine ⟨_, rfl, a, _, rfl, cd_rows ea5, lr, rfl, ⟨_, SqL.of elr5⟩, fun D nD => ?_⟩
    refine lc_list (K := K) (a := lr) (xs := refR R) (Pv := fun j Hc => Same H5 Hc ∧ Hc D = some (.lst (refR ((R.take j).filter fun r => crN r.2 (x, z, 0) != 0)))) ⟨same_new nD, upd_same⟩ (fun j Hc _ ⟨sc, _⟩ => SqL.of (sc _ _ elr5)) ?_ ?_
    · rintro j y Hc hj ⟨sc, ec⟩
      obtain ⟨r, hr', rfl⟩ := refR_at hj
      obtain ⟨er, fr⟩ := hR5.same sc r (List.mem_of_getElem? hr')
      have jl := (List.getElem?_eq_some_iff.mp hr').1
      refine ⟨rfl, _, rfl, _, rfl, _, rfl, by show 3 ≤ sizeLine; decide, fun T nT => ?_⟩
      have sT := same_new (o := .tup [V.int (x : Nat), V.int (z : Nat), V.int 0]) nT
      have ec' := sT _ _ ec
      refine ⟨r.1, T, r.2, (x, z, 0), rfl, sT _ _ er, upd_same, up60 fr, up60 (fxz hx hz), _, rfl, ?_⟩
      have tk : (R.take (j + 1)).filter (fun r => crN r.2 (x, z, 0) != 0) = (R.take j).filter (fun r => crN r.2 (x, z, 0) != 0) ++ (if (crN r.2 (x, z, 0) != 0) then [r] else []) := by
        rw [take_snoc hr', List.filter_append]
        congr 1
        cases h : (crN r.2 (x, z, 0) != 0) <;> simp [h]
      have eb : (((crN r.2 (x, z, 0) : Nat) : Int) != 0) = (crN r.2 (x, z, 0) != 0) := by
        by_cases h : crN r.2 (x, z, 0) = 0
        · rw [h]; rfl
        · rw [bne_iff_ne.mpr h, bne_iff_ne.mpr (by omega)]
      rw [eb]
      cases hb : (crN r.2 (x, z, 0) != 0) with
      | true =>
        rw [hb] at tk
        refine iteT ⟨_, rfl, _, ec', ?_, same_put0 (sc.trans sT) nD, ?_⟩
        · rw [refR_len]
          exact Nat.lt_of_le_of_lt (Nat.le_trans (List.length_filter_le ..) (by rw [List.length_take]; omega : _ ≤ 60)) (by decide)
        · rw [upd_same, tk]
          unfold refR
          rw [List.map_append]
          rfl
      | false =>
        rw [hb] at tk
        exact iteF ⟨sc.trans sT, by rw [ec', tk]; show _ = some (HO.lst (refR (_ ++ []))); rw [List.append_nil]⟩
    rintro Hc ⟨sc, ec⟩
    rw [refR_len, List.take_length] at ec
    refine ⟨by show 0 ≤ sizeLine; decide, fun l nl => ?_⟩
    have sl := same_new (o := .lst []) nl
    obtain ⟨dd, de, D1, D2, D3, D4, D5⟩ := eq_nil (K := K) (sl _ _ ec) (fun r hr' => ((hR5.same (sc.trans sl)) r (List.mem_filter.mp hr').1).1) (upd_same : (upd Hc l (.lst [])) l = some (.lst []))
    refine ⟨dd, de, D1, D2, D3, D4, _, rfl, ?_⟩
    rw [D5]
    have s56 := sc.trans sl
    have next : (grid n x ++ (List.range (z + 1)).map fun z => (x, z)) = (grid n x ++ (List.range z).map fun z => (x, z)) ++ [(x, z)] := by
      rw [List.range_succ, List.map_append, ← List.append_assoc]
      rfl
    have cR : ((R.filter fun r => crN r.2 (x, z, 0) != 0).isEmpty) = com2 R (x, z) := rfl
    rw [cR]
    have ed6 := s56 _ _ ed5
    have kk6 : ∀ b o, b ≠ d → H3 b = some o → (upd Hc l (.lst [])) b = some o := fun b o hb e => s56 _ _ (k5 b o hb e)
    have hK6 : KsAt (upd Hc l (.lst [])) fE (com2 G) fG Ks := fun k hk => s56 _ _ (hK k hk)
    have elg6 := s56 _ _ elg5
    have ea6 := s56 _ _ ea5
    have hG6 := hG5.same s56
    generalize upd Hc l (.lst []) = H6 at ed6 kk6 hK6 elg6 ea6 hG6 ⊢
    cases hc : com2 R (x, z) with
    | false =>
      refine iteF ⟨_, _, _, rfl, kk6, Ks, ed6, hK6, ?_⟩
      rw [next, List.filter_append, eK, List.filter_cons, hc]
      exact (List.append_nil _).symm
    | true =>
      refine iteT ?_
      refine ⟨fun σ' H' => σ' = [some (.ref a), some (.int (n : Nat)), some (.ref d), some (.ref e3), some (.ref e4), some (.int (x : Nat)), some (.int (z : Nat)), v7, some (.bl (com2 G (x, z)))] ∧ Same H6 H', ?_, ?_⟩
      · refine ⟨_, rfl, a, _, rfl, cd_gauge ea6, lg, rfl, ⟨_, SqL.of elg6⟩, fun D nD => ?_⟩
        refine lc_list (K := K) (a := lg) (xs := refR G) (Pv := fun j Hc => Same H6 Hc ∧ Hc D = some (.lst (refR ((G.take j).filter fun r => crN r.2 (x, z, 0) != 0)))) ⟨same_new nD, upd_same⟩ (fun j Hc _ ⟨sc, _⟩ => SqL.of (sc _ _ elg6)) ?_ ?_
        · rintro j y Hc hj ⟨sc, ec⟩
          obtain ⟨r, hr', rfl⟩ := refR_at hj
          obtain ⟨er, fr⟩ := hG6.same sc r (List.mem_of_getElem? hr')
          have jl := (List.getElem?_eq_some_iff.mp hr').1
          refine ⟨rfl, _, rfl, _, rfl, _, rfl, by show 3 ≤ sizeLine; decide, fun T nT => ?_⟩
          have sT := same_new (o := .tup [V.int (x : Nat), V.int (z : Nat), V.int 0]) nT
          have ec' := sT _ _ ec
          refine ⟨r.1, T, r.2, (x, z, 0), rfl, sT _ _ er, upd_same, up60 fr, up60 (fxz hx hz), _, rfl, ?_⟩
          have tk : (G.take (j + 1)).filter (fun r => crN r.2 (x, z, 0) != 0) = (G.take j).filter (fun r => crN r.2 (x, z, 0) != 0) ++ (if (crN r.2 (x, z, 0) != 0) then [r] else []) := by
            rw [take_snoc hr', List.filter_append]
            congr 1
            cases h : (crN r.2 (x, z, 0) != 0) <;> simp [h]
          have eb : (((crN r.2 (x, z, 0) : Nat) : Int) != 0) = (crN r.2 (x, z, 0) != 0) := by
            by_cases h : crN r.2 (x, z, 0) = 0
            · rw [h]; rfl
            · rw [bne_iff_ne.mpr h, bne_iff_ne.mpr (by omega)]
          rw [eb]
          cases hb : (crN r.2 (x, z, 0) != 0) with
          | true =>
            rw [hb] at tk
            refine iteT ⟨_, rfl, _, ec', ?_, same_put0 (sc.trans sT) nD, ?_⟩
            · rw [refR_len]
              exact Nat.lt_of_le_of_lt (Nat.le_trans (List.length_filter_le ..) (by rw [List.length_take]; omega : _ ≤ 60)) (by decide)
            · rw [upd_same, tk]
              unfold refR
              rw [List.map_append]
              rfl
          | false =>
            rw [hb] at tk
            exact iteF ⟨sc.trans sT, by rw [ec', tk]; show _ = some (HO.lst (refR (_ ++ []))); rw [List.append_nil]⟩
        rintro Hc ⟨sc, ec⟩
        rw [refR_len, List.take_length] at ec
        refine ⟨by show 0 ≤ sizeLine; decide, fun l nl => ?_⟩
        have sl := same_new (o := .lst []) nl
        obtain ⟨dd, de, D1, D2, D3, D4, D5⟩ := eq_nil (K := K) (sl _ _ ec) (fun r hr' => ((hG6.same (sc.trans sl)) r (List.mem_filter.mp hr').1).1) (upd_same : (upd Hc l (.lst [])) l = some (.lst []))
        refine ⟨dd, de, D1, D2, D3, D4, ?_⟩
        rw [D5]
        exact ⟨rfl, sc.trans sl⟩
      rintro _ H7 ⟨rfl, s7⟩
      have ed7 := s7 _ _ ed6
      have ee7 : H7 e3 = some (.dT (tD psE)) := s7 _ _ (kk6 _ _ d3 ee3)
      have eg7 : H7 e4 = some (.dT (tD psG)) := s7 _ _ (kk6 _ _ d4 eg3)
      refine ⟨_, rfl, _, rfl, by show 2 ≤ sizeLine; decide, fun T1 nT1 => ?_⟩
      have s8 := s7.trans (same_new (o := .tup [V.int (x : Nat), V.int (z : Nat)]) nT1)
      have s78 := same_new (o := .tup [V.int (x : Nat), V.int (z : Nat)]) nT1
      have eT1 : (upd H7 T1 (.tup [V.int (x : Nat), V.int (z : Nat)])) T1 = some (.tup ((kk (x, z)).map kV)) := upd_same
      generalize upd H7 T1 (.tup [V.int (x : Nat), V.int (z : Nat)]) = H8 at s8 s78 eT1 ⊢
      refine ⟨_, rfl, e3, _, rfl, DGet.t (s78 _ _ ee7) eT1, _, rfl, _, rfl, _, rfl, by show 2 ≤ sizeLine; decide, fun T2' nT2 => ?_⟩
      have s89 := same_new (o := .tup [V.int (x : Nat), V.int (z : Nat)]) nT2
      have eT2 : (upd H8 T2' (.tup [V.int (x : Nat), V.int (z : Nat)])) T2' = some (.tup ((kk (x, z)).map kV)) := upd_same
      generalize upd H8 T2' (.tup [V.int (x : Nat), V.int (z : Nat)]) = H9 at s89 eT2 ⊢
      have s79 := s78.trans s89
      refine ⟨_, rfl, e4, _, rfl, DGet.t (s79 _ _ eg7) eT2, by show 3 ≤ sizeLine; decide, fun b nb => ?_⟩
      rw [tD_get, tD_get]
      have sA := same_new (o := .tup [V.bl (decide ((x, z) ∈ psE)), V.bl (com2 G (x, z)), V.bl (decide ((x, z) ∈ psG))]) nb
      have eb : (upd H9 b (.tup [V.bl (decide ((x, z) ∈ psE)), V.bl (com2 G (x, z)), V.bl (decide ((x, z) ∈ psG))])) b = some (.tup [V.bl (fE (x, z)), V.bl (com2 G (x, z)), V.bl (fG (x, z))]) := upd_same
      generalize upd H9 b (.tup [V.bl (decide ((x, z) ∈ psE)), V.bl (com2 G (x, z)), V.bl (decide ((x, z) ∈ psG))]) = HA at sA eb ⊢
      refine ⟨_, rfl, _, rfl, _, rfl, by show 2 ≤ sizeLine; decide, fun T3' nT3 => ?_⟩
      have sB := same_new (o := .tup [V.int (x : Nat), V.int (z : Nat)]) nT3
      have eT3 : (upd HA T3' (.tup [V.int (x : Nat), V.int (z : Nat)])) T3' = some (.tup ((kk (x, z)).map kV)) := upd_same
      generalize upd HA T3' (.tup [V.int (x : Nat), V.int (z : Nat)]) = HB at sB eT3 ⊢
      have s7B := (s79.trans sA).trans sB
      have edB := s7B _ _ ed7
      have s6B := s7.trans s7B
      have fresh : (x, z) ∉ Ks.map (·.1) := fun h => by
        rw [eK] at h
        rcases List.mem_append.mp (List.mem_filter.mp h).1 with k' | k'
        · have := (grid_mem.mp k').1
          exact Nat.lt_irrefl _ this
        · obtain ⟨w', hw, e⟩ := List.mem_map.mp k'
          have : w' = z := congrArg Prod.snd e
          have := List.mem_range.mp hw
          omega
      have lenK : (kD Ks).length < sizeLine := by
        have : Ks.length ≤ (grid n (x + 1)).length := by
          rw [show Ks.length = (Ks.map (·.1)).length by rw [List.length_map], eK]
          refine Nat.le_trans (List.length_filter_le ..) ?_
          rw [List.length_append, grid_len, grid_len, List.length_map, List.length_range, Nat.succ_mul]
          omega
        rw [grid_len] at this
        have : (x + 1) * 2 ^ n ≤ 128 * 128 := Nat.mul_le_mul (by omega) p5
        have l : (kD Ks).length = Ks.length := List.length_map ..
        rw [l]
        exact Nat.lt_of_le_of_lt (by omega : _ ≤ 16384) (by decide)
      refine ⟨d, _, rfl, DPut.t edB eT3 lenK, _, _, _, rfl, fun b' o hb' e => ?_, Ks ++ [((x, z), b)], ?_, fun k hk => ?_, ?_⟩
      · rw [upd_ne hb']
        exact s6B _ _ (kk6 _ _ hb' e)
      · rw [upd_same, kD_put fresh]
      · have tn : ∀ {y : Addr} {xs : List V}, HB y = some (.tup xs) → (upd HB d (.dT (putK (kD Ks) (kk (x, z)) (V.ref b)))) y = some (.tup xs) := fun e => by rw [upd_ne (ne_of e edB (fun z => nomatch z))]; exact e
        rcases List.mem_append.mp hk with k' | k'
        · exact tn (s6B _ _ (hK6 k k'))
        · rw [List.mem_singleton.mp k']
          exact tn (sB _ _ eb)
      · rw [List.map_append, eK, next, List.filter_append (grid n x ++ _), List.filter_cons, hc]
        rfl
end
end KQ
namespace KQ
open PySem PySem.Spec PyProof.Rows L2
def inn (ps : List Nat) (p : T2) : Bool := decide ((p.1 ||| p.2) &&& maskL ps = p.1 ||| p.2)
theorem kD_get : ∀ {Ks : KLs} {k : T2 × Addr}, (Ks.map (·.1)).Nodup → k ∈ Ks → valV (kD Ks) (kk k.1) = some (.ref k.2)
  | [], _, _, h => by cases h
  | j :: Ks, k, nd, h => by
    show valV ((kk j.1, V.ref j.2) :: kD Ks) (kk k.1) = _
    obtain ⟨n1, n2⟩ := List.nodup_cons.mp nd
    rcases List.mem_cons.mp h with e | h
    · rw [e, valV_pos rfl]
    · rw [valV_neg (p := (kk j.1, V.ref j.2)) (fun z => n1 (by have e := kk_inj (p := j.1) (q := k.1) z; show j.1 ∈ _; rw [e]; exact List.mem_map_of_mem (f := (·.1)) h)), kD_get n2 h]
theorem par0 (a b : V) : atI [a, b] 0 = some a := at_of (j := 0) rfl rfl
theorem par1 (a b : V) : atI [a, b] 1 = some b := at_of (j := 1) rfl rfl
end KQ
namespace KQ
open PySem PySem.Spec PyProof.Rows L2
abbrev sWM : Stmt := topS 79
theorem scWM : FnScope ["_law_pen_here", "_law_code_here", "_law_rows", "_law_gauge", "_law_key"] ["_law_pen_here", "_law_code_here"] (defScope sWM) := ⟨rfl, rfl, rfl, by decide +kernel, rfl, by decide +kernel, by decide +kernel⟩
/-- a row that is put in: a product of two, one of them, or the empty one -/
def MoreR (R : RLs) (u : T3) : Prop := (∃ r ∈ R, ∃ q ∈ R, u = lpr r.2 q.2) ∨ (∃ r ∈ R, u = r.2) ∨ u = (0, 0, 0)
/-- a gauge string that is put in -/
def MoreG (R G : RLs) (u : T3) : Prop := (∃ r ∈ G, ∃ q ∈ G, u = (r.2.1 ^^^ q.2.1, r.2.2.1 ^^^ q.2.2.1, 0)) ∨ (∃ r ∈ G, u = r.2) ∨ (∃ r ∈ R, u = r.2) ∨ ∃ r ∈ R, ∃ q ∈ G, u.1 = r.2.1 ^^^ q.2.1 ∧ u.2.1 = r.2.2.1 ^^^ q.2.2.1
def spWM : Sp := fun vs H Q _ => ∃ (p c a : Addr) (k n : Nat) (lr lg lh : Addr) (R G : RLs), vs = [.ref p, .ref a] ∧ PenAt H p c k ∧ k + 200 < 1000000 ∧ a ≠ p ∧ H a = some (.dK (cdk n lr lg lh)) ∧ H lr = some (.lst (refR R)) ∧ RsAt n H R ∧ H lg = some (.lst (refR G)) ∧ RsAt n H G ∧ n ≤ 10 ∧ R.length ≤ 10 ∧ G.length ≤ 10 ∧
  ∀ H' k' lr' lg' R' G' X Y, (∀ b o, b ≠ p → b ≠ a → H b = some o → H' b = some o) → PenAt H' p c k' → k' ≤ k + 200 → H' a = some (.dK (cdk n lr' lg' lh)) → H' lr' = some (.lst (refR R')) → RsAt n H' R' → H' lg' = some (.lst (refR G')) → RsAt n H' G' →
    (R'.map (·.2)).Perm (R.map (·.2) ++ X) → X.length ≤ 1 → (∀ u ∈ X, MoreR R u) → (G'.map (·.2)).Perm (G.map (·.2) ++ Y) → Y.length ≤ 3 → (∀ u ∈ Y, MoreG R' G u) → Q (.ref a) H'
theorem put_rows (n : Nat) (lr lg lh x : Addr) : putK (cdk n lr lg lh) (.inr "rows") (.ref x) = cdk n x lg lh := by
  have h1 : ¬ ("size" : Str) = "rows" := by decide +kernel
  have h3 : ¬ ("gauge" : Str) = "rows" := by decide +kernel
  have h4 : ¬ ("hidden" : Str) = "rows" := by decide +kernel
  simp [putK, h1, h3, h4]
theorem put_gauge (n : Nat) (lr lg lh x : Addr) : putK (cdk n lr lg lh) (.inr "gauge") (.ref x) = cdk n lr x lh := by
  have h1 : ¬ ("size" : Str) = "gauge" := by decide +kernel
  have h3 : ¬ ("rows" : Str) = "gauge" := by decide +kernel
  have h4 : ¬ ("hidden" : Str) = "gauge" := by decide +kernel
  simp [putK, h1, h3, h4]
theorem at_first {R : RLs} (h : R ≠ []) : ∃ r ∈ R, atI (refR R) 0 = some (.ref r.1) := by
  cases R with
  | nil => exact absurd rfl h
  | cons r R => exact ⟨r, List.mem_cons_self .., at_of (j := 0) rfl rfl⟩
theorem at_last {R : RLs} (h : R ≠ []) : ∃ r ∈ R, atI (refR R) (-1) = some (.ref r.1) := by
  refine ⟨R.getLast h, List.getLast_mem h, ?_⟩
  have l : 0 < R.length := List.length_pos_iff.mpr h
  have e : R[R.length - 1]? = some (R.getLast h) := by
    rw [List.getLast_eq_getElem, List.getElem?_eq_getElem (by omega)]
  have e2 : (refR R)[R.length - 1]? = some (.ref (R.getLast h).1) := by
    unfold refR
    rw [List.getElem?_map, e]
    rfl
  unfold atI
  have ix : ixN (refR R).length (-1) = some (R.length - 1) := by
    unfold ixN
    rw [refR_len, if_neg (by decide), if_pos (by omega)]
    congr 1
    omega
  rw [ix]
  exact e2
section
variable {P : Program} {w : World} {K : PySem.W.Frag} {mg : Str → Option Value} {base : Heap}
theorem ok_wm {f fD fP fS fM fO fT : Addr} {fd dD dP dS dM dO dT : FuncData} {k : Nat} (F : Fun K "_law_with_more" "_law_with_more" sWM f fd) (FD : Fun K "_law_draw" "_law_draw" sDraw fD dD) (bD : Binds K dD ["_law_pen_here", "_law_many"] []) (gD : mg "_law_draw" = some (.ref fD))
    (FP : Fun K "_law_pick" "_law_pick" sPick fP dP) (bP : Binds K dP ["_law_pen_here", "_law_some"] []) (gP : mg "_law_pick" = some (.ref fP)) (FS : Fun K "_law_shuffled" "_law_shuffled" sShuf fS dS) (bS : Binds K dS ["_law_pen_here", "_law_some"] []) (gS : mg "_law_shuffled" = some (.ref fS))
    (FM : Fun K "_law_product" "_law_product" sProd fM dM) (bM : Binds K dM ["_law_one", "_law_two"] []) (gM : mg "_law_product" = some (.ref fM)) (FO : Fun K "_law_ones" "_law_ones" sOnes fO dO) (bO : Binds K dO ["_law_number"] []) (gO : mg "_law_ones" = some (.ref fO))
    (FT : Fun K "_law_times" "_law_times" sLTimes fT dT) (bT : Binds K dT ["_law_one", "_law_two"] []) (gT : mg "_law_times" = some (.ref fT)) (B : Bl mg) (mm : mg "max" = none) :
    FnOk P w K mg base CX0 (k + 3) f fd ["_law_pen_here", "_law_code_here"] spWM := by
  have GD : FnOk P w K mg base CX0 (k + 1) fD dD ["_law_pen_here", "_law_many"] spDraw := ok_draw FD B.int B.len
  have GP : FnOk P w K mg base CX0 (k + 2) fP dP ["_law_pen_here", "_law_some"] (spPick K) := ok_pick FP FD bD gD B.int B.len
  have GS : FnOk P w K mg base CX0 (k + 2) fS dS ["_law_pen_here", "_law_some"] (spShuf K) := ok_shuf FS FD bD gD B
  have GM : FnOk P w K mg base CX0 (k + 2) fM dM ["_law_one", "_law_two"] spProd := ok_prod FM FO bO gO B
  have GT : FnOk P w K mg base CX0 (k + 2) fT dT ["_law_one", "_law_two"] spLT := ok_lt FT B mm
  refine F.ok scWM (fun vs H Q E h => ?_) (fun cdv A outer s H vs Q E hr h => ?_)
  · obtain ⟨p, c, a, k, n, lr, lg, lh, R, G, rfl, _⟩ := h
    rfl
  · obtain ⟨p, c, a, k0, n, lr, lg, lh, R, G, rfl, hP, hk, nap, ea, elr, hR, elg, hG, hn, lR, lG, q⟩ := h
    have hu := hu_of hr
    refine ⟨_, C8.pss_cut (ps_par (i := 2) (j := 3) rfl scWM.nd rfl rfl (by decide) rfl rfl (pa_cons (pe_callTy call_list_of (by rfl) B.list bootL (pa_cons (pe_dget hu (pv 1) pe_str (fun _ _ => rfl)) pa_nil)) (pa_cons (pe_callTy call_list_of (by rfl) B.list bootL (pa_cons (pe_dget hu (pv 1) pe_str (fun _ _ => rfl)) pa_nil)) pa_nil)) rfl)
      (C8.pss_cut (ps_if (PW.pt (pw_and (pt_cmpR (op_neD (hu64_of hr)) (pv 2) (pe_lst pa_nil) (nomark _)) (pw_and1 (pt_cmpR op_eq (pe_call GD (hr.mono (by omega)) (by rfl) gD FD.kp bD .nil pass0 (pa_cons (pv 0) (pa_cons pe_int pa_nil))) pe_int (nomark _)))))
        (C8.pss_cut (ps_expr (pe_bm PySem.F.plainAttrs_list PySem.F.slot_list_append PySem.F.type_list_append mt_append (pv 2) (pa_cons (pe_call GP hr (by rfl) gP FP.kp bP .nil pass0 (pa_cons (pv 0) (pa_cons (pe_lst (pa_cons (pe_call GM hr (by rfl) gM FM.kp bM .nil pass0 (pa_cons (pe_ix ix_list (pv 2) pe_int (fun _ _ => rfl)) (pa_cons (pe_ix ix_list (pv 2) (pe_un un_neg pe_int) (fun _ _ => rfl)) pa_nil))) (pa_cons (pe_ix ix_list (pv 2) pe_int (fun _ _ => rfl)) (pa_cons (pe_tup (pa_cons pe_int (pa_cons pe_int (pa_cons pe_int pa_nil)))) pa_nil)))) pa_nil))) pa_nil)))
        (pss_one (ps_dput hu (pv 1) pe_str (pe_call GS hr (by rfl) gS FS.kp bS .nil pass0 (pa_cons (pv 0) (pa_cons (pv 2) pa_nil))) rfl))) pss_nil)
      (C8.pss_cut (ps_if (PW.pt (pw_and (pt_cmpR (op_neD (hu64_of hr)) (pv 3) (pe_lst pa_nil) (nomark _)) (pw_and1 (pt_cmpR op_eq (pe_call GD (hr.mono (by omega)) (by rfl) gD FD.kp bD .nil pass0 (pa_cons (pv 0) (pa_cons pe_int pa_nil))) pe_int (nomark _)))))
        (C8.pss_cut (ps_set (i := 4) scWM.nd rfl (.inl rfl) (pe_ix ix_tup (pe_call GT hr (by rfl) gT FT.kp bT .nil pass0 (pa_cons (pe_ix ix_list (pv 3) pe_int (fun _ _ => rfl)) (pa_cons (pe_ix ix_list (pv 3) (pe_un un_neg pe_int) (fun _ _ => rfl)) pa_nil))) pe_int (fun _ _ => rfl)))
        (C8.pss_cut (ps_set (i := 3) scWM.nd rfl (.inl rfl) (pe_op op_cat (pe_op op_cat (pe_op op_cat (pv 3) (pe_lst (pa_cons (pe_tup (pa_cons (pe_ix ix_tup (pv 4) pe_int (fun _ _ => rfl)) (pa_cons (pe_ix ix_tup (pv 4) pe_int (fun _ _ => rfl)) (pa_cons pe_int pa_nil)))) pa_nil))) (pe_slice sl_list (pv 3) po_none (po_some (pe_call GD (hr.mono (by omega)) (by rfl) gD FD.kp bD .nil pass0 (pa_cons (pv 0) (pa_cons pe_int pa_nil)))))) (pe_slice sl_list (pv 2) po_none (po_some (pe_call GD (hr.mono (by omega)) (by rfl) gD FD.kp bD .nil pass0 (pa_cons (pv 0) (pa_cons pe_int pa_nil)))))))
        (pss_one (ps_dput hu (pv 1) pe_str (pe_call GS hr (by rfl) gS FS.kp bS .nil pass0 (pa_cons (pv 0) (pa_cons (pv 3) pa_nil))) rfl)))) pss_nil)
      (pss_one (ps_ret (pv 1))))), ?_⟩
    have up60 : ∀ {t : T3}, Fit n t → Fit 60 t := fun h => ⟨Nat.lt_of_lt_of_le h.1 (Nat.pow_le_pow_right (by decide) (by omega)), Nat.lt_of_lt_of_le h.2.1 (Nat.pow_le_pow_right (by decide) (by omega)), h.2.2⟩
    have f0 : Fit n (0, 0, 0) := ⟨Nat.two_pow_pos _, Nat.two_pow_pos _, by show 0 < 2; decide⟩
    refine ⟨fun σ' H' => ∃ l2 l3, σ' = [some (.ref p), some (.ref a), some (.ref l2), some (.ref l3), none] ∧ Same H H' ∧ H l2 = none ∧ H l3 = none ∧ l2 ≠ l3 ∧ H' l2 = some (.lst (refR R)) ∧ H' l3 = some (.lst (refR G)), ?_, ?_⟩
    · refine ⟨_, rfl, a, _, rfl, cd_rows ea, lr, _, rfl, .inl (SqL.of elr), fun l2 nl2 => ?_⟩
      have s1 := same_new (o := .lst (refR R)) nl2
      refine ⟨_, rfl, a, _, rfl, cd_gauge (s1 _ _ ea), lg, _, rfl, .inl (SqL.of (s1 _ _ elg)), fun l3 nl3 => ⟨_, _, rfl, l2, l3, rfl, s1.trans (same_new nl3), nl2, none_bk s1 nl3, fun z => ?_, same_new nl3 _ _ upd_same, upd_same⟩⟩
      rw [← z, upd_same] at nl3
      cases nl3
    rintro _ H1 ⟨l2, l3, rfl, s1, nl2, nl3, n23, el2, el3⟩
    have P1 := hP.ext s1
    have ea1 := s1 _ _ ea
    have elr1 := s1 _ _ elr
    have elg1 := s1 _ _ elg
    have hR1 := hR.same s1
    have hG1 := hG.same s1
    have nl2a : a ≠ l2 := fun z => by rw [← z, ea] at nl2; cases nl2
    have nl3a : a ≠ l3 := fun z => by rw [← z, ea] at nl3; cases nl3
    refine ⟨fun σ' H' => ∃ (k' : Nat) (lr' : Addr) (R' R2 : RLs) (X : List T3), σ' = [some (.ref p), some (.ref a), some (.ref l2), some (.ref l3), none] ∧ (∀ b o, b ≠ p → b ≠ a → b ≠ l2 → H1 b = some o → H' b = some o) ∧ PenAt H' p c k' ∧ k' ≤ k0 + 60 ∧ H' a = some (.dK (cdk n lr' lg lh)) ∧ H' lr' = some (.lst (refR R')) ∧ RsAt n H' R' ∧ (R'.map (·.2)).Perm (R.map (·.2) ++ X) ∧ X.length ≤ 1 ∧ (∀ u ∈ X, MoreR R u) ∧
        H' l2 = some (.lst (refR R2)) ∧ RsAt n H' R2 ∧ R2.length ≤ 11 ∧ (∀ r ∈ R2, ∃ r' ∈ R', r'.2 = r.2) ∧ H' l3 = some (.lst (refR G)), ?_, ?_⟩
    · have same : ∀ {H' : Hp} {k' : Nat}, KB p H1 H' → PenAt H' p c k' → k' ≤ k0 + 60 → ∃ (k' : Nat) (lr' : Addr) (R' R2 : RLs) (X : List T3), [some (V.ref p), some (.ref a), some (.ref l2), some (.ref l3), none] = [some (V.ref p), some (.ref a), some (.ref l2), some (.ref l3), none] ∧ (∀ b o, b ≠ p → b ≠ a → b ≠ l2 → H1 b = some o → H' b = some o) ∧ PenAt H' p c k' ∧ k' ≤ k0 + 60 ∧ H' a = some (.dK (cdk n lr' lg lh)) ∧ H' lr' = some (.lst (refR R')) ∧ RsAt n H' R' ∧ (R'.map (·.2)).Perm (R.map (·.2) ++ X) ∧ X.length ≤ 1 ∧ (∀ u ∈ X, MoreR R u) ∧
          H' l2 = some (.lst (refR R2)) ∧ RsAt n H' R2 ∧ R2.length ≤ 11 ∧ (∀ r ∈ R2, ∃ r' ∈ R', r'.2 = r.2) ∧ H' l3 = some (.lst (refR G)) := fun {H' k'} kb P' lk =>
        ⟨k', lr, R, R, [], rfl, fun b o hb _ _ e => kb _ _ e hb, P', lk, kb _ _ ea1 nap, kb_lst P1 kb elr1, kb_rs P1 kb hR1, by rw [List.append_nil], Nat.zero_le _, fun _ h => (by cases h), kb_lst P1 kb el2, kb_rs P1 kb hR1, by omega, fun r h => ⟨r, h, rfl⟩, kb_lst P1 kb el3⟩
      refine ⟨_, rfl, by show 0 ≤ sizeLine; decide, fun l nl => ?_⟩
      have sl := same_new (o := .lst []) nl
      obtain ⟨dd, de, D1, D2, D3, D4, D5⟩ := eq_nil (K := K) (sl _ _ el2) (fun r hr' => ((hR1.same sl) r hr').1) (upd_same : (upd H1 l (.lst [])) l = some (.lst []))
      refine ⟨dd, de, D1, D2, D3, D4, _, rfl, ?_⟩
      rw [D5]
      generalize upd H1 l (.lst []) = H2 at sl
      have P2 := P1.ext sl
      cases hE : R.isEmpty with
      | true => exact iteF (iteF (same (KB.of sl) P2 (by omega)))
      | false =>
        have R0 : R ≠ [] := fun z => by rw [z] at hE; cases hE
        refine iteT ⟨_, rfl, p, c, k0, 3, rfl, P2, by omega, by decide, by decide, fun r0 H3 hr0 hr1 P3 k3 => ?_⟩
        have kb3 : KB p H1 H3 := (KB.of sl).trans (KB.eq k3)
        refine ⟨rfl, _, rfl, ite2 (fun z => ?_) (fun z => same kb3 P3 (by omega))⟩
        have el23 := kb_lst P1 kb3 el2
        have hR3 := kb_rs P1 kb3 hR1
        have ea3 := kb3 _ _ ea1 nap
        have el33 := kb_lst P1 kb3 el3
        obtain ⟨rf, rfm, af⟩ := at_first R0
        obtain ⟨rl, rlm, al⟩ := at_last R0
        refine ⟨fun σ' H' => ∃ u : Addr × T3, σ' = [some (.ref p), some (.ref a), some (.ref l2), some (.ref l3), none] ∧ KB p H3 (upd H3 l2 (.lst (refR R))) ∧ (∀ b o, b ≠ p → b ≠ l2 → H3 b = some o → H' b = some o) ∧ PenAt H' p c (k0 + 2) ∧ H' l2 = some (.lst (refR (R ++ [u]))) ∧ TrAt H' u.1 u.2 ∧ Fit n u.2 ∧ MoreR R u.2, ?_, ?_⟩
        · refine ⟨_, rfl, .inl ⟨rfl, _, SqL.of el23⟩, _, rfl, _, rfl, l2, refR R, 0, _, rfl, rfl, SqL.of el23, af, _, rfl, _, rfl, l2, refR R, -1, _, rfl, rfl, SqL.of el23, al, rf.1, rl.1, rf.2, rl.2, rfl, (hR3 rf rfm).1, (hR3 rl rlm).1, up60 (hR3 rf rfm).2, up60 (hR3 rl rlm).2, fun H4 x s4 nx ex => ?_⟩
          have el24 := s4 _ _ el23
          refine ⟨_, rfl, l2, refR R, 0, _, rfl, rfl, SqL.of el24, af, by show 3 ≤ sizeLine; decide, fun y ny => ?_⟩
          have s5 := s4.trans (same_new (o := .tup [V.int 0, V.int 0, V.int 0]) ny)
          have ey : TrAt (upd H4 y (.tup [V.int 0, V.int 0, V.int 0])) y (0, 0, 0) := upd_same
          have ex5 := same_new (o := .tup [V.int 0, V.int 0, V.int 0]) ny _ _ ex
          generalize upd H4 y (.tup [V.int 0, V.int 0, V.int 0]) = H5 at s5 ey ex5 ⊢
          refine ⟨by show 3 ≤ sizeLine; decide, fun zz nz => ?_⟩
          have sz := same_new (o := .lst [V.ref x, V.ref rf.1, V.ref y]) nz
          have s6 := s5.trans sz
          have ez : (upd H5 zz (.lst [V.ref x, V.ref rf.1, V.ref y])) zz = some (.lst [V.ref x, V.ref rf.1, V.ref y]) := upd_same
          have ex6 := sz _ _ ex5
          have ey6 := sz _ _ ey
          generalize upd H5 zz (.lst [V.ref x, V.ref rf.1, V.ref y]) = H6 at s6 ez ex6 ey6 ⊢
          have P6 := P3.ext s6
          refine ⟨p, c, zz, k0 + 1, _, rfl, P6, by omega, .inl (SqL.of ez), by simp, by show 3 ≤ 1000; decide, fun i v H7 hv P7 k7 => ?_⟩
          have kb7 : KB p H6 H7 := KB.eq k7
          have U6 : ∃ u : Addr × T3, v = .ref u.1 ∧ TrAt H6 u.1 u.2 ∧ Fit n u.2 ∧ MoreR R u.2 := by
            match i with
            | 0 => exact ⟨(x, lpr rf.2 rl.2), (Option.some.inj hv).symm, ex6, lpr_fit (hR3 rf rfm).2 (hR3 rl rlm).2, .inl ⟨rf, rfm, rl, rlm, rfl⟩⟩
            | 1 => exact ⟨rf, (Option.some.inj hv).symm, s6 _ _ (hR3 rf rfm).1, (hR3 rf rfm).2, .inr (.inl ⟨rf, rfm, rfl⟩)⟩
            | 2 => exact ⟨(y, (0, 0, 0)), (Option.some.inj hv).symm, ey6, f0, .inr (.inr rfl)⟩
            | i + 3 => cases hv
          obtain ⟨u, rfl, eu, fu, mu⟩ := U6
          have u1 : RsAt n H6 [u] := fun q hq => by rw [List.mem_singleton.mp hq]; exact ⟨eu, fu⟩
          have eu7 := (kb_rs P6 kb7 u1 u (List.mem_singleton_self _)).1
          have el27 := kb_lst P6 kb7 (s6 _ _ el23)
          have np2 : p ≠ l2 := fun z => by
            obtain ⟨ns, a', d, f, hp, _⟩ := P7
            rw [← z, hp] at el27
            cases el27
          have nc2 : c ≠ l2 := fun z => by
            obtain ⟨o, hc⟩ := hP.some.2
            rw [z, nl2] at hc
            cases hc
          refine ⟨l2, refR R, _, rfl, rfl, el27, ?_, u, rfl, fun b o e hb => ?_, fun b o hb hb2 e => ?_, P7.same (upd_ne np2) (upd_ne nc2), ?_, ?_, fu, mu⟩
          · rw [refR_len]
            exact Nat.lt_of_le_of_lt (by omega : _ ≤ 10) (by decide)
          · by_cases h : b = l2
            · rw [h] at e ⊢
              rw [upd_same, ← e, el23]
            · rw [upd_ne h]
              exact e
          · rw [upd_ne hb2]
            exact kb7 _ _ (s6 _ _ e) hb
          · rw [upd_same]
            unfold refR
            rw [List.map_append]
            rfl
          · unfold TrAt at eu7 ⊢
            rw [upd_ne (ne_of eu7 el27 (fun z => nomatch z))]
            exact eu7
        rintro _ H7 ⟨u, rfl, _, k37, P7, el27, eu, fu, mu⟩
        have hR7 : RsAt n H7 (R ++ [u]) := fun r hr' => by
          rcases List.mem_append.mp hr' with h | h
          · refine ⟨k37 _ _ (fun z => ?_) (ne_of (hR3 r h).1 el23 (fun z => nomatch z)) (hR3 r h).1, (hR r h).2⟩
            obtain ⟨ns, a', d, f, hp, _⟩ := P3
            have := (hR3 r h).1
            unfold TrAt at this
            rw [z, hp] at this
            cases this
          · rw [List.mem_singleton.mp h]
            exact ⟨eu, fu⟩
        have ea7 := k37 _ _ nap nl2a ea3
        have el37 : H7 l3 = some (.lst (refR G)) := k37 _ _ (fun z => by
          obtain ⟨ns, a', d, f, hp, _⟩ := P3
          rw [z, hp] at el33
          cases el33) n23.symm el33
        refine ⟨_, rfl, _, rfl, p, c, l2, k0 + 2, refR (R ++ [u]), rfl, P7, by omega, SqL.of el27, by rw [refR_len, List.length_append]; show R.length + 1 ≤ 30; omega, fun H8 r ys pm hl hm P8 k8 nr er => ?_⟩
        obtain ⟨R', pR, rfl⟩ := perm_map_inv pm
        have ea8 := k8 _ _ ea7 nap
        have hR8 := kb_rs P7 k8 hR7
        rw [refR_len] at P8
        have nal : ∀ {y : Addr} {xs : List V} {o : HO}, H8 y = some (.lst xs) → (upd H8 a o) y = some (.lst xs) := fun e => (upd_ne (ne_of e ea8 (fun z => nomatch z))).trans e
        have nar : ∀ {S : RLs} {o : HO}, RsAt n H8 S → RsAt n (upd H8 a o) S := fun h r' hr' => ⟨by
          have e := (h r' hr').1
          unfold TrAt at e ⊢
          rw [upd_ne (ne_of e ea8 (fun z => nomatch z))]
          exact e, (h r' hr').2⟩
        refine ⟨_, rfl, a, _, rfl, DPut.k (k := (.inr "rows" : Key)) ea8 (by show 4 < sizeLine; decide), k0 + 2 + (R ++ [u]).length, r, R', R ++ [u], [u.2], rfl, fun b o hb hba hb2 e => ?_, ?_, ?_, ?_, ?_, ?_, ?_, Nat.le_refl _, fun v hv => by rw [List.mem_singleton.mp hv]; exact mu, ?_, ?_, ?_, fun q' hq' => ⟨q', pR.mem_iff.mpr hq', rfl⟩, ?_⟩
        · rw [upd_ne hba]
          exact k8 _ _ (k37 _ _ hb hb2 (kb3 _ _ e hb)) hb
        · refine P8.same (upd_ne nap.symm) (upd_ne fun z => ?_)
          obtain ⟨ns, a', d, f, hp, hc, _⟩ := P8
          rw [z, ea8] at hc
          cases hc
        · rw [List.length_append, List.length_singleton]
          omega
        · rw [upd_same, put_rows]
        · exact nal er
        · exact nar fun r' hr' => hR8 r' (pR.mem_iff.mp hr')
        · have := pR.map (·.2)
          rwa [List.map_append] at this
        · exact nal (kb_lst P7 k8 el27)
        · exact nar hR8
        · rw [List.length_append, List.length_singleton]
          omega
        · exact nal (kb_lst P7 k8 el37)
    rintro _ H2 ⟨k2, lr', R', R2, X, rfl, k12, P2, lk2, ea2, elr2, hR2, pm, lX, mX, el22, hR22, lR2, sub2, el32⟩
    have G2 : RsAt n H2 G := fun r hr' => ⟨k12 _ _ (fun z => by
      obtain ⟨ns, a', d, f, hp, _⟩ := P1
      have := (hG1 r hr').1
      unfold TrAt at this
      rw [z, hp] at this
      cases this) (ne_of (hG1 r hr').1 ea1 (fun z => nomatch z)) (ne_of (hG1 r hr').1 el2 (fun z => nomatch z)) (hG1 r hr').1, (hG r hr').2⟩
    have elg2 : H2 lg = some (.lst (refR G)) := k12 _ _ (fun z => by
      obtain ⟨ns, a', d, f, hp, _⟩ := P1
      rw [z, hp] at elg1
      cases elg1) (ne_of elg1 ea1 (fun z => nomatch z)) (fun z => by rw [z, nl2] at elg; cases elg) elg1
    have kH2 : ∀ b o, b ≠ p → b ≠ a → H b = some o → H2 b = some o := fun b o hb hba e => k12 _ _ hb hba (ne_of_none e nl2) (s1 _ _ e)
    refine ⟨fun σ' H' => ∃ (k' : Nat) (lg' : Addr) (G' : RLs) (Y : List T3) (v3 : Option V) (v4 : Option V), σ' = [some (.ref p), some (.ref a), some (.ref l2), v3, v4] ∧ (∀ b o, b ≠ p → b ≠ a → H2 b = some o → H' b = some o) ∧ PenAt H' p c k' ∧ k' ≤ k0 + 200 ∧ H' a = some (.dK (cdk n lr' lg' lh)) ∧ H' lg' = some (.lst (refR G')) ∧ RsAt n H' G' ∧ (G'.map (·.2)).Perm (G.map (·.2) ++ Y) ∧ Y.length ≤ 3 ∧ (∀ u ∈ Y, MoreG R' G u), ?_, ?_⟩
    rotate_left
    · rintro _ H3 ⟨k3, lg', G', Y, v3, v4, rfl, k23, P3, lk3, ea3, elg3, hG3, pmG, lY, mY⟩
      have nlp : ∀ {y : Addr} {xs : List V}, H2 y = some (.lst xs) → y ≠ p := fun e z => by
        obtain ⟨ns, a', d, f, hp, _⟩ := P2
        rw [z, hp] at e
        cases e
      refine ⟨_, rfl, q H3 k3 lr' lg' R' G' X Y (fun b o hb hba e => k23 _ _ hb hba (kH2 b o hb hba e)) P3 lk3 ea3 (k23 _ _ (nlp elr2) (ne_of elr2 ea2 (fun z => nomatch z)) elr2) (fun r hr' => ⟨k23 _ _ (fun z => ?_) (ne_of (hR2 r hr').1 ea2 (fun z => nomatch z)) (hR2 r hr').1, (hR2 r hr').2⟩) elg3 hG3 pm lX mX pmG lY mY⟩
      obtain ⟨ns, a', d, f, hp, _⟩ := P2
      have := (hR2 r hr').1
      unfold TrAt at this
      rw [z, hp] at this
      cases this
    have same : ∀ {H' : Hp} {k' : Nat}, KB p H2 H' → PenAt H' p c k' → k' ≤ k0 + 200 → ∃ (k' : Nat) (lg' : Addr) (G' : RLs) (Y : List T3) (v3 : Option V) (v4 : Option V), [some (V.ref p), some (.ref a), some (.ref l2), some (.ref l3), none] = [some (V.ref p), some (.ref a), some (.ref l2), v3, v4] ∧ (∀ b o, b ≠ p → b ≠ a → H2 b = some o → H' b = some o) ∧ PenAt H' p c k' ∧ k' ≤ k0 + 200 ∧ H' a = some (.dK (cdk n lr' lg' lh)) ∧ H' lg' = some (.lst (refR G')) ∧ RsAt n H' G' ∧ (G'.map (·.2)).Perm (G.map (·.2) ++ Y) ∧ Y.length ≤ 3 ∧ (∀ u ∈ Y, MoreG R' G u) := fun {H' k'} kb P' lk =>
      ⟨k', lg, G, [], _, _, rfl, fun b o hb _ e => kb _ _ e hb, P', lk, kb _ _ ea2 nap, kb_lst P2 kb elg2, kb_rs P2 kb G2, by rw [List.append_nil], Nat.zero_le _, fun _ h => (by cases h)⟩
    refine ⟨_, rfl, by show 0 ≤ sizeLine; decide, fun l nl => ?_⟩
    have sl := same_new (o := .lst []) nl
    obtain ⟨dd, de, D1, D2, D3, D4, D5⟩ := eq_nil (K := K) (sl _ _ el32) (fun r hr' => ((G2.same sl) r hr').1) (upd_same : (upd H2 l (.lst [])) l = some (.lst []))
    refine ⟨dd, de, D1, D2, D3, D4, _, rfl, ?_⟩
    rw [D5]
    generalize upd H2 l (.lst []) = H3 at sl
    have P3 := P2.ext sl
    cases hE : G.isEmpty with
    | true => exact iteF (iteF (same (KB.of sl) P3 (by omega)))
    | false =>
      have G0 : G ≠ [] := fun z => by rw [z] at hE; cases hE
      refine iteT ⟨_, rfl, p, c, k2, 2, rfl, P3, by omega, by decide, by decide, fun r0 H4 hr0 hr1 P4 k4 => ?_⟩
      have kb4 : KB p H2 H4 := (KB.of sl).trans (KB.eq k4)
      refine ⟨rfl, _, rfl, ite2 (fun z => ?_) (fun z => same kb4 P4 (by omega))⟩
      have el34 := kb_lst P2 kb4 el32
      have el24 := kb_lst P2 kb4 el22
      have G4 := kb_rs P2 kb4 G2
      have ea4 := kb4 _ _ ea2 nap
      have R4 := kb_rs P2 kb4 hR22
      obtain ⟨gf, gfm, af⟩ := at_first G0
      obtain ⟨gl, glm, al⟩ := at_last G0
      obtain ⟨ff1, ff2, ff3⟩ := (G4 gf gfm).2
      obtain ⟨fl1, fl2, fl3⟩ := (G4 gl glm).2
      let kx := gf.2.1 ^^^ gl.2.1
      let kz := gf.2.2.1 ^^^ gl.2.2.1
      refine ⟨fun σ' H' => ∃ j, σ' = [some (.ref p), some (.ref a), some (.ref l2), some (.ref l3), some (.ref j)] ∧ Same H4 H' ∧ H' j = some (.tup [.int (kx : Nat), .int (kz : Nat)]), ?_, ?_⟩
      · have ef : H4 gf.1 = some (.tup [.int (bv lx (LT n gf.2.1 gf.2.2.1) : Nat), .int (bv lz (LT n gf.2.1 gf.2.2.1) : Nat), .int (gf.2.2.2 : Nat)]) := by
          rw [lx_LT _ ff1, lz_LT _ ff2]
          exact (G4 gf gfm).1
        have eg : H4 gl.1 = some (.tup [.int (bv lx (LT n gl.2.1 gl.2.2.1) : Nat), .int (bv lz (LT n gl.2.1 gl.2.2.1) : Nat), .int (gl.2.2.2 : Nat)]) := by
          rw [lx_LT _ fl1, lz_LT _ fl2]
          exact (G4 gl glm).1
        refine ⟨_, rfl, l3, refR G, 0, _, rfl, rfl, SqL.of el34, af, _, rfl, _, rfl, l3, refR G, -1, _, rfl, rfl, SqL.of el34, al, gf.1, gl.1, LT n gf.2.1 gf.2.2.1, LT n gl.2.1 gl.2.2.1, gf.2.2.2, gl.2.2.2, rfl, ef, eg, by rw [LT_len]; omega, by rw [LT_len]; omega, by omega, by omega, LT_lts n _ _, LT_lts n _ _, fun H' j r pq s' ej er => ⟨r, _, 0, _, rfl, rfl, .inl (.inl er), par0 _ _, j, rfl, s', ?_⟩⟩
        rw [ej, lx_LT _ ff1, lz_LT _ ff2, lx_LT _ fl1, lz_LT _ fl2]
      rintro _ H5 ⟨j, rfl, s5, ej⟩
      have P5 := P4.ext s5
      have el35 := s5 _ _ el34
      have el25 := s5 _ _ el24
      have fk : Fit n (kx, kz, 0) := ⟨Nat.xor_lt_two_pow ff1 fl1, Nat.xor_lt_two_pow ff2 fl2, by show 0 < 2; decide⟩
      refine ⟨fun σ' H' => ∃ (x3 y : Addr) (r1 r2 : Nat), σ' = [some (.ref p), some (.ref a), some (.ref l2), some (.ref x3), some (.ref j)] ∧ KB p H5 H' ∧ PenAt H' p c (k2 + 3) ∧ r1 ≤ 1 ∧ r2 ≤ 1 ∧ H' x3 = some (.lst (refR (G ++ [(y, (kx, kz, 0))] ++ G.take r1 ++ R2.take r2))) ∧ TrAt H' y (kx, kz, 0), ?_, ?_⟩
      · refine ⟨_, rfl, _, rfl, j, _, _, _, rfl, rfl, .inl (.inl ej), par0 _ _, _, rfl, j, _, _, _, rfl, rfl, .inl (.inl ej), par1 _ _, by show 3 ≤ sizeLine; decide, fun y ny => ?_⟩
        have s6 := same_new (o := .tup [V.int (kx : Nat), V.int (kz : Nat), V.int 0]) ny
        have ey : TrAt (upd H5 y (.tup [V.int (kx : Nat), V.int (kz : Nat), V.int 0])) y (kx, kz, 0) := upd_same
        generalize upd H5 y (.tup [V.int (kx : Nat), V.int (kz : Nat), V.int 0]) = H6 at s6 ey ⊢
        refine ⟨by show 1 ≤ sizeLine; decide, fun t nt => ?_⟩
        have s7 := same_new (o := .lst [V.ref y]) nt
        have et : (upd H6 t (.lst [V.ref y])) t = some (.lst [V.ref y]) := upd_same
        have ey7 := s7 _ _ ey
        have s57 := s6.trans s7
        generalize upd H6 t (.lst [V.ref y]) = H7 at s7 et ey7 s57 ⊢
        refine ⟨l3, t, refR G, [V.ref y], rfl, rfl, s57 _ _ el35, et, ?_, fun x1 nx1 => ?_⟩
        · rw [refR_len]
          exact Nat.le_trans (by show _ + 1 ≤ 20; omega) (by decide)
        have s8 := same_new (o := .lst (refR G ++ [V.ref y])) nx1
        have ex1 : (upd H7 x1 (.lst (refR G ++ [V.ref y]))) x1 = some (.lst (refR (G ++ [(y, (kx, kz, 0))]))) := by
          rw [upd_same]
          unfold refR
          rw [List.map_append]
          rfl
        have s58 := s57.trans s8
        have ey8 : TrAt (upd H7 x1 (.lst (refR G ++ [V.ref y]))) y (kx, kz, 0) := s8 _ _ ey7
        generalize upd H7 x1 (.lst (refR G ++ [V.ref y])) = H8 at ex1 s58 ey8 ⊢
        have P8 := P5.ext s58
        refine ⟨_, rfl, _, rfl, p, c, k2 + 1, 2, rfl, P8, by omega, by decide, by decide, fun q1 H9 hq0 hq1 P9 k9 => ?_⟩
        have kb9 : KB p H8 H9 := KB.eq k9
        obtain ⟨r1, hr1⟩ : ∃ r1 : Nat, q1 = (r1 : Int) := ⟨q1.toNat, by omega⟩
        have y8 : RsAt n H8 [(y, (kx, kz, 0))] := fun q hq => by rw [List.mem_singleton.mp hq]; exact ⟨ey8, fk⟩
        have y9 := kb_rs P8 kb9 y8
        have el39 := kb_lst P8 kb9 (s58 _ _ el35)
        have el29 := kb_lst P8 kb9 (s58 _ _ el25)
        have ex19 := kb_lst P8 kb9 ex1
        refine ⟨q1, rfl, l3, _, rfl, SqL.of el39, fun g1 ng1 => ?_⟩
        have e1 : cutV (refR G) none (some q1) = refR (G.take r1) := by
          rw [hr1, cutV_to]
          unfold refR
          rw [List.map_take]
        rw [e1]
        have sA := same_new (o := .lst (refR (G.take r1))) ng1
        have eg1 : (upd H9 g1 (.lst (refR (G.take r1)))) g1 = some (.lst (refR (G.take r1))) := upd_same
        generalize upd H9 g1 (.lst (refR (G.take r1))) = HA at sA eg1 ⊢
        refine ⟨x1, g1, _, _, rfl, rfl, sA _ _ ex19, eg1, ?_, fun x2 nx2 => ?_⟩
        · rw [refR_len, refR_len, List.length_append, List.length_take]
          exact Nat.le_trans (by show G.length + 1 + min r1 G.length ≤ 40; omega) (by decide)
        have sB := same_new (o := .lst (refR (G ++ [(y, (kx, kz, 0))]) ++ refR (G.take r1))) nx2
        have ex2 : (upd HA x2 (.lst (refR (G ++ [(y, (kx, kz, 0))]) ++ refR (G.take r1)))) x2 = some (.lst (refR (G ++ [(y, (kx, kz, 0))] ++ G.take r1))) := by
          rw [upd_same]
          unfold refR
          rw [List.map_append (l₁ := G ++ _)]
        have sAB := sA.trans sB
        generalize upd HA x2 (.lst (refR (G ++ [(y, (kx, kz, 0))]) ++ refR (G.take r1))) = HB at ex2 sAB ⊢
        have PB := P9.ext sAB
        refine ⟨_, rfl, _, rfl, p, c, k2 + 1 + 1, 2, rfl, PB, by omega, by decide, by decide, fun q2 HC hs0 hs1 PC kC => ?_⟩
        have kbC : KB p HB HC := KB.eq kC
        obtain ⟨r2, hr2⟩ : ∃ r2 : Nat, q2 = (r2 : Int) := ⟨q2.toNat, by omega⟩
        have el2C := kb_lst PB kbC (sAB _ _ el29)
        have ex2C := kb_lst PB kbC ex2
        refine ⟨q2, rfl, l2, _, rfl, SqL.of el2C, fun g2 ng2 => ?_⟩
        have e2 : cutV (refR R2) none (some q2) = refR (R2.take r2) := by
          rw [hr2, cutV_to]
          unfold refR
          rw [List.map_take]
        rw [e2]
        have sD := same_new (o := .lst (refR (R2.take r2))) ng2
        have eg2 : (upd HC g2 (.lst (refR (R2.take r2)))) g2 = some (.lst (refR (R2.take r2))) := upd_same
        generalize upd HC g2 (.lst (refR (R2.take r2))) = HD at sD eg2 ⊢
        refine ⟨x2, g2, _, _, rfl, rfl, sD _ _ ex2C, eg2, ?_, fun x3 nx3 => ?_⟩
        · rw [refR_len, refR_len, List.length_append, List.length_append, List.length_take, List.length_take]
          exact Nat.le_trans (by show G.length + 1 + min r1 G.length + min r2 R2.length ≤ 60; omega) (by decide)
        have sE := same_new (o := .lst (refR (G ++ [(y, (kx, kz, 0))] ++ G.take r1) ++ refR (R2.take r2))) nx3
        have sDE := sD.trans sE
        have kbAll := ((KB.of s58).trans kb9).trans (((KB.of sAB).trans kbC).trans (KB.of sDE))
        refine ⟨x3, y, r1, r2, rfl, kbAll, PC.ext sDE, by omega, by omega, ?_, ?_⟩
        · rw [upd_same]
          unfold refR
          rw [List.map_append (l₁ := G ++ _ ++ _)]
        · exact sDE _ _ (kb_rs PB kbC (y9.same sAB) (y, (kx, kz, 0)) (List.mem_singleton_self _)).1
      rintro _ H6 ⟨x3, y, r1, r2, rfl, k56, P6, lr1, lr2, ex3, ey⟩
      have kb6 : KB p H2 H6 := (kb4.sm s5).trans k56
      have ea6 := kb6 _ _ ea2 nap
      let GL : RLs := G ++ [(y, (kx, kz, 0))] ++ G.take r1 ++ R2.take r2
      have lGL : GL.length ≤ 25 := by
        show (G ++ [(y, (kx, kz, 0))] ++ G.take r1 ++ R2.take r2).length ≤ 25
        rw [List.length_append, List.length_append, List.length_append, List.length_take, List.length_take, List.length_singleton]
        omega
      have G6 := kb_rs P2 kb6 G2
      have R6 := kb_rs P2 kb6 hR22
      have hGL : RsAt n H6 GL := fun r hr' => by
        rcases List.mem_append.mp hr' with h | h
        · rcases List.mem_append.mp h with h | h
          · rcases List.mem_append.mp h with h | h
            · exact G6 r h
            · rw [List.mem_singleton.mp h]
              exact ⟨ey, fk⟩
          · exact G6 r (List.mem_of_mem_take h)
        · exact R6 r (List.mem_of_mem_take h)
      refine ⟨_, rfl, _, rfl, p, c, x3, k2 + 3, refR GL, rfl, P6, by omega, SqL.of ex3, by rw [refR_len]; omega, fun H7 r ys pmY hl hm P7 k7 nr er => ?_⟩
      obtain ⟨G', pG, rfl⟩ := perm_map_inv pmY
      rw [refR_len] at P7
      have ea7 := k7 _ _ ea6 nap
      have hG7 := kb_rs P6 k7 hGL
      refine ⟨_, rfl, a, _, rfl, DPut.k (k := (.inr "gauge" : Key)) ea7 (by show 4 < sizeLine; decide), k2 + 3 + GL.length, r, G', [(kx, kz, 0)] ++ (G.take r1).map (·.2) ++ (R2.take r2).map (·.2), _, _, rfl, fun b o hb hba e => ?_, ?_, by omega, ?_, ?_, ?_, ?_, ?_, fun u hu' => ?_⟩
      · rw [upd_ne hba]
        exact k7 _ _ (kb6 _ _ e hb) hb
      · refine P7.same (upd_ne nap.symm) (upd_ne fun z => ?_)
        obtain ⟨ns, a', d, f, hp, hc, _⟩ := P7
        rw [z, ea7] at hc
        cases hc
      · rw [upd_same, put_gauge]
      · exact (upd_ne (ne_of er ea7 (fun z => nomatch z))).trans er
      · intro r' hr'
        obtain ⟨e, f⟩ := hG7 r' (pG.mem_iff.mp hr')
        unfold TrAt at e
        refine ⟨?_, f⟩
        unfold TrAt
        rw [upd_ne (ne_of e ea7 (fun z => nomatch z))]
        exact e
      · have e := pG.map (fun r : Addr × T3 => r.2)
        have e2 : GL.map (fun r : Addr × T3 => r.2) = G.map (fun r : Addr × T3 => r.2) ++ ([(kx, kz, 0)] ++ (G.take r1).map (fun r : Addr × T3 => r.2) ++ (R2.take r2).map (fun r : Addr × T3 => r.2)) := by
          show (G ++ [(y, (kx, kz, 0))] ++ G.take r1 ++ R2.take r2).map (fun r : Addr × T3 => r.2) = _
          rw [List.map_append, List.map_append, List.map_append, List.append_assoc, List.append_assoc, List.append_assoc]
          rfl
        rwa [e2] at e
      · rw [List.length_append, List.length_append, List.length_map, List.length_map, List.length_take, List.length_take]
        show 1 + _ + _ ≤ 3
        omega
      · rcases List.mem_append.mp hu' with h | h
        · rcases List.mem_append.mp h with h | h
          · rw [List.mem_singleton.mp h]
            exact .inl ⟨gf, gfm, gl, glm, rfl⟩
          · obtain ⟨g, hg, rfl⟩ := List.mem_map.mp h
            exact .inr (.inl ⟨g, List.mem_of_mem_take hg, rfl⟩)
        · obtain ⟨g, hg, rfl⟩ := List.mem_map.mp h
          obtain ⟨r', hr', e⟩ := sub2 g (List.mem_of_mem_take hg)
          exact .inr (.inr (.inl ⟨r', hr', e.symm⟩))
end
end KQ
namespace KQ
open PySem PySem.Spec PyProof.Rows L2
abbrev sSC : Stmt := topS 78
theorem scSC : FnScope ["_law_pen_here", "_law_most", "_law_size", "_law_rank", "_law_gauged"] ["_law_pen_here", "_law_most"] (defScope sSC) := ⟨rfl, rfl, rfl, by decide +kernel, rfl, by decide +kernel, by decide +kernel⟩
/-- what a drawn code is, with what was put in -/
structure SomeC (n rank gd : Nat) (R G R0 : RLs) (S : PrLs) (X Y : List T3) (L : T2 → T2) (ms : List Nat) : Prop where
  n2 : 2 ≤ n
  n5 : n ≤ 7
  rk : rank + gd ≤ n
  g2 : gd ≤ 2
  len0 : R0.length = rank
  fit0 : ∀ r ∈ R0, Fit n r.2
  code : CodeL n rank R0 S L ms
  pmR : (R.map (·.2)).Perm (R0.map (·.2) ++ X)
  lX : X.length ≤ 1
  mX : ∀ u ∈ X, MoreR R0 u
  pmG : (G.map (·.2)).Perm ((flatQ (S.take gd)).map (·.2) ++ Y)
  lY : Y.length ≤ 3
  mY : ∀ u ∈ Y, MoreG R (flatQ (S.take gd)) u
def spSC : Sp := fun vs H Q _ => ∃ (p c : Addr) (k : Nat), vs = [.ref p, .int 5] ∧ PenAt H p c k ∧ k + 6000 < 1000000 ∧
  ∀ H' k' d n rank gd lr lg lh R G R0 S X Y L ms, KB p H H' → PenAt H' p c k' → k' ≤ k + 6000 → d ≠ p → H' d = some (.dK (cdk n lr lg lh)) → H' lr = some (.lst (refR R)) → RsAt n H' R → H' lg = some (.lst (refR G)) → RsAt n H' G → H' lh = some (.lst (refQ (S.drop gd))) → QsAt n H' S → SomeC n rank gd R G R0 S X Y L ms → Q (.ref d) H'
section
variable {P : Program} {w : World} {K : PySem.W.Frag} {mg : Str → Option Value} {base : Heap}
theorem ok_sc {f fC fW fD fP fS fM fO fT fTx fG : Addr} {fd dC dW dD dP dS dM dO dT dTx dG : FuncData} {k : Nat} (F : Fun K "_law_some_code" "_law_some_code" sSC f fd) (FC : Fun K "_law_drawn_code" "_law_drawn_code" sCode fC dC) (bC : Binds K dC ["_law_pen_here", "_law_size", "_law_rank", "_law_gauged"] []) (gC : mg "_law_drawn_code" = some (.ref fC))
    (FW : Fun K "_law_with_more" "_law_with_more" sWM fW dW) (bW : Binds K dW ["_law_pen_here", "_law_code_here"] []) (gW : mg "_law_with_more" = some (.ref fW)) (FD : Fun K "_law_draw" "_law_draw" sDraw fD dD) (bD : Binds K dD ["_law_pen_here", "_law_many"] []) (gD : mg "_law_draw" = some (.ref fD))
    (FP : Fun K "_law_pick" "_law_pick" sPick fP dP) (bP : Binds K dP ["_law_pen_here", "_law_some"] []) (gP : mg "_law_pick" = some (.ref fP)) (FS : Fun K "_law_shuffled" "_law_shuffled" sShuf fS dS) (bS : Binds K dS ["_law_pen_here", "_law_some"] []) (gS : mg "_law_shuffled" = some (.ref fS))
    (FTx : Fun K "_law_of_text" "_law_of_text" sOfT fTx dTx) (bTx : Binds K dTx ["_law_text_here"] []) (gTx : mg "_law_of_text" = some (.ref fTx)) (FG : Fun K "_law_gate" "_law_gate" sGate fG dG) (bG : Binds K dG ["_law_string", "_law_kind", "_law_places"] []) (gG : mg "_law_gate" = some (.ref fG))
    (FM : Fun K "_law_product" "_law_product" sProd fM dM) (bM : Binds K dM ["_law_one", "_law_two"] []) (gM : mg "_law_product" = some (.ref fM)) (FO : Fun K "_law_ones" "_law_ones" sOnes fO dO) (bO : Binds K dO ["_law_number"] []) (gO : mg "_law_ones" = some (.ref fO))
    (FT : Fun K "_law_times" "_law_times" sLTimes fT dT) (bT : Binds K dT ["_law_one", "_law_two"] []) (gT : mg "_law_times" = some (.ref fT)) (B : Bl mg) (mm : mg "max" = none) :
    FnOk P w K mg base CX0 (k + 4) f fd ["_law_pen_here", "_law_most"] spSC := by
  have GD : FnOk P w K mg base CX0 (k + 1) fD dD ["_law_pen_here", "_law_many"] spDraw := ok_draw FD B.int B.len
  have GC : FnOk P w K mg base CX0 (k + 3) fC dC ["_law_pen_here", "_law_size", "_law_rank", "_law_gauged"] (spCode K) := ok_code FC FD bD gD FP bP gP FS bS gS FTx bTx gTx FG bG gG FM bM gM FO bO gO B
  have GW : FnOk P w K mg base CX0 (k + 3) fW dW ["_law_pen_here", "_law_code_here"] spWM := ok_wm FW FD bD gD FP bP gP FS bS gS FM bM gM FO bO gO FT bT gT B mm
  refine F.ok scSC (fun vs H Q E h => ?_) (fun cdv A outer s H vs Q E hr h => ?_)
  · obtain ⟨p, c, k0, rfl, _⟩ := h
    rfl
  · obtain ⟨p, c, k0, rfl, hP, hk, q⟩ := h
    refine ⟨_, C8.pss_cut (ps_set (i := 2) scSC.nd rfl (.inl rfl) (pe_op op_add pe_int (pe_call GD (hr.mono (by omega)) (by rfl) gD FD.kp bD .nil pass0 (pa_cons (pv 0) (pa_cons (pe_op op_sub (pv 1) pe_int) pa_nil)))))
      (C8.pss_cut (ps_set (i := 3) scSC.nd rfl (.inl rfl) (pe_call GD (hr.mono (by omega)) (by rfl) gD FD.kp bD .nil pass0 (pa_cons (pv 0) (pa_cons (pe_op op_add (pv 2) pe_int) pa_nil))))
      (C8.pss_cut (ps_set (i := 4) scSC.nd rfl (.inl rfl) (pe_call GD (hr.mono (by omega)) (by rfl) gD FD.kp bD .nil pass0 (pa_cons (pv 0) (pa_cons (pe_op op_add (pe_callB (call_min2 rfl) (by rfl) B.min PyProof.Rows.boot_min (pa_cons (pe_op op_sub (pv 2) (pv 3)) (pa_cons pe_int pa_nil))) pe_int) pa_nil))))
      (pss_one (ps_ret (pe_call GW hr (by rfl) gW FW.kp bW .nil pass0 (pa_cons (pv 0) (pa_cons (pe_call GC hr (by rfl) gC FC.kp bC .nil pass0 (pa_cons (pv 0) (pa_cons (pv 2) (pa_cons (pv 3) (pa_cons (pv 4) pa_nil))))) pa_nil))))))), ?_⟩
    obtain ⟨op, oc⟩ := hP.some
    refine ⟨fun σ' H' => ∃ n : Nat, σ' = [some (.ref p), some (.int 5), some (.int (n : Nat)), none, none] ∧ KB p H H' ∧ PenAt H' p c (k0 + 1) ∧ 2 ≤ n ∧ n ≤ 5, ?_, ?_⟩
    · refine ⟨_, rfl, _, rfl, _, _, rfl, rfl, p, c, k0, 4, rfl, hP, by omega, by decide, by decide, fun r H1 h0 h1 P1 k1 => ?_⟩
      refine ⟨_, _, rfl, rfl, (2 + r).toNat, ?_, KB.eq k1, P1, by omega, by omega⟩
      show [_, _, some (V.int (2 + r)), _, _] = _
      rw [show (((2 + r).toNat : Nat) : Int) = 2 + r by omega]
    rintro _ H1 ⟨n, rfl, k1, P1, n2, n5⟩
    refine ⟨fun σ' H' => ∃ rk : Nat, σ' = [some (.ref p), some (.int 5), some (.int (n : Nat)), some (.int (rk : Nat)), none] ∧ KB p H H' ∧ PenAt H' p c (k0 + 2) ∧ rk ≤ n, ?_, ?_⟩
    · refine ⟨_, rfl, _, rfl, _, _, rfl, rfl, p, c, k0 + 1, (n : Int) + 1, rfl, P1, by omega, by omega, by omega, fun r H2 h0 h1 P2 k2 => ?_⟩
      refine ⟨r.toNat, ?_, k1.trans (KB.eq k2), P2, by omega⟩
      rw [show ((r.toNat : Nat) : Int) = r by omega]
      rfl
    rintro _ H2 ⟨rk, rfl, k2, P2, hrk⟩
    refine ⟨fun σ' H' => ∃ gd : Nat, σ' = [some (.ref p), some (.int 5), some (.int (n : Nat)), some (.int (rk : Nat)), some (.int (gd : Nat))] ∧ KB p H H' ∧ PenAt H' p c (k0 + 3) ∧ rk + gd ≤ n ∧ gd ≤ 2, ?_, ?_⟩
    · obtain ⟨m, hm, m0, m2, mn⟩ : ∃ m : Int, (if (2 : Int) < ((n : Int) - (rk : Int)) then (2 : Int) else (n : Int) - (rk : Int)) = m ∧ 0 ≤ m ∧ m ≤ 2 ∧ m ≤ (n : Int) - rk := by
        by_cases h : (2 : Int) < ((n : Int) - (rk : Int))
        · exact ⟨2, if_pos h, by omega, by omega, by omega⟩
        · exact ⟨_, if_neg h, by omega, by omega, by omega⟩
      refine ⟨_, rfl, _, rfl, _, rfl, _, _, rfl, rfl, _, _, rfl, _, _, rfl, rfl, p, c, k0 + 2, m + 1, by rw [hm]; rfl, P2, by omega, by omega, by omega, fun r H3 h0 h1 P3 k3 => ?_⟩
      refine ⟨r.toNat, ?_, k2.trans (KB.eq k3), P3, by omega, by omega⟩
      rw [show ((r.toNat : Nat) : Int) = r by omega]
      rfl
    rintro _ H3 ⟨gd, rfl, k3, P3, hgd, g2⟩
    refine ⟨_, rfl, _, rfl, _, rfl, _, rfl, _, rfl, p, c, k0 + 3, n, rk, gd, rfl, P3, by omega, by omega, by omega, hgd, fun H4 d lr lg lh R0 S L ms k4 kb4 P4 lk4 nd ed elr hR lR elg elh hS cl => ?_⟩
    have ndp : d ≠ p := fun z => by
      obtain ⟨o, e⟩ := P3.some.1
      rw [z, e] at nd
      cases nd
    have pdk : ∀ {y : Addr} {o : HO}, H4 y = some o → (∀ kv, o ≠ .dK kv) → y ≠ p ∧ y ≠ d := fun {y o} e h => ⟨fun z => by
      obtain ⟨ns, a', d', f, hp, _⟩ := P4
      rw [z, hp] at e
      exact h _ (Option.some.inj e).symm, fun z => by
      rw [z, ed] at e
      exact h _ (Option.some.inj e).symm⟩
    refine ⟨p, c, d, k4, n, lr, lg, lh, R0, flatQ (S.take gd), rfl, P4, by omega, ndp, ed, elr, hR, elg, hS.flat fun s hs => List.mem_of_mem_take hs, by omega, by omega, by rw [flatQ_len, List.length_take]; omega, fun H5 k' lr' lg' R' G' X Y w5 P5 lk ea5 elr5 hR5 elg5 hG5 pm lX mX pmG lY mY => ?_⟩
    have keep : ∀ {y : Addr} {o : HO}, H4 y = some o → (∀ kv, o ≠ .dK kv) → H5 y = some o := fun e h => w5 _ _ (pdk e h).1 (pdk e h).2 e
    refine q H5 k' d n rk gd lr' lg' lh R' G' R0 S X Y L ms (fun b o e hb => w5 b o hb (ne_of_none (k3 b o e hb) nd) (kb4 b o (k3 b o e hb) hb)) P5 (by omega) ndp ea5 elr5 hR5 elg5 hG5 (keep elh fun kv z => nomatch z) (fun s hs => ?_) ⟨n2, by omega, hgd, g2, lR, fun r hr' => (hR r hr').2, cl, pm, lX, mX, pmG, lY, mY⟩
    obtain ⟨a1, a2, a3, a4, a5⟩ := hS s hs
    exact ⟨keep a1 fun kv z => (nomatch z), keep a2 fun kv z => (nomatch z), a3, keep a4 fun kv z => (nomatch z), a5⟩
end
end KQ
namespace KQ
open PySem PySem.Spec PyProof.Rows L2
abbrev sCd : Stmt := topS 77
theorem scCd : FnScope ["_law_code_here", "_law_size", "_law_string", "_law_rows", "_law_gauge", "_law_x", "_law_z"] ["_law_code_here"] (defScope sCd) := ⟨rfl, rfl, rfl, by decide +kernel, rfl, by decide +kernel, by decide +kernel⟩
/-- letters and phase of the object of a string -/
def pl (n : Nat) (r : Addr × T3) : List Nat × Nat := (LT n r.2.1 r.2.2.1, 2 * r.2.2.2)
def rb (n : Nat) (R : RLs) : List Nat := R.map fun r => bL (pl n r).1
theorem lbs_pl {n : Nat} {L : PLs} {R : RLs} (h : L.map (·.2) = R.map (pl n)) : lbs L = rb n R := by
  have := congrArg (List.map fun q : List Nat × Nat => bL q.1) h
  rw [List.map_map, List.map_map] at this
  exact this
def spCd (CD CG C : Addr) : Sp := fun vs H Q _ => ∃ (a : Addr) (n : Nat) (lr lg lh : Addr) (R G : RLs) (S : PrLs), vs = [.ref a] ∧ H a = some (.dK (cdk n lr lg lh)) ∧ H lr = some (.lst (refR R)) ∧ RsAt n H R ∧ H lg = some (.lst (refR G)) ∧ RsAt n H G ∧ H lh = some (.lst (refQ S)) ∧ QsAt n H S ∧ 1 ≤ n ∧ n ≤ 60 ∧ R.length ≤ 60 ∧ G.length ≤ 60 ∧ S.length ≤ 60 ∧
  (∀ (L Lg : PLs) (HS : HPs), L.map (·.2) = R.map (pl n) → Lg.map (·.2) = G.map (pl n) → HS.map (fun s => (s.2.1.2, s.2.2.2)) = S.map (fun s => (pl n s.2.1, pl n s.2.2)) → CodeOk n L Lg HS) ∧
  ∀ H' x M GT, Same H H' → CodeAt CD CG C H' x n M (rb n G) GT → M.length ≤ 100 → Red (gbs M) → (∀ x, Spn (gbs M) x ↔ Spn (rb n R) x) → GT.length ≤ 600 → Red GT → (∀ x, Spn GT x ↔ Spn (rb n R ++ rb n G) x) → Q (.ref x) H'
section
variable {P : Program} {w : World} {K : PySem.W.Frag} {mg : Str → Option Value} {base : Heap}
set_option linter.unusedVariables false in
theorem ok_cd {dvC : List V} {f fPl fTx fLe fCI CD CG fG : Addr} {fd dPl dTx dLe dCI dG : FuncData} {C CT CB fI fE fB fBN hA lA : Addr} {dB dBN : FuncData} {fIs fHo fBo fHp fPa fCr fSh fBt fLg fLn fCk fRt fSo fFr fLo fC : Addr} {dI dIs dHo dBo dHp dPa dCr dSh dBt dLg dLn dCk dRt dSo dFr dLo dC : FuncData} {fSy fCg fCc fCh fPt fLm fRn fRb fRl fSg : Addr} {dSy dCg dCc dCh dPt dLm dRn dRb dRl dSg : FuncData} (F : Fun K "_law_code" "_law_code" sCd f fd) (FPa : Fun K "_law_pauli" "_law_pauli" sPau fPl dPl) (bPa : Binds K dPl ["_law_string", "_law_size"] []) (gPa : mg "_law_pauli" = some (.ref fPl))
    (FTx : Fun K "_law_text" "_law_text" sText fTx dTx) (bTx : Binds K dTx ["_law_string", "_law_size"] []) (gTx : mg "_law_text" = some (.ref fTx)) (FLe : Fun K "_law_letters" "_law_letters" sLett fLe dLe) (bLe : Binds K dLe ["_law_string", "_law_size"] []) (gLe : mg "_law_letters" = some (.ref fLe))
    (FCI : FunD K "__init__" "Code.__init__" (defArgs sCI) (defBody sCI) (defScope sCI) dvC [] fCI dCI) (bCI : Binds K dCI ["self", "size", "strings", "gauge", "hidden"] []) (DC : DCl K mg CD fCI) (FG : Fun K "__init__" "Group.__init__" sGI fG dG) (bGI : Binds K dG ["self", "size", "strings"] []) (G' : GCl K mg CG fG) (cne : C ≠ CG) (n1 : CG ≠ CD) (n2 : C ≠ CD)
    (T : GEnv K w mg C CT CB fI fE fB fBN hA lA dB dBN fIs fHo fBo fHp fPa fCr fSh fBt fLg fLn fCk fRt fSo fFr fLo fC dI dIs dHo dBo dHp dPa dCr dSh dBt dLg dLn dCk dRt dSo dFr dLo dC) (D : DEnv K mg CG fSy fCg fCc fCh fPt fLm fRn fRb fRl fSg dSy dCg dCc dCh dPt dLm dRn dRb dRl dSg) :
    FnOk P w K mg base (L2.CX P w) 12 f fd ["_law_code_here"] (spCd CD CG C) := by
  have GPa : FnOk P w K mg base (L2.CX P w) 6 fPl dPl ["_law_string", "_law_size"] (spPau C) := ok_pau FPa FTx bTx gTx FLe bLe gLe T.N T.FI T.bI T.FC T.bC T.gC T.TT T.hd T.B
  have GCI : FnOk P w K mg base (L2.CX P w) 10 fCI dCI ["self", "size", "strings", "gauge", "hidden"] (spCI CD CG C) := ok_cinit FCI DC FG bGI G' cne n1 n2 T D
  refine F.okX scCd (fun vs H Q E h => ?_) (fun cdv A outer s H vs Q E hr h => ?_)
  · obtain ⟨a, n, lr, lg, lh, R, G, S, rfl, _⟩ := h
    rfl
  · obtain ⟨a, n, lr, lg, lh, R, G, S, rfl, ea, elr, hR, elg, hG, elh, hS, h1, hn, lR, lG, lS, hok, q⟩ := h
    have hu := hu_of hr
    refine ⟨_, C8.pss_cut (ps_set (i := 1) scCd.nd rfl (.inr rfl) (pe_dget hu (pv 0) pe_str (fun _ _ => rfl)))
      (C8.pss_cut (ps_setLc (i := 3) (own := [("_law_string", 2)]) (g := gName 2) (by rfl) scCd.nd rfl rfl (sw_true rfl rfl rfl (by decide +kernel)) (pi_list (pe_dget hu (pv 0) pe_str (fun _ _ => rfl))) (blkOk_by (own := [("_law_string", 2)]) (N := ["_law_code_here", "_law_size", "_law_string", "_law_rows", "_law_gauge", "_law_x", "_law_z"]) (sc := defScope sCd) (by decide +kernel))
          (fun _ _ _ _ _ => pg_name (i := 2) scCd.nd rfl (Or.inl rfl)) (fun _ _ _ _ _ => pts_nil) (fun _ _ _ _ _ => (pe_call GPa (hr.mono (by decide)) (by rfl) gPa FPa.kp bPa .nil passL (pa_cons (pv 2) (pa_cons (pv 1) pa_nil)))))
      (C8.pss_cut (ps_setLc (i := 4) (own := [("_law_string", 2)]) (g := gName 2) (by rfl) scCd.nd rfl rfl (sw_true rfl rfl rfl (by decide +kernel)) (pi_list (pe_dget hu (pv 0) pe_str (fun _ _ => rfl))) (blkOk_by (own := [("_law_string", 2)]) (N := ["_law_code_here", "_law_size", "_law_string", "_law_rows", "_law_gauge", "_law_x", "_law_z"]) (sc := defScope sCd) (by decide +kernel))
          (fun _ _ _ _ _ => pg_name (i := 2) scCd.nd rfl (Or.inl rfl)) (fun _ _ _ _ _ => pts_nil) (fun _ _ _ _ _ => (pe_call GPa (hr.mono (by decide)) (by rfl) gPa FPa.kp bPa .nil passL (pa_cons (pv 2) (pa_cons (pv 1) pa_nil)))))
      (pss_one (ps_ret (pe_make DC.mkf GCI hr (by rfl) DC.g bCI .nil (passes_call (takes_of rfl rfl rfl rfl) (fun _ _ _ _ h => h)) (pa_cons (pv 1) (pa_cons (pv 3) (pa_cons (pv 4) (pa_cons (pe_lc (own := [("_law_x", 5), ("_law_z", 6)]) (g := gTup K 2 (gCons (gName 5) (gCons (gName 6) gNil))) (by rfl) scCd.nd (pi_list (pe_dget hu (pv 0) pe_str (fun _ _ => rfl))) (blkOk_by (own := [("_law_x", 5), ("_law_z", 6)]) (N := ["_law_code_here", "_law_size", "_law_string", "_law_rows", "_law_gauge", "_law_x", "_law_z"]) (sc := defScope sCd) (by decide +kernel))
          (fun _ _ _ _ _ => pg_tup rfl (pgs_cons (pg_name (i := 5) scCd.nd rfl (Or.inl rfl)) (pgs_cons (pg_name (i := 6) scCd.nd rfl (Or.inl rfl)) pgs_nil))) (fun _ _ _ _ _ => pts_nil) (fun _ _ _ _ _ => pe_tup (pa_cons (pe_call GPa (hr.mono (by decide)) (by rfl) gPa FPa.kp bPa .nil passL (pa_cons (pv 5) (pa_cons (pv 1) pa_nil))) (pa_cons (pe_call GPa (hr.mono (by decide)) (by rfl) gPa FPa.kp bPa .nil passL (pa_cons (pv 6) (pa_cons (pv 1) pa_nil))) pa_nil)))) pa_nil))))))))), ?_⟩
    refine ⟨fun σ' H' => σ' = [some (.ref a), some (.int (n : Nat)), none, none, none, none, none] ∧ H' = H, ⟨_, rfl, a, _, rfl, cd_size ea, rfl, rfl⟩, ?_⟩
    rintro _ H0 ⟨rfl, eH⟩
    have eH' := eH.symm
    subst eH'
    refine ⟨fun σ' H' => ∃ (D : Addr) (L : PLs), σ' = [some (.ref a), some (.int (n : Nat)), none, some (.ref D), none, none, none] ∧ Same H H' ∧ H' D = some (.lst (refP L)) ∧ PsAt C H' L ∧ L.map (·.2) = R.map (pl n), ?_, ?_⟩
    · refine ⟨_, rfl, a, _, rfl, cd_rows ea, lr, rfl, ⟨_, SqL.of elr⟩, fun D nD => ?_⟩
      refine lc_list (K := K) (a := lr) (xs := refR R) (Pv := fun j Hc => Same H Hc ∧ ∃ L : PLs, Hc D = some (.lst (refP L)) ∧ PsAt C Hc L ∧ L.map (·.2) = (R.take j).map (pl n)) ⟨same_new nD, [], upd_same, fun q hq => (by cases hq), rfl⟩ (fun j Hc _ ⟨sc, _⟩ => SqL.of (sc _ _ elr)) ?_ ?_
      · rintro j y Hc hj ⟨sc, L, ec, hL, eL⟩
        obtain ⟨r, hr', rfl⟩ := refR_at hj
        obtain ⟨er, fr⟩ := hR.same sc r (List.mem_of_getElem? hr')
        have jl := (List.getElem?_eq_some_iff.mp hr').1
        have lL : L.length ≤ j := by
          have := congrArg List.length eL
          rw [List.length_map, List.length_map, List.length_take] at this
          omega
        refine ⟨rfl, _, rfl, _, rfl, r.1, n, r.2, rfl, er, fr, by omega, by omega, fun H' x s' PX => ?_⟩
        have ec' := s' _ _ ec
        refine ⟨refP L, ec', ?_, same_put0 (sc.trans s') nD, L ++ [(x, pl n r)], ?_, fun q hq => ?_, ?_⟩
        · rw [refP_len]
          exact Nat.lt_of_le_of_lt (by omega : _ ≤ 60) (by decide)
        · rw [upd_same]
          unfold refP
          rw [List.map_append]
          rfl
        · rcases List.mem_append.mp hq with h | h
          · exact ((hL q h).same s').put ec'
          · rw [List.mem_singleton.mp h]
            exact PX.put ec'
        · rw [List.map_append, eL, take_snoc hr', List.map_append]
          rfl
      · rintro Hc ⟨sc, L, ec, hL, eL⟩
        rw [refR_len, List.take_length] at eL
        exact ⟨D, L, rfl, sc, ec, hL, eL⟩
    rintro _ H1 ⟨d1, L, rfl, s1, ed1, hL, eL⟩
    have ea1 := s1 _ _ ea
    have elg1 := s1 _ _ elg
    have hG1 := hG.same s1
    refine ⟨fun σ' H' => ∃ (D : Addr) (L : PLs), σ' = [some (.ref a), some (.int (n : Nat)), none, some (.ref d1), some (.ref D), none, none] ∧ Same H1 H' ∧ H' D = some (.lst (refP L)) ∧ PsAt C H' L ∧ L.map (·.2) = G.map (pl n), ?_, ?_⟩
    · refine ⟨_, rfl, a, _, rfl, cd_gauge ea1, lg, rfl, ⟨_, SqL.of elg1⟩, fun D nD => ?_⟩
      refine lc_list (K := K) (a := lg) (xs := refR G) (Pv := fun j Hc => Same H1 Hc ∧ ∃ L : PLs, Hc D = some (.lst (refP L)) ∧ PsAt C Hc L ∧ L.map (·.2) = (G.take j).map (pl n)) ⟨same_new nD, [], upd_same, fun q hq => (by cases hq), rfl⟩ (fun j Hc _ ⟨sc, _⟩ => SqL.of (sc _ _ elg1)) ?_ ?_
      · rintro j y Hc hj ⟨sc, L, ec, hL, eL⟩
        obtain ⟨r, hr', rfl⟩ := refR_at hj
        obtain ⟨er, fr⟩ := hG1.same sc r (List.mem_of_getElem? hr')
        have jl := (List.getElem?_eq_some_iff.mp hr').1
        have lL : L.length ≤ j := by
          have := congrArg List.length eL
          rw [List.length_map, List.length_map, List.length_take] at this
          omega
        refine ⟨rfl, _, rfl, _, rfl, r.1, n, r.2, rfl, er, fr, by omega, by omega, fun H' x s' PX => ?_⟩
        have ec' := s' _ _ ec
        refine ⟨refP L, ec', ?_, same_put0 (sc.trans s') nD, L ++ [(x, pl n r)], ?_, fun q hq => ?_, ?_⟩
        · rw [refP_len]
          exact Nat.lt_of_le_of_lt (by omega : _ ≤ 60) (by decide)
        · rw [upd_same]
          unfold refP
          rw [List.map_append]
          rfl
        · rcases List.mem_append.mp hq with h | h
          · exact ((hL q h).same s').put ec'
          · rw [List.mem_singleton.mp h]
            exact PX.put ec'
        · rw [List.map_append, eL, take_snoc hr', List.map_append]
          rfl
      · rintro Hc ⟨sc, L, ec, hL, eL⟩
        rw [refR_len, List.take_length] at eL
        exact ⟨D, L, rfl, sc, ec, hL, eL⟩
    rintro _ H2 ⟨d2, Lg, rfl, s12, ed2, hLg, eLg⟩
    have s2 := s1.trans s12
    have ea2 := s2 _ _ ea
    have elh2 := s2 _ _ elh
    have hS2 := hS.same s2
    refine ⟨_, rfl, _, rfl, _, rfl, _, rfl, a, _, rfl, cd_hidden ea2, lh, rfl, ⟨_, SqL.of elh2⟩, fun D nD => ?_⟩
    refine lc_list (K := K) (a := lh) (xs := refQ S) (Pv := fun j Hc => Same H2 Hc ∧ ∃ HS : HPs, Hc D = some (.lst (refS HS)) ∧ HPAt C Hc HS ∧ HS.map (fun s => (s.2.1.2, s.2.2.2)) = (S.take j).map (fun s => (pl n s.2.1, pl n s.2.2))) ⟨same_new nD, [], upd_same, fun q hq => (by cases hq), rfl⟩ (fun j Hc _ ⟨sc, _⟩ => SqL.of (sc _ _ elh2)) ?_ ?_
    · rintro j y Hc hj ⟨sc, HS, ec, hHS, eHS⟩
      obtain ⟨r, hr', rfl⟩ := refQ_at hj
      obtain ⟨er, ex, fx, ez, fz⟩ := hS2.same sc r (List.mem_of_getElem? hr')
      have jl := (List.getElem?_eq_some_iff.mp hr').1
      have lL : HS.length ≤ j := by
        have := congrArg List.length eHS
        rw [List.length_map, List.length_map, List.length_take] at this
        omega
      refine ⟨r.1, _, rfl, .inl (.inl er), rfl, _, _, rfl, _, _, rfl, rfl, rfl, _, rfl, _, rfl, r.2.1.1, n, r.2.1.2, rfl, ex, fx, h1, hn, fun H3 x s3 PX => ?_⟩
      refine ⟨_, rfl, _, rfl, r.2.2.1, n, r.2.2.2, rfl, s3 _ _ ez, fz, h1, hn, fun H4 z s4 PZ => ⟨by show 2 ≤ sizeLine; decide, fun t nt => ?_⟩⟩
      have s5 := same_new (o := .tup [V.ref x, V.ref z]) nt
      have et : (upd H4 t (.tup [V.ref x, V.ref z])) t = some (.tup [V.ref x, V.ref z]) := upd_same
      have PX5 := (PX.same s4).same s5
      have PZ5 := PZ.same s5
      have s35 := (s3.trans s4).trans s5
      generalize upd H4 t (.tup [V.ref x, V.ref z]) = H5 at et PX5 PZ5 s35 ⊢
      have ec' := s35 _ _ ec
      refine ⟨refS HS, ec', ?_, same_put0 (sc.trans s35) nD, HS ++ [(t, (x, pl n r.2.1), (z, pl n r.2.2))], ?_, fun q hq => ?_, ?_⟩
      · rw [refS_len]
        exact Nat.lt_of_le_of_lt (by omega : _ ≤ 60) (by decide)
      · rw [upd_same]
        unfold refS
        rw [List.map_append]
        rfl
      · rcases List.mem_append.mp hq with h | h
        · obtain ⟨b1, b2, b3⟩ := hHS.same s35 q h
          exact ⟨(upd_ne (ne_of b1 ec' (fun z => nomatch z))).trans b1, b2.put ec', b3.put ec'⟩
        · rw [List.mem_singleton.mp h]
          exact ⟨(upd_ne (ne_of et ec' (fun z => nomatch z))).trans et, PX5.put ec', PZ5.put ec'⟩
      · rw [List.map_append, eHS, take_snoc hr', List.map_append]
        rfl
    rintro Hc ⟨sc, HS, ec, hHS, eHS⟩
    rw [refQ_len, List.take_length] at eHS
    intro x dx nx nd ned
    have s0 : Same Hc (upd (upd Hc dx (.own x)) x (.ins CD dx [])) := (same_new nd).trans (same_new (by rw [upd_ne (Ne.symm ned)]; exact nx))
    have ex0 : (upd (upd Hc dx (.own x)) x (.ins CD dx [])) x = some (.ins CD dx []) := upd_same
    generalize upd (upd Hc dx (.own x)) x (.ins CD dx []) = H6 at s0 ex0 ⊢
    have s26 := sc.trans s0
    refine ⟨x, dx, n, d1, d2, D, L, Lg, HS, rfl, ex0, s26 _ _ (s12 _ _ ed1), fun q' hq => (((hL q' hq).same s12).same s26), s26 _ _ ed2, fun q' hq => (hLg q' hq).same s26, s0 _ _ ec, hHS.same s0, hok L Lg HS eL eLg eHS, fun H7 M GT bx cA lM rM sM lT rT sT => ⟨rfl, ?_⟩⟩
    rw [lbs_pl eLg] at cA
    rw [lbs_pl eL] at sM
    rw [lbs_pl eL, lbs_pl eLg] at sT
    exact q H7 x M GT (fun b o e => bx _ _ (fun z => by
      have := sc _ _ (s2 _ _ e)
      rw [z, nx] at this
      cases this) (s26 _ _ (s2 _ _ e))) cA lM rM sM lT rT sT
end
end KQ
namespace KQ
open PySem PySem.Spec PyProof.Rows L2
theorem lot_snoc (n i : Nat) : lotOf (n + 1) i = lotOf n i ++ (if i.testBit n then [n] else []) := by
  unfold lotOf
  rw [List.range_succ, List.filter_append]
  congr 1
  cases h : i.testBit n <;> simp [h]
theorem mask_mod (i : Nat) : ∀ n, maskL (lotOf n i) = i % 2 ^ n
  | 0 => by
    show 0 = i % 1
    omega
  | n + 1 => by
    have ih := mask_mod i n
    have app : ∀ a b : List Nat, maskL (a ++ b) = maskL a + maskL b := fun a b => by
      unfold maskL
      rw [List.map_append, List.sum_append]
    rw [lot_snoc, app, ih, Nat.mod_pow_succ, ← Nat.toNat_testBit]
    cases i.testBit n
    · show _ + 0 = _ + 2 ^ n * 0
      rw [Nat.mul_zero]
    · show _ + (2 ^ n + 0) = _ + 2 ^ n * 1
      rw [Nat.mul_one, Nat.add_zero]
theorem mask_lot {n i : Nat} (h : i < 2 ^ n) : maskL (lotOf n i) = i := by rw [mask_mod, Nat.mod_eq_of_lt h]
theorem lot_ok (n i : Nat) : LotOk n (lotOf n i) := ⟨List.pairwise_lt_range.filter _, fun p hp => List.mem_range.mp (List.mem_filter.mp hp).1⟩
theorem lot_mem {n i p : Nat} : p ∈ lotOf n i ↔ p < n ∧ i.testBit p = true := by
  unfold lotOf
  rw [List.mem_filter, List.mem_range]
/-- the lists of e, of e with some of the first k of I put on -/
def cosets (U : List Nat) : List Nat → List Nat
  | [] => U
  | x :: I => cosets (U ++ U.map (· ^^^ x)) I
theorem cosets_len : ∀ (I U : List Nat), (cosets U I).length = U.length * 2 ^ I.length
  | [], U => by
    show U.length = U.length * 1
    omega
  | x :: I, U => by
    show (cosets (U ++ U.map (· ^^^ x)) I).length = _
    rw [cosets_len I, List.length_append, List.length_map, List.length_cons, Nat.pow_succ, ← Nat.two_mul, Nat.mul_comm 2, Nat.mul_assoc, Nat.mul_comm 2]
theorem cosets_nd : ∀ (I U T : List Nat), U.Nodup → (∀ u ∈ U, Spn T u) → (∀ (j : Nat) x, I[j]? = some x → ¬ Spn (T ++ I.take j) x) → (cosets U I).Nodup
  | [], U, T, nd, _, _ => nd
  | x :: I, U, T, nd, hU, ind => by
    have nx : ¬ Spn T x := by
      have := ind 0 x rfl
      rwa [List.take_zero, List.append_nil] at this
    refine cosets_nd I (U ++ U.map (· ^^^ x)) (T ++ [x]) ?_ ?_ ?_
    · refine List.nodup_append.mpr ⟨nd, ?_, fun a ha b hb e => ?_⟩
      · refine List.Pairwise.map _ (fun a b h e => h ?_) nd
        have := congrArg (· ^^^ x) e
        simpa [Nat.xor_assoc] using this
      · obtain ⟨c, hc, rfl⟩ := List.mem_map.mp hb
        refine nx ?_
        have := (spn_sub T).2 _ _ (hU c hc) (hU a ha)
        rwa [e, ← Nat.xor_assoc, Nat.xor_self, Nat.zero_xor] at this
    · intro u hu
      rcases List.mem_append.mp hu with h | h
      · exact spn_snoc_skip (hU u h)
      · obtain ⟨c, hc, rfl⟩ := List.mem_map.mp h
        exact (spn_sub _).2 _ _ (spn_snoc_skip (hU c hc)) (spn_mem (List.mem_append_right _ (List.mem_singleton.mpr rfl)))
    · intro j y hj
      have := ind (j + 1) y hj
      rwa [List.take_succ_cons, show T ++ x :: List.take j I = T ++ [x] ++ List.take j I by rw [List.append_assoc]; rfl] at this
theorem cosets_mem : ∀ (I U : List Nat) (y : Nat), y ∈ cosets U I ↔ ∃ u ∈ U, ∃ s, Spn I s ∧ y = u ^^^ s
  | [], U, y => by
    constructor
    · intro h
      exact ⟨y, h, 0, (spn_sub []).1, (Nat.xor_zero y).symm⟩
    · rintro ⟨u, hu, s, hs, rfl⟩
      have : s = 0 := hs (fun s => s = 0) ⟨rfl, fun a b (h : a = 0) (k : b = 0) => by show a ^^^ b = 0; rw [h, k]; rfl⟩ (fun _ h => by cases h)
      rw [this, Nat.xor_zero]
      exact hu
  | x :: I, U, y => by
    show y ∈ cosets (U ++ U.map (· ^^^ x)) I ↔ _
    rw [cosets_mem I]
    constructor
    · rintro ⟨u, hu, s, hs, rfl⟩
      have hs' : Spn (x :: I) s := spn_le (fun a ha => spn_mem (List.mem_cons_of_mem _ ha)) hs
      rcases List.mem_append.mp hu with h | h
      · exact ⟨u, h, s, hs', rfl⟩
      · obtain ⟨c, hc, rfl⟩ := List.mem_map.mp h
        exact ⟨c, hc, x ^^^ s, (spn_sub _).2 _ _ (spn_mem (List.mem_cons_self ..)) hs', by rw [Nat.xor_assoc]⟩
    · rintro ⟨u, hu, s, hs, rfl⟩
      obtain ⟨t, v, rfl, ht, hv⟩ := spn_split (T := [x]) (U := I) hs
      have ht' : t = 0 ∨ t = x := ht (fun t => t = 0 ∨ t = x) ⟨.inl rfl, fun a b ha hb => by
        rcases ha with rfl | rfl <;> rcases hb with rfl | rfl
        · exact .inl rfl
        · exact .inr (Nat.zero_xor _)
        · exact .inr (Nat.xor_zero _)
        · exact .inl (Nat.xor_self _)⟩ (fun a ha => .inr (List.mem_singleton.mp ha))
      rcases ht' with rfl | rfl
      · exact ⟨u, List.mem_append_left _ hu, v, hv, by rw [Nat.zero_xor]⟩
      · exact ⟨u ^^^ t, List.mem_append_right _ (List.mem_map_of_mem (f := (· ^^^ t)) hu), v, hv, by rw [Nat.xor_assoc]⟩
/-- the strings of a lot are 2 ^ I.length as many as the empty ones among them -/
theorem reg_count {n : Nat} {ps bs es I : List Nat} (R : RegOf n ps bs es I) (hps : ∀ p ∈ ps, p < n) {W E : List Nat} (ndW : W.Nodup) (ndE : E.Nodup) (hW : ∀ x, x ∈ W ↔ Spn (singL n ps) x ∧ Even n x bs) (hE : ∀ x, x ∈ E ↔ x ∈ W ∧ Spn es x) : W.length = E.length * 2 ^ I.length := by
  have lt := singL_lt hps
  have ev : ∀ {a b : Nat}, Spn (singL n ps) a → Spn (singL n ps) b → Even n a bs → Even n b bs → Even n (a ^^^ b) bs := fun {a b} ha hb ea eb => by
    rw [← phC_iff (Nat.xor_lt_two_pow (spn_lt lt ha) (spn_lt lt hb)), phC_lin, (phC_iff (spn_lt lt ha)).mpr ea, (phC_iff (spn_lt lt hb)).mpr eb]
    rfl
  have sI : ∀ {s : Nat}, Spn I s → Spn (singL n ps) s ∧ Even n s bs := fun hs => hs (fun s => Spn (singL n ps) s ∧ Even n s bs) ⟨⟨(spn_sub _).1, fun o _ => by
    show pc (ex n 0 &&& o) % 2 = 0
    have : ex n 0 = 0 := by
      unfold ex
      rw [Nat.zero_mod, Nat.zero_mul, Nat.zero_shiftRight]
      rfl
    rw [this, Nat.zero_and, pc_zero]⟩, fun a b ha hb => ⟨(spn_sub _).2 _ _ ha.1 hb.1, ev ha.1 hb.1 ha.2 hb.2⟩⟩ fun a ha => ⟨R.win a ha, R.com a ha⟩
  have same : ∀ x, x ∈ W ↔ x ∈ cosets E I := fun x => by
    rw [cosets_mem]
    constructor
    · intro h
      obtain ⟨h1, h2⟩ := (hW x).mp h
      obtain ⟨t, u, rfl, ht, hu⟩ := spn_split (R.all x h1 h2)
      obtain ⟨u1, u2⟩ := sI hu
      refine ⟨t, (hE t).mpr ⟨(hW t).mpr ⟨?_, ?_⟩, ht⟩, u, hu, rfl⟩
      · have := (spn_sub _).2 _ _ h1 u1
        rwa [Nat.xor_assoc, Nat.xor_self, Nat.xor_zero] at this
      · have := ev h1 u1 h2 u2
        rwa [Nat.xor_assoc, Nat.xor_self, Nat.xor_zero] at this
    · rintro ⟨e, he, s, hs, rfl⟩
      obtain ⟨e1, e2⟩ := (hE e).mp he
      obtain ⟨w1, w2⟩ := (hW e).mp e1
      obtain ⟨s1, s2⟩ := sI hs
      exact (hW _).mpr ⟨(spn_sub _).2 _ _ w1 s1, ev w1 s1 w2 s2⟩
  have nd := cosets_nd I E es ndE (fun u hu => ((hE u).mp hu).2) R.ind
  have l1 := List.Nodup.length_le_of_subset ndW fun x hx => (same x).mp hx
  have l2 := List.Nodup.length_le_of_subset nd fun x hx => (same x).mpr hx
  rw [cosets_len] at l1 l2
  omega
end KQ
namespace KQ
open PySem PySem.Spec PyProof.Rows L2
theorem fB_zero (n : Nat) : fB n 0 0 = 0 := by
  have h := fB_xor n 0 0 0 0
  rw [Nat.xor_self, Nat.xor_self] at h
  exact h.symm
theorem rv_zero (n : Nat) : rv n 0 = 0 := by
  have h2 := fB_zero n
  unfold fB at h2
  exact (Nat.add_eq_zero_iff.mp h2).2
theorem rv_pow {n p : Nat} (h : p < n) : rv n (2 ^ p) = 2 ^ (n - 1 - p) := by
  apply Nat.eq_of_testBit_eq
  intro j
  by_cases hj : j < n
  · rw [rv_bit, decide_eq_true hj, Bool.true_and, Nat.testBit_two_pow, Nat.testBit_two_pow]
    exact decide_eq_decide.mpr (by omega)
  · rw [Nat.testBit_lt_two_pow (Nat.lt_of_lt_of_le (rv_lt n _) (Nat.pow_le_pow_right (by decide) (by omega))), Nat.testBit_two_pow, decide_eq_false (by omega)]
theorem fB_px {n p : Nat} (h : p < n) : fB n (2 ^ p) 0 = 2 ^ (2 * n - 1 - p) := by
  unfold fB
  rw [rv_pow h, rv_zero, Nat.add_zero, ← Nat.pow_add]
  congr 1
  omega
theorem fB_pz {n p : Nat} (h : p < n) : fB n 0 (2 ^ p) = 2 ^ (n - 1 - p) := by
  unfold fB
  rw [rv_pow h, rv_zero, Nat.mul_zero, Nat.zero_add]
theorem bits_spn {T : List Nat} {f : Nat → Nat} (f0 : f 0 = 0) (fx : ∀ a b, f (a ^^^ b) = f a ^^^ f b) : ∀ (N x : Nat), x < 2 ^ N → (∀ j, x.testBit j = true → Spn T (f (2 ^ j))) → Spn T (f x)
  | 0, x, h, _ => by
    have : x = 0 := by rw [Nat.pow_zero] at h; omega
    rw [this, f0]
    exact (spn_sub T).1
  | N + 1, x, h, hb => by
    cases hN : x.testBit N with
    | false =>
      refine bits_spn f0 fx N x ?_ hb
      refine Nat.lt_pow_two_of_testBit x fun j hj => ?_
      by_cases e : j = N
      · rw [e]
        exact hN
      · exact Nat.testBit_lt_two_pow (Nat.lt_of_lt_of_le h (Nat.pow_le_pow_right (by decide) (by omega)))
    | true =>
      have e : x = (x ^^^ 2 ^ N) ^^^ 2 ^ N := by rw [Nat.xor_assoc, Nat.xor_self, Nat.xor_zero]
      rw [e, fx]
      refine (spn_sub T).2 _ _ (bits_spn f0 fx N (x ^^^ 2 ^ N) ?_ fun j hj => ?_) (hb N hN)
      · refine Nat.lt_pow_two_of_testBit _ fun j hj => ?_
        rw [Nat.testBit_xor, Nat.testBit_two_pow]
        by_cases e : N = j
        · rw [decide_eq_true e, ← e, hN]
          rfl
        · rw [decide_eq_false e, Bool.xor_false]
          exact Nat.testBit_lt_two_pow (Nat.lt_of_lt_of_le h (Nat.pow_le_pow_right (by decide) (by omega)))
      · rw [Nat.testBit_xor, Nat.testBit_two_pow] at hj
        by_cases e : N = j
        · rw [← e]
          exact hb N hN
        · rw [decide_eq_false e, Bool.xor_false] at hj
          exact hb j hj
theorem and_bit {x i : Nat} (h : x &&& i = x) {j : Nat} (hj : x.testBit j = true) : i.testBit j = true := by
  rw [← h, Nat.testBit_and] at hj
  exact (Bool.and_eq_true_iff.mp hj).2
theorem or_and {x z i : Nat} : (x ||| z) &&& i = x ||| z ↔ x &&& i = x ∧ z &&& i = z := by
  constructor
  · intro h
    refine ⟨?_, ?_⟩ <;>
    · apply Nat.eq_of_testBit_eq
      intro j
      have := congrArg (·.testBit j) h
      simp only [Nat.testBit_and, Nat.testBit_or] at this ⊢
      revert this
      cases x.testBit j <;> cases z.testBit j <;> cases i.testBit j <;> simp
  · rintro ⟨h1, h2⟩
    rw [Nat.and_or_distrib_right, h1, h2]
/-- a string is within a lot just if the single letters there make it -/
theorem win_iff {n i x z : Nat} (hi : i < 2 ^ n) (hx : x < 2 ^ n) (hz : z < 2 ^ n) : inn (lotOf n i) (x, z) = true ↔ Spn (singL n (lotOf n i)) (fB n x z) := by
  unfold inn
  rw [decide_eq_true_iff, mask_lot hi, or_and]
  constructor
  · rintro ⟨h1, h2⟩
    have mem : ∀ {j : Nat}, i.testBit j = true → j ∈ lotOf n i := fun {j} h => by
      refine lot_mem.mpr ⟨?_, h⟩
      rcases Nat.lt_or_ge j n with k | k
      · exact k
      · rw [Nat.testBit_lt_two_pow (Nat.lt_of_lt_of_le hi (Nat.pow_le_pow_right (by decide) k))] at h
        cases h
    have e : fB n x z = fB n x 0 ^^^ fB n 0 z := by rw [fB_xor, Nat.xor_zero, Nat.zero_xor]
    have z0 : fB n 0 0 = 0 := fB_zero n
    rw [e]
    refine (spn_sub _).2 _ _ (bits_spn (f := fun x => fB n x 0) z0 (fun a b => by show fB n (a ^^^ b) 0 = _; rw [fB_xor, Nat.xor_self]) n x hx fun j hj => ?_) (bits_spn (f := fun z => fB n 0 z) z0 (fun a b => by show fB n 0 (a ^^^ b) = _; rw [fB_xor, Nat.xor_self]) n z hz fun j hj => ?_)
    · have m := mem (and_bit h1 hj)
      show Spn _ (fB n (2 ^ j) 0)
      rw [fB_px (lot_mem.mp m).1]
      exact spn_mem (List.mem_flatMap.mpr ⟨j, m, List.mem_cons_self ..⟩)
    · have m := mem (and_bit h2 hj)
      show Spn _ (fB n 0 (2 ^ j))
      rw [fB_pz (lot_mem.mp m).1]
      exact spn_mem (List.mem_flatMap.mpr ⟨j, m, List.mem_cons_of_mem _ (List.mem_singleton.mpr rfl)⟩)
  · intro h
    obtain ⟨x', z', hx', hz', e, k1, k2⟩ : ∃ x' z', x' < 2 ^ n ∧ z' < 2 ^ n ∧ fB n x z = fB n x' z' ∧ x' &&& i = x' ∧ z' &&& i = z' := by
      refine h (fun b => ∃ x' z', x' < 2 ^ n ∧ z' < 2 ^ n ∧ b = fB n x' z' ∧ x' &&& i = x' ∧ z' &&& i = z') ⟨⟨0, 0, Nat.two_pow_pos _, Nat.two_pow_pos _, ?_, Nat.zero_and _, Nat.zero_and _⟩, ?_⟩ fun b hb => ?_
      · exact (fB_zero n).symm
      · rintro a b ⟨x1, z1, h1, h2, rfl, h3, h4⟩ ⟨x2, z2, g1, g2, rfl, g3, g4⟩
        exact ⟨x1 ^^^ x2, z1 ^^^ z2, Nat.xor_lt_two_pow h1 g1, Nat.xor_lt_two_pow h2 g2, fB_xor .., by rw [Nat.and_xor_distrib_right, h3, g3], by rw [Nat.and_xor_distrib_right, h4, g4]⟩
      · obtain ⟨p, hp, hb⟩ := List.mem_flatMap.mp hb
        obtain ⟨pn, pi⟩ := lot_mem.mp hp
        have pa : 2 ^ p &&& i = 2 ^ p := by
          apply Nat.eq_of_testBit_eq
          intro j
          rw [Nat.testBit_and, Nat.testBit_two_pow]
          by_cases e : p = j
          · rw [decide_eq_true e, ← e, pi]
            rfl
          · rw [decide_eq_false e]
            rfl
        have pl : 2 ^ p < 2 ^ n := Nat.pow_lt_pow_right (by decide) pn
        rcases List.mem_cons.mp hb with k | k
        · exact ⟨2 ^ p, 0, pl, Nat.two_pow_pos _, by rw [k, fB_px pn], pa, Nat.zero_and _⟩
        · exact ⟨0, 2 ^ p, Nat.two_pow_pos _, pl, by rw [List.mem_singleton.mp k, fB_pz pn], Nat.zero_and _, pa⟩
    obtain ⟨rfl, rfl⟩ := fB_inj hx hz hx' hz' e
    exact ⟨k1, k2⟩
/-- pairs and numbers: spans -/
theorem spp_spn {n : Nat} {ss : List T2} {p : T2} (hs : ∀ s ∈ ss, Fit2 n s) (hp : Fit2 n p) : SpP ss p ↔ Spn (ss.map fun s => fB n s.1 s.2) (fB n p.1 p.2) := by
  constructor
  · intro h
    refine h (fun p => Spn (ss.map fun s => fB n s.1 s.2) (fB n p.1 p.2)) ?_ (fun a b ha hb => ?_) fun s hs' => spn_mem (List.mem_map_of_mem (f := fun s : T2 => fB n s.1 s.2) hs')
    · show Spn _ (fB n 0 0)
      rw [fB_zero]
      exact (spn_sub _).1
    · show Spn _ (fB n (a.1 ^^^ b.1) (a.2 ^^^ b.2))
      rw [← fB_xor]
      exact (spn_sub _).2 _ _ ha hb
  · intro h
    obtain ⟨q, hq, fq, e⟩ : ∃ q, SpP ss q ∧ Fit2 n q ∧ fB n p.1 p.2 = fB n q.1 q.2 := by
      refine h (fun b => ∃ q, SpP ss q ∧ Fit2 n q ∧ b = fB n q.1 q.2) ⟨⟨(0, 0), SpP.zero ss, ⟨Nat.two_pow_pos _, Nat.two_pow_pos _⟩, ?_⟩, ?_⟩ fun b hb => ?_
      · exact (fB_zero n).symm
      · rintro a b ⟨q, h1, h2, rfl⟩ ⟨r, g1, g2, rfl⟩
        exact ⟨xr2 q r, h1.x g1, ⟨Nat.xor_lt_two_pow h2.1 g2.1, Nat.xor_lt_two_pow h2.2 g2.2⟩, fB_xor ..⟩
      · obtain ⟨s, hs', rfl⟩ := List.mem_map.mp hb
        exact ⟨s, SpP.mem hs', hs s hs', rfl⟩
    obtain ⟨e1, e2⟩ := fB_inj hp.1 hp.2 fq.1 fq.2 e
    rw [show p = q from Prod.ext e1 e2]
    exact hq
/-- the law's crossing and the program's -/
theorem com2_even {n : Nat} {H : Hp} {R : RLs} (hR : RsAt n H R) {p : T2} (hp : Fit2 n p) : com2 R p = true ↔ Even n (fB n p.1 p.2) (rb n R) := by
  unfold com2
  rw [List.isEmpty_iff, List.filter_eq_nil_iff]
  have one : ∀ r ∈ R, (crN r.2 (p.1, p.2, 0) = 0 ↔ pc (ex n (fB n p.1 p.2) &&& bL (pl n r).1) % 2 = 0) := fun r hr => by
    obtain ⟨_, f⟩ := hR r hr
    have e : bL (pl n r).1 = fB n r.2.1 r.2.2.1 := bL_LT f
    rw [e, cross_fB hp.1 hp.2]
    unfold crN
    rw [pc_xor, Nat.and_comm r.2.1, Nat.and_comm r.2.2.1]
  constructor
  · intro h o ho
    obtain ⟨r, hr, rfl⟩ := List.mem_map.mp ho
    have := h r hr
    exact (one r hr).mp (by simpa using this)
  · intro h r hr
    have := (one r hr).mpr (h _ (List.mem_map_of_mem (f := fun r => bL (pl n r).1) hr))
    simp [this]
end KQ
namespace KQ
open PySem PySem.Spec PyProof.Rows L2
theorem cx_cr2 {n : Nat} {a : T2} (ha : Fit2 n a) (b : T2) : cx n (fB n a.1 a.2) (fB n b.1 b.2) = cr2 a b := by
  unfold cx
  rw [cross_fB ha.1 ha.2, cr2_b]
  omega
theorem crz (m m' : Nat) : cr2 (0, m) (0, m') = 0 := by
  rw [cr2_b]
  show (pc (0 &&& m') + pc (m &&& 0)) % 2 = 0
  rw [Nat.zero_and, Nat.and_zero, pc_zero]
theorem rb_fB {n : Nat} {r : Addr × T3} (f : Fit n r.2) : bL (pl n r).1 = fB n (bz r).1 (bz r).2 := bL_LT f
/-- each row is the image of low bits, and of one signed group -/
theorem SomeC.rows {n rank gd : Nat} {R G R0 : RLs} {S : PrLs} {X Y : List T3} {L : T2 → T2} {ms : List Nat} (c : SomeC n rank gd R G R0 S X Y L ms) :
    ∃ bs, Bse n bs ∧ bs.length = rank ∧ (∀ r ∈ R, InG n bs (phi n r.2)) ∧ ∀ r ∈ R, ∃ m, m < 2 ^ rank ∧ bz r = L (0, m) := by
  have hrk := c.rk
  obtain ⟨bs, B, lb, hb⟩ := code_base (by omega : rank ≤ n) c.fit0 c.code
  have low0 : ∀ r ∈ R0, ∃ m, m < 2 ^ rank ∧ bz r = L (0, m) := fun r hr => by
    have := (c.code.rows).mem_iff.mp (List.mem_map_of_mem (f := bz) hr)
    obtain ⟨m, hm, e⟩ := List.mem_map.mp this
    exact ⟨m, c.code.asc.lt hm, e.symm⟩
  have lowx : ∀ {m m' : Nat}, xr2 (L (0, m)) (L (0, m')) = L (0, m ^^^ m') := fun {m m'} => by
    rw [← c.code.symp.lin]
    congr 1
    unfold xr2
    rw [Nat.xor_self]
  have one : ∀ u : T3, (∃ r ∈ R0, r.2 = u) ∨ u ∈ X → InG n bs (phi n u) ∧ ∃ m, m < 2 ^ rank ∧ (u.1, u.2.1) = L (0, m) := by
    rintro u (⟨r, hr, rfl⟩ | hu)
    · exact ⟨hb r hr, low0 r hr⟩
    · rcases c.mX u hu with ⟨r, hr, q, hq, rfl⟩ | ⟨r, hr, rfl⟩ | rfl
      · refine ⟨?_, ?_⟩
        · rw [phi_mul (c.fit0 r hr) (c.fit0 q hq) ((hb r hr).com B.cs (hb q hq))]
          exact (hb r hr).hp B.cs (hb q hq)
        · obtain ⟨m, hm, e⟩ := low0 r hr
          obtain ⟨m', hm', e'⟩ := low0 q hq
          refine ⟨m ^^^ m', Nat.xor_lt_two_pow hm hm', ?_⟩
          rw [← lowx, ← e, ← e']
          rfl
      · exact ⟨hb r hr, low0 r hr⟩
      · refine ⟨?_, 0, Nat.two_pow_pos _, ?_⟩
        · rw [phi_zero]
          exact InG.zero n bs
        · exact (c.code.symp.zero).symm
  have mem : ∀ r ∈ R, (∃ q ∈ R0, q.2 = r.2) ∨ r.2 ∈ X := fun r hr => by
    rcases List.mem_append.mp (c.pmR.mem_iff.mp (List.mem_map_of_mem (f := fun r : Addr × T3 => r.2) hr)) with h | h
    · obtain ⟨q, hq, e⟩ := List.mem_map.mp h
      exact .inl ⟨q, hq, e⟩
    · exact .inr h
  exact ⟨bs, B, lb, fun r hr => (one r.2 (mem r hr)).1, fun r hr => (one r.2 (mem r hr)).2⟩
/-- the bits of a gauge string: the front has none below the rank -/
def GauB (rank gd : Nat) (p : T2) : Prop := p.1 < 2 ^ (rank + gd) ∧ p.2 < 2 ^ (rank + gd) ∧ ∀ j, j < rank → p.1.testBit j = false
theorem GauB.x {rank gd : Nat} {p q : T2} (h : GauB rank gd p) (k : GauB rank gd q) : GauB rank gd (xr2 p q) :=
  ⟨Nat.xor_lt_two_pow h.1 k.1, Nat.xor_lt_two_pow h.2.1 k.2.1, fun j hj => by
    show (p.1 ^^^ q.1).testBit j = false
    rw [Nat.testBit_xor, h.2.2 j hj, k.2.2 j hj]
    rfl⟩
theorem pair_at {n rank gd : Nat} {R G R0 : RLs} {S : PrLs} {X Y : List T3} {L : T2 → T2} {ms : List Nat} (c : SomeC n rank gd R G R0 S X Y L ms) : S.length = n - rank ∧ ∀ (i : Nat) s, S[i]? = some s → bz s.2.1 = L (2 ^ (rank + i), 0) ∧ bz s.2.2 = L (0, 2 ^ (rank + i)) := by
  have e := c.code.pairs
  have l := congrArg List.length e
  unfold pr0 at l
  rw [List.length_map, List.length_map, List.length_map, List.length_range] at l
  refine ⟨l, fun i s hs => ?_⟩
  have il := (List.getElem?_eq_some_iff.mp hs).1
  have := congrArg (·[i]?) e
  unfold pr0 at this
  simp only [List.getElem?_map, hs, List.getElem?_range (by omega : i < n - rank)] at this
  have h := Option.some.inj this
  exact ⟨congrArg Prod.fst h, congrArg Prod.snd h⟩
theorem SomeC.gauge {n rank gd : Nat} {R G R0 : RLs} {S : PrLs} {X Y : List T3} {L : T2 → T2} {ms : List Nat} (c : SomeC n rank gd R G R0 S X Y L ms) : ∀ r ∈ G, ∃ p, GauB rank gd p ∧ bz r = L p := by
  obtain ⟨_, _, _, _, low⟩ := c.rows
  obtain ⟨lS, at_⟩ := pair_at c
  have lowG : ∀ {m : Nat}, m < 2 ^ rank → GauB rank gd (0, m) := fun h => ⟨Nat.two_pow_pos _, Nat.lt_of_lt_of_le h (Nat.pow_le_pow_right (by decide) (by omega)), fun j _ => Nat.zero_testBit j⟩
  have flat : ∀ r ∈ flatQ (S.take gd), ∃ p, GauB rank gd p ∧ bz r = L p := fun r hr => by
    obtain ⟨s, hs, e⟩ := flatQ_mem hr
    obtain ⟨i, hi⟩ := List.getElem?_of_mem hs
    have il := (List.getElem?_eq_some_iff.mp hi).1
    rw [List.length_take] at il
    rw [List.getElem?_take_of_lt (by omega)] at hi
    obtain ⟨e1, e2⟩ := at_ i s hi
    have pl : 2 ^ (rank + i) < 2 ^ (rank + gd) := Nat.pow_lt_pow_right (by decide) (by omega)
    rcases e with rfl | rfl
    · exact ⟨(2 ^ (rank + i), 0), ⟨pl, Nat.two_pow_pos _, fun j hj => by show (2 ^ (rank + i)).testBit j = false; rw [Nat.testBit_two_pow, decide_eq_false (by omega)]⟩, e1⟩
    · exact ⟨(0, 2 ^ (rank + i)), ⟨Nat.two_pow_pos _, pl, fun j _ => Nat.zero_testBit j⟩, e2⟩
  have one : ∀ u : T3, (∃ r ∈ flatQ (S.take gd), r.2 = u) ∨ u ∈ Y → ∃ p, GauB rank gd p ∧ (u.1, u.2.1) = L p := by
    rintro u (⟨r, hr, rfl⟩ | hu)
    · exact flat r hr
    · rcases c.mY u hu with ⟨r, hr, q, hq, rfl⟩ | ⟨r, hr, rfl⟩ | ⟨r, hr, rfl⟩ | ⟨r, hr, q, hq, e1, e2⟩
      · obtain ⟨p, hp, e⟩ := flat r hr
        obtain ⟨p', hp', e'⟩ := flat q hq
        refine ⟨xr2 p p', hp.x hp', ?_⟩
        rw [c.code.symp.lin, ← e, ← e']
        rfl
      · exact flat r hr
      · obtain ⟨m, hm, e⟩ := low r hr
        exact ⟨(0, m), lowG hm, e⟩
      · obtain ⟨m, hm, e⟩ := low r hr
        obtain ⟨p', hp', e'⟩ := flat q hq
        refine ⟨xr2 (0, m) p', (lowG hm).x hp', ?_⟩
        rw [c.code.symp.lin, ← e, ← e', e1, e2]
        rfl
  intro r hr
  refine one r.2 ?_
  rcases List.mem_append.mp (c.pmG.mem_iff.mp (List.mem_map_of_mem (f := fun r : Addr × T3 => r.2) hr)) with h | h
  · obtain ⟨q, hq, e⟩ := List.mem_map.mp h
    exact .inl ⟨q, hq, e⟩
  · exact .inr h
end KQ
namespace KQ
open PySem PySem.Spec PyProof.Rows L2
theorem SomeC.fitG {n rank gd : Nat} {R G R0 : RLs} {S : PrLs} {X Y : List T3} {L : T2 → T2} {ms : List Nat} (c : SomeC n rank gd R G R0 S X Y L ms) {p : T2} (h : GauB rank gd p) : Fit2 n p := by
  have := c.rk
  exact ⟨Nat.lt_of_lt_of_le h.1 (Nat.pow_le_pow_right (by decide) (by omega)), Nat.lt_of_lt_of_le h.2.1 (Nat.pow_le_pow_right (by decide) (by omega))⟩
theorem and_high {rank u m : Nat} (h : ∀ j, j < rank → u.testBit j = false) (hm : m < 2 ^ rank) : u &&& m = 0 := by
  apply Nat.eq_of_testBit_eq
  intro j
  rw [Nat.testBit_and, Nat.zero_testBit]
  rcases Nat.lt_or_ge j rank with k | k
  · rw [h j k]
    rfl
  · rw [Nat.testBit_lt_two_pow (Nat.lt_of_lt_of_le hm (Nat.pow_le_pow_right (by decide) k)), Bool.and_false]
theorem ms_span {ms : List Nat} {rank : Nat} (h : MsOk ms rank) : ∀ k, k ≤ rank → ∀ v, v < 2 ^ k → Spn ms v
  | 0, _, v, hv => by
    have : v = 0 := by rw [Nat.pow_zero] at hv; omega
    rw [this]
    exact (spn_sub ms).1
  | k + 1, hk, v, hv => by
    have kl : k < ms.length := by rw [h.1]; omega
    have hm := List.getElem?_eq_getElem kl
    obtain ⟨m1, m2⟩ := h.2 k _ hm
    have mem := List.mem_of_getElem? hm
    rcases Nat.lt_or_ge v (2 ^ k) with q | q
    · exact ms_span h k (by omega) v q
    · have t1 : v.testBit k = true := by
        rw [Nat.testBit_eq_decide_div_mod_eq]
        have : v / 2 ^ k = 1 := by
          rw [Nat.pow_succ] at hv
          exact Nat.div_eq_of_lt_le (by omega) (by omega)
        rw [this]
        rfl
      have t2 : (ms[k]).testBit k = true := by
        rw [Nat.testBit_eq_decide_div_mod_eq]
        have : ms[k] / 2 ^ k = 1 := by
          rw [Nat.pow_succ] at m2
          exact Nat.div_eq_of_lt_le (by omega) (by omega)
        rw [this]
        rfl
      have low : v ^^^ ms[k] < 2 ^ k := by
        refine Nat.lt_pow_two_of_testBit _ fun j hj => ?_
        rw [Nat.testBit_xor]
        by_cases e : j = k
        · rw [e, t1, t2]
          rfl
        · rw [Nat.testBit_lt_two_pow (Nat.lt_of_lt_of_le hv (Nat.pow_le_pow_right (by decide) (by omega))), Nat.testBit_lt_two_pow (Nat.lt_of_lt_of_le m2 (Nat.pow_le_pow_right (by decide) (by omega)))]
          rfl
      have := (spn_sub ms).2 _ _ (ms_span h k (by omega) _ low) (spn_mem mem)
      rwa [Nat.xor_assoc, Nat.xor_self, Nat.xor_zero] at this
theorem spn_map {T : List Nat} {f : Nat → Nat} (f0 : f 0 = 0) (fx : ∀ a b, f (a ^^^ b) = f a ^^^ f b) {v : Nat} (h : Spn T v) : Spn (T.map f) (f v) :=
  h (fun v => Spn (T.map f) (f v)) ⟨by show Spn _ (f 0); rw [f0]; exact (spn_sub _).1, fun a b ha hb => by show Spn _ (f (a ^^^ b)); rw [fx]; exact (spn_sub _).2 _ _ ha hb⟩ fun a ha => spn_mem (List.mem_map_of_mem ha)
/-- what the rows make: all images of low bits -/
theorem SomeC.rspan {n rank gd : Nat} {R G R0 : RLs} {S : PrLs} {X Y : List T3} {L : T2 → T2} {ms : List Nat} (c : SomeC n rank gd R G R0 S X Y L ms) (hR : ∀ r ∈ R, Fit n r.2) {v : Nat} (hv : v < 2 ^ rank) : Spn (rb n R) (fB n (L (0, v)).1 (L (0, v)).2) := by
  have h1 := spn_map (f := fun m => fB n (L (0, m)).1 (L (0, m)).2) (fbL_zero c.code.symp).symm (fun a b => (fbL c.code.symp a b).symm) (ms_span c.code.asc rank (Nat.le_refl _) v hv)
  refine spn_le (fun a ha => ?_) h1
  obtain ⟨m, hm, rfl⟩ := List.mem_map.mp ha
  obtain ⟨r0, hr0, e⟩ := List.mem_map.mp ((c.code.rows).mem_iff.mpr (List.mem_map_of_mem (f := fun m => L (0, m)) hm))
  obtain ⟨r, hr, e2⟩ := List.mem_map.mp (c.pmR.mem_iff.mpr (List.mem_append_left _ (List.mem_map_of_mem (f := fun r : Addr × T3 => r.2) hr0)))
  have : fB n (L (0, m)).1 (L (0, m)).2 = bL (pl n r).1 := by
    have e3 : bz r = bz r0 := by
      unfold bz
      rw [e2]
    rw [rb_fB (hR r hr), e3, e]
  rw [this]
  exact spn_mem (List.mem_map_of_mem (f := fun r => bL (pl n r).1) hr)
theorem cr2_bit0 (p : T2) (j : Nat) : cr2 p (2 ^ j, 0) = (p.2.testBit j).toNat := by
  have h := cr2_pt p true false j 0
  simpa [pt] using h
theorem cr2_bit1 (p : T2) (j : Nat) : cr2 p (0, 2 ^ j) = (p.1.testBit j).toNat := by
  have h := cr2_pt p false true 0 j
  simpa [pt] using h
/-- gauge strings that meet all gauge strings evenly are rows' products -/
theorem SomeC.centre {n rank gd : Nat} {R G R0 : RLs} {S : PrLs} {X Y : List T3} {L : T2 → T2} {ms : List Nat} (c : SomeC n rank gd R G R0 S X Y L ms) (hR : ∀ r ∈ R, Fit n r.2) (hG : ∀ r ∈ G, Fit n r.2) (x : Nat) (hx : Spn (rb n G) x) (ev : Even n x (rb n G)) : Spn (rb n R) x := by
  have gau := c.gauge
  obtain ⟨lS, at_⟩ := pair_at c
  have hrk := c.rk
  obtain ⟨p, hp, rfl⟩ : ∃ p, GauB rank gd p ∧ x = fB n (L p).1 (L p).2 := by
    refine hx (fun x => ∃ p, GauB rank gd p ∧ x = fB n (L p).1 (L p).2) ⟨⟨(0, 0), ⟨Nat.two_pow_pos _, Nat.two_pow_pos _, fun j _ => Nat.zero_testBit j⟩, ?_⟩, ?_⟩ fun a ha => ?_
    · rw [c.code.symp.zero]
      exact (fB_zero n).symm
    · rintro a b ⟨p, hp, rfl⟩ ⟨q, hq, rfl⟩
      refine ⟨xr2 p q, hp.x hq, ?_⟩
      rw [c.code.symp.lin, fB_xor]
      rfl
    · obtain ⟨r, hr, rfl⟩ := List.mem_map.mp ha
      obtain ⟨p, hp, e⟩ := gau r hr
      exact ⟨p, hp, by rw [rb_fB (hG r hr), e]⟩
  have fp := c.fitG hp
  have fL := c.code.symp.fit p fp
  have gz : ∀ r, r ∈ flatQ (S.take gd) → ∀ q, Fit2 n q → bz r = L q → cr2 p q = 0 := fun r hr q fq e => by
    obtain ⟨g, hg, e2⟩ := List.mem_map.mp (c.pmG.mem_iff.mpr (List.mem_append_left _ (List.mem_map_of_mem (f := fun r : Addr × T3 => r.2) hr)))
    have e3 : bz g = L q := by
      rw [← e]
      unfold bz
      rw [e2]
    have := ev _ (List.mem_map_of_mem (f := fun r => bL (pl n r).1) hg)
    rw [rb_fB (hG g hg), e3] at this
    have h2 : cx n (fB n (L p).1 (L p).2) (fB n (L q).1 (L q).2) = 0 := this
    rw [cx_cr2 fL, c.code.symp.cr _ _ fp fq] at h2
    exact h2
  have bitz : ∀ i, i < gd → p.1.testBit (rank + i) = false ∧ p.2.testBit (rank + i) = false := fun i hi => by
    have hs := List.getElem?_eq_getElem (l := S) (i := i) (by omega)
    obtain ⟨e1, e2⟩ := at_ i _ hs
    have hm : S[i] ∈ S.take gd := List.mem_of_getElem? (i := i) (by rw [List.getElem?_take_of_lt hi]; exact hs)
    have pl : 2 ^ (rank + i) < 2 ^ n := Nat.pow_lt_pow_right (by decide) (by omega)
    have f1 : S[i].2.1 ∈ flatQ (S.take gd) := List.mem_flatMap.mpr ⟨_, hm, List.mem_cons_self ..⟩
    have f2 : S[i].2.2 ∈ flatQ (S.take gd) := List.mem_flatMap.mpr ⟨_, hm, List.mem_cons_of_mem _ (List.mem_singleton.mpr rfl)⟩
    have z1 := gz _ f1 (2 ^ (rank + i), 0) ⟨pl, Nat.two_pow_pos _⟩ e1
    have z2 := gz _ f2 (0, 2 ^ (rank + i)) ⟨Nat.two_pow_pos _, pl⟩ e2
    rw [cr2_bit0] at z1
    rw [cr2_bit1] at z2
    refine ⟨?_, ?_⟩
    · cases h : p.1.testBit (rank + i) with
      | false => rfl
      | true => rw [h] at z2; cases z2
    · cases h : p.2.testBit (rank + i) with
      | false => rfl
      | true => rw [h] at z1; cases z1
  have high : ∀ (u : Nat), u < 2 ^ (rank + gd) → (∀ i, i < gd → u.testBit (rank + i) = false) → u < 2 ^ rank := fun u hu hb => by
    refine Nat.lt_pow_two_of_testBit u fun j hj => ?_
    rcases Nat.lt_or_ge j (rank + gd) with k | k
    · have := hb (j - rank) (by omega)
      rwa [show rank + (j - rank) = j by omega] at this
    · exact Nat.testBit_lt_two_pow (Nat.lt_of_lt_of_le hu (Nat.pow_le_pow_right (by decide) k))
  have p1 : p.1 = 0 := by
    apply Nat.eq_of_testBit_eq
    intro j
    rw [Nat.zero_testBit]
    rcases Nat.lt_or_ge j rank with k | k
    · exact hp.2.2 j k
    · exact Nat.testBit_lt_two_pow (Nat.lt_of_lt_of_le (high p.1 hp.1 fun i hi => (bitz i hi).1) (Nat.pow_le_pow_right (by decide) k))
  have p2 := high p.2 hp.2.1 fun i hi => (bitz i hi).2
  have : p = (0, p.2) := Prod.ext p1 rfl
  rw [this]
  exact c.rspan hR p2
end KQ
namespace KQ
open PySem PySem.Spec PyProof.Rows L2
theorem pl_gstr {n : Nat} {r : Addr × T3} (n1 : 1 ≤ n) (f : Fit n r.2) : GStr n (pl n r) := by
  have := f.2.2
  refine ⟨LT_lts n _ _, fun z => ?_, LT_len n _ _, by show 2 * r.2.2.2 % 2 = 0; omega, by show 2 * r.2.2.2 < 4; omega⟩
  have := LT_len n r.2.1 r.2.2.1
  have z' : LT n r.2.1 r.2.2.1 = [] := z
  rw [z'] at this
  simp at this
  omega
theorem gs_pl {n : Nat} {L : PLs} {R : RLs} (hR : ∀ r ∈ R, Fit n r.2) (e : L.map (·.2) = R.map (pl n)) : gsOf L = gsT n R := by
  have e1 : gsOf L = (L.map (·.2)).map fun q : List Nat × Nat => (bL q.1, (q.2 + q.1.count 89) % 4) := by
    unfold gsOf
    rw [List.map_map]
    rfl
  rw [e1, e, List.map_map]
  unfold gsT
  refine List.map_congr_left fun r hr => ?_
  have f := hR r hr
  show (bL (LT n r.2.1 r.2.2.1), (2 * r.2.2.2 + (LT n r.2.1 r.2.2.1).count 89) % 4) = phi n r.2
  rw [bL_LT f, cnt_LT f]
  rfl
theorem mem_pl {n : Nat} {L : PLs} {R : RLs} (e : L.map (·.2) = R.map (pl n)) {q : Addr × List Nat × Nat} (hq : q ∈ L) : ∃ r ∈ R, q.2 = pl n r := by
  have := List.mem_map_of_mem (f := fun q : Addr × List Nat × Nat => q.2) hq
  rw [e] at this
  obtain ⟨r, hr, e⟩ := List.mem_map.mp this
  exact ⟨r, hr, e.symm⟩
theorem hp_at {n : Nat} {HS : HPs} {S : PrLs} (e : HS.map (fun s => (s.2.1.2, s.2.2.2)) = S.map (fun s => (pl n s.2.1, pl n s.2.2))) {i : Nat} {s : Addr × (Addr × List Nat × Nat) × (Addr × List Nat × Nat)} (h : HS[i]? = some s) : ∃ t, S[i]? = some t ∧ s.2.1.2 = pl n t.2.1 ∧ s.2.2.2 = pl n t.2.2 := by
  have := congrArg (·[i]?) e
  simp only [List.getElem?_map, h] at this
  obtain ⟨t, ht, et⟩ := Option.map_eq_some_iff.mp this.symm
  exact ⟨t, ht, (congrArg Prod.fst et).symm, (congrArg Prod.snd et).symm⟩
theorem code_ok {n rank gd : Nat} {R G R0 : RLs} {S : PrLs} {X Y : List T3} {L : T2 → T2} {ms : List Nat} (c : SomeC n rank gd R G R0 S X Y L ms) (hR : ∀ r ∈ R, Fit n r.2) (hG : ∀ r ∈ G, Fit n r.2) (hS : ∀ s ∈ S, Fit n s.2.1.2 ∧ Fit n s.2.2.2)
    {Lp Lg : PLs} {HS : HPs} (eL : Lp.map (·.2) = R.map (pl n)) (eG : Lg.map (·.2) = G.map (pl n)) (eS : HS.map (fun s => (s.2.1.2, s.2.2.2)) = (S.drop gd).map (fun s => (pl n s.2.1, pl n s.2.2)))
    (dim : ∀ U V : List Nat, Ec U → (∀ x, Spn U x ↔ Spn (rb n R) x) → Ec V → (∀ x, Spn V x ↔ Spn (rb n R ++ rb n G) x) → U.length ≤ V.length ∧ (n : Int) - U.length - ((V.length : Int) - U.length) / 2 ≤ HS.length) : CodeOk n Lp Lg HS := by
  have n2 := c.n2
  have n5 := c.n5
  have hrk := c.rk
  have g2 := c.g2
  obtain ⟨bs, B, lb, hin, low⟩ := c.rows
  have gau := c.gauge
  obtain ⟨lS, at_⟩ := pair_at c
  have lenR : R.length ≤ 8 := by
    have := c.pmR.length_eq
    rw [List.length_append, List.length_map, List.length_map, c.len0] at this
    have := c.lX
    omega
  have lenG : G.length ≤ 7 := by
    have := c.pmG.length_eq
    rw [List.length_append, List.length_map, List.length_map, flatQ_len, List.length_take] at this
    have := c.lY
    omega
  have lL : Lp.length = R.length := by
    have := congrArg List.length eL
    rwa [List.length_map, List.length_map] at this
  have lG : Lg.length = G.length := by
    have := congrArg List.length eG
    rwa [List.length_map, List.length_map] at this
  have lH : HS.length = (S.drop gd).length := by
    have := congrArg List.length eS
    rwa [List.length_map, List.length_map] at this
  rw [List.length_drop] at lH
  have gR : ∀ q ∈ Lp, GStr n q.2 := fun q hq => by
    obtain ⟨r, hr, e⟩ := mem_pl eL hq
    rw [e]
    exact pl_gstr (by omega) (hR r hr)
  have gG : ∀ q ∈ Lg, GStr n q.2 := fun q hq => by
    obtain ⟨r, hr, e⟩ := mem_pl eG hq
    rw [e]
    exact pl_gstr (by omega) (hG r hr)
  have lR := lbs_pl eL
  have lGb := lbs_pl eG
  have fm : ∀ {m : Nat}, m < 2 ^ rank → Fit2 n (0, m) := fun h => ⟨Nat.two_pow_pos _, Nat.lt_of_lt_of_le h (Nat.pow_le_pow_right (by decide) (by omega))⟩
  have rowO : ∀ o ∈ rb n R, ∃ m, m < 2 ^ rank ∧ o = fB n (L (0, m)).1 (L (0, m)).2 := fun o ho => by
    obtain ⟨r, hr, rfl⟩ := List.mem_map.mp ho
    obtain ⟨m, hm, e⟩ := low r hr
    exact ⟨m, hm, by rw [rb_fB (hR r hr), e]⟩
  have gauO : ∀ o ∈ rb n G, ∃ p, GauB rank gd p ∧ o = fB n (L p).1 (L p).2 := fun o ho => by
    obtain ⟨r, hr, rfl⟩ := List.mem_map.mp ho
    obtain ⟨p, hp, e⟩ := gau r hr
    exact ⟨p, hp, by rw [rb_fB (hG r hr), e]⟩
  have crL : ∀ {p q : T2}, Fit2 n p → Fit2 n q → cx n (fB n (L p).1 (L p).2) (fB n (L q).1 (L q).2) = cr2 p q := fun fp fq => by
    rw [cx_cr2 (c.code.symp.fit _ fp), c.code.symp.cr _ _ fp fq]
  refine ⟨by omega, by omega, ⟨fun q h => (gR q h).isl, fun q h => (gR q h).ne, fun q h => by rw [(gR q h).len]; omega, fun q h => (gR q h).p4, by omega⟩, ⟨fun q h => (gG q h).isl, fun q h => (gG q h).ne, fun q h => by rw [(gG q h).len]; omega, fun q h => (gG q h).p4, by omega⟩, by omega, by omega, fun q h => (gR q h).len, fun q h => (gG q h).len, fun q h => (gR q h).ph, fun q h => (gG q h).ph, ?_, ?_, ?_, ?_, ?_, ?_, ?_⟩
  · intro i j hij hj
    rw [lR]
    have at1 : ∀ {k : Nat}, k < Lp.length → (rb n R).getD k 0 ∈ rb n R := fun {k} hk => by
      have hk' : k < (rb n R).length := by unfold rb; rw [List.length_map]; omega
      rw [List.getD_eq_getElem?_getD, List.getElem?_eq_getElem hk']
      exact List.getElem_mem hk'
    obtain ⟨m, hm, e⟩ := rowO _ (at1 (by omega : i < Lp.length))
    obtain ⟨m', hm', e'⟩ := rowO _ (at1 hj)
    show cx n ((rb n R).getD j 0) ((rb n R).getD i 0) = 0
    rw [e, e', crL (fm hm') (fm hm), crz]
  · intro i hi
    rw [gs_pl hR eL]
    exact good_of B (gsT_in hin) (by unfold gsT; rw [List.length_map]; omega)
  · intro b hb
    rw [lGb] at hb
    rw [lR]
    intro o ho
    obtain ⟨p, hp, rfl⟩ := gauO b hb
    obtain ⟨m, hm, rfl⟩ := rowO o ho
    show cx n _ _ = 0
    rw [crL (c.fitG hp) (fm hm), cr2_b]
    show (pc (p.1 &&& m) + pc (p.2 &&& 0)) % 2 = 0
    rw [and_high hp.2.2 hm, Nat.and_zero, pc_zero]
  · rw [lGb, lR]
    exact c.centre hR hG
  · intro s hs
    obtain ⟨i, hi⟩ := List.getElem?_of_mem hs
    obtain ⟨t, ht, e1, e2⟩ := hp_at eS hi
    obtain ⟨f1, f2⟩ := hS t (List.mem_of_mem_drop (List.mem_of_getElem? ht))
    rw [e1, e2]
    exact ⟨pl_gstr (by omega) f1, pl_gstr (by omega) f2⟩
  · rw [lR, lGb]
    have hidO : ∀ (i : Nat) s, HS[i]? = some s → gd + i < n - rank ∧ bL s.2.1.2.1 = fB n (L (2 ^ (rank + gd + i), 0)).1 (L (2 ^ (rank + gd + i), 0)).2 ∧ bL s.2.2.2.1 = fB n (L (0, 2 ^ (rank + gd + i))).1 (L (0, 2 ^ (rank + gd + i))).2 := fun i s hi => by
      obtain ⟨t, ht, e1, e2⟩ := hp_at eS hi
      obtain ⟨f1, f2⟩ := hS t (List.mem_of_mem_drop (List.mem_of_getElem? ht))
      rw [List.getElem?_drop] at ht
      have il := (List.getElem?_eq_some_iff.mp ht).1
      obtain ⟨a1, a2⟩ := at_ (gd + i) t ht
      rw [show rank + (gd + i) = rank + gd + i by omega] at a1 a2
      refine ⟨by omega, ?_, ?_⟩
      · rw [e1, rb_fB f1, a1]
      · rw [e2, rb_fB f2, a2]
    intro i s hi
    obtain ⟨il, b1, b2⟩ := hidO i s hi
    have pl : 2 ^ (rank + gd + i) < 2 ^ n := Nat.pow_lt_pow_right (by decide) (by omega)
    have fx : Fit2 n (2 ^ (rank + gd + i), 0) := ⟨pl, Nat.two_pow_pos _⟩
    have fz : Fit2 n (0, 2 ^ (rank + gd + i)) := ⟨Nat.two_pow_pos _, pl⟩
    have tz : ∀ {u k : Nat}, u < 2 ^ k → k ≤ rank + gd + i → u.testBit (rank + gd + i) = false := fun h hk => Nat.testBit_lt_two_pow (Nat.lt_of_lt_of_le h (Nat.pow_le_pow_right (by decide) hk))
    have both : ∀ o ∈ rb n R ++ rb n G ++ hbs (HS.take i), ∃ q, Fit2 n q ∧ o = fB n (L q).1 (L q).2 ∧ q.1.testBit (rank + gd + i) = false ∧ q.2.testBit (rank + gd + i) = false := fun o ho => by
      rcases List.mem_append.mp ho with h | h
      · rcases List.mem_append.mp h with h | h
        · obtain ⟨m, hm, e⟩ := rowO o h
          exact ⟨(0, m), fm hm, e, Nat.zero_testBit _, tz hm (by omega)⟩
        · obtain ⟨p, hp, e⟩ := gauO o h
          exact ⟨p, c.fitG hp, e, tz hp.1 (by omega), tz hp.2.1 (by omega)⟩
      · obtain ⟨t, ht, h⟩ := List.mem_flatMap.mp h
        obtain ⟨j, hj⟩ := List.getElem?_of_mem ht
        have jl := (List.getElem?_eq_some_iff.mp hj).1
        rw [List.length_take] at jl
        rw [List.getElem?_take_of_lt (by omega)] at hj
        obtain ⟨jl2, c1, c2⟩ := hidO j t hj
        have pj : 2 ^ (rank + gd + j) < 2 ^ n := Nat.pow_lt_pow_right (by decide) (by omega)
        have bz' : (2 ^ (rank + gd + j)).testBit (rank + gd + i) = false := by rw [Nat.testBit_two_pow, decide_eq_false (by omega)]
        rcases List.mem_cons.mp h with k | k
        · exact ⟨(2 ^ (rank + gd + j), 0), ⟨pj, Nat.two_pow_pos _⟩, by rw [k, c1], bz', Nat.zero_testBit _⟩
        · exact ⟨(0, 2 ^ (rank + gd + j)), ⟨Nat.two_pow_pos _, pj⟩, by rw [List.mem_singleton.mp k, c2], Nat.zero_testBit _, bz'⟩
    refine ⟨fun o ho => ?_, fun o ho => ?_, ?_⟩
    · obtain ⟨q, fq, rfl, q1, q2⟩ := both o ho
      rw [b1]
      show cx n _ _ = 0
      rw [crL fx fq, cr2_sym, cr2_bit0, q2]
      rfl
    · obtain ⟨q, fq, rfl, q1, q2⟩ := both o ho
      rw [b2]
      show cx n _ _ = 0
      rw [crL fz fq, cr2_sym, cr2_bit1, q1]
      rfl
    · rw [b1, b2, crL fx fz, cr2_bit1, Nat.testBit_two_pow, decide_eq_true rfl]
      rfl
  · rw [lR, lGb]
    exact dim
end KQ
namespace KQ
open PySem PySem.Spec PyProof.Rows L2
theorem indep_snoc {T : List Nat} {g : Nat} (h : Indep T) (ng : ¬ Spn T g) : Indep (T ++ [g]) := by
  intro i x hx
  by_cases hi : i < T.length
  · rw [List.getElem?_append_left hi] at hx
    rw [List.take_append_of_le_length (by omega)]
    exact h i x hx
  · have il := (List.getElem?_eq_some_iff.mp hx).1
    rw [List.length_append, List.length_singleton] at il
    have e : i = T.length := by omega
    subst e
    rw [List.getElem?_append_right (Nat.le_refl _), Nat.sub_self] at hx
    rw [List.take_append_of_le_length (Nat.le_refl _), List.take_length]
    obtain rfl : g = x := Option.some.inj hx
    exact ng
/-- the images of pairs of bits below these bounds -/
def Img (n : Nat) (L : T2 → T2) (a b x : Nat) : Prop := ∃ p : T2, p.1 < 2 ^ a ∧ p.2 < 2 ^ b ∧ x = fB n (L p).1 (L p).2
theorem Img.sub {n : Nat} {L : T2 → T2} (s : Symp n L) (a b : Nat) : Sub (Img n L a b) := by
  refine ⟨⟨(0, 0), Nat.two_pow_pos _, Nat.two_pow_pos _, ?_⟩, ?_⟩
  · rw [s.zero]
    exact (fB_zero n).symm
  · rintro x y ⟨p, h1, h2, rfl⟩ ⟨q, g1, g2, rfl⟩
    refine ⟨xr2 p q, Nat.xor_lt_two_pow h1 g1, Nat.xor_lt_two_pow h2 g2, ?_⟩
    rw [s.lin, fB_xor]
    rfl
theorem Img.mono {n : Nat} {L : T2 → T2} {a b a' b' x : Nat} (h : Img n L a b x) (ha : a ≤ a') (hb : b ≤ b') : Img n L a' b' x :=
  let ⟨p, h1, h2, e⟩ := h; ⟨p, Nat.lt_of_lt_of_le h1 (Nat.pow_le_pow_right (by decide) ha), Nat.lt_of_lt_of_le h2 (Nat.pow_le_pow_right (by decide) hb), e⟩
theorem Img.inj {n : Nat} {L : T2 → T2} (s : Symp n L) {a b : Nat} (ha : a ≤ n) (hb : b ≤ n) {q : T2} (fq : Fit2 n q) (h : Img n L a b (fB n (L q).1 (L q).2)) : q.1 < 2 ^ a ∧ q.2 < 2 ^ b := by
  obtain ⟨p, h1, h2, e⟩ := h
  have fp : Fit2 n p := ⟨Nat.lt_of_lt_of_le h1 (Nat.pow_le_pow_right (by decide) ha), Nat.lt_of_lt_of_le h2 (Nat.pow_le_pow_right (by decide) hb)⟩
  have f1 := s.fit q fq
  have f2 := s.fit p fp
  obtain ⟨e1, e2⟩ := fB_inj f1.1 f1.2 f2.1 f2.2 e
  have := s.one fq fp (Prod.ext e1 e2)
  rw [this]
  exact ⟨h1, h2⟩
theorem SomeC.base {n rank gd : Nat} {R G R0 : RLs} {S : PrLs} {X Y : List T3} {L : T2 → T2} {ms : List Nat} (c : SomeC n rank gd R G R0 S X Y L ms) (hR : ∀ r ∈ R, Fit n r.2) (hG : ∀ r ∈ G, Fit n r.2) : ∀ k, k ≤ gd →
    ∃ T : List Nat, Indep T ∧ T.length = rank + 2 * k ∧ (∀ x ∈ T, Spn (rb n R ++ rb n G) x) ∧ ∀ x ∈ T, Img n L (rank + k) (rank + k) x
  | 0, _ => by
    have hrk := c.rk
    refine ⟨ms.map fun m => fB n (L (0, m)).1 (L (0, m)).2, indep_L c.code.symp (by omega) c.code.asc, by rw [List.length_map, c.code.asc.1]; rfl, fun x hx => ?_, fun x hx => ?_⟩
    · obtain ⟨m, hm, rfl⟩ := List.mem_map.mp hx
      exact spn_le (fun a ha => spn_mem (List.mem_append_left _ ha)) (c.rspan hR (c.code.asc.lt hm))
    · obtain ⟨m, hm, rfl⟩ := List.mem_map.mp hx
      exact ⟨(0, m), Nat.two_pow_pos _, c.code.asc.lt hm, rfl⟩
  | k + 1, hk => by
    obtain ⟨T, ind, lT, sT, iT⟩ := c.base hR hG k (by omega)
    obtain ⟨lS, at_⟩ := pair_at c
    have hrk := c.rk
    have s := c.code.symp
    have hs := List.getElem?_eq_getElem (l := S) (i := k) (by omega)
    obtain ⟨e1, e2⟩ := at_ k _ hs
    have hm : S[k] ∈ S.take gd := List.mem_of_getElem? (i := k) (by rw [List.getElem?_take_of_lt (by omega)]; exact hs)
    have plt : 2 ^ (rank + k) < 2 ^ n := Nat.pow_lt_pow_right (by decide) (by omega)
    have inG : ∀ (r : Addr × T3) (q : T2), r ∈ flatQ (S.take gd) → bz r = L q → Spn (rb n R ++ rb n G) (fB n (L q).1 (L q).2) := fun r q hr e => by
      obtain ⟨g, hg, e2⟩ := List.mem_map.mp (c.pmG.mem_iff.mpr (List.mem_append_left _ (List.mem_map_of_mem (f := fun r : Addr × T3 => r.2) hr)))
      have e3 : bz g = L q := by
        rw [← e]
        unfold bz
        rw [e2]
      rw [← e3, ← rb_fB (hG g hg)]
      exact spn_mem (List.mem_append_right _ (List.mem_map_of_mem (f := fun r => bL (pl n r).1) hg))
    have f1 := inG _ _ (List.mem_flatMap.mpr ⟨_, hm, List.mem_cons_self ..⟩ : S[k].2.1 ∈ flatQ (S.take gd)) e1
    have f2 := inG _ _ (List.mem_flatMap.mpr ⟨_, hm, List.mem_cons_of_mem _ (List.mem_singleton.mpr rfl)⟩ : S[k].2.2 ∈ flatQ (S.take gd)) e2
    have g1 : Indep (T ++ [fB n (L (2 ^ (rank + k), 0)).1 (L (2 ^ (rank + k), 0)).2]) := indep_snoc ind fun z => by
      have := (Img.inj s (by omega) (by omega) ⟨plt, Nat.two_pow_pos _⟩ (z _ (Img.sub s (rank + k) (rank + k)) iT)).1
      exact Nat.lt_irrefl _ this
    have i1 : ∀ x ∈ T ++ [fB n (L (2 ^ (rank + k), 0)).1 (L (2 ^ (rank + k), 0)).2], Img n L (rank + k + 1) (rank + k) x := fun x hx => by
      rcases List.mem_append.mp hx with h | h
      · exact (iT x h).mono (by omega) (Nat.le_refl _)
      · rw [List.mem_singleton.mp h]
        exact ⟨_, Nat.pow_lt_pow_right (by decide) (by omega), Nat.two_pow_pos _, rfl⟩
    have g2 := indep_snoc (g := fB n (L (0, 2 ^ (rank + k))).1 (L (0, 2 ^ (rank + k))).2) g1 fun z => by
      have := (Img.inj s (by omega) (by omega) ⟨Nat.two_pow_pos _, plt⟩ (z _ (Img.sub s (rank + k + 1) (rank + k)) i1)).2
      exact Nat.lt_irrefl _ this
    refine ⟨_, g2, by rw [List.length_append, List.length_append, lT]; show rank + 2 * k + 1 + 1 = _; omega, fun x hx => ?_, fun x hx => ?_⟩
    · rcases List.mem_append.mp hx with h | h
      · rcases List.mem_append.mp h with h | h
        · exact sT x h
        · rw [List.mem_singleton.mp h]
          exact f1
      · rw [List.mem_singleton.mp h]
        exact f2
    · rcases List.mem_append.mp hx with h | h
      · exact (i1 x h).mono (by omega) (by omega)
      · rw [List.mem_singleton.mp h]
        exact ⟨_, Nat.two_pow_pos _, Nat.pow_lt_pow_right (by decide) (by omega), rfl⟩
theorem SomeC.dim {n rank gd : Nat} {R G R0 : RLs} {S : PrLs} {X Y : List T3} {L : T2 → T2} {ms : List Nat} (c : SomeC n rank gd R G R0 S X Y L ms) (hR : ∀ r ∈ R, Fit n r.2) (hG : ∀ r ∈ G, Fit n r.2) {k : Nat} (hk : k = n - rank - gd)
    (U V : List Nat) (EU : Ec U) (sU : ∀ x, Spn U x ↔ Spn (rb n R) x) (EV : Ec V) (sV : ∀ x, Spn V x ↔ Spn (rb n R ++ rb n G) x) : U.length ≤ V.length ∧ (n : Int) - U.length - ((V.length : Int) - U.length) / 2 ≤ k := by
  have hrk := c.rk
  obtain ⟨_, _, _, _, low⟩ := c.rows
  have lU : U.length = rank := by
    have ind := indep_L c.code.symp (by omega : rank ≤ n) c.code.asc
    have := ind_len EU ind fun x => (sU x).trans (spn_iff_of (fun a ha => ?_) (fun a ha => ?_) x)
    · rw [this, List.length_map, c.code.asc.1]
    · obtain ⟨r, hr, rfl⟩ := List.mem_map.mp ha
      obtain ⟨m, hm, e⟩ := low r hr
      rw [rb_fB (hR r hr), e]
      exact spn_map (f := fun m => fB n (L (0, m)).1 (L (0, m)).2) (fbL_zero c.code.symp).symm (fun a b => (fbL c.code.symp a b).symm) (ms_span c.code.asc rank (Nat.le_refl _) m hm)
    · obtain ⟨m, hm, rfl⟩ := List.mem_map.mp ha
      exact c.rspan hR (c.code.asc.lt hm)
  obtain ⟨T, ind, lT, sT, _⟩ := c.base hR hG gd (Nat.le_refl _)
  obtain ⟨W, EW, sW, lW⟩ := ind_ec T ind
  have := len_le EW EV fun x hx => (sV x).mpr (spn_le sT ((sW x).mp (spn_mem hx)))
  omega
end KQ
namespace KQ
open PySem PySem.Spec PyProof.Rows L2
/-- a drawn code's objects make a code -/
theorem code_all {n rank gd : Nat} {R G R0 : RLs} {S : PrLs} {X Y : List T3} {L : T2 → T2} {ms : List Nat} (c : SomeC n rank gd R G R0 S X Y L ms) (hR : ∀ r ∈ R, Fit n r.2) (hG : ∀ r ∈ G, Fit n r.2) (hS : ∀ s ∈ S, Fit n s.2.1.2 ∧ Fit n s.2.2.2)
    (Lp Lg : PLs) (HS : HPs) (eL : Lp.map (·.2) = R.map (pl n)) (eG : Lg.map (·.2) = G.map (pl n)) (eS : HS.map (fun s => (s.2.1.2, s.2.2.2)) = (S.drop gd).map (fun s => (pl n s.2.1, pl n s.2.2))) : CodeOk n Lp Lg HS := by
  refine code_ok c hR hG hS eL eG eS (c.dim hR hG ?_)
  have l := congrArg List.length eS
  rw [List.length_map, List.length_map, List.length_drop, (pair_at c).1] at l
  exact l
/-- the number of a lot, by counting -/
theorem lot_count {n i : Nat} {H : Hp} {R G : RLs} {psE : List T2} {GT I : List Nat} {gbits : List Nat} (hi : i < 2 ^ n) (hR : RsAt n H R) (hG : RsAt n H G) (AE : AllP ((R ++ G).map bz) psE) (sG : ∀ x, Spn gbits x ↔ Spn (rb n R) x) (sT : ∀ x, Spn GT x ↔ Spn (rb n R ++ rb n G) x) (ro : RegOf n (lotOf n i) gbits GT I) :
    (((grid n (2 ^ n)).filter (com2 R)).filter (inn (lotOf n i))).length = ((((grid n (2 ^ n)).filter (com2 R)).filter (inn (lotOf n i))).filter fun p => decide (p ∈ psE)).length * 2 ^ I.length := by
  have fit : ∀ {p : T2}, p ∈ grid n (2 ^ n) → Fit2 n p := fun h => grid_mem.mp h
  have ndg : ∀ m, (grid n m).Nodup := fun m => by
    induction m with
    | zero => exact List.nodup_nil
    | succ m ih =>
      rw [grid_snoc]
      refine List.nodup_append.mpr ⟨ih, ?_, fun a ha b hb e => ?_⟩
      · unfold gridR
        exact List.Pairwise.map _ (fun a b h e => h (congrArg Prod.snd e)) List.nodup_range
      · obtain ⟨z, _, rfl⟩ := List.mem_map.mp hb
        have := (grid_mem.mp ha).1
        rw [e] at this
        exact Nat.lt_irrefl _ this
  let fn : T2 → Nat := fun p => fB n p.1 p.2
  have inj : ∀ {l : List T2}, (∀ p ∈ l, Fit2 n p) → l.Nodup → (l.map fn).Nodup := fun {l} hf nd => by
    refine List.pairwise_map.mpr (List.Pairwise.imp_of_mem (fun {a b} ha hb hab e => hab ?_) nd)
    obtain ⟨e1, e2⟩ := fB_inj (hf a ha).1 (hf a ha).2 (hf b hb).1 (hf b hb).2 e
    exact Prod.ext e1 e2
  let Wl := ((grid n (2 ^ n)).filter (com2 R)).filter (inn (lotOf n i))
  let El := Wl.filter fun p => decide (p ∈ psE)
  have fW : ∀ p ∈ Wl, Fit2 n p := fun p hp => fit (List.mem_filter.mp (List.mem_filter.mp hp).1).1
  have fE : ∀ p ∈ El, Fit2 n p := fun p hp => fW p (List.mem_filter.mp hp).1
  have ndW : Wl.Nodup := ((ndg _).filter _).filter _
  have even : ∀ {p : T2}, Fit2 n p → (com2 R p = true ↔ Even n (fn p) gbits) := fun {p} hp => by
    rw [com2_even hR hp]
    exact ⟨fun h => h.le fun x hx => (sG x).mp (spn_mem hx), fun h => h.le fun x hx => (sG x).mpr (spn_mem hx)⟩
  have surj : ∀ x, Spn (singL n (lotOf n i)) x → ∃ p : T2, Fit2 n p ∧ x = fn p := fun x hx => by
    refine hx (fun x => ∃ p : T2, Fit2 n p ∧ x = fn p) ⟨⟨(0, 0), ⟨Nat.two_pow_pos _, Nat.two_pow_pos _⟩, (fB_zero n).symm⟩, ?_⟩ fun a ha => ?_
    · rintro a b ⟨p, hp, rfl⟩ ⟨q, hq, rfl⟩
      exact ⟨xr2 p q, ⟨Nat.xor_lt_two_pow hp.1 hq.1, Nat.xor_lt_two_pow hp.2 hq.2⟩, fB_xor ..⟩
    · obtain ⟨p, hp, ha⟩ := List.mem_flatMap.mp ha
      have pn := (lot_mem.mp hp).1
      have pl : 2 ^ p < 2 ^ n := Nat.pow_lt_pow_right (by decide) pn
      rcases List.mem_cons.mp ha with k | k
      · exact ⟨(2 ^ p, 0), ⟨pl, Nat.two_pow_pos _⟩, by rw [k]; exact (fB_px pn).symm⟩
      · exact ⟨(0, 2 ^ p), ⟨Nat.two_pow_pos _, pl⟩, by rw [List.mem_singleton.mp k]; exact (fB_pz pn).symm⟩
  have fRG : ∀ s ∈ (R ++ G).map bz, Fit2 n s := fun s hs => by
    obtain ⟨r, hr, rfl⟩ := List.mem_map.mp hs
    rcases List.mem_append.mp hr with h | h
    · exact ⟨(hR r h).2.1, (hR r h).2.2.1⟩
    · exact ⟨(hG r h).2.1, (hG r h).2.2.1⟩
  have eRG : ((R ++ G).map bz).map (fun s => fB n s.1 s.2) = rb n R ++ rb n G := by
    rw [List.map_append, List.map_append, List.map_map, List.map_map]
    refine congr (congrArg _ (List.map_congr_left fun r hr => (rb_fB (hR r hr).2).symm)) (List.map_congr_left fun r hr => (rb_fB (hG r hr).2).symm)
  have h := reg_count ro (fun p hp => (lot_mem.mp hp).1) (W := Wl.map fn) (E := El.map fn) (inj fW ndW) (inj fE (ndW.filter _)) (fun x => ?_) (fun x => ?_)
  · rwa [List.length_map, List.length_map] at h
  · constructor
    · intro hx
      obtain ⟨p, hp, rfl⟩ := List.mem_map.mp hx
      obtain ⟨h1, h2⟩ := List.mem_filter.mp hp
      obtain ⟨h3, h4⟩ := List.mem_filter.mp h1
      have fp := fit h3
      exact ⟨(win_iff hi fp.1 fp.2).mp h2, (even fp).mp h4⟩
    · rintro ⟨h1, h2⟩
      obtain ⟨p, fp, rfl⟩ := surj x h1
      exact List.mem_map_of_mem (List.mem_filter.mpr ⟨List.mem_filter.mpr ⟨grid_mem.mpr fp, (even fp).mpr h2⟩, (win_iff hi fp.1 fp.2).mpr h1⟩)
  · constructor
    · intro hx
      obtain ⟨p, hp, rfl⟩ := List.mem_map.mp hx
      obtain ⟨h1, h2⟩ := List.mem_filter.mp hp
      refine ⟨List.mem_map_of_mem h1, (sT _).mpr ?_⟩
      have := (spp_spn fRG (fW p h1)).mp ((AE.iff p).mp (of_decide_eq_true h2))
      rwa [eRG] at this
    · rintro ⟨hx, hs⟩
      obtain ⟨p, hp, rfl⟩ := List.mem_map.mp hx
      refine List.mem_map_of_mem (List.mem_filter.mpr ⟨hp, decide_eq_true ((AE.iff p).mpr ((spp_spn fRG (fW p hp)).mpr ?_))⟩)
      rw [eRG]
      exact (sT _).mp hs
end KQ
namespace KQ
open PySem PySem.Spec PyProof.Rows L2
/-- each number of so many bits is that of a pair -/
theorem fB_onto {n b : Nat} (h : b < 2 ^ (2 * n)) : ∃ x z, x < 2 ^ n ∧ z < 2 ^ n ∧ b = fB n x z := by
  refine ⟨rv n (b >>> n), rv n (b % 2 ^ n), rv_lt n _, rv_lt n _, ?_⟩
  have inv : ∀ y, y < 2 ^ n → rv n (rv n y) = y := fun y hy => by
    apply Nat.eq_of_testBit_eq
    intro j
    rw [rv_bit, rv_bit]
    by_cases hj : j < n
    · rw [decide_eq_true hj, decide_eq_true (by omega : n - 1 - j < n), Bool.true_and, Bool.true_and]
      congr 1
      omega
    · rw [decide_eq_false hj, Bool.false_and, Nat.testBit_lt_two_pow (Nat.lt_of_lt_of_le hy (Nat.pow_le_pow_right (by decide) (by omega)))]
  have hs : b >>> n < 2 ^ n := by
    rw [Nat.shiftRight_eq_div_pow]
    refine Nat.div_lt_of_lt_mul ?_
    rwa [← Nat.pow_add, ← Nat.two_mul]
  unfold fB
  rw [inv _ hs, inv _ (Nat.mod_lt _ (Nat.two_pow_pos n)), Nat.shiftRight_eq_div_pow]
  exact (Nat.div_add_mod b (2 ^ n)).symm
end KQ
namespace KQ
open PySem PySem.Spec PyProof.Rows L2
theorem permSum {l l' : List Int} (p : l.Perm l') : l.sum = l'.sum := by
  induction p with
  | nil => rfl
  | cons x _ ih => rw [List.sum_cons, List.sum_cons, ih]
  | swap x y l =>
    rw [List.sum_cons, List.sum_cons, List.sum_cons, List.sum_cons]
    omega
  | trans _ _ h1 h2 => exact h1.trans h2
theorem sumOnes : ∀ l : List Nat, (l.map fun _ => (1 : Int)).sum = (l.length : Int)
  | [] => rfl
  | a :: l => by
    rw [List.map_cons, List.sum_cons, sumOnes l, List.length_cons]
    push_cast
    omega
theorem sumNeg (f : Nat → Int) : ∀ l : List Nat, (l.map fun t => - f t).sum = - (l.map f).sum
  | [] => rfl
  | a :: l => by
    rw [List.map_cons, List.sum_cons, sumNeg f l, List.map_cons, List.sum_cons]
    omega
def sgnI (k : Nat) : Int := if k = 0 then 1 else -1
theorem chrSum {T : List Nat} (nd : T.Nodup) (cl : ∀ a ∈ T, ∀ b ∈ T, a ^^^ b ∈ T) {g : Nat → Nat} (g2 : ∀ a, g a < 2) (gx : ∀ a ∈ T, ∀ b ∈ T, g (a ^^^ b) = (g a + g b) % 2) :
    ((∀ t ∈ T, g t = 0) → (T.map fun t => sgnI (g t)).sum = (T.length : Int)) ∧ (¬ (∀ t ∈ T, g t = 0) → (T.map fun t => sgnI (g t)).sum = 0) := by
  constructor
  · intro h
    rw [← sumOnes T]
    refine congrArg List.sum (List.map_congr_left fun t ht => ?_)
    unfold sgnI
    rw [if_pos (h t ht)]
  · intro h
    obtain ⟨t0, h0, g1⟩ : ∃ t0, t0 ∈ T ∧ g t0 = 1 := by
      refine Classical.byContradiction fun z => h fun t ht => ?_
      have := g2 t
      refine Classical.byContradiction fun k => z ⟨t, ht, by omega⟩
    have inv : ∀ t, t ^^^ t0 ^^^ t0 = t := fun t => by rw [Nat.xor_assoc, Nat.xor_self, Nat.xor_zero]
    have nd2 : (T.map (· ^^^ t0)).Nodup := List.pairwise_map.mpr (nd.imp fun {a b} h e => h (by rw [← inv a, e, inv b]))
    have pm : (T.map (· ^^^ t0)).Perm T := (List.perm_ext_iff_of_nodup nd2 nd).mpr fun x => ⟨fun h => by
      obtain ⟨t, ht, rfl⟩ := List.mem_map.mp h
      exact cl t ht t0 h0, fun h => List.mem_map.mpr ⟨x ^^^ t0, cl x h t0 h0, inv x⟩⟩
    have e1 := permSum (pm.map fun t => sgnI (g t))
    rw [List.map_map] at e1
    have e2 : (T.map ((fun t => sgnI (g t)) ∘ (· ^^^ t0))) = T.map fun t => - sgnI (g t) := List.map_congr_left fun t ht => by
      show sgnI (g (t ^^^ t0)) = - sgnI (g t)
      rw [gx t ht t0 h0, g1]
      have := g2 t
      by_cases k : g t = 0
      · rw [k]
        rfl
      · rw [show g t = 1 by omega]
        rfl
    rw [e2, sumNeg] at e1
    omega
theorem sumAdd (f g : Nat → Int) : ∀ l : List Nat, (l.map fun t => f t + g t).sum = (l.map f).sum + (l.map g).sum
  | [] => rfl
  | a :: l => by
    rw [List.map_cons, List.sum_cons, sumAdd f g l, List.map_cons, List.sum_cons, List.map_cons, List.sum_cons]
    omega
theorem sumSwap (f : Nat → Nat → Int) (T : List Nat) : ∀ X : List Nat, (X.map fun x => (T.map fun t => f x t).sum).sum = (T.map fun t => (X.map fun x => f x t).sum).sum
  | [] => by
    show (0 : Int) = (T.map fun _ => (0 : Int)).sum
    induction T with
    | nil => rfl
    | cons a T ih => rw [List.map_cons, List.sum_cons, ← ih]; rfl
  | x :: X => by
    rw [List.map_cons, List.sum_cons, sumSwap f T X, ← sumAdd]
    refine congrArg List.sum (List.map_congr_left fun t _ => ?_)
    rw [List.map_cons, List.sum_cons]
theorem sumPick {p : Nat → Bool} {N : Int} {f : Nat → Int} : ∀ {X : List Nat}, (∀ x ∈ X, f x = if p x = true then N else 0) → (X.map f).sum = ((X.filter p).length : Int) * N
  | [], _ => by
    show (0 : Int) = ((0 : Nat) : Int) * N
    rw [Int.natCast_zero, Int.zero_mul]
  | x :: X, h => by
    have ih := sumPick (X := X) (p := p) (N := N) (f := f) fun y hy => h y (List.mem_cons_of_mem _ hy)
    rw [List.map_cons, List.sum_cons, ih, h x (List.mem_cons_self ..), List.filter_cons]
    cases p x with
    | true =>
      rw [if_pos rfl, if_pos rfl, List.length_cons]
      push_cast
      rw [Int.add_mul, Int.one_mul]
      omega
    | false =>
      rw [if_neg (by decide), if_neg (by decide)]
      omega
theorem dual {X T : List Nat} (ndX : X.Nodup) (ndT : T.Nodup) (clX : ∀ a ∈ X, ∀ b ∈ X, a ^^^ b ∈ X) (clT : ∀ a ∈ T, ∀ b ∈ T, a ^^^ b ∈ T) {c : Nat → Nat → Nat} (c2 : ∀ x t, c x t < 2)
    (cl : ∀ a ∈ X, ∀ b ∈ X, ∀ t, c (a ^^^ b) t = (c a t + c b t) % 2) (cr : ∀ x a b, c x (a ^^^ b) = (c x a + c x b) % 2) {p q : Nat → Bool} (hp : ∀ x ∈ X, (p x = true ↔ ∀ t ∈ T, c x t = 0)) (hq : ∀ t ∈ T, (q t = true ↔ ∀ x ∈ X, c x t = 0)) :
    (X.filter p).length * T.length = (T.filter q).length * X.length := by
  have e1 : (X.map fun x => (T.map fun t => sgnI (c x t)).sum).sum = ((X.filter p).length : Int) * (T.length : Int) := sumPick fun x hx => by
    obtain ⟨h1, h2⟩ := chrSum ndT clT (g := c x) (c2 x) fun a _ b _ => cr x a b
    by_cases h : p x = true
    · rw [if_pos h, h1 ((hp x hx).mp h)]
    · rw [if_neg h, h2 fun z => h ((hp x hx).mpr z)]
  have e2 : (T.map fun t => (X.map fun x => sgnI (c x t)).sum).sum = ((T.filter q).length : Int) * (X.length : Int) := sumPick fun t ht => by
    obtain ⟨h1, h2⟩ := chrSum ndX clX (g := fun x => c x t) (fun x => c2 x t) fun a ha b hb => cl a ha b hb t
    by_cases h : q t = true
    · rw [if_pos h, h1 ((hq t ht).mp h)]
    · rw [if_neg h, h2 fun z => h ((hq t ht).mpr z)]
  rw [sumSwap, e2] at e1
  exact_mod_cast e1.symm
/-- all that independent numbers make -/
def els (T : List Nat) : List Nat := cosets [0] T
theorem els_mem {T : List Nat} {x : Nat} : x ∈ els T ↔ Spn T x := by
  unfold els
  rw [cosets_mem]
  constructor
  · rintro ⟨u, hu, s, hs, rfl⟩
    rw [List.mem_singleton.mp hu, Nat.zero_xor]
    exact hs
  · exact fun h => ⟨0, List.mem_singleton.mpr rfl, x, h, (Nat.zero_xor x).symm⟩
theorem els_nd {T : List Nat} (h : Indep T) : (els T).Nodup := cosets_nd T [0] [] (List.nodup_cons.mpr ⟨fun h => (by cases h), List.nodup_nil⟩) (fun u hu => by rw [List.mem_singleton.mp hu]; exact (spn_sub []).1) fun j x hx => by
  rw [List.nil_append]
  exact h j x hx
theorem els_len (T : List Nat) : (els T).length = 2 ^ T.length := by
  unfold els
  rw [cosets_len]
  exact Nat.one_mul _
theorem els_cl (T : List Nat) : ∀ a ∈ els T, ∀ b ∈ els T, a ^^^ b ∈ els T := fun a ha b hb => els_mem.mpr ((spn_sub T).2 a b (els_mem.mp ha) (els_mem.mp hb))
theorem singL_indT (n : Nat) {qs : List Nat} (nd0 : qs.Nodup) (lt0 : ∀ p ∈ qs, p < n) : ∀ k, k ≤ qs.length → Indep (singL n (qs.take k))
  | 0, _ => by
    intro i x hx
    rw [List.take_zero] at hx
    cases hx
  | k + 1, hk => by
    have hl := List.getElem?_eq_getElem (show k < qs.length by omega)
    have ih := singL_indT n nd0 lt0 k (by omega)
    have nd : (qs.take (k + 1)).Nodup := (List.take_sublist _ _).nodup nd0
    have lt : ∀ p ∈ qs.take (k + 1), p < n := fun p hp => lt0 p (List.mem_of_mem_take hp)
    rw [take_snoc hl] at nd lt ⊢
    generalize qs.take k = ps at nd lt ih ⊢
    generalize qs[k] = p at nd lt ⊢
    obtain ⟨n1, n2, n3⟩ := List.nodup_append.mp nd
    have I := ih
    have pn := lt p (List.mem_append_right _ (List.mem_singleton.mpr rfl))
    have e : singL n (ps ++ [p]) = (singL n ps ++ [2 ^ (2 * n - 1 - p)]) ++ [2 ^ (n - 1 - p)] := by
      unfold singL
      rw [List.flatMap_append, List.append_assoc]
      rfl
    have bit : ∀ {k : Nat}, (k = 2 * n - 1 - p ∨ k = n - 1 - p) → ∀ y, Spn (singL n ps) y → y.testBit k = false := fun {k} hk y hy => by
      refine hy (fun y => y.testBit k = false) ⟨Nat.zero_testBit k, fun a b ha hb => by show (a ^^^ b).testBit k = false; rw [Nat.testBit_xor, ha, hb]; rfl⟩ fun a ha => ?_
      obtain ⟨q, hq, hb⟩ := List.mem_flatMap.mp ha
      have qn := lt q (List.mem_append_left _ hq)
      have ne : q ≠ p := n3 q hq p (List.mem_singleton.mpr rfl)
      rcases List.mem_cons.mp hb with z | z
      · rw [z, Nat.testBit_two_pow]
        exact decide_eq_false (by omega)
      · rw [List.mem_singleton.mp z, Nat.testBit_two_pow]
        exact decide_eq_false (by omega)
    rw [e]
    refine indep_snoc (indep_snoc I fun z => ?_) fun z => ?_
    · have := bit (.inl rfl) _ z
      rw [Nat.testBit_two_pow_self] at this
      cases this
    · have := z (fun y => y.testBit (n - 1 - p) = false) ⟨Nat.zero_testBit _, fun a b ha hb => by show (a ^^^ b).testBit _ = false; rw [Nat.testBit_xor, ha, hb]; rfl⟩ fun a ha => by
        rcases List.mem_append.mp ha with h | h
        · exact bit (.inr rfl) a (spn_mem h)
        · rw [List.mem_singleton.mp h, Nat.testBit_two_pow]
          exact decide_eq_false (by omega)
      rw [Nat.testBit_two_pow_self] at this
      cases this
theorem singL_ind (n : Nat) {ps : List Nat} (nd : ps.Nodup) (lt : ∀ p ∈ ps, p < n) : Indep (singL n ps) := by
  have := singL_indT n nd lt ps.length (Nat.le_refl _)
  rwa [List.take_length] at this
/-- the other places -/
def cpl (n i : Nat) : Nat := (2 ^ n - 1) ^^^ i
theorem cpl_bit {n i j : Nat} (hj : j < n) : (cpl n i).testBit j = !i.testBit j := by
  unfold cpl
  rw [Nat.testBit_xor, Nat.testBit_two_pow_sub_one, decide_eq_true hj]
  cases i.testBit j <;> rfl
theorem cpl_lt {n i : Nat} (hi : i < 2 ^ n) : cpl n i < 2 ^ n := Nat.xor_lt_two_pow (by have := Nat.two_pow_pos n; omega) hi
theorem lot_cpl (n i : Nat) : lotOf n (cpl n i) = (List.range n).filter fun p => !i.testBit p := List.filter_congr fun p hp => cpl_bit (List.mem_range.mp hp)
theorem cpl_cpl {n i : Nat} : cpl n (cpl n i) = i := by
  unfold cpl
  rw [← Nat.xor_assoc, Nat.xor_self, Nat.zero_xor]
theorem lot_lens (n i : Nat) : (lotOf n i).length + (lotOf n (cpl n i)).length = n := by
  rw [lot_cpl]
  unfold lotOf
  have : ∀ l : List Nat, (l.filter fun p => i.testBit p).length + (l.filter fun p => !i.testBit p).length = l.length := fun l => by
    induction l with
    | nil => rfl
    | cons a l ih =>
      cases h : i.testBit a <;> simp [List.filter_cons, h] <;> omega
  rw [this, List.length_range]
theorem and_sub {x i : Nat} : x &&& i = x ↔ ∀ j, x.testBit j = true → i.testBit j = true := by
  constructor
  · exact fun h j hj => and_bit h hj
  · intro h
    apply Nat.eq_of_testBit_eq
    intro j
    rw [Nat.testBit_and]
    cases e : x.testBit j with
    | false => rfl
    | true => rw [h j e]; rfl
/-- a number commutes with all letters of a lot just if it is within the other places -/
theorem perp_lot {n i t : Nat} (hi : i < 2 ^ n) (ht : t < 2 ^ (2 * n)) : (∀ y ∈ els (singL n (lotOf n i)), cx n y t = 0) ↔ Spn (singL n (lotOf n (cpl n i))) t := by
  obtain ⟨x, z, hx, hz, rfl⟩ := fB_onto ht
  have one : ∀ p, p < n → cx n (2 ^ (2 * n - 1 - p)) (fB n x z) = (z.testBit p).toNat ∧ cx n (2 ^ (n - 1 - p)) (fB n x z) = (x.testBit p).toNat := fun p hp => by
    have pl : 2 ^ p < 2 ^ n := Nat.pow_lt_pow_right (by decide) hp
    have sy : ∀ a b : T2, cr2 a b = cr2 b a := fun a b => by
      rw [cr2_b, cr2_b, Nat.and_comm a.1, Nat.and_comm a.2, Nat.add_comm]
    refine ⟨?_, ?_⟩
    · rw [← fB_px hp]
      have := cx_cr2 (n := n) (a := (2 ^ p, 0)) ⟨pl, Nat.two_pow_pos _⟩ (x, z)
      exact this.trans ((sy _ _).trans (cr2_bit0 (x, z) p))
    · rw [← fB_pz hp]
      have := cx_cr2 (n := n) (a := (0, 2 ^ p)) ⟨Nat.two_pow_pos _, pl⟩ (x, z)
      exact this.trans ((sy _ _).trans (cr2_bit1 (x, z) p))
  have tn : ∀ b : Bool, b.toNat = 0 ↔ b = false := fun b => by cases b <;> decide
  rw [← win_iff (cpl_lt hi) hx hz]
  unfold inn
  rw [decide_eq_true_iff, mask_lot (cpl_lt hi), or_and, and_sub, and_sub]
  have low : ∀ {y : Nat}, y < 2 ^ n → ∀ j, y.testBit j = true → j < n := fun hy j hj => by
    rcases Nat.lt_or_ge j n with k | k
    · exact k
    · rw [Nat.testBit_lt_two_pow (Nat.lt_of_lt_of_le hy (Nat.pow_le_pow_right (by decide) k))] at hj
      cases hj
  constructor
  · intro h
    have key : ∀ p, p < n → i.testBit p = true → z.testBit p = false ∧ x.testBit p = false := fun p hp hip => by
      have m := lot_mem.mpr ⟨hp, hip⟩
      obtain ⟨e1, e2⟩ := one p hp
      have h1 := h (2 ^ (2 * n - 1 - p)) (els_mem.mpr (spn_mem (List.mem_flatMap.mpr ⟨p, m, List.mem_cons_self ..⟩)))
      have h2 := h (2 ^ (n - 1 - p)) (els_mem.mpr (spn_mem (List.mem_flatMap.mpr ⟨p, m, List.mem_cons_of_mem _ (List.mem_singleton.mpr rfl)⟩)))
      rw [e1, tn] at h1
      rw [e2, tn] at h2
      exact ⟨h1, h2⟩
    refine ⟨fun j hj => ?_, fun j hj => ?_⟩
    · have jn := low hx j hj
      rw [cpl_bit jn]
      cases e : i.testBit j with
      | false => rfl
      | true => rw [(key j jn e).2] at hj; cases hj
    · have jn := low hz j hj
      rw [cpl_bit jn]
      cases e : i.testBit j with
      | false => rfl
      | true => rw [(key j jn e).1] at hj; cases hj
  · rintro ⟨h1, h2⟩ y hy
    have := els_mem.mp hy (fun y => y < 2 ^ (2 * n) ∧ cx n y (fB n x z) = 0) ⟨⟨Nat.two_pow_pos _, ?_⟩, ?_⟩ fun a ha => ?_
    · exact this.2
    · have := cx_xl (n := n) (a := 0) (b := 0) (Nat.two_pow_pos _) (Nat.two_pow_pos _) (fB n x z)
      rw [Nat.xor_self] at this
      have := cx_lt n 0 (fB n x z)
      omega
    · rintro a b ⟨ha, ca⟩ ⟨hb, cb⟩
      exact ⟨Nat.xor_lt_two_pow ha hb, by rw [cx_xl ha hb, ca, cb]⟩
    · refine ⟨singL_lt (fun p hp => (lot_mem.mp hp).1) a ha, ?_⟩
      obtain ⟨p, hp, hb⟩ := List.mem_flatMap.mp ha
      obtain ⟨pn, pi⟩ := lot_mem.mp hp
      obtain ⟨e1, e2⟩ := one p pn
      rcases List.mem_cons.mp hb with k | k
      · rw [k, e1, tn]
        cases e : z.testBit p with
        | false => rfl
        | true =>
          have := h2 p e
          rw [cpl_bit pn, pi] at this
          cases this
      · rw [List.mem_singleton.mp k, e2, tn]
        cases e : x.testBit p with
        | false => rfl
        | true =>
          have := h1 p e
          rw [cpl_bit pn, pi] at this
          cases this
/-- strings of a lot that commute with independent ones, counted by those that lie without -/
theorem cnt_perp {n i : Nat} {B : List Nat} (hi : i < 2 ^ n) (hB : Indep B) (lt : ∀ b ∈ B, b < 2 ^ (2 * n)) {p q : Nat → Bool} (hp : ∀ x, p x = true ↔ Even n x B) (hq : ∀ x, q x = true ↔ Spn (singL n (lotOf n (cpl n i))) x) :
    ((els (singL n (lotOf n i))).filter p).length * 2 ^ B.length = ((els B).filter q).length * 2 ^ (2 * (lotOf n i).length) := by
  have lo := lot_ok n i
  have slt := singL_lt lo.2
  have h := dual (els_nd (singL_ind n (lo.1.imp fun h => Nat.ne_of_lt h) lo.2)) (els_nd hB) (els_cl _) (els_cl _) (c := cx n) (cx_lt n)
    (fun a ha b hb t => cx_xl (spn_lt slt (els_mem.mp ha)) (spn_lt slt (els_mem.mp hb)) t) (cx_xr n) (p := p) (q := q)
    (fun x _ => by
      rw [hp]
      exact ⟨fun h t ht => h.spn (els_mem.mp ht), fun h o ho => h o (els_mem.mpr (spn_mem ho))⟩)
    (fun t ht => by
      rw [hq]
      exact (perp_lot hi (spn_lt lt (els_mem.mp ht))).symm)
  rwa [els_len, els_len, singL_len] at h
end KQ
namespace KQ
open PySem PySem.Spec PyProof.Rows L2
def GImg (n rank gd : Nat) (L : T2 → T2) (x : Nat) : Prop := ∃ p : T2, GauB rank gd p ∧ x = fB n (L p).1 (L p).2
theorem SomeC.gimg {n rank gd : Nat} {R G R0 : RLs} {S : PrLs} {X Y : List T3} {L : T2 → T2} {ms : List Nat} (c : SomeC n rank gd R G R0 S X Y L ms) (hR : ∀ r ∈ R, Fit n r.2) (hG : ∀ r ∈ G, Fit n r.2) {x : Nat} (hx : Spn (rb n R ++ rb n G) x) : GImg n rank gd L x := by
  obtain ⟨_, _, _, _, low⟩ := c.rows
  refine hx (GImg n rank gd L) ⟨⟨(0, 0), ⟨Nat.two_pow_pos _, Nat.two_pow_pos _, fun j _ => Nat.zero_testBit j⟩, ?_⟩, ?_⟩ fun a ha => ?_
  · rw [c.code.symp.zero]
    exact (fB_zero n).symm
  · rintro x y ⟨p, h1, rfl⟩ ⟨q, g1, rfl⟩
    refine ⟨xr2 p q, h1.x g1, ?_⟩
    rw [c.code.symp.lin, fB_xor]
    rfl
  · rcases List.mem_append.mp ha with h | h
    · obtain ⟨r, hr, rfl⟩ := List.mem_map.mp h
      obtain ⟨m, hm, e⟩ := low r hr
      exact ⟨(0, m), ⟨Nat.two_pow_pos _, Nat.lt_of_lt_of_le hm (Nat.pow_le_pow_right (by decide) (by omega)), fun j _ => Nat.zero_testBit j⟩, by rw [rb_fB (hR r hr), e]⟩
    · obtain ⟨r, hr, rfl⟩ := List.mem_map.mp h
      obtain ⟨p, hp, e⟩ := c.gauge r hr
      exact ⟨p, hp, by rw [rb_fB (hG r hr), e]⟩
/-- the rows commute with all rows and gauge strings -/
theorem SomeC.comm {n rank gd : Nat} {R G R0 : RLs} {S : PrLs} {X Y : List T3} {L : T2 → T2} {ms : List Nat} (c : SomeC n rank gd R G R0 S X Y L ms) (hR : ∀ r ∈ R, Fit n r.2) (hG : ∀ r ∈ G, Fit n r.2) {x y : Nat} (hx : Spn (rb n R ++ rb n G) x) (hy : Spn (rb n R) y) : cx n x y = 0 ∧ cx n y x = 0 := by
  have hrk := c.rk
  obtain ⟨_, _, _, _, low⟩ := c.rows
  obtain ⟨p, hp, rfl⟩ := c.gimg hR hG hx
  have fp := c.fitG hp
  have fL := c.code.symp.fit p fp
  obtain ⟨m, hm, rfl⟩ : ∃ m, m < 2 ^ rank ∧ y = fB n (L (0, m)).1 (L (0, m)).2 := by
    refine hy (fun y => ∃ m, m < 2 ^ rank ∧ y = fB n (L (0, m)).1 (L (0, m)).2) ⟨⟨0, Nat.two_pow_pos _, ?_⟩, ?_⟩ fun a ha => ?_
    · have := c.code.symp.zero
      rw [this]
      exact (fB_zero n).symm
    · rintro a b ⟨m, hm, rfl⟩ ⟨m', hm', rfl⟩
      refine ⟨m ^^^ m', Nat.xor_lt_two_pow hm hm', ?_⟩
      rw [fB_xor]
      have := c.code.symp.lin (0, m) (0, m')
      unfold xr2 at this
      rw [Nat.xor_self] at this
      rw [this]
    · obtain ⟨r, hr, rfl⟩ := List.mem_map.mp ha
      obtain ⟨m, hm, e⟩ := low r hr
      exact ⟨m, hm, by rw [rb_fB (hR r hr), e]⟩
  have f0 : Fit2 n (0, m) := ⟨Nat.two_pow_pos _, Nat.lt_of_lt_of_le hm (Nat.pow_le_pow_right (by decide) (by omega))⟩
  have z1 : cr2 p (0, m) = 0 := by
    rw [cr2_b]
    show (pc (p.1 &&& m) + pc (p.2 &&& 0)) % 2 = 0
    rw [and_high hp.2.2 hm, Nat.and_zero, pc_zero]
  have sy : ∀ a b : T2, cr2 a b = cr2 b a := fun a b => by
    rw [cr2_b, cr2_b, Nat.and_comm a.1, Nat.and_comm a.2, Nat.add_comm]
  refine ⟨?_, ?_⟩
  · rw [cx_cr2 fL, c.code.symp.cr _ _ fp f0, z1]
  · rw [cx_cr2 (c.code.symp.fit _ f0), c.code.symp.cr _ _ f0 fp, sy, z1]
theorem SomeC.dims {n rank gd : Nat} {R G R0 : RLs} {S : PrLs} {X Y : List T3} {L : T2 → T2} {ms : List Nat} (c : SomeC n rank gd R G R0 S X Y L ms) (hR : ∀ r ∈ R, Fit n r.2) (hG : ∀ r ∈ G, Fit n r.2)
    (U V : List Nat) (EU : Ec U) (sU : ∀ x, Spn U x ↔ Spn (rb n R) x) (EV : Ec V) (sV : ∀ x, Spn V x ↔ Spn (rb n R ++ rb n G) x) : U.length = rank ∧ V.length = rank + 2 * gd := by
  have hrk := c.rk
  obtain ⟨_, _, _, _, low⟩ := c.rows
  have lU : U.length = rank := by
    have ind := indep_L c.code.symp (by omega : rank ≤ n) c.code.asc
    have := ind_len EU ind fun x => (sU x).trans (spn_iff_of (fun a ha => ?_) (fun a ha => ?_) x)
    · rw [this, List.length_map, c.code.asc.1]
    · obtain ⟨r, hr, rfl⟩ := List.mem_map.mp ha
      obtain ⟨m, hm, e⟩ := low r hr
      rw [rb_fB (hR r hr), e]
      exact spn_map (f := fun m => fB n (L (0, m)).1 (L (0, m)).2) (fbL_zero c.code.symp).symm (fun a b => (fbL c.code.symp a b).symm) (ms_span c.code.asc rank (Nat.le_refl _) m hm)
    · obtain ⟨m, hm, rfl⟩ := List.mem_map.mp ha
      exact c.rspan hR (c.code.asc.lt hm)
  obtain ⟨T, ind, lT, sT, _⟩ := c.base hR hG gd (Nat.le_refl _)
  obtain ⟨W, EW, sW, lW⟩ := ind_ec T ind
  have := len_le EW EV fun x hx => (sV x).mpr (spn_le sT ((sW x).mp (spn_mem hx)))
  have up : 2 ^ V.length ≤ 2 ^ (gd + (rank + gd)) := by
    rw [← els_len]
    refine Nat.le_trans (List.Nodup.length_le_of_subset (els_nd (ec_indep EV)) (l₂ := (List.range (2 ^ gd)).flatMap fun a => (List.range (2 ^ (rank + gd))).map fun b => fB n (L (2 ^ rank * a, b)).1 (L (2 ^ rank * a, b)).2) fun x hx => ?_) ?_
    · obtain ⟨p, hp, rfl⟩ := c.gimg hR hG ((sV x).mp (els_mem.mp hx))
      have e : p.1 = 2 ^ rank * (p.1 / 2 ^ rank) := by
        have z : p.1 % 2 ^ rank = 0 := by
          apply Nat.eq_of_testBit_eq
          intro j
          rw [Nat.testBit_mod_two_pow, Nat.zero_testBit]
          by_cases hj : j < rank
          · rw [hp.2.2 j hj, Bool.and_false]
          · rw [decide_eq_false hj, Bool.false_and]
        have := Nat.div_add_mod p.1 (2 ^ rank)
        omega
      refine List.mem_flatMap.mpr ⟨p.1 / 2 ^ rank, List.mem_range.mpr (Nat.div_lt_of_lt_mul (by rw [← Nat.pow_add]; exact hp.1)), List.mem_map.mpr ⟨p.2, List.mem_range.mpr hp.2.1, ?_⟩⟩
      rw [← e]
    · have : ∀ (l : List Nat) (m : Nat) (f : Nat → List Nat), (∀ a, (f a).length = m) → (l.flatMap f).length = l.length * m := fun l m f hf => by
        induction l with
        | nil => simp
        | cons a l ih => rw [List.flatMap_cons, List.length_append, ih, hf, List.length_cons, Nat.succ_mul, Nat.add_comm]
      rw [this _ (2 ^ (rank + gd)) _ fun a => by rw [List.length_map, List.length_range], List.length_range, ← Nat.pow_add]
      exact Nat.le_refl _
  have := (Nat.pow_le_pow_iff_right (by decide)).mp up
  omega
theorem two_pow_inj {a b : Nat} (h : 2 ^ a = 2 ^ b) : a = b := by
  have h1 := (Nat.pow_le_pow_iff_right (a := 2) (by decide)).mp (Nat.le_of_eq h)
  have h2 := (Nat.pow_le_pow_iff_right (a := 2) (by decide)).mp (Nat.le_of_eq h.symm)
  omega
open Classical in
/-- the bare number of a lot and the number of the other places -/
theorem clean {n i : Nat} {gs GT bar IB IR : List Nat} (hi : i < 2 ^ n) (Eg : Ec gs) (ET : Ec GT) (ltg : ∀ b ∈ gs, b < 2 ^ (2 * n)) (ltT : ∀ b ∈ GT, b < 2 ^ (2 * n)) (sub : ∀ x, Spn gs x → Spn GT x) (com : ∀ x y, Spn GT x → Spn gs y → cx n x y = 0 ∧ cx n y x = 0)
    (sb : ∀ x, Spn bar x ↔ Spn GT x) (roB : RegOf n (lotOf n i) bar gs IB) (roR : RegOf n (lotOf n (cpl n i)) gs GT IR) : IB.length + IR.length + gs.length + GT.length = 2 * n := by
  let pT : Nat → Bool := fun x => decide (Even n x GT)
  let pG : Nat → Bool := fun x => decide (Even n x gs)
  let qL : Nat → Bool := fun x => decide (Spn (singL n (lotOf n i)) x)
  let qR : Nat → Bool := fun x => decide (Spn (singL n (lotOf n (cpl n i))) x)
  let inG : Nat → Bool := fun x => decide (Spn gs x)
  let inT : Nat → Bool := fun x => decide (Spn GT x)
  have lo := lot_ok n i
  have lo' := lot_ok n (cpl n i)
  have hc := cpl_lt hi
  have ndL := els_nd (singL_ind n (lo.1.imp fun h => Nat.ne_of_lt h) lo.2)
  have ndR := els_nd (singL_ind n (lo'.1.imp fun h => Nat.ne_of_lt h) lo'.2)
  have ndT := els_nd (ec_indep ET)
  have ndG := els_nd (ec_indep Eg)
  have A := cnt_perp hi (ec_indep ET) ltT (p := pT) (q := qR) (fun x => decide_eq_true_iff) (fun x => decide_eq_true_iff)
  have B := cnt_perp hc (ec_indep Eg) ltg (p := pG) (q := qL) (fun x => decide_eq_true_iff) (fun x => by rw [cpl_cpl]; exact decide_eq_true_iff)
  have C := reg_count roB lo.2 (W := (els (singL n (lotOf n i))).filter pT) (E := ((els (singL n (lotOf n i))).filter pT).filter inG) (ndL.filter _) ((ndL.filter _).filter _) (fun x => by
    rw [List.mem_filter, els_mem]
    refine and_congr_right fun _ => ?_
    rw [show pT x = true ↔ Even n x GT from decide_eq_true_iff]
    exact ⟨fun h => h.le fun y hy => (sb y).mp (spn_mem hy), fun h => h.le fun y hy => (sb y).mpr (spn_mem hy)⟩) (fun x => by
    rw [List.mem_filter, show inG x = true ↔ Spn gs x from decide_eq_true_iff])
  have D := reg_count roR lo'.2 (W := (els (singL n (lotOf n (cpl n i)))).filter pG) (E := ((els (singL n (lotOf n (cpl n i)))).filter pG).filter inT) (ndR.filter _) ((ndR.filter _).filter _) (fun x => by
    rw [List.mem_filter, els_mem]
    refine and_congr_right fun _ => ?_
    exact decide_eq_true_iff) (fun x => by
    rw [List.mem_filter, show inT x = true ↔ Spn GT x from decide_eq_true_iff])
  have e1 : (((els (singL n (lotOf n i))).filter pT).filter inG).length = ((els gs).filter qL).length := List.Perm.length_eq ((List.perm_ext_iff_of_nodup ((ndL.filter _).filter _) (ndG.filter _)).mpr fun x => by
    rw [List.mem_filter, List.mem_filter, List.mem_filter, els_mem, els_mem, show inG x = true ↔ Spn gs x from decide_eq_true_iff, show pT x = true ↔ Even n x GT from decide_eq_true_iff, show qL x = true ↔ Spn (singL n (lotOf n i)) x from decide_eq_true_iff]
    exact ⟨fun ⟨⟨h1, _⟩, h3⟩ => ⟨h3, h1⟩, fun ⟨h3, h1⟩ => ⟨⟨h1, fun o ho => (com o x (spn_mem ho) h3).2⟩, h3⟩⟩)
  have e2 : (((els (singL n (lotOf n (cpl n i)))).filter pG).filter inT).length = ((els GT).filter qR).length := List.Perm.length_eq ((List.perm_ext_iff_of_nodup ((ndR.filter _).filter _) (ndT.filter _)).mpr fun x => by
    rw [List.mem_filter, List.mem_filter, List.mem_filter, els_mem, els_mem, show inT x = true ↔ Spn GT x from decide_eq_true_iff, show pG x = true ↔ Even n x gs from decide_eq_true_iff, show qR x = true ↔ Spn (singL n (lotOf n (cpl n i))) x from decide_eq_true_iff]
    exact ⟨fun ⟨⟨h1, _⟩, h3⟩ => ⟨h3, h1⟩, fun ⟨h3, h1⟩ => ⟨⟨h1, fun o ho => (com x o h3 (spn_mem ho)).1⟩, h3⟩⟩)
  rw [C, e1] at A
  rw [D, e2] at B
  have p1 : 0 < ((els gs).filter qL).length := List.length_pos_of_mem (a := 0) (List.mem_filter.mpr ⟨els_mem.mpr (spn_sub _).1, decide_eq_true_iff.mpr (spn_sub _).1⟩)
  have p2 : 0 < ((els GT).filter qR).length := List.length_pos_of_mem (a := 0) (List.mem_filter.mpr ⟨els_mem.mpr (spn_sub _).1, decide_eq_true_iff.mpr (spn_sub _).1⟩)
  generalize ((els gs).filter qL).length = a at A B p1
  generalize ((els GT).filter qR).length = b at A B p2
  have M : (a * 2 ^ IB.length * 2 ^ GT.length) * (b * 2 ^ IR.length * 2 ^ gs.length) = (b * 2 ^ (2 * (lotOf n i).length)) * (a * 2 ^ (2 * (lotOf n (cpl n i)).length)) := by rw [A, B]
  have ll := lot_lens n i
  have l1 : (a * 2 ^ IB.length * 2 ^ GT.length) * (b * 2 ^ IR.length * 2 ^ gs.length) = (a * b) * 2 ^ (IB.length + IR.length + gs.length + GT.length) := by
    rw [Nat.pow_add, Nat.pow_add, Nat.pow_add]
    ac_rfl
  have l2 : (b * 2 ^ (2 * (lotOf n i).length)) * (a * 2 ^ (2 * (lotOf n (cpl n i)).length)) = (a * b) * 2 ^ (2 * n) := by
    rw [show 2 * n = 2 * (lotOf n i).length + 2 * (lotOf n (cpl n i)).length by omega, Nat.pow_add]
    ac_rfl
  rw [l1, l2] at M
  exact two_pow_inj (Nat.eq_of_mul_eq_mul_left (Nat.mul_pos p1 p2) M)
end KQ
namespace KQ
open PySem PySem.Spec PyProof.Rows L2
theorem grid_nd (n : Nat) : ∀ m, (grid n m).Nodup
  | 0 => List.nodup_nil
  | m + 1 => by
    rw [grid_snoc]
    refine List.nodup_append.mpr ⟨grid_nd n m, ?_, fun a ha b hb e => ?_⟩
    · unfold gridR
      exact List.Pairwise.map _ (fun a b h e => h (congrArg Prod.snd e)) List.nodup_range
    · obtain ⟨z, _, rfl⟩ := List.mem_map.mp hb
      have := (grid_mem.mp ha).1
      rw [e] at this
      exact Nat.lt_irrefl _ this
theorem com2_zero (R : RLs) : com2 R (0, 0) = true := by
  unfold com2
  rw [List.isEmpty_iff, List.filter_eq_nil_iff]
  intro r _
  have : crN r.2 (0, 0, 0) = 0 := by
    unfold crN
    show pc ((r.2.1 &&& 0) ^^^ (r.2.2.1 &&& 0)) % 2 = 0
    rw [Nat.and_zero, Nat.and_zero, Nat.xor_self, pc_zero]
  rw [this]
  decide
end KQ
namespace KQ
open PySem PySem.Spec PyProof.Rows L2
def fx (n b : Nat) : Nat := bv lx (LO n b)
def fz (n b : Nat) : Nat := bv lz (LO n b)
def tl (n b : Nat) : T3 := (fx n b, fz n b, 0)
theorem reg_lt {n : Nat} {ps bs es I : List Nat} (ro : RegOf n ps bs es I) (hp : ∀ p ∈ ps, p < n) : ∀ b ∈ I, b < 2 ^ (2 * n) := fun b hb => spn_lt (singL_lt hp) (ro.win b hb)
theorem reg_even {n : Nat} {ps bs es I : List Nat} (ro : RegOf n ps bs es I) (hp : ∀ p ∈ ps, p < n) {x : Nat} (h : Spn I x) : Even n x bs := by
  have lt := reg_lt ro hp
  have hx : x < 2 ^ (2 * n) := spn_lt lt h
  exact (phC_iff hx).mp (spn_zero (phC_lin n bs) (fun b hb => (phC_iff (lt b hb)).mpr (ro.com b hb)) h)
/-- the told strings as pairs -/
def tp (n : Nat) (I : List Nat) : List T2 := I.map fun b => (fx n b, fz n b)
end KQ
namespace KQ
open PySem PySem.Spec PyProof.Rows L2
theorem fibre (f : Nat → Nat) : ∀ (Y L : List Nat), Y.Nodup → (∀ x ∈ L, f x ∈ Y) → L.length = (Y.map fun y => (L.filter fun x => f x == y).length).sum
  | [], L, _, h => by
    cases L with
    | nil => rfl
    | cons a L => have := h a (List.mem_cons_self ..); cases this
  | y :: Y, L, nd, h => by
    obtain ⟨n1, n2⟩ := List.nodup_cons.mp nd
    have ih := fibre f Y (L.filter fun x => !(f x == y)) n2 fun x hx => by
      obtain ⟨h1, h2⟩ := List.mem_filter.mp hx
      rcases List.mem_cons.mp (h x h1) with k | k
      · rw [k] at h2
        simp at h2
      · exact k
    have e1 : (Y.map fun z => ((L.filter fun x => !(f x == y)).filter fun x => f x == z).length) = Y.map fun z => (L.filter fun x => f x == z).length := List.map_congr_left fun z hz => by
      rw [List.filter_filter]
      refine congrArg List.length (List.filter_congr fun x _ => ?_)
      by_cases k : f x = z
      · have : f x ≠ y := fun q => n1 (by rw [← q, k]; exact hz)
        simp [k]
        intro q
        exact this (k.trans q)
      · simp [k]
    rw [e1] at ih
    have e2 : L.length = (L.filter fun x => f x == y).length + (L.filter fun x => !(f x == y)).length := by
      clear ih e1 h nd n1 n2
      induction L with
      | nil => rfl
      | cons a L ihL =>
        by_cases k : f a = y
        · simp [List.filter_cons, k]
          omega
        · simp [List.filter_cons, k]
          omega
    rw [List.map_cons, List.sum_cons, e2, ih]
theorem ker_cnt {T U : List Nat} {f : Nat → Nat} (f0 : f 0 = 0) (fxx : ∀ a b, f (a ^^^ b) = f a ^^^ f b) (hT : Indep T) (hU : Indep U) (sU : ∀ x, Spn U x ↔ Spn (T.map f) x) {p : Nat → Bool} (hp : ∀ x ∈ els T, (p x = true ↔ f x = 0)) :
    ((els T).filter p).length * 2 ^ U.length = 2 ^ T.length := by
  have sur : ∀ y, Spn (T.map f) y → ∃ x, Spn T x ∧ f x = y := fun y hy => by
    refine hy (fun y => ∃ x, Spn T x ∧ f x = y) ⟨⟨0, (spn_sub T).1, f0⟩, ?_⟩ fun a ha => ?_
    · rintro a b ⟨x, hx, rfl⟩ ⟨z, hz, rfl⟩
      exact ⟨x ^^^ z, (spn_sub T).2 _ _ hx hz, fxx x z⟩
    · obtain ⟨x, hx, rfl⟩ := List.mem_map.mp ha
      exact ⟨x, spn_mem hx, rfl⟩
  have h := fibre f (els U) (els T) (els_nd hU) fun x hx => els_mem.mpr ((sU _).mpr (spn_map f0 fxx (els_mem.mp hx)))
  have inv : ∀ t t0 : Nat, t ^^^ t0 ^^^ t0 = t := fun t t0 => by rw [Nat.xor_assoc, Nat.xor_self, Nat.xor_zero]
  have one : ∀ y ∈ els U, ((els T).filter fun x => f x == y).length = ((els T).filter p).length := fun y hy => by
    obtain ⟨x0, h0, rfl⟩ := sur y ((sU y).mp (els_mem.mp hy))
    have pm : ((els T).filter fun x => f x == f x0).Perm (((els T).filter p).map (· ^^^ x0)) := by
      refine (List.perm_ext_iff_of_nodup ((els_nd hT).filter _) (List.pairwise_map.mpr (((els_nd hT).filter _).imp fun {a b} h e => h (by rw [← inv a x0, e, inv b]))) ).mpr fun x => ?_
      constructor
      · intro hx
        obtain ⟨h1, h2⟩ := List.mem_filter.mp hx
        refine List.mem_map.mpr ⟨x ^^^ x0, List.mem_filter.mpr ⟨els_mem.mpr ((spn_sub T).2 _ _ (els_mem.mp h1) h0), ?_⟩, inv x x0⟩
        refine (hp _ (els_mem.mpr ((spn_sub T).2 _ _ (els_mem.mp h1) h0))).mpr ?_
        rw [fxx, beq_iff_eq.mp h2, Nat.xor_self]
      · intro hx
        obtain ⟨z, hz, rfl⟩ := List.mem_map.mp hx
        obtain ⟨h1, h2⟩ := List.mem_filter.mp hz
        refine List.mem_filter.mpr ⟨els_mem.mpr ((spn_sub T).2 _ _ (els_mem.mp h1) h0), ?_⟩
        rw [beq_iff_eq, fxx, (hp z h1).mp h2, Nat.zero_xor]
    rw [pm.length_eq, List.length_map]
  rw [List.map_congr_left one, els_len] at h
  have cst : ∀ (l : List Nat) (m : Nat), (l.map fun _ => m).sum = m * l.length := fun l m => by
    induction l with
    | nil => simp
    | cons a l ih => rw [List.map_cons, List.sum_cons, ih, List.length_cons, Nat.mul_succ, Nat.add_comm]
  rw [cst, els_len] at h
  exact h.symm
/-- strings of a lot that commute with some, and are not made by others: some are chosen -/
theorem reg_ex {n : Nat} (ps bs es : List Nat) (lp : ∀ p ∈ ps, p < n) : ∃ I, RegOf n ps bs es I := by
  have pick : ∀ F : List Nat, ∃ I : List Nat, (∀ x ∈ I, x ∈ F) ∧ (∀ (i : Nat) x, I[i]? = some x → ¬ Spn (es ++ I.take i) x) ∧ ∀ f ∈ F, Spn (es ++ I) f := fun F => by
    induction F with
    | nil => exact ⟨[], fun x h => h, fun i x h => (by cases h), fun f h => (by cases h)⟩
    | cons a F ih =>
      obtain ⟨I, h1, h2, h3⟩ := ih
      by_cases h : Spn (es ++ I) a
      · exact ⟨I, fun x hx => List.mem_cons_of_mem _ (h1 x hx), h2, fun f hf => by
          rcases List.mem_cons.mp hf with rfl | k
          · exact h
          · exact h3 f k⟩
      · refine ⟨I ++ [a], fun x hx => ?_, fun i x hx => ?_, fun f hf => ?_⟩
        · rcases List.mem_append.mp hx with k | k
          · exact List.mem_cons_of_mem _ (h1 x k)
          · rw [List.mem_singleton.mp k]
            exact List.mem_cons_self ..
        · rcases Nat.lt_or_ge i I.length with k | k
          · rw [List.getElem?_append_left k] at hx
            rw [List.take_append_of_le_length (by omega)]
            exact h2 i x hx
          · have il := (List.getElem?_eq_some_iff.mp hx).1
            rw [List.length_append, List.length_singleton] at il
            have e : i = I.length := by omega
            subst e
            rw [List.getElem?_append_right (Nat.le_refl _), Nat.sub_self] at hx
            rw [List.take_append_of_le_length (Nat.le_refl _), List.take_length]
            obtain rfl : a = x := Option.some.inj hx
            exact h
        · rw [← List.append_assoc]
          rcases List.mem_cons.mp hf with rfl | k
          · exact spn_mem (List.mem_append_right _ (List.mem_singleton.mpr rfl))
          · exact spn_snoc_skip (h3 f k)
  classical
  obtain ⟨I, h1, h2, h3⟩ := pick ((List.range (2 ^ (2 * n))).filter fun x => decide (Spn (singL n ps) x ∧ Even n x bs))
  have mem : ∀ x ∈ I, Spn (singL n ps) x ∧ Even n x bs := fun x hx => decide_eq_true_iff.mp (List.mem_filter.mp (h1 x hx)).2
  exact ⟨I, fun x hx => (mem x hx).2, fun x hx => (mem x hx).1, h2, fun x hx he => h3 x (List.mem_filter.mpr ⟨List.mem_range.mpr (spn_lt (singL_lt lp) hx), decide_eq_true_iff.mpr ⟨hx, he⟩⟩)⟩
/-- a string has no letter on a lot just if it lies in the other places -/
theorem and_lot {n i t : Nat} (hi : i < 2 ^ n) (ht : t < 2 ^ (2 * n)) : t &&& fB n i i = 0 ↔ Spn (singL n (lotOf n (cpl n i))) t := by
  obtain ⟨x, z, hx, hz, rfl⟩ := fB_onto ht
  rw [fB_and, ← win_iff (cpl_lt hi) hx hz]
  unfold inn
  rw [decide_eq_true_iff, mask_lot (cpl_lt hi), or_and, and_sub, and_sub]
  have low : ∀ {y : Nat}, y < 2 ^ n → ∀ j, y.testBit j = true → j < n := fun hy j hj => by
    rcases Nat.lt_or_ge j n with k | k
    · exact k
    · rw [Nat.testBit_lt_two_pow (Nat.lt_of_lt_of_le hy (Nat.pow_le_pow_right (by decide) k))] at hj
      cases hj
  have one : ∀ {y : Nat}, y < 2 ^ n → (y &&& i = 0 ↔ ∀ j, y.testBit j = true → (cpl n i).testBit j = true) := fun {y} hy => by
    constructor
    · intro h j hj
      rw [cpl_bit (low hy j hj)]
      have := congrArg (·.testBit j) h
      simp only [Nat.testBit_and, hj, Bool.true_and, Nat.zero_testBit] at this
      rw [this]
      rfl
    · intro h
      apply Nat.eq_of_testBit_eq
      intro j
      rw [Nat.testBit_and, Nat.zero_testBit]
      cases e : y.testBit j with
      | false => rfl
      | true =>
        have := h j e
        rw [cpl_bit (low hy j e)] at this
        cases e2 : i.testBit j with
        | false => rfl
        | true => rw [e2] at this; cases this
  constructor
  · intro h
    rw [← fB_zero n] at h
    obtain ⟨e1, e2⟩ := fB_inj (Nat.lt_of_le_of_lt Nat.and_le_left hx) (Nat.lt_of_le_of_lt Nat.and_le_left hz) (Nat.two_pow_pos n) (Nat.two_pow_pos n) h
    exact ⟨(one hx).mp e1, (one hz).mp e2⟩
  · rintro ⟨h1, h2⟩
    rw [(one hx).mpr h1, (one hz).mpr h2]
    exact fB_zero n
open Classical in
/-- the number of a lot by the ranks of what is cut -/
theorem num_lot {n i : Nat} {gs GT U V I : List Nat} (hi : i < 2 ^ n) (Eg : Ec gs) (ET : Ec GT) (EU : Ec U) (EV : Ec V) (ltg : ∀ b ∈ gs, b < 2 ^ (2 * n)) (ltT : ∀ b ∈ GT, b < 2 ^ (2 * n)) (com : ∀ x y, Spn GT x → Spn gs y → cx n x y = 0 ∧ cx n y x = 0)
    (sU : ∀ x, Spn U x ↔ Spn (gs.map (· &&& fB n i i)) x) (sV : ∀ x, Spn V x ↔ Spn (GT.map (· &&& fB n (cpl n i) (cpl n i))) x) (ro : RegOf n (lotOf n i) gs GT I) : I.length + U.length + GT.length = 2 * (lotOf n i).length + V.length := by
  let pG : Nat → Bool := fun x => decide (Even n x gs)
  let qL : Nat → Bool := fun x => decide (Spn (singL n (lotOf n i)) x)
  let qR : Nat → Bool := fun x => decide (Spn (singL n (lotOf n (cpl n i))) x)
  let inT : Nat → Bool := fun x => decide (Spn GT x)
  have lo := lot_ok n i
  have hc := cpl_lt hi
  have ndL := els_nd (singL_ind n (lo.1.imp fun h => Nat.ne_of_lt h) lo.2)
  have ndT := els_nd (ec_indep ET)
  have A := cnt_perp hi (ec_indep Eg) ltg (p := pG) (q := qR) (fun x => decide_eq_true_iff) (fun x => decide_eq_true_iff)
  have C := reg_count ro lo.2 (W := (els (singL n (lotOf n i))).filter pG) (E := ((els (singL n (lotOf n i))).filter pG).filter inT) (ndL.filter _) ((ndL.filter _).filter _) (fun x => by
    rw [List.mem_filter, els_mem]
    exact and_congr_right fun _ => decide_eq_true_iff) (fun x => by
    rw [List.mem_filter, show inT x = true ↔ Spn GT x from decide_eq_true_iff])
  have e1 : (((els (singL n (lotOf n i))).filter pG).filter inT).length = ((els GT).filter qL).length := List.Perm.length_eq ((List.perm_ext_iff_of_nodup ((ndL.filter _).filter _) (ndT.filter _)).mpr fun x => by
    rw [List.mem_filter, List.mem_filter, List.mem_filter, els_mem, els_mem, show inT x = true ↔ Spn GT x from decide_eq_true_iff, show pG x = true ↔ Even n x gs from decide_eq_true_iff, show qL x = true ↔ Spn (singL n (lotOf n i)) x from decide_eq_true_iff]
    exact ⟨fun ⟨⟨h1, _⟩, h3⟩ => ⟨h3, h1⟩, fun ⟨h3, h1⟩ => ⟨⟨h1, fun o ho => (com x o h3 (spn_mem ho)).1⟩, h3⟩⟩)
  have K1 := ker_cnt (f := (· &&& fB n i i)) (Nat.zero_and _) (fun a b => Nat.and_xor_distrib_right) (ec_indep Eg) (ec_indep EU) sU (p := qR) fun x hx => by
    rw [show qR x = true ↔ Spn (singL n (lotOf n (cpl n i))) x from decide_eq_true_iff]
    exact (and_lot hi (spn_lt ltg (els_mem.mp hx))).symm
  have K2 := ker_cnt (f := (· &&& fB n (cpl n i) (cpl n i))) (Nat.zero_and _) (fun a b => Nat.and_xor_distrib_right) (ec_indep ET) (ec_indep EV) sV (p := qL) fun x hx => by
    rw [show qL x = true ↔ Spn (singL n (lotOf n i)) x from decide_eq_true_iff]
    have := (and_lot hc (spn_lt ltT (els_mem.mp hx))).symm
    rwa [cpl_cpl] at this
  rw [C, e1] at A
  have p1 : 0 < ((els gs).filter qR).length := List.length_pos_of_mem (a := 0) (List.mem_filter.mpr ⟨els_mem.mpr (spn_sub _).1, decide_eq_true_iff.mpr (spn_sub _).1⟩)
  have p2 : 0 < ((els GT).filter qL).length := List.length_pos_of_mem (a := 0) (List.mem_filter.mpr ⟨els_mem.mpr (spn_sub _).1, decide_eq_true_iff.mpr (spn_sub _).1⟩)
  generalize ((els gs).filter qR).length = a at A K1 p1
  generalize ((els GT).filter qL).length = b at A K2 p2
  -- b 2^I 2^|gs| = a 2^(2 lot), a 2^U = 2^|gs|, b 2^V = 2^|GT|
  have M : (b * 2 ^ I.length * 2 ^ gs.length) * (2 ^ U.length * 2 ^ V.length) = (a * 2 ^ (2 * (lotOf n i).length)) * (2 ^ U.length * 2 ^ V.length) := by rw [A]
  have l1 : (b * 2 ^ I.length * 2 ^ gs.length) * (2 ^ U.length * 2 ^ V.length) = 2 ^ (gs.length + GT.length + I.length + U.length) := by
    rw [Nat.pow_add, Nat.pow_add, Nat.pow_add, ← K2]
    ac_rfl
  have l2 : (a * 2 ^ (2 * (lotOf n i).length)) * (2 ^ U.length * 2 ^ V.length) = 2 ^ (gs.length + 2 * (lotOf n i).length + V.length) := by
    rw [Nat.pow_add, Nat.pow_add, ← K1]
    ac_rfl
  rw [l1, l2] at M
  have := two_pow_inj M
  omega
open Classical in
/-- the bare number is no greater -/
theorem bare_le {n i : Nat} {gs GT bar IB I : List Nat} (com : ∀ x y, Spn GT x → Spn gs y → cx n x y = 0 ∧ cx n y x = 0) (cen : ∀ x, Spn GT x → (∀ y, Spn GT y → cx n x y = 0) → Spn gs x)
    (sb : ∀ x, Spn bar x ↔ Spn GT x) (sub : ∀ x, Spn gs x → Spn GT x) (roB : RegOf n (lotOf n i) bar gs IB) (ro : RegOf n (lotOf n i) gs GT I) : IB.length ≤ I.length := by
  have lo := lot_ok n i
  have ndL := els_nd (singL_ind n (lo.1.imp fun h => Nat.ne_of_lt h) lo.2)
  let W := (els (singL n (lotOf n i))).filter fun x => decide (Even n x gs)
  let E := W.filter fun x => decide (Spn GT x)
  have ndW : W.Nodup := ndL.filter _
  have hW : ∀ x, x ∈ W ↔ Spn (singL n (lotOf n i)) x ∧ Even n x gs := fun x => by
    show x ∈ (els _).filter _ ↔ _
    rw [List.mem_filter, els_mem, decide_eq_true_iff]
  have hE : ∀ x, x ∈ E ↔ x ∈ W ∧ Spn GT x := fun x => by
    show x ∈ W.filter _ ↔ _
    rw [List.mem_filter, decide_eq_true_iff]
  have C := reg_count ro lo.2 ndW (ndW.filter _) hW hE
  have evB : ∀ x, Spn IB x → ∀ y, Spn GT y → cx n x y = 0 := fun x hx y hy => (reg_even roB lo.2 hx).spn ((sb y).mpr hy)
  have ind : ∀ (j : Nat) x, IB[j]? = some x → ¬ Spn (GT ++ IB.take j) x := fun j x hx z => by
    obtain ⟨t, u, e, ht, hu⟩ := spn_split (T := GT) (U := IB.take j) z
    have hu' : Spn IB u := spn_le (fun a ha => spn_mem (List.mem_of_mem_take ha)) hu
    have et : t = x ^^^ u := by rw [e, Nat.xor_assoc, Nat.xor_self, Nat.xor_zero]
    have tI : Spn IB t := et ▸ (spn_sub _).2 _ _ (spn_mem (List.mem_of_getElem? hx)) hu'
    have tg := cen t ht (evB t tI)
    refine roB.ind j x hx ?_
    rw [e]
    exact (spn_sub _).2 _ _ (spn_le (fun a ha => spn_mem (List.mem_append_left _ ha)) tg) (spn_le (fun a ha => spn_mem (List.mem_append_right _ ha)) hu)
  have ndC : (cosets E IB).Nodup := cosets_nd IB E GT (ndW.filter _) (fun u hu => ((hE u).mp hu).2) ind
  have le := List.Nodup.length_le_of_subset ndC (l₂ := W) fun x hx => by
    obtain ⟨u, hu, s, hs, rfl⟩ := (cosets_mem IB E x).mp hx
    obtain ⟨h1, h2⟩ := (hW u).mp ((hE u).mp hu).1
    have sw : Spn (singL n (lotOf n i)) s := spn_le (fun a ha => roB.win a ha) hs
    have lt1 := spn_lt (singL_lt lo.2) h1
    have lt2 := spn_lt (singL_lt lo.2) sw
    refine (hW _).mpr ⟨(spn_sub _).2 _ _ h1 sw, fun o ho => ?_⟩
    show cx n (u ^^^ s) o = 0
    rw [cx_xl lt1 lt2, show cx n u o = 0 from h2 o ho, evB s hs o (sub o (spn_mem ho))]
  rw [cosets_len, C] at le
  have pE : 0 < E.length := List.length_pos_of_mem (a := 0) ((hE 0).mpr ⟨(hW 0).mpr ⟨(spn_sub _).1, fun o _ => by
    have := cx_xl (n := n) (a := 0) (b := 0) (Nat.two_pow_pos _) (Nat.two_pow_pos _) o
    rw [Nat.xor_self] at this
    have := cx_lt n 0 o
    show cx n 0 o = 0
    omega⟩, (spn_sub _).1⟩)
  exact (Nat.pow_le_pow_iff_right (by decide)).mp (Nat.le_of_mul_le_mul_left le pE)
theorem num_none {n : Nat} {gs GT I : List Nat} (r : RegOf n [] gs GT I) : I.length = 0 := by
  cases I with
  | nil => rfl
  | cons x I =>
    exfalso
    have h1 := r.ind 0 x rfl
    have h2 := r.win x (List.mem_cons_self ..)
    have : x = 0 := h2 (fun s => s = 0) ⟨rfl, fun a b (h : a = 0) (k : b = 0) => by show a ^^^ b = 0; rw [h, k]; rfl⟩ (fun _ h => by cases h)
    rw [this] at h1
    exact h1 (spn_sub _).1
/-- what lies within all that commute is of the group -/
theorem SomeC.cen {n rank gd : Nat} {R G R0 : RLs} {S : PrLs} {X Y : List T3} {L : T2 → T2} {ms : List Nat} (c : SomeC n rank gd R G R0 S X Y L ms) (hR : ∀ r ∈ R, Fit n r.2) (hG : ∀ r ∈ G, Fit n r.2) {x : Nat} (hx : Spn (rb n R ++ rb n G) x) (h : ∀ y, Spn (rb n R ++ rb n G) y → cx n x y = 0) : Spn (rb n R) x := by
  have ltR : ∀ b ∈ rb n R, b < 2 ^ (2 * n) := fun b hb => by
    obtain ⟨r, hr, rfl⟩ := List.mem_map.mp hb
    rw [rb_fB (hR r hr)]
    exact fB_lt _ _ _
  have ltG : ∀ b ∈ rb n G, b < 2 ^ (2 * n) := fun b hb => by
    obtain ⟨r, hr, rfl⟩ := List.mem_map.mp hb
    rw [rb_fB (hG r hr)]
    exact fB_lt _ _ _
  obtain ⟨a, b, rfl, ha, hb⟩ := spn_split (T := rb n R) (U := rb n G) hx
  refine (spn_sub _).2 _ _ ha (c.centre hR hG b hb fun o ho => ?_)
  have h1 := h o (spn_mem (List.mem_append_right _ ho))
  have h2 := (c.comm hR hG (x := o) (y := a) (spn_mem (List.mem_append_right _ ho)) ha).2
  rw [cx_xl (spn_lt ltR ha) (spn_lt ltG hb), h2] at h1
  have := cx_lt n b o
  show cx n b o = 0
  omega
end KQ
namespace KQ
open PySem PySem.Spec PyProof.Rows L2
abbrev sLotB : Stmt := topS 40
abbrev sNum : Stmt := topS 41
theorem scLotB : FnScope ["size", "lot"] ["size", "lot"] (defScope sLotB) := ⟨rfl, rfl, rfl, by decide +kernel, rfl, by decide +kernel, by decide +kernel⟩
theorem scNum : FnScope ["code", "lot", "inside", "outside", "bits", "told", "elsewhere"] ["code", "lot"] (defScope sNum) := ⟨rfl, rfl, rfl, by decide +kernel, rfl, by decide +kernel, by decide +kernel⟩
theorem natV_ints (ps : List Nat) : natV ps = (ps.map fun n : Nat => (n : Int)).map V.int := by
  unfold natV
  rw [List.map_map]
  rfl
theorem sum_ints : ∀ ps : List Nat, (ps.map fun n : Nat => (n : Int)).sum = ((ps.sum : Nat) : Int)
  | [] => rfl
  | a :: ps => by
    rw [List.map_cons, List.sum_cons, sum_ints ps, List.sum_cons]
    push_cast
    rfl
theorem nb_snoc : ∀ (l : List Nat) (t b : Nat), nb t (l ++ [b]) = 2 * nb t l + b
  | [], t, b => rfl
  | a :: l, t, b => nb_snoc l _ b
theorem sum_lot (i : Nat) : ∀ m, ((lotOf m i).map fun p => 2 ^ (m - 1 - p)).sum = rv m i
  | 0 => rfl
  | m + 1 => by
    have ih := sum_lot i m
    have e : ((lotOf m i).map fun p => 2 ^ (m + 1 - 1 - p)) = (lotOf m i).map fun p => 2 * 2 ^ (m - 1 - p) := List.map_congr_left fun p hp => by
      have := (lot_mem.mp hp).1
      rw [← Nat.pow_succ']
      congr 1
      omega
    have dbl : ∀ (l : List Nat) (f : Nat → Nat), (l.map fun p => 2 * f p).sum = 2 * (l.map f).sum := fun l f => by
      induction l with
      | nil => rfl
      | cons a l ih => rw [List.map_cons, List.sum_cons, ih, List.map_cons, List.sum_cons, Nat.mul_add]
    have ev : rv (m + 1) i = 2 * rv m i + (i.testBit m).toNat := by
      unfold rv
      rw [List.range_succ, List.map_append]
      show nb 0 (_ ++ [_]) = _
      rw [nb_snoc]
    rw [lot_snoc, List.map_append, List.sum_append, e, dbl, ih, ev]
    cases i.testBit m
    · rfl
    · show 2 * rv m i + (2 ^ (m + 1 - 1 - m) + 0) = _
      rw [show m + 1 - 1 - m = 0 by omega]
      rfl
theorem singL_sum {n i : Nat} : (singL n (lotOf n i)).sum = fB n i i := by
  have h : ∀ ps : List Nat, (∀ p ∈ ps, p < n) → (singL n ps).sum = 2 ^ n * (ps.map fun p => 2 ^ (n - 1 - p)).sum + (ps.map fun p => 2 ^ (n - 1 - p)).sum := fun ps hp => by
    induction ps with
    | nil => rfl
    | cons p ps ih =>
      have pn := hp p (List.mem_cons_self ..)
      have ih' := ih fun q hq => hp q (List.mem_cons_of_mem _ hq)
      show ([2 ^ (2 * n - 1 - p), 2 ^ (n - 1 - p)] ++ singL n ps).sum = _
      simp only [List.sum_append, ih', List.map_cons, List.sum_cons, List.sum_nil]
      have : 2 ^ (2 * n - 1 - p) = 2 ^ n * 2 ^ (n - 1 - p) := by
        rw [← Nat.pow_add]
        congr 1
        omega
      rw [this, Nat.mul_add]
      omega
  rw [h _ (lot_ok n i).2, sum_lot]
  rfl
theorem lot_all (n : Nat) : lotOf n (2 ^ n - 1) = List.range n := by
  unfold lotOf
  refine List.filter_eq_self.mpr fun p hp => ?_
  rw [Nat.testBit_two_pow_sub_one]
  exact decide_eq_true (List.mem_range.mp hp)
theorem cut_all (n i : Nat) : fB n (2 ^ n - 1) (2 ^ n - 1) ^^^ fB n i i = fB n (cpl n i) (cpl n i) := by
  rw [fB_xor]
  rfl
def spLotB : Sp := fun vs H Q _ => ∃ (n : Nat) (a : Addr) (i : Nat), vs = [.int (n : Nat), .ref a] ∧ SeqN H a (natV (lotOf n i)) ∧ n ≤ 50 ∧ ∀ H', Same H H' → Q (.int (fB n i i : Nat)) H'
/-- what the numbers of lots rest on -/
structure CF (n : Nat) (gs GT : List Nat) : Prop where
  n1 : 1 ≤ n
  n50 : n ≤ 50
  Eg : Ec gs
  ET : Ec GT
  lg : ∀ b ∈ gs, b < 2 ^ (2 * n)
  lT : ∀ b ∈ GT, b < 2 ^ (2 * n)
  com : ∀ x y, Spn GT x → Spn gs y → cx n x y = 0 ∧ cx n y x = 0
  g100 : gs.length ≤ 100
  t100 : GT.length ≤ 100
def spNum (CD CG C : Addr) : Sp := fun vs H Q _ => ∃ (c a : Addr) (n : Nat) (M : GLs) (gb GT : List Nat) (i : Nat) (I : List Nat), vs = [.ref c, .ref a] ∧ CodeAt CD CG C H c n M gb GT ∧ SeqN H a (natV (lotOf n i)) ∧ i < 2 ^ n ∧ CF n (gbs M) GT ∧ RegOf n (lotOf n i) (gbs M) GT I ∧
  ∀ H', Same H H' → Q (.int (I.length : Nat)) H'
section
variable {P : Program} {w : World} {K : PySem.W.Frag} {mg : Str → Option Value} {base : Heap}
theorem ok_lotb {f fS : Addr} {fd dS : FuncData} {k : Nat} (F : Fun K "lot_bits" "lot_bits" sLotB f fd) (FS : Fun K "single_bits" "single_bits" sSing fS dS) (bS : Binds K dS ["size", "places"] []) (gS : mg "single_bits" = some (.ref fS)) (ms : mg "sum" = none) : FnOk P w K mg base CX0 (k + 2) f fd ["size", "lot"] spLotB := by
  have GS : FnOk P w K mg base CX0 (k + 1) fS dS ["size", "places"] spSing := ok_sing FS
  refine F.ok scLotB (fun vs H Q E h => ?_) (fun cdv A outer s H vs Q E hr h => ?_)
  · obtain ⟨n, a, i, rfl, _⟩ := h
    rfl
  · obtain ⟨n, a, i, rfl, hS, hn, q⟩ := h
    refine ⟨_, pss_one (ps_ret (pe_callB (cr_sum rfl) (by rfl) ms (by decide +kernel) (pa_cons (pe_call GS hr (by rfl) gS FS.kp bS .nil pass0 (pa_cons (pv 0) (pa_cons (pv 1) pa_nil))) pa_nil))), ?_⟩
    have lo := lot_ok n i
    have := lot_len lo.1 lo.2
    refine ⟨_, rfl, _, rfl, n, a, lotOf n i, rfl, hS, by omega, lo.2, by omega, fun H' l s' nl el => ⟨l, (singL n (lotOf n i)).map fun n : Nat => (n : Int), rfl, ?_, ?_⟩⟩
    · rw [← natV_ints]
      exact SqL.of el
    · rw [sum_ints, singL_sum]
      exact q H' s'
end
end KQ
namespace KQ
open PySem PySem.Spec PyProof.Rows L2
section
variable {P : Program} {w : World} {K : PySem.W.Frag} {mg : Str → Option Value} {base : Heap}
theorem ok_num {f fL fS fRn fRb CD CG fCI fG : Addr} {fd dL dS dRn dRb : FuncData} {C : Addr} (F : Fun K "number_of_lot" "number_of_lot" sNum f fd) (FL : Fun K "lot_bits" "lot_bits" sLotB fL dL) (bL' : Binds K dL ["size", "lot"] []) (gL : mg "lot_bits" = some (.ref fL))
    (FS : Fun K "single_bits" "single_bits" sSing fS dS) (bS : Binds K dS ["size", "places"] []) (gS : mg "single_bits" = some (.ref fS)) (FRn : Fun K "reduced_numbers" "reduced_numbers" sRedN fRn dRn) (bRn : Binds K dRn ["numbers"] []) (gRn : mg "reduced_numbers" = some (.ref fRn)) (FRb : Fun K "rest_by" "rest_by" sRestBy fRb dRb) (bRb : Binds K dRb ["number", "table"] []) (gRb : mg "rest_by" = some (.ref fRb))
    (DC : DCl K mg CD fCI) (G : GCl K mg CG fG) (B : Bl mg) (ms : mg "sum" = none) : FnOk P w K mg base CX0 6 f fd ["code", "lot"] (spNum CD CG C) := by
  have GLb : FnOk P w K mg base CX0 5 fL dL ["size", "lot"] spLotB := ok_lotb FL FS bS gS ms
  have GRn : FnOk P w K mg base CX0 5 fRn dRn ["numbers"] (spRedN K) := ok_redn FRn FRb bRb gRb B
  refine F.ok scNum (fun vs H Q E h => ?_) (fun cdv A outer s H vs Q E hr h => ?_)
  · obtain ⟨c, a, n, M, gb, GT, i, I, rfl, _⟩ := h
    rfl
  · obtain ⟨c, a, n, M, gb, GT, i, I, rfl, hC, hS, hi, cf, ro, q⟩ := h
    refine ⟨_, C8.pss_cut (ps_set (i := 2) scNum.nd rfl (.inr rfl) (pe_call GLb hr (by rfl) gL FL.kp bL' .nil pass0 (pa_cons (pe_fld (pv 0) rfl) (pa_cons (pv 1) pa_nil))))
      (C8.pss_cut (ps_set (i := 3) scNum.nd rfl (.inr rfl) (pe_op op_xor (pe_call GLb hr (by rfl) gL FL.kp bL' .nil pass0 (pa_cons (pe_fld (pv 0) rfl) (pa_cons (pe_listRg rfl (by rfl) B.list (prg_1 (by rfl) B.range (pe_fld (pv 0) rfl))) pa_nil))) (pv 2)))
      (C8.pss_cut (ps_set (i := 5) scNum.nd rfl (.inl rfl) (pe_callB call_len_seq (by rfl) B.len PySem.boot_len (pa_cons (pe_call GRn hr (by rfl) gRn FRn.kp bRn .nil pass0 (pa_cons (pe_lc (own := [("bits", 4)]) (g := gName 4) (by rfl) scNum.nd (pi_tup (pe_fld (pe_fld (pv 0) rfl) rfl)) (blkOk_by (own := [("bits", 4)]) (N := ["code", "lot", "inside", "outside", "bits", "told", "elsewhere"]) (sc := defScope sNum) (by decide +kernel)) (fun _ _ _ _ _ => pg_name (i := 4) scNum.nd rfl (Or.inl rfl)) (fun _ _ _ _ _ => pts_nil) (fun _ _ _ _ _ => pe_op op_and (pv 4) (pv 2))) pa_nil)) pa_nil)))
      (C8.pss_cut (ps_set (i := 6) scNum.nd rfl (.inl rfl) (pe_callB call_len_seq (by rfl) B.len PySem.boot_len (pa_cons (pe_call GRn hr (by rfl) gRn FRn.kp bRn .nil pass0 (pa_cons (pe_lc (own := [("bits", 4)]) (g := gName 4) (by rfl) scNum.nd (pi_tup (pe_fld (pv 0) rfl)) (blkOk_by (own := [("bits", 4)]) (N := ["code", "lot", "inside", "outside", "bits", "told", "elsewhere"]) (sc := defScope sNum) (by decide +kernel)) (fun _ _ _ _ _ => pg_name (i := 4) scNum.nd rfl (Or.inl rfl)) (fun _ _ _ _ _ => pts_nil) (fun _ _ _ _ _ => pe_op op_and (pv 4) (pv 3))) pa_nil)) pa_nil)))
      (pss_one (ps_ret (pe_op op_sub (pe_op op_sub (pe_op op_mul pe_int (pe_callB call_len_seq (by rfl) B.len PySem.boot_len (pa_cons (pv 1) pa_nil))) (pv 5)) (pe_op op_sub (pe_callB call_len_seq (by rfl) B.len PySem.boot_len (pa_cons (pe_fld (pv 0) rfl) pa_nil)) (pv 6)))))))), ?_⟩
    have n50 := cf.n50
    have lo := lot_ok n i
    have ll := lot_len lo.1 lo.2
    refine ⟨fun σ' H' => σ' = [some (.ref c), some (.ref a), some (.int (fB n i i : Nat)), none, none, none, none] ∧ Same H H', ?_, ?_⟩
    · obtain ⟨dx, fs, g, b, t, e, fl, gr, eb, et⟩ := id hC
      exact ⟨_, rfl, c, CD, dx, fs, _, rfl, e, DC.cl, DC.nS, fl _ (.head _), _, rfl, n, a, i, rfl, hS, n50, fun H' s' => ⟨rfl, s'⟩⟩
    rintro _ H1 ⟨rfl, s1⟩
    refine ⟨fun σ' H' => σ' = [some (.ref c), some (.ref a), some (.int (fB n i i : Nat)), some (.int (fB n (cpl n i) (cpl n i) : Nat)), none, none, none] ∧ Same H H', ?_, ?_⟩
    · obtain ⟨dx, fs, g, b, t, e, fl, gr, eb, et⟩ := id (hC.same s1)
      refine ⟨_, rfl, c, CD, dx, fs, _, rfl, e, DC.cl, DC.nS, fl _ (.head _), _, rfl, c, CD, dx, fs, _, rfl, e, DC.cl, DC.nS, fl _ (.head _), _, rfl, ?_, fun q0 nq0 => ?_⟩
      · exact ⟨by decide, by decide, by omega, by omega, by omega⟩
      have eV : rgV 0 (n : Int) = natV (lotOf n (2 ^ n - 1)) := by
        rw [lot_all]
        unfold rgV natV
        rw [show ((n : Int) - 0).toNat = n by omega]
        refine List.map_congr_left fun j _ => ?_
        show V.int (0 + (j : Int)) = _
        rw [Int.zero_add]
      rw [eV]
      refine ⟨n, q0, 2 ^ n - 1, rfl, .inl upd_same, n50, fun H' s' => ⟨_, rfl, _, _, rfl, rfl, ?_, s1.trans ((same_new nq0).trans s')⟩⟩
      show [some (V.ref c), some (V.ref a), some (V.int (fB n i i : Nat)), some (V.int (Builtin.bitXor ((fB n (2 ^ n - 1) (2 ^ n - 1) : Nat) : Int) ((fB n i i : Nat) : Int))), none, none, none] = _
      rw [bxor, cut_all]
    rintro _ H2 ⟨rfl, s2⟩
    have sub : ∀ (B' : List Nat) (m k : Nat), ((B'.take k).map (· &&& m)).length ≤ B'.length := fun B' m k => by
      rw [List.length_map, List.length_take]
      exact Nat.min_le_right _ _
    refine ⟨fun σ' H' => ∃ U : List Nat, σ' = [some (.ref c), some (.ref a), some (.int (fB n i i : Nat)), some (.int (fB n (cpl n i) (cpl n i) : Nat)), none, some (.int (U.length : Nat)), none] ∧ Same H H' ∧ Red U ∧ ∀ x, Spn U x ↔ Spn ((gbs M).map (· &&& fB n i i)) x, ?_, ?_⟩
    · obtain ⟨dx, fs, g, b, t, e, fl, gr, eb, et⟩ := id (hC.same s2)
      obtain ⟨dxg, fsg, p1, b1, r1, M', eg, l1, l2, l3, l4, l5, l6, ehp, hHl, ehb, ehr, hPs, eM⟩ := id gr
      refine ⟨_, rfl, c, CD, dx, fs, _, rfl, e, DC.cl, DC.nGr, fl _ (.tail _ (.head _)), g, CG, dxg, fsg, _, rfl, eg, G.cl, G.nB, l3, b1, rfl, ⟨_, SqT.of ehb⟩, fun D nD => ?_⟩
      refine lc_tup (K := K) (a := b1) (xs := natV (gbs M)) (Pv := fun j Hc => Same H2 Hc ∧ Hc D = some (.lst (natV (((gbs M).take j).map (· &&& fB n i i))))) ⟨same_new nD, upd_same⟩ (fun j Hc _ ⟨sc, _⟩ => SqT.of (sc _ _ ehb)) ?_ ?_
      · rintro j y Hc hj ⟨sc, ec⟩
        obtain ⟨x, hx, rfl⟩ := natV_at hj
        refine ⟨rfl, _, rfl, _, rfl, _, _, rfl, rfl, _, ec, ?_, same_put0 sc nD, ?_⟩
        · rw [natV_len]
          exact Nat.lt_of_le_of_lt (Nat.le_trans (sub _ _ _) cf.g100) (by decide)
        · rw [upd_same, take_snoc hx, List.map_append, natV_app]
          show some (HO.lst (_ ++ [V.int (Builtin.bitAnd ((x : Nat) : Int) ((fB n i i : Nat) : Int))])) = _
          rw [band]
          rfl
      · rintro Hc ⟨sc, ec⟩
        rw [natV_len, List.take_length] at ec
        refine ⟨D, (gbs M).map (· &&& fB n i i), rfl, SqL.of ec, by rw [List.length_map]; exact cf.g100, fun p ms' H' s' _ ep red _ sp _ _ => ⟨p, _, rfl, .inl (SqL.of ep), ms', ?_, s2.trans (sc.trans s'), red, sp⟩⟩
        rw [natV_len]
        rfl
    rintro _ H3 ⟨U, rfl, s3, redU, sU⟩
    refine ⟨fun σ' H' => ∃ V' : List Nat, σ' = [some (.ref c), some (.ref a), some (.int (fB n i i : Nat)), some (.int (fB n (cpl n i) (cpl n i) : Nat)), none, some (.int (U.length : Nat)), some (.int (V'.length : Nat))] ∧ Same H H' ∧ Red V' ∧ ∀ x, Spn V' x ↔ Spn (GT.map (· &&& fB n (cpl n i) (cpl n i))) x, ?_, ?_⟩
    · obtain ⟨dx, fs, g, b, t, e, fl, gr, eb, et⟩ := id (hC.same s3)
      refine ⟨_, rfl, c, CD, dx, fs, _, rfl, e, DC.cl, DC.nGT, fl _ (.tail _ (.tail _ (.tail _ (.head _)))), t, rfl, ⟨_, SqT.of et⟩, fun D nD => ?_⟩
      refine lc_tup (K := K) (a := t) (xs := natV GT) (Pv := fun j Hc => Same H3 Hc ∧ Hc D = some (.lst (natV ((GT.take j).map (· &&& fB n (cpl n i) (cpl n i)))))) ⟨same_new nD, upd_same⟩ (fun j Hc _ ⟨sc, _⟩ => SqT.of (sc _ _ et)) ?_ ?_
      · rintro j y Hc hj ⟨sc, ec⟩
        obtain ⟨x, hx, rfl⟩ := natV_at hj
        refine ⟨rfl, _, rfl, _, rfl, _, _, rfl, rfl, _, ec, ?_, same_put0 sc nD, ?_⟩
        · rw [natV_len]
          exact Nat.lt_of_le_of_lt (Nat.le_trans (sub _ _ _) cf.t100) (by decide)
        · rw [upd_same, take_snoc hx, List.map_append, natV_app]
          show some (HO.lst (_ ++ [V.int (Builtin.bitAnd ((x : Nat) : Int) ((fB n (cpl n i) (cpl n i) : Nat) : Int))])) = _
          rw [band]
          rfl
      · rintro Hc ⟨sc, ec⟩
        rw [natV_len, List.take_length] at ec
        refine ⟨D, GT.map (· &&& fB n (cpl n i) (cpl n i)), rfl, SqL.of ec, by rw [List.length_map]; exact cf.t100, fun p ms' H' s' _ ep red _ sp _ _ => ⟨p, _, rfl, .inl (SqL.of ep), ms', ?_, s3.trans (sc.trans s'), red, sp⟩⟩
        rw [natV_len]
        rfl
    rintro _ H4 ⟨V', rfl, s4, redV, sV⟩
    obtain ⟨dx, fs, g, b, t, e, fl, gr, eb, et⟩ := id (hC.same s4)
    have sq : SqL K H4 a (natV (lotOf n i)) ∨ SqT K H4 a (natV (lotOf n i)) := (hS.same s4).elim (fun e => .inl (SqL.of e)) fun e => .inr e.sq
    refine ⟨_, rfl, a, _, rfl, sq, _, _, rfl, rfl, .inl ⟨by decide, by decide⟩, _, rfl, _, _, rfl, rfl, _, rfl, c, CD, dx, fs, _, rfl, e, DC.cl, DC.nGT, fl _ (.tail _ (.tail _ (.tail _ (.head _)))), t, _, rfl, .inr (SqT.of et), _, rfl, _, _, rfl, rfl, _, _, rfl, rfl, ?_⟩
    have nl := num_lot hi cf.Eg cf.ET redU.ec redV.ec cf.lg cf.lT cf.com sU sV ro
    have ev : 2 * (((natV (lotOf n i)).length : Nat) : Int) - (U.length : Nat) - (((natV GT).length : Nat) - ((V'.length : Nat) : Int)) = ((I.length : Nat) : Int) := by
      rw [natV_len, natV_len]
      omega
    show Q (.int (2 * (((natV (lotOf n i)).length : Nat) : Int) - (U.length : Nat) - (((natV GT).length : Nat) - ((V'.length : Nat) : Int)))) H4
    rw [ev]
    exact q H4 s4
end
end KQ
namespace KQ
open PySem PySem.Spec PyProof.Rows L2
abbrev sAll : Stmt := topS 44
theorem scAll : FnScope ["code", "index", "place", "lots", "lot"] ["code"] (defScope sAll) := ⟨rfl, rfl, rfl, by decide +kernel, rfl, by decide +kernel, by decide +kernel⟩
/-- the scope of the comprehension over the lots' indices -/
abbrev scAllX : Scope := { kind := .function, names := [(".0", .local), ("index", .cell), ("range", .globalImplicit), ("code", .cell)], isGenerator := false, isCoroutine := false }
def lensV (In : Nat → List Nat) (m : Nat) : List V := natV ((List.range m).map fun i => (In i).length)
def spAll (CD CG C : Addr) : Sp := fun vs H Q _ => ∃ (c : Addr) (n : Nat) (M : GLs) (gb GT : List Nat) (In : Nat → List Nat), vs = [.ref c] ∧ CodeAt CD CG C H c n M gb GT ∧ n ≤ 7 ∧ CF n (gbs M) GT ∧ (∀ i, RegOf n (lotOf n i) (gbs M) GT (In i)) ∧
  ∀ H' a, Same H H' → H a = none → H' a = some (.tup (lensV In (2 ^ n))) → Q (.ref a) H'
section
variable {P : Program} {w : World} {K : PySem.W.Frag} {mg : Str → Option Value} {base : Heap}
theorem ok_all {f fN CD CG fCI C : Addr} {fd dN : FuncData} {tM : Tok} (F : Fun K "all_lots" "all_lots" sAll f fd) {stN : Stmt} (FN : Fun K "number_of_lot" "number_of_lot" stN fN dN) (bN : Binds K dN ["code", "lot"] []) (gN : mg "number_of_lot" = some (.ref fN))
    (GN : FnOk P w K mg base CX0 6 fN dN ["code", "lot"] (spNum CD CG C)) (gM : mg "MOST_PLACES" = some (.int 12 tM)) (DC : DCl K mg CD fCI) (B : Bl mg) : FnOk P w K mg base CX0 7 f fd ["code"] (spAll CD CG C) := by
  refine F.ok scAll (fun vs H Q E h => ?_) (fun cdv A outer s H vs Q E hr h => ?_)
  · obtain ⟨c, n, M, gb, GT, In, rfl, _⟩ := h
    rfl
  · obtain ⟨c, n, M, gb, GT, In, rfl, hC, n7, cf, hI, q⟩ := h
    refine ⟨_, C8.pss_cut (ps_if (pt_cmpR op_gt (pe_fld (pv 0) rfl) (pe_glob (v := .int 12) (by rfl) gM ⟨_, rfl⟩) (nomark _)) pss_never pss_nil)
      (C8.pss_cut (ps_setLc (i := 3) (own := [("index", 1)]) (g := gName 1) (by rfl) scAll.nd rfl rfl (sw_true rfl rfl rfl (by decide +kernel)) (pi_range1 (by rfl) B.range (pa_cons (pe_op op_oneShl pe_int (pe_fld (pv 0) rfl)) pa_nil)) (blkOk_by (own := [("index", 1)]) (N := ["code", "index", "place", "lots", "lot"]) (sc := defScope sAll) (by decide +kernel))
          (fun _ _ _ _ _ => pg_name (i := 1) scAll.nd rfl (Or.inr rfl)) (fun _ _ _ _ _ => pts_nil) (fun _ _ _ _ _ =>
            pe_lc (own := [("place", 2)]) (g := gName 2) (by rfl) scAll.nd (pi_range1 (by rfl) B.range (pa_cons (pe_fldK K rfl (pv 0) rfl) pa_nil)) (blkOk_by (own := [("place", 2)]) (N := ["code", "index", "place", "lots", "lot"]) (sc := scAllX) (by decide +kernel))
              (fun _ _ _ _ _ => pg_name (i := 2) scAll.nd rfl (Or.inl rfl)) (fun _ _ _ _ _ => pts_tr K rfl (pe_op op_and (pe_op op_shr (pv 1) (pv 2)) pe_int) (by intro _; rfl)) (fun _ _ _ _ _ => pv 2)))
      (pss_one (ps_ret (pe_callTy call_tuple_of (by rfl) B.tuple bootT (pa_cons (pe_lc (own := [("lot", 4)]) (g := gName 4) (by rfl) scAll.nd (pi_list (pv 3)) (blkOk_by (own := [("lot", 4)]) (N := ["code", "index", "place", "lots", "lot"]) (sc := defScope sAll) (by decide +kernel))
          (fun _ _ _ _ _ => pg_name (i := 4) scAll.nd rfl (Or.inl rfl)) (fun _ _ _ _ _ => pts_nil) (fun _ _ _ _ _ => pe_call GN hr (by rfl) gN FN.kp bN .nil pass0 (pa_cons (pv 0) (pa_cons (pv 4) pa_nil)))) pa_nil))))), ?_⟩
    obtain ⟨dx, fs, g, b, t, e, fl, gr, eb, et⟩ := id hC
    refine ⟨fun σ' H' => σ' = [some (.ref c), none, none, none, none] ∧ Same H H', ?_, ?_⟩
    · refine ⟨_, rfl, c, CD, dx, fs, _, rfl, e, DC.cl, DC.nS, fl _ (.head _), _, _, rfl, rfl, _, rfl, ?_⟩
      have hd : decide ((12 : Int) < (n : Int)) = false := decide_eq_false (by omega)
      rw [hd]
      exact ⟨rfl, fun _ _ e => e⟩
    rintro _ H1 ⟨rfl, s1⟩
    obtain ⟨dx1, fs1, g1, b1, t1, e1, fl1, gr1, eb1, et1⟩ := id (hC.same s1)
    have pw : ((2 : Int) ^ n) = ((2 ^ n : Nat) : Int) := by push_cast; rfl
    have nn : (0 : Int) ≤ ((2 ^ n : Nat) : Int) := Int.natCast_nonneg _
    have p7 : 2 ^ n ≤ 2 ^ 7 := Nat.pow_le_pow_right (by decide) n7
    refine ⟨fun σ' H' => ∃ (l : Addr) (As : List Addr), σ' = [some (.ref c), none, none, some (.ref l), none] ∧ Same H H' ∧ H' l = some (.lst (As.map V.ref)) ∧ As.length = 2 ^ n ∧ (∀ (i : Nat) a, As[i]? = some a → H' a = some (.lst (natV (lotOf n i)))), ?_, ?_⟩
    · refine ⟨_, rfl, c, CD, dx1, fs1, _, rfl, e1, DC.cl, DC.nS, fl1 _ (.head _), n, rfl, rfl, by omega, _, rfl, ?_⟩
      refine ⟨by rw [pw]; omega, by rw [pw]; omega, fun D nD => ?_⟩
      rw [pw, Int.toNat_natCast]
      refine lc_range (lo := 0) (n := 2 ^ n) (Pv := fun j Hc => ∃ As : List Addr, Same H1 Hc ∧ Hc D = some (.lst (As.map V.ref)) ∧ As.length = j ∧ ∀ (i : Nat) a, As[i]? = some a → a ≠ D ∧ Hc a = some (.lst (natV (lotOf n i)))) ⟨[], same_new nD, upd_same, rfl, fun i a h => by cases h⟩ ?_ ?_
      · rintro i Hc hi ⟨As, sc, ec, lA, hA⟩
        obtain ⟨dx2, fs2, g2, b2, t2, e2, fl2, gr2, eb2, et2⟩ := id (hC.same (s1.trans sc))
        refine ⟨rfl, _, rfl, c, CD, dx2, fs2, _, rfl, e2, DC.cl, DC.nS, fl2 _ (.head _), _, rfl, by omega, by omega, fun D2 nD2 => ?_⟩
        rw [Int.toNat_natCast]
        have nDD : D2 ≠ D := fun z => by rw [z, ec] at nD2; cases nD2
        refine lc_range (lo := 0) (n := n) (Pv := fun j Hd => Same Hc Hd ∧ Hd D2 = some (.lst (natV ((List.range j).filter fun p => i.testBit p)))) ⟨same_new nD2, upd_same⟩ ?_ ?_
        · rintro j Hd hj ⟨sd, ed⟩
          have er : (List.range (j + 1)).filter (fun p => i.testBit p) = (List.range j).filter (fun p => i.testBit p) ++ (if i.testBit j then [j] else []) := by
            rw [List.range_succ, List.filter_append]
            congr 1
            cases h : i.testBit j <;> simp [h]
          refine ⟨rfl, _, rfl, _, rfl, _, _, rfl, rfl, by show (0 : Int) ≤ 0 + (j : Int); omega, _, _, rfl, rfl, ?_⟩
          have ev : Builtin.bitAnd (((0 : Int) + (i : Nat)) / 2 ^ ((0 : Int) + (j : Nat)).toNat) 1 = ((i.testBit j).toNat : Int) := by
            rw [Int.zero_add, Int.zero_add, Int.toNat_natCast, show ((i : Nat) : Int) / 2 ^ j = ((i / 2 ^ j : Nat) : Int) by push_cast; rfl, show (1 : Int) = ((1 : Nat) : Int) from rfl, band, Nat.and_one_is_mod, Nat.toNat_testBit]
          show ∃ k, TruV K (.int (Builtin.bitAnd (((0 : Int) + (i : Nat)) / 2 ^ ((0 : Int) + (j : Nat)).toNat) 1)) Hd k ∧ _
          rw [ev]
          refine ⟨i.testBit j, by show _ = _; cases i.testBit j <;> rfl, ?_⟩
          cases hb : i.testBit j with
          | true =>
            rw [hb] at er
            refine iteT ⟨_, rfl, _, ed, ?_, same_put0 sd nD2, ?_⟩
            · rw [natV_len]
              exact Nat.lt_of_le_of_lt (Nat.le_trans (List.length_filter_le ..) (by rw [List.length_range]; omega : _ ≤ 10)) (by decide)
            · rw [upd_same, er, natV_app]
              show some (HO.lst (_ ++ [V.int (0 + (j : Int))])) = _
              rw [Int.zero_add]
              rfl
          | false =>
            rw [hb] at er
            refine iteF ⟨sd, ?_⟩
            rw [ed, er]
            simp
        · rintro Hd ⟨sd, ed⟩
          refine ⟨_, sd _ _ ec, ?_, As ++ [D2], ?_, ?_, ?_, ?_⟩
          · rw [List.length_map, lA]
            exact Nat.lt_of_lt_of_le hi (Nat.le_trans p7 (by decide))
          · exact same_put0 (sc.trans sd) nD
          · rw [upd_same, List.map_append]
            rfl
          · rw [List.length_append, lA]
            rfl
          · intro i' a ha
            rw [List.getElem?_append] at ha
            split at ha
            · have := hA _ _ ha
              exact ⟨this.1, by rw [upd_ne this.1]; exact sd _ _ this.2⟩
            · rename_i h1
              have e0 : i' - As.length = 0 := by
                rcases Nat.eq_zero_or_pos (i' - As.length) with z | z
                · exact z
                · rw [List.getElem?_eq_none (by show 1 ≤ _; omega)] at ha
                  cases ha
              rw [e0] at ha
              obtain rfl := Option.some.inj ha
              exact ⟨nDD, by rw [upd_ne nDD, ed, show i' = i by omega]; rfl⟩
      · rintro Hc ⟨As, sc, ec, lA, hA⟩
        exact ⟨D, As, rfl, s1.trans sc, ec, lA, fun i a h => (hA i a h).2⟩
    rintro _ H2 ⟨l, As, rfl, s2, el, lA, hA⟩
    refine ⟨_, rfl, l, rfl, ⟨_, SqL.of el⟩, fun D nD => ?_⟩
    refine lc_list (K := K) (a := l) (xs := As.map V.ref) (Pv := fun j Hc => Same H2 Hc ∧ Hc D = some (.lst (lensV In j))) ⟨same_new nD, upd_same⟩ (fun j Hc _ ⟨sc, _⟩ => SqL.of (sc _ _ el)) ?_ ?_
    · rintro j y Hc hj ⟨sc, ec⟩
      rw [List.getElem?_map] at hj
      obtain ⟨a, ha, rfl⟩ := Option.map_eq_some_iff.mp hj
      have hj2 : j < 2 ^ n := lA ▸ (List.getElem?_eq_some_iff.mp ha).1
      refine ⟨rfl, _, rfl, _, rfl, c, a, n, M, gb, GT, j, In j, rfl, hC.same (s2.trans sc), .inl (sc _ _ (hA j a ha)), hj2, cf, hI j, fun H' s' => ⟨_, s' _ _ ec, ?_, same_put0 (sc.trans s') nD, ?_⟩⟩
      · unfold lensV
        rw [natV_len, List.length_map, List.length_range]
        exact Nat.lt_of_lt_of_le hj2 (Nat.le_trans p7 (by decide))
      · rw [upd_same]
        unfold lensV
        rw [List.range_succ, List.map_append, natV_app]
        rfl
    · rintro Hc ⟨sc, ec⟩
      rw [List.length_map, lA] at ec
      refine ⟨D, _, rfl, .inl ⟨SqL.of ec, fun l' nl => q _ _ ((s2.trans sc).trans (same_new nl)) ?_ upd_same⟩⟩
      cases h : H l' with
      | none => rfl
      | some o => rw [(s2.trans sc) _ _ h] at nl; cases nl
end
end KQ
namespace KQ
open PySem PySem.Spec PyProof.Rows L2
def tab (g : Nat → Nat) (N : Nat) : List Nat := (List.range N).map g
theorem tab_len (g : Nat → Nat) (N : Nat) : (tab g N).length = N := by unfold tab; rw [List.length_map, List.length_range]
theorem tab_get {g : Nat → Nat} {N i : Nat} (h : i < N) : (tab g N)[i]? = some (g i) := by
  unfold tab
  rw [List.getElem?_map, List.getElem?_range h]
  rfl
theorem tab_ext {g h : Nat → Nat} {N : Nat} (e : ∀ i, i < N → g i = h i) : tab g N = tab h N := List.map_congr_left fun i hi => e i (List.mem_range.mp hi)
theorem tab_set {g : Nat → Nat} {N i v : Nat} : (tab g N).set i v = tab (fun j => if j = i then v else g j) N := by
  refine List.ext_getElem? fun j => ?_
  rw [List.getElem?_set]
  by_cases hj : j < N
  · rw [tab_get hj, tab_len]
    by_cases e : i = j
    · subst e
      rw [if_pos rfl, if_pos hj, tab_get hj, if_pos rfl]
    · rw [if_neg e, tab_get hj, if_neg (fun z => e z.symm)]
  · have n1 : (tab g N)[j]? = none := List.getElem?_eq_none (by rw [tab_len]; omega)
    rw [n1]
    have n2 : (tab (fun j => if j = i then v else g j) N)[j]? = none := List.getElem?_eq_none (by rw [tab_len]; omega)
    rw [n2, tab_len]
    split
    · split <;> first | omega | rfl
    · rfl
/-- below p a part of i, from p on the same -/
def zp (p i m : Nat) : Bool := (List.range 8).all fun b => if b < p then !m.testBit b || i.testBit b else m.testBit b == i.testBit b
def zc (Ms : List Nat) (p i : Nat) : Nat := (Ms.filter fun m => zp p i m).length
theorem zp_iff {p i m : Nat} : zp p i m = true ↔ ∀ b, b < 8 → (b < p → m.testBit b = true → i.testBit b = true) ∧ (p ≤ b → m.testBit b = i.testBit b) := by
  unfold zp
  rw [List.all_eq_true]
  constructor
  · intro h b hb
    have := h b (List.mem_range.mpr hb)
    refine ⟨fun h1 h2 => ?_, fun h1 => ?_⟩
    · rw [if_pos h1, h2] at this
      exact this
    · rw [if_neg (by omega)] at this
      exact eq_of_beq this
  · intro h b hb
    have a := h b (List.mem_range.mp hb)
    by_cases h1 : b < p
    · rw [if_pos h1]
      cases hm : m.testBit b with
      | false => rfl
      | true => exact a.1 h1 hm
    · rw [if_neg h1]
      exact beq_iff_eq.mpr (a.2 (by omega))
theorem zp_off {p i m : Nat} (h : i.testBit p = false) : zp (p + 1) i m = zp p i m := by
  rw [Bool.eq_iff_iff, zp_iff, zp_iff]
  constructor
  · intro a b hb
    refine ⟨fun hp hm => (a b hb).1 (by omega) hm, fun hp => ?_⟩
    by_cases e : b = p
    · subst e
      rw [h]
      cases hm : m.testBit b with
      | false => rfl
      | true => have := (a b hb).1 (by omega) hm; rw [h] at this; cases this
    · exact (a b hb).2 (by omega)
  · intro a b hb
    refine ⟨fun hp hm => ?_, fun hp => (a b hb).2 (by omega)⟩
    by_cases e : b = p
    · subst e
      rw [← (a b hb).2 (Nat.le_refl _)]
      exact hm
    · exact (a b hb).1 (by omega) hm
theorem sub_bit : ∀ p, p < 7 → ∀ i, i < 128 → i.testBit p = true → i - 2 ^ p = i ^^^ 2 ^ p := by decide +kernel
theorem cl_bit {p i : Nat} (hp : p < 7) (hi : i < 128) (h : i.testBit p = true) (b : Nat) : (i - 2 ^ p).testBit b = if b = p then false else i.testBit b := by
  rw [sub_bit p hp i hi h, Nat.testBit_xor, Nat.testBit_two_pow]
  by_cases e : b = p
  · subst e
    rw [if_pos rfl, h, decide_eq_true rfl]
    rfl
  · rw [if_neg e, decide_eq_false (fun z => e z.symm), Bool.xor_false]
theorem zp_on {p i m : Nat} (hp : p < 7) (hi : i < 128) (h : i.testBit p = true) : zp (p + 1) i m = (zp p i m || zp p (i - 2 ^ p) m) := by
  rw [Bool.eq_iff_iff, Bool.or_eq_true, zp_iff, zp_iff, zp_iff]
  constructor
  · intro a
    cases hm : m.testBit p with
    | true =>
      refine .inl fun b hb => ⟨fun h1 h2 => (a b hb).1 (by omega) h2, fun h1 => ?_⟩
      by_cases e : b = p
      · subst e
        rw [hm, h]
      · exact (a b hb).2 (by omega)
    | false =>
      refine .inr fun b hb => ?_
      rw [cl_bit hp hi h]
      refine ⟨fun h1 h2 => ?_, fun h1 => ?_⟩
      · rw [if_neg (by omega)]
        exact (a b hb).1 (by omega) h2
      · by_cases e : b = p
        · subst e
          rw [if_pos rfl, hm]
        · rw [if_neg e]
          exact (a b hb).2 (by omega)
  · rintro (a | a) b hb
    · refine ⟨fun h1 h2 => ?_, fun h1 => (a b hb).2 (by omega)⟩
      by_cases e : b = p
      · subst e
        exact h
      · exact (a b hb).1 (by omega) h2
    · have ab := a b hb
      rw [cl_bit hp hi h] at ab
      refine ⟨fun h1 h2 => ?_, fun h1 => ?_⟩
      · by_cases e : b = p
        · subst e
          exact h
        · rw [if_neg e] at ab
          exact ab.1 (by omega) h2
      · rw [if_neg (by omega)] at ab
        exact ab.2 (by omega)
theorem zp_ex {p i m : Nat} (hp : p < 7) (hi : i < 128) (h : i.testBit p = true) : ¬ (zp p i m = true ∧ zp p (i - 2 ^ p) m = true) := by
  rw [zp_iff, zp_iff]
  rintro ⟨a, b⟩
  have a1 := (a p (by omega)).2 (Nat.le_refl _)
  have b1 := (b p (by omega)).2 (Nat.le_refl _)
  rw [cl_bit hp hi h, if_pos rfl] at b1
  rw [b1, h] at a1
  cases a1
theorem filt_or {α : Type} (f g : α → Bool) : ∀ L : List α, (∀ x ∈ L, ¬ (f x = true ∧ g x = true)) → (L.filter fun x => f x || g x).length = (L.filter f).length + (L.filter g).length
  | [], _ => rfl
  | x :: L, h => by
    have ih := filt_or f g L fun y hy => h y (.tail _ hy)
    have hx := h x (.head _)
    rw [List.filter_cons, List.filter_cons, List.filter_cons]
    cases hf : f x <;> cases hg : g x
    · exact ih
    · show (List.filter (fun x => f x || g x) L).length + 1 = (L.filter f).length + ((L.filter g).length + 1)
      rw [ih]
      rfl
    · show (List.filter (fun x => f x || g x) L).length + 1 = ((L.filter f).length + 1) + (L.filter g).length
      rw [ih]
      omega
    · exact absurd ⟨hf, hg⟩ hx
theorem zc_off {Ms : List Nat} {p i : Nat} (h : i.testBit p = false) : zc Ms (p + 1) i = zc Ms p i := by
  unfold zc
  rw [List.filter_congr fun m _ => zp_off h]
theorem zc_on {Ms : List Nat} {p i : Nat} (hp : p < 7) (hi : i < 128) (h : i.testBit p = true) : zc Ms (p + 1) i = zc Ms p i + zc Ms p (i - 2 ^ p) := by
  unfold zc
  rw [List.filter_congr fun m _ => zp_on hp hi h, filt_or _ _ _ fun m _ => zp_ex hp hi h]
theorem zc_zero {Ms : List Nat} {i : Nat} (hi : i < 128) (hM : ∀ m ∈ Ms, m < 128) : zc Ms 0 i = (Ms.filter fun m => m == i).length := by
  unfold zc
  rw [List.filter_congr fun m hm => ?_]
  rw [Bool.eq_iff_iff, zp_iff, beq_iff_eq]
  constructor
  · intro a
    refine Nat.eq_of_testBit_eq fun b => ?_
    by_cases hb : b < 8
    · exact (a b hb).2 (Nat.zero_le _)
    · rw [Nat.testBit_lt_two_pow (Nat.lt_of_lt_of_le (hM m hm) (Nat.pow_le_pow_right (n := 2) (by decide) (by omega : 7 ≤ b))), Nat.testBit_lt_two_pow (Nat.lt_of_lt_of_le hi (Nat.pow_le_pow_right (n := 2) (by decide) (by omega : 7 ≤ b)))]
  · rintro rfl b _
    exact ⟨fun _ => id, fun _ => rfl⟩
end KQ
namespace KQ
open PySem PySem.Spec PyProof.Rows L2
abbrev sCnt : Stmt := topS 84
theorem scCnt : FnScope ["_law_kinds_here", "_law_size", "_law_whole", "_law_empty", "_law_key", "_law_at", "_law_place", "_law_index", "_law_one", "_law_two"] ["_law_kinds_here", "_law_size"] (defScope sCnt) := ⟨rfl, rfl, rfl, by decide +kernel, rfl, by decide +kernel, by decide +kernel⟩
def mkm (k : T2 × Addr) : Nat := k.1.1 ||| k.1.2
def spCnt : Sp := fun vs H Q _ => ∃ (a : Addr) (n : Nat) (Ks : KLs) (fE fB fG : T2 → Bool), vs = [.ref a, .int (n : Nat)] ∧ H a = some (.dT (kD Ks)) ∧ KsAt H fE fB fG Ks ∧ (Ks.map (·.1)).Nodup ∧ n ≤ 7 ∧ (∀ k ∈ Ks, k.1.1 < 2 ^ n ∧ k.1.2 < 2 ^ n) ∧ Ks.length ≤ 16384 ∧
  (0, 0) ∈ Ks.map (·.1) ∧ fE (0, 0) = true ∧
  ∀ H' l rs, Same H H' → H' l = some (.lst (natV rs)) → rs.length = 2 ^ n → (∀ i, i < 2 ^ n → ∀ k, zc (Ks.map mkm) n i = zc ((Ks.filter fun k => fE k.1).map mkm) n i * 2 ^ k → rs[i]? = some k) → Q (.ref l) H'
theorem tabV_get {g : Nat → Nat} {N i : Nat} (h : i < N) : atI (natV (tab g N)) ((i : Nat) : Int) = some (.int (g i : Nat)) := atI_nat (by unfold natV; rw [List.getElem?_map, tab_get h]; rfl)
theorem tabV_ix {g : Nat → Nat} {N i : Nat} (h : i < N) : ixN (natV (tab g N)).length ((i : Nat) : Int) = some i := by
  rw [natV_len, tab_len]
  unfold ixN
  rw [if_pos (by omega), if_pos (by omega), Int.toNat_natCast]
theorem tabV_set {g : Nat → Nat} {N i v : Nat} : (natV (tab g N)).set i (.int (v : Nat)) = natV (tab (fun j => if j = i then v else g j) N) := by
  rw [← tab_set]
  unfold natV
  rw [List.map_set]
theorem rep0 : ∀ N : Nat, (List.replicate N [V.int 0]).flatten = natV (tab (fun _ => 0) N)
  | 0 => rfl
  | N + 1 => by
    have e : tab (fun _ => 0) (N + 1) = tab (fun _ => 0) N ++ [0] := by
      unfold tab
      rw [List.range_succ, List.map_append]
      rfl
    rw [e, natV_app, ← rep0 N, List.replicate_succ', List.flatten_append]
    rfl
def cw (Ms : List Nat) (i : Nat) : Nat := (Ms.filter fun m => m == i).length
theorem cw_snoc (Ms : List Nat) (m i : Nat) : cw (Ms ++ [m]) i = if i = m then cw Ms m + 1 else cw Ms i := by
  unfold cw
  rw [List.filter_append, List.length_append, List.filter_cons]
  by_cases e : i = m
  · subst e
    rw [if_pos (beq_self_eq_true _), if_pos rfl]
    rfl
  · rw [if_neg (by rw [beq_iff_eq]; exact fun z => e z.symm), if_neg e]
    rfl
def wk (Ks : KLs) (j : Nat) : List Nat := (Ks.take j).map mkm
def ek (fE : T2 → Bool) (Ks : KLs) (j : Nat) : List Nat := ((Ks.take j).filter fun k => fE k.1).map mkm
theorem wk_snoc {Ks : KLs} {j : Nat} {k : T2 × Addr} (h : Ks[j]? = some k) : wk Ks (j + 1) = wk Ks j ++ [mkm k] := by
  unfold wk
  rw [take_snoc h, List.map_append]
  rfl
theorem ek_snoc {fE : T2 → Bool} {Ks : KLs} {j : Nat} {k : T2 × Addr} (h : Ks[j]? = some k) : ek fE Ks (j + 1) = if fE k.1 then ek fE Ks j ++ [mkm k] else ek fE Ks j := by
  unfold ek
  rw [take_snoc h, List.filter_append, List.filter_cons]
  cases fE k.1 with
  | true =>
    rw [if_pos rfl, if_pos rfl, List.map_append]
    rfl
  | false =>
    rw [if_neg (by decide), if_neg (by decide), List.filter_nil, List.append_nil]
theorem bit_ge : ∀ p, p < 7 → ∀ i, i < 128 → i.testBit p = true → 2 ^ p ≤ i := by decide +kernel
def mix (M : List Nat) (p i j : Nat) : Nat := if j < i then zc M (p + 1) j else zc M p j
theorem mix_z (M : List Nat) (p N : Nat) : tab (zc M p) N = tab (mix M p 0) N := tab_ext fun j _ => by
  unfold mix
  rw [if_neg (Nat.not_lt_zero _)]
theorem mix_n (M : List Nat) (p N : Nat) : tab (mix M p N) N = tab (zc M (p + 1)) N := tab_ext fun j hj => by
  unfold mix
  rw [if_pos hj]
theorem mix_off {M : List Nat} {p i N : Nat} (h : i.testBit p = false) : tab (mix M p i) N = tab (mix M p (i + 1)) N := tab_ext fun j _ => by
  unfold mix
  by_cases e : j = i
  · subst e
    rw [if_neg (Nat.lt_irrefl _), if_pos (Nat.lt_succ_self _), zc_off h]
  · by_cases l : j < i
    · rw [if_pos l, if_pos (by omega)]
    · rw [if_neg l, if_neg (by omega)]
theorem mix_on {M : List Nat} {p i N : Nat} (hp : p < 7) (hi : i < 128) (h : i.testBit p = true) : tab (fun j => if j = i then mix M p i i + mix M p i (i - 2 ^ p) else mix M p i j) N = tab (mix M p (i + 1)) N := tab_ext fun j _ => by
  have ge := bit_ge p hp i hi h
  have pos : 0 < 2 ^ p := Nat.two_pow_pos p
  by_cases e : j = i
  · subst e
    rw [if_pos rfl]
    unfold mix
    rw [if_neg (Nat.lt_irrefl _), if_pos (by omega : j - 2 ^ p < j), if_pos (Nat.lt_succ_self _), zc_on hp hi h, zc_off (p := p) (i := j - 2 ^ p) (by rw [cl_bit hp hi h, if_pos rfl])]
  · rw [if_neg e]
    unfold mix
    by_cases l : j < i
    · rw [if_pos l, if_pos (by omega)]
    · rw [if_neg l, if_neg (by omega)]
theorem or_lt2 {a b n : Nat} (h : a < 2 ^ n) (h2 : b < 2 ^ n) : a ||| b < 2 ^ n := Nat.or_lt_two_pow h h2
section
variable {P : Program} {w : World} {K : PySem.W.Frag} {mg : Str → Option Value} {base : Heap}
theorem ok_cnt {f fH : Addr} {fd dH : FuncData} {k : Nat} (F : Fun K "_law_counted" "_law_counted" sCnt f fd) (FH : Fun K "_law_halvings" "_law_halvings" sHlv fH dH) (bH : Binds K dH ["_law_number"] []) (gH : mg "_law_halvings" = some (.ref fH)) (B : Bl mg) (mz : mg "zip" = none) :
    FnOk P w K mg base CX0 (k + 2) f fd ["_law_kinds_here", "_law_size"] spCnt := by
  have GH : FnOk P w K mg base CX0 (k + 1) fH dH ["_law_number"] spHlv := ok_hlv FH B
  refine F.ok scCnt (fun vs H Q E h => ?_) (fun cdv A outer s H vs Q E hr h => ?_)
  · obtain ⟨a, n, Ks, fE, fB, fG, rfl, _⟩ := h
    rfl
  · obtain ⟨a, n, Ks, fE, fB, fG, rfl, ea, hK, nd, hn, lt, hk, h0, e0, q⟩ := h
    have hu := hu_of hr
    refine ⟨_, C8.pss_cut (ps_par (i := 2) (j := 3) rfl scCnt.nd rfl rfl (by decide) rfl rfl (pa_cons (pe_op op_rep (pe_lst (pa_cons pe_int pa_nil)) (pe_op op_oneShl pe_int (pv 1))) (pa_cons (pe_op op_rep (pe_lst (pa_cons pe_int pa_nil)) (pe_op op_oneShl pe_int (pv 1))) pa_nil)) rfl)
      (C8.pss_cut (ps_lock (ps_for PassesOwn.never rfl (pi_keys (pv 0)) (pg_name (i := 4) scCnt.nd rfl (.inl rfl))
        (C8.pss_cut (ps_set (i := 5) scCnt.nd rfl (.inl rfl) (pe_op op_or (pe_ix ix_tup (pv 4) pe_int (fun _ _ => rfl)) (pe_ix ix_tup (pv 4) pe_int (fun _ _ => rfl))))
        (C8.pss_cut (ps_asg (pe_op op_add (pe_ix ix_list (pv 2) (pv 5) (fun _ _ => rfl)) pe_int) (pg_sub (pv 2) (pv 5) set_list))
        (pss_one (ps_asg (pe_op op_add (pe_ix ix_list (pv 3) (pv 5) (fun _ _ => rfl)) (pe_callTy call_int1 (by rfl) B.int bootI (pa_cons (pe_ix ix_tup (pe_dget hu (pv 0) (pv 4) (fun _ _ => rfl)) pe_int (fun _ _ => rfl)) pa_nil))) (pg_sub (pv 3) (pv 5) set_list)))))))
      (C8.pss_cut (ps_for PassesOwn.never rfl (pi_range1 (by rfl) B.range (pa_cons (pv 1) pa_nil)) (pg_name (i := 6) scCnt.nd rfl (.inl rfl))
        (pss_one (ps_for PassesOwn.never rfl (pi_range1 (by rfl) B.range (pa_cons (pe_op op_oneShl pe_int (pv 1)) pa_nil)) (pg_name (i := 7) scCnt.nd rfl (.inl rfl))
          (pss_one (ps_if (pt_cmpR op_eq (pe_op op_mod (pe_callTy call_int1 (by rfl) B.int bootI (pa_cons (pe_op op_shr (pv 7) (pv 6)) pa_nil)) pe_int) pe_int (nomark _))
            (C8.pss_cut (ps_asg (pe_op op_add (pe_ix ix_list (pv 2) (pv 7) (fun _ _ => rfl)) (pe_ix ix_list (pv 2) (pe_op op_sub (pv 7) (pe_op op_oneShl pe_int (pv 6))) (fun _ _ => rfl))) (pg_sub (pv 2) (pv 7) set_list))
            (pss_one (ps_asg (pe_op op_add (pe_ix ix_list (pv 3) (pv 7) (fun _ _ => rfl)) (pe_ix ix_list (pv 3) (pe_op op_sub (pv 7) (pe_op op_oneShl pe_int (pv 6))) (fun _ _ => rfl))) (pg_sub (pv 3) (pv 7) set_list))))
            pss_nil)))))
      (pss_one (ps_ret (pe_lc (own := [("_law_one", 8), ("_law_two", 9)]) (g := gTup K 2 (gCons (gName 8) (gCons (gName 9) gNil))) (by rfl) scCnt.nd (pi_zip (by rfl) mz (pa_cons (pv 2) (pa_cons (pv 3) pa_nil))) (blkOk_by (own := [("_law_one", 8), ("_law_two", 9)]) (N := ["_law_kinds_here", "_law_size", "_law_whole", "_law_empty", "_law_key", "_law_at", "_law_place", "_law_index", "_law_one", "_law_two"]) (sc := defScope sCnt) (by decide +kernel))
          (fun _ _ _ _ _ => pg_tup (by rfl) (pgs_cons (pg_name (i := 8) scCnt.nd rfl (Or.inl rfl)) (pgs_cons (pg_name (i := 9) scCnt.nd rfl (Or.inl rfl)) pgs_nil))) (fun _ _ _ _ _ => pts_nil) (fun _ _ _ _ _ => pe_call GH hr (by rfl) gH FH.kp bH .nil pass0 (pa_cons (pe_op op_fdiv (pv 8) (pv 9)) pa_nil))))))), ?_⟩
    have pw : ((2 : Int) ^ n) = ((2 ^ n : Nat) : Int) := by push_cast; rfl
    have nn : (0 : Int) ≤ ((2 ^ n : Nat) : Int) := Int.natCast_nonneg _
    have p7 : 2 ^ n ≤ 2 ^ 7 := Nat.pow_le_pow_right (by decide) hn
    let Ms := Ks.map mkm
    let Es := (Ks.filter fun k => fE k.1).map mkm
    refine ⟨fun σ' H' => ∃ (lw le : Addr), σ' = [some (.ref a), some (.int (n : Nat)), some (.ref lw), some (.ref le), none, none, none, none, none, none] ∧ Same H H' ∧ H lw = none ∧ H le = none ∧ lw ≠ le ∧ H' lw = some (.lst (natV (tab (fun _ => 0) (2 ^ n)))) ∧ H' le = some (.lst (natV (tab (fun _ => 0) (2 ^ n)))), ?_, ?_⟩
    · have one : ∀ H' : Hp, ∀ Z : V → Hp → Prop, (∀ l, H' l = none → ∀ p, (upd H' l (.lst [.int 0])) p = none → Z (.ref p) (upd (upd H' l (.lst [.int 0])) p (.lst (natV (tab (fun _ => 0) (2 ^ n)))))) → tOp rRep (tLst (tCons (tC (V.int 0)) tNil)) (tOp (fun x y H Q => ∃ k : Nat, x = V.int 1 ∧ y = V.int (k : Nat) ∧ k ≤ 134217727 ∧ Q (V.int (2 ^ k)) H) (tC (V.int 1)) (tVar 1)) [some (.ref a), some (.int (n : Nat)), none, none, none, none, none, none, none, none] H' Z := by
        intro H' Z hz
        refine ⟨by show 1 ≤ sizeLine; decide, fun l nl => ⟨_, rfl, n, rfl, rfl, by omega, l, _, _, rfl, rfl, upd_same, by rw [pw]; omega, by rw [pw]; omega, ?_, fun p np => ?_⟩⟩
        · rw [pw, Int.toNat_natCast]
          show 1 * 2 ^ n ≤ sizeLine
          exact Nat.le_trans (by omega : _ ≤ 2 ^ 7) (by decide)
        · rw [pw, Int.toNat_natCast, rep0]
          exact hz l nl p np
      refine one H _ fun l1 n1 lw nw => one _ _ fun l2 n2 le ne => ?_
      have s1 := same_new (o := .lst [.int 0]) n1
      have s2 := s1.trans (same_new (o := .lst (natV (tab (fun _ => 0) (2 ^ n)))) nw)
      have s3 := s2.trans (same_new (o := .lst [.int 0]) n2)
      refine ⟨_, _, rfl, lw, le, rfl, s3.trans (same_new ne), none_bk s1 nw, none_bk s3 ne, ?_, ?_, upd_same⟩
      · intro z
        subst z
        have := same_new (o := .lst [.int 0]) n2 _ _ (upd_same (H := upd H l1 (.lst [.int 0])) (a := lw))
        rw [ne] at this
        cases this
      · exact same_new ne _ _ (same_new (o := .lst [.int 0]) n2 _ _ upd_same)
    rintro _ H1 ⟨lw, le, rfl, s1, nw, ne, wne, ew, ee⟩
    refine ⟨fun σ' H' => ∃ (v4 v5 : Option V), σ' = [some (.ref a), some (.int (n : Nat)), some (.ref lw), some (.ref le), v4, v5, none, none, none, none] ∧ Same H H' ∧ H' lw = some (.lst (natV (tab (zc Ms 0) (2 ^ n)))) ∧ H' le = some (.lst (natV (tab (zc Es 0) (2 ^ n)))), ?_, ?_⟩
    · refine ⟨a, .dT (kD Ks), s1 _ _ ea, trivial, fun od => ⟨_, rfl, a, od, rfl, .inr ⟨kD Ks, upd_same, ?_⟩⟩⟩
      have nwa : lw ≠ a := fun z => by rw [z, ea] at nw; cases nw
      have nea : le ≠ a := fun z => by rw [z, ea] at ne; cases ne
      have z0 : ∀ (L : List Nat), L = [] → tab (fun _ => 0) (2 ^ n) = tab (cw L) (2 ^ n) := fun L e => by subst e; rfl
      refine for_it (walk_keysT (d := a) (o := od) (kvs := kD Ks)) (fun j σ' H' => ∃ (v4 v5 : Option V), σ' = [some (.ref a), some (.int (n : Nat)), some (.ref lw), some (.ref le), v4, v5, none, none, none, none] ∧ (∀ b' o, b' ≠ a → H b' = some o → H' b' = some o) ∧ H' a = some (.frz od (.dT (kD Ks))) ∧ H' lw = some (.lst (natV (tab (cw (wk Ks j)) (2 ^ n)))) ∧ H' le = some (.lst (natV (tab (cw (ek fE Ks j)) (2 ^ n))))) ⟨none, none, rfl, fun b' o hb e => by rw [upd_ne hb]; exact s1 _ _ e, upd_same, by rw [upd_ne nwa, ew]; rw [z0 (wk Ks 0) rfl], by rw [upd_ne nea, ee]; rw [z0 (ek fE Ks 0) rfl]⟩ (fun j σ' H' _ ⟨_, _, _, _, e, _⟩ => e) ?_ ?_
      rotate_left
      · rintro _ Hc ⟨v4, v5, rfl, k1, ea1, ew1, ee1⟩
        have tw : wk Ks (kD Ks).length = Ms := by unfold wk kD; rw [List.length_map, List.take_length]
        have te : ek fE Ks (kD Ks).length = Es := by unfold ek kD; rw [List.length_map, List.take_length]
        have ml : ∀ k ∈ Ks, mkm k < 128 := fun k hk' => Nat.lt_of_lt_of_le (or_lt2 (lt k hk').1 (lt k hk').2) p7
        refine ⟨ea1, v4, v5, rfl, fun b' o e => ?_, ?_, ?_⟩
        · by_cases hb : b' = a
          · subst hb
            rw [ea] at e
            rw [upd_same]
            exact e
          · rw [upd_ne hb]
            exact k1 _ _ hb e
        · rw [upd_ne nwa, ew1, tw]
          refine congrArg (fun L => some (HO.lst (natV L))) (tab_ext fun i hi => (zc_zero (Nat.lt_of_lt_of_le hi p7) fun m hm => ?_).symm)
          obtain ⟨k, hk', rfl⟩ := List.mem_map.mp hm
          exact ml k hk'
        · rw [upd_ne nea, ee1, te]
          refine congrArg (fun L => some (HO.lst (natV L))) (tab_ext fun i hi => (zc_zero (Nat.lt_of_lt_of_le hi p7) fun m hm => ?_).symm)
          obtain ⟨k, hk', rfl⟩ := List.mem_map.mp hm
          exact ml k (List.mem_filter.mp hk').1
      rintro j y _ Hc0 Hc hj ⟨v4, v5, rfl, k1, ea1, ew1, ee1⟩ ⟨eH, ky, v, q', hkv, ey, eq'⟩
      have eH' := eH.symm
      subst eH'
      subst ey
      unfold kD at hkv
      rw [List.getElem?_map] at hkv
      obtain ⟨k, hk', ekv⟩ := Option.map_eq_some_iff.mp hkv
      obtain ⟨rfl, rfl⟩ := Prod.mk.inj ekv
      have km := List.mem_of_getElem? hk'
      have sq : SqT K Hc0 q' [.int (k.1.1 : Nat), .int (k.1.2 : Nat)] := .inl (.inl eq')
      have hm : mkm k < 2 ^ n := or_lt2 (lt k km).1 (lt k km).2
      refine ⟨fun σ' H' => σ' = [some (.ref a), some (.int (n : Nat)), some (.ref lw), some (.ref le), some (.ref q'), some (.int (mkm k : Nat)), none, none, none, none] ∧ H' = Hc0, ?_, ?_⟩
      · refine ⟨_, rfl, q', _, _, _, rfl, rfl, sq, par0 _ _, _, rfl, q', _, _, _, rfl, rfl, sq, par1 _ _, _, _, rfl, rfl, ?_, rfl⟩
        show [_, _, _, _, _, some (V.int (Builtin.bitOr ((k.1.1 : Nat) : Int) ((k.1.2 : Nat) : Int))), _, _, _, _] = _
        rw [bor]
        rfl
      rintro _ H4 ⟨rfl, e4⟩
      have e4' := e4.symm
      subst e4'
      refine ⟨fun σ' H' => σ' = [some (.ref a), some (.int (n : Nat)), some (.ref lw), some (.ref le), some (.ref q'), some (.int (mkm k : Nat)), none, none, none, none] ∧ H' = upd Hc0 lw (.lst (natV (tab (cw (wk Ks (j + 1))) (2 ^ n)))), ?_, ?_⟩
      · refine ⟨_, rfl, _, rfl, lw, _, _, _, rfl, rfl, SqL.of ew1, tabV_get hm, _, _, rfl, rfl, _, rfl, _, rfl, lw, _, _, _, rfl, rfl, ew1, tabV_ix hm, rfl, ?_⟩
        refine congrArg (fun z => upd Hc0 lw (.lst z)) ?_
        show (natV _).set (mkm k) (V.int (((cw (wk Ks j) (mkm k) : Nat) : Int) + 1)) = _
        rw [show ((cw (wk Ks j) (mkm k) : Nat) : Int) + 1 = ((cw (wk Ks j) (mkm k) + 1 : Nat) : Int) by push_cast; rfl, tabV_set, wk_snoc hk']
        exact congrArg natV (tab_ext fun i _ => (cw_snoc ..).symm)
      rintro _ H5 ⟨rfl, e5⟩
      have e5' := e5.symm
      subst e5'
      have ka : k.2 ≠ a := ne_of (hK k km) ea (fun z => nomatch z)
      have kw : k.2 ≠ lw := ne_of_none (hK k km) nw
      have qw : q' ≠ lw := ne_of eq' ew1 (fun z => nomatch z)
      refine ⟨_, rfl, _, rfl, le, _, _, _, rfl, rfl, SqL.of (by rw [upd_ne wne.symm]; exact ee1), tabV_get hm, _, rfl, _, rfl, a, _, rfl, .inr ⟨kD Ks, kk k.1, q', .inr ⟨od, by rw [upd_ne nwa.symm]; exact ea1⟩, rfl, by rw [upd_ne qw]; exact eq', (kD_get nd km).symm⟩, k.2, _, _, _, rfl, rfl, .inl (.inl (by rw [upd_ne kw]; exact k1 _ _ ka (hK k km))), at_of (j := 0) rfl rfl, .inr ⟨fE k.1, rfl, _, _, rfl, rfl, _, rfl, _, rfl, le, _, _, _, rfl, rfl, by rw [upd_ne wne.symm]; exact ee1, tabV_ix hm, _, _, rfl, fun b' o hb e => ?_, ?_, ?_, ?_⟩⟩
      · rw [upd_ne (ne_of_none e ne), upd_ne (ne_of_none e nw)]
        exact k1 _ _ hb e
      · rw [upd_ne nea.symm, upd_ne nwa.symm]
        exact ea1
      · rw [upd_ne wne, upd_same]
      · rw [upd_same]
        refine congrArg (fun z => some (HO.lst z)) ?_
        show (natV _).set (mkm k) (V.int (((cw (ek fE Ks j) (mkm k) : Nat) : Int) + (if fE k.1 = true then 1 else 0))) = _
        rw [ek_snoc hk']
        cases fE k.1 with
        | true =>
          rw [if_pos rfl, if_pos rfl, show ((cw (ek fE Ks j) (mkm k) : Nat) : Int) + 1 = ((cw (ek fE Ks j) (mkm k) + 1 : Nat) : Int) by push_cast; rfl, tabV_set]
          exact congrArg natV (tab_ext fun i _ => (cw_snoc ..).symm)
        | false =>
          rw [if_neg (by decide), if_neg (by decide), Int.add_zero, tabV_set]
          refine congrArg natV (tab_ext fun i _ => ?_)
          split
          · rename_i e
            rw [e]
          · rfl
    rintro _ H2 ⟨v4, v5, rfl, s2, ew2, ee2⟩
    refine ⟨fun σ' H' => ∃ (v4 v5 v6 v7 : Option V), σ' = [some (.ref a), some (.int (n : Nat)), some (.ref lw), some (.ref le), v4, v5, v6, v7, none, none] ∧ Same H H' ∧ H' lw = some (.lst (natV (tab (zc Ms n) (2 ^ n)))) ∧ H' le = some (.lst (natV (tab (zc Es n) (2 ^ n)))), ?_, ?_⟩
    · refine ⟨_, rfl, _, rfl, ?_⟩
      refine ⟨by omega, by omega, ?_⟩
      rw [Int.toNat_natCast]
      refine for_range (lo := 0) (n := n) (fun p σ' H' => ∃ (v4 v5 v6 v7 : Option V), σ' = [some (.ref a), some (.int (n : Nat)), some (.ref lw), some (.ref le), v4, v5, v6, v7, none, none] ∧ Same H H' ∧ H' lw = some (.lst (natV (tab (zc Ms p) (2 ^ n)))) ∧ H' le = some (.lst (natV (tab (zc Es p) (2 ^ n))))) ⟨v4, v5, none, none, rfl, s2, ew2, ee2⟩ ?_ ?_
      rotate_left
      · rintro _ Hc ⟨v4, v5, v6, v7, rfl, sc, ewc, eec⟩
        exact ⟨v4, v5, v6, v7, rfl, sc, ewc, eec⟩
      rintro p _ Hp hp ⟨v4, v5, v6, v7, rfl, sp, ewp, eep⟩
      have hp7 : p < 7 := Nat.lt_of_lt_of_le hp hn
      rw [Int.zero_add]
      refine ⟨_, rfl, n, rfl, rfl, by omega, _, rfl, ?_⟩
      refine ⟨by rw [pw]; omega, by rw [pw]; omega, ?_⟩
      rw [pw, Int.toNat_natCast]
      refine for_range (lo := 0) (n := 2 ^ n) (fun i σ' H' => ∃ (v7 : Option V), σ' = [some (.ref a), some (.int (n : Nat)), some (.ref lw), some (.ref le), v4, v5, some (.int (p : Nat)), v7, none, none] ∧ Same H H' ∧ H' lw = some (.lst (natV (tab (mix Ms p i) (2 ^ n)))) ∧ H' le = some (.lst (natV (tab (mix Es p i) (2 ^ n))))) ⟨v7, rfl, sp, by rw [← mix_z]; exact ewp, by rw [← mix_z]; exact eep⟩ ?_ ?_
      rotate_left
      · rintro _ Hc ⟨v7, rfl, sc, ewc, eec⟩
        exact ⟨v4, v5, _, v7, rfl, sc, by rw [ewc, mix_n], by rw [eec, mix_n]⟩
      rintro i _ Hi hi ⟨v7, rfl, si, ewi, eei⟩
      have hi7 : i < 128 := Nat.lt_of_lt_of_le hi p7
      rw [Int.zero_add]
      refine ⟨_, rfl, _, rfl, _, _, rfl, rfl, by omega, .inl ⟨_, rfl, _, _, rfl, rfl, by show (0 : Int) < 2; decide, rfl, i.testBit p, ?_, ?_⟩⟩
      · have e : ((i : Nat) : Int) / 2 ^ (((p : Nat) : Int)).toNat % 2 = ((i.testBit p).toNat : Int) := by
          rw [Nat.toNat_testBit, Int.toNat_natCast]
          push_cast
          rfl
        show V.bl (decide (V.int (((i : Nat) : Int) / 2 ^ (((p : Nat) : Int)).toNat % 2) = V.int 1)) = _
        rw [e]
        cases i.testBit p <;> rfl
      cases hb : i.testBit p with
      | false =>
        exact iteF ⟨_, rfl, si, by rw [← mix_off hb]; exact ewi, by rw [← mix_off hb]; exact eei⟩
      | true =>
        have ge := bit_ge p hp7 i hi7 hb
        have lt2 : i - 2 ^ p < 2 ^ n := Nat.lt_of_le_of_lt (Nat.sub_le ..) hi
        have ei : ((i : Nat) : Int) - 2 ^ p = ((i - 2 ^ p : Nat) : Int) := by
          rw [Int.ofNat_sub ge]
          push_cast
          rfl
        refine iteT ?_
        refine ⟨fun σ' H' => σ' = [some (.ref a), some (.int (n : Nat)), some (.ref lw), some (.ref le), v4, v5, some (.int (p : Nat)), some (.int (i : Nat)), none, none] ∧ H' = upd Hi lw (.lst (natV (tab (mix Ms p (i + 1)) (2 ^ n)))), ?_, ?_⟩
        · refine ⟨_, rfl, _, rfl, lw, _, _, _, rfl, rfl, SqL.of ewi, tabV_get hi, _, rfl, _, rfl, _, rfl, p, rfl, rfl, by omega, _, _, rfl, rfl, lw, _, _, _, rfl, rfl, SqL.of ewi, by rw [ei]; exact tabV_get lt2, _, _, rfl, rfl, _, rfl, _, rfl, lw, _, _, _, rfl, rfl, ewi, tabV_ix hi, rfl, ?_⟩
          refine congrArg (fun z => upd Hi lw (.lst z)) ?_
          show (natV _).set i (V.int (((mix Ms p i i : Nat) : Int) + ((mix Ms p i (i - 2 ^ p) : Nat) : Int))) = _
          rw [← Int.natCast_add, tabV_set, mix_on hp7 hi7 hb]
        rintro _ H5 ⟨rfl, e5⟩
        have e5' := e5.symm
        subst e5'
        refine ⟨_, rfl, _, rfl, le, _, _, _, rfl, rfl, SqL.of (by rw [upd_ne wne.symm]; exact eei), tabV_get hi, _, rfl, _, rfl, _, rfl, p, rfl, rfl, by omega, _, _, rfl, rfl, le, _, _, _, rfl, rfl, SqL.of (by rw [upd_ne wne.symm]; exact eei), by rw [ei]; exact tabV_get lt2, _, _, rfl, rfl, _, rfl, _, rfl, le, _, _, _, rfl, rfl, by rw [upd_ne wne.symm]; exact eei, tabV_ix hi, _, rfl, same_put0 (same_put0 si nw) ne, by rw [upd_ne wne, upd_same], ?_⟩
        rw [upd_same]
        refine congrArg (fun z => some (HO.lst z)) ?_
        show (natV _).set i (V.int (((mix Es p i i : Nat) : Int) + ((mix Es p i (i - 2 ^ p) : Nat) : Int))) = _
        rw [← Int.natCast_add, tabV_set, mix_on hp7 hi7 hb]
    rintro _ H3 ⟨v4, v5, v6, v7, rfl, s3, ew3, ee3⟩
    refine ⟨_, rfl, _, rfl, lw, le, _, _, rfl, SqL.of ew3, SqL.of ee3, fun D nD => ?_⟩
    have posE : ∀ i, i < 2 ^ n → 0 < zc Es n i := fun i hi => by
      obtain ⟨k, hk', e⟩ := List.mem_map.mp h0
      have hE : k ∈ Ks.filter fun k => fE k.1 := List.mem_filter.mpr ⟨hk', by rw [e]; exact e0⟩
      refine List.length_pos_of_mem (List.mem_filter.mpr ⟨List.mem_map_of_mem (f := mkm) hE, ?_⟩)
      have e1 : mkm k = 0 := by unfold mkm; rw [e]; rfl
      rw [e1, zp_iff]
      intro b _
      refine ⟨fun _ z => (by rw [Nat.zero_testBit] at z; cases z), fun hb => ?_⟩
      rw [Nat.zero_testBit, Nat.testBit_lt_two_pow (Nat.lt_of_lt_of_le hi (Nat.pow_le_pow_right (by decide) hb))]
    have hzip : 2 ^ n = min (natV (tab (zc Ms n) (2 ^ n))).length (natV (tab (zc Es n) (2 ^ n))).length := by
      rw [natV_len, natV_len, tab_len, tab_len, Nat.min_self]
    refine lc_it (walk_zip (K := K) (a := lw) (b := le) hzip) (Pv := fun j Hc => ∃ rs : List Nat, Same H3 Hc ∧ Hc D = some (.lst (natV rs)) ∧ rs.length = j ∧ ∀ i, i < j → ∀ k, zc Ms n i = zc Es n i * 2 ^ k → rs[i]? = some k) ⟨[], same_new nD, upd_same, rfl, fun i h => absurd h (Nat.not_lt_zero _)⟩ (fun j Hc _ ⟨rs, sc, _⟩ => ⟨SqL.of (sc _ _ ew3), SqL.of (sc _ _ ee3)⟩) ?_ ?_
    · rintro j y Hc Hc' hj ⟨rs, sc, ec, lrs, hrs⟩ ⟨T, x, z, rfl, nT, rfl, hx, hz⟩
      have hx' : x = .int (zc Ms n j : Nat) := by
        have hx : (natV (tab (zc Ms n) (2 ^ n)))[j]? = some x := hx
        unfold natV at hx
        rw [List.getElem?_map, tab_get hj] at hx
        exact (Option.some.inj hx).symm
      have hz' : z = .int (zc Es n j : Nat) := by
        have hz : (natV (tab (zc Es n) (2 ^ n)))[j]? = some z := hz
        unfold natV at hz
        rw [List.getElem?_map, tab_get hj] at hz
        exact (Option.some.inj hz).symm
      subst hx' hz'
      have TD : D ≠ T := ne_of_none ec nT
      have pe := posE j hj
      refine ⟨T, _, rfl, .inl (.inl upd_same), rfl, _, _, rfl, _, _, rfl, rfl, rfl, _, rfl, _, rfl, _, _, rfl, rfl, ?_, zc Ms n j / zc Es n j, ?_, ?_, fun r hr => ⟨_, by rw [upd_ne TD]; exact ec, ?_, rs ++ [r], same_put0 (sc.trans (same_new nT)) nD, ?_, by rw [List.length_append, lrs]; rfl, fun i hi k hk2 => ?_⟩⟩
      · have : zc Es n j ≤ 16384 := Nat.le_trans (List.length_filter_le ..) (by show ((Ks.filter fun k => fE k.1).map mkm).length ≤ _; rw [List.length_map]; exact Nat.le_trans (List.length_filter_le ..) hk)
        exact ⟨by omega, by omega⟩
      · exact congrArg (fun z => [V.int z]) (by push_cast; rfl)
      · have : zc Ms n j ≤ 16384 := Nat.le_trans (List.length_filter_le ..) (by show (Ks.map mkm).length ≤ _; rw [List.length_map]; exact hk)
        exact Nat.lt_of_le_of_lt (Nat.le_trans (Nat.div_le_self ..) this) (by decide)
      · rw [natV_len, lrs]
        exact Nat.lt_of_lt_of_le hj (Nat.le_trans p7 (by decide))
      · rw [upd_same, natV_app]
        rfl
      · by_cases e : i = j
        · subst e
          rw [List.getElem?_append_right (by omega), lrs, Nat.sub_self, hr k (by rw [hk2, Nat.mul_div_cancel_left _ pe])]
          rfl
        · rw [List.getElem?_append_left (by omega)]
          exact hrs i (by omega) k hk2
    · rintro Hc ⟨rs, sc, ec, lrs, hrs⟩
      exact q Hc D rs (s3.trans sc) ec lrs hrs
end
end KQ
namespace KQ
open PySem PySem.Spec PyProof.Rows L2
def pb : List Nat → Nat → Nat
  | [], _ => 0
  | k :: os, x => (x.testBit k).toNat + 2 * pb os x
def pm (os : List Nat) (u : T2) : T2 := (pb os u.1, pb os u.2)
theorem pb_lt : ∀ (os : List Nat) (x : Nat), pb os x < 2 ^ os.length
  | [], _ => by show 0 < 1; decide
  | k :: os, x => by
    have ih := pb_lt os x
    have : (x.testBit k).toNat < 2 := by cases x.testBit k <;> decide
    show (x.testBit k).toNat + 2 * pb os x < 2 ^ (os.length + 1)
    rw [Nat.pow_succ]
    omega
theorem bit0 (b : Bool) (m : Nat) : (b.toNat + 2 * m).testBit 0 = b := by
  rw [Nat.testBit_zero]
  cases b
  · exact decide_eq_false (by show ¬ (0 + 2 * m) % 2 = 1; omega)
  · exact decide_eq_true (by show (1 + 2 * m) % 2 = 1; omega)
theorem bitS (b : Bool) (m j : Nat) : (b.toNat + 2 * m).testBit (j + 1) = m.testBit j := by
  rw [Nat.testBit_succ]
  congr 1
  cases b
  · show (0 + 2 * m) / 2 = m; omega
  · show (1 + 2 * m) / 2 = m; omega
theorem pb_bit : ∀ (os : List Nat) (x j : Nat), (pb os x).testBit j = (match os[j]? with | some k => x.testBit k | none => false)
  | [], x, j => by
    show (0 : Nat).testBit j = _
    rw [Nat.zero_testBit]
    rfl
  | k :: os, x, 0 => bit0 _ _
  | k :: os, x, j + 1 => by
    show ((x.testBit k).toNat + 2 * pb os x).testBit (j + 1) = _
    rw [bitS, pb_bit os x j]
    rfl
theorem pb_xor (os : List Nat) (x y : Nat) : pb os (x ^^^ y) = pb os x ^^^ pb os y := Nat.eq_of_testBit_eq fun j => by
  rw [Nat.testBit_xor, pb_bit, pb_bit, pb_bit]
  cases os[j]? with
  | none => rfl
  | some k => exact Nat.testBit_xor ..
theorem pb_and (os : List Nat) (x y : Nat) : pb os (x &&& y) = pb os x &&& pb os y := Nat.eq_of_testBit_eq fun j => by
  rw [Nat.testBit_and, pb_bit, pb_bit, pb_bit]
  cases os[j]? with
  | none => rfl
  | some k => exact Nat.testBit_and ..
theorem pc_pb (w : Nat) : ∀ os : List Nat, pc (pb os w) = (os.filter fun k => w.testBit k).length
  | [] => pc_zero
  | k :: os => by
    show pc ((w.testBit k).toNat + 2 * pb os w) = _
    rw [Nat.add_comm, pc_two _ _ (by cases w.testBit k <;> decide), pc_pb w os, List.filter_cons]
    cases w.testBit k with
    | true => exact Nat.add_comm ..
    | false => exact Nat.zero_add _
theorem pb_range {n w : Nat} (h : w < 2 ^ n) : pb (List.range n) w = w := Nat.eq_of_testBit_eq fun j => by
  rw [pb_bit]
  by_cases hj : j < n
  · rw [List.getElem?_range hj]
  · rw [List.getElem?_eq_none (by rw [List.length_range]; omega)]
    exact (Nat.testBit_lt_two_pow (Nat.lt_of_lt_of_le h (Nat.pow_le_pow_right (by decide) (by omega)))).symm
theorem pc_perm {os : List Nat} {n w : Nat} (p : os.Perm (List.range n)) (h : w < 2 ^ n) : pc (pb os w) = pc w := by
  have e := pc_pb w (List.range n)
  rw [pb_range h] at e
  rw [pc_pb, e]
  exact (p.filter _).length_eq
theorem Symp.pm {os : List Nat} {n : Nat} (p : os.Perm (List.range n)) : Symp n (pm os) := by
  have l : os.length = n := by rw [p.length_eq, List.length_range]
  refine ⟨fun u _ => ⟨l ▸ pb_lt os u.1, l ▸ pb_lt os u.2⟩, fun u v => ?_, fun u v hu hv => ?_⟩
  · show (pb os (u.1 ^^^ v.1), pb os (u.2 ^^^ v.2)) = (pb os u.1 ^^^ pb os v.1, pb os u.2 ^^^ pb os v.2)
    rw [pb_xor, pb_xor]
  · show pc ((pb os u.1 &&& pb os v.2) ^^^ (pb os u.2 &&& pb os v.1)) % 2 = pc ((u.1 &&& v.2) ^^^ (u.2 &&& v.1)) % 2
    rw [← pb_and, ← pb_and, ← pb_xor, pc_perm p (Nat.xor_lt_two_pow (Nat.and_lt_two_pow _ hv.2) (Nat.and_lt_two_pow _ hv.1))]
theorem Symp.comp {n : Nat} {L M : T2 → T2} (S : Symp n L) (T : Symp n M) : Symp n (fun u => L (M u)) :=
  ⟨fun u h => S.fit _ (T.fit u h), fun u v => by rw [T.lin, S.lin], fun u v hu hv => by rw [S.cr _ _ (T.fit u hu) (T.fit v hv), T.cr u v hu hv]⟩
abbrev Gs := List (Str × Nat × Nat)
def gfold (gl : Gs) (u : T2) : T2 := gl.foldl (fun u g => gB g.1 g.2.1 g.2.2 u) u
def GsOk (n : Nat) (gl : Gs) : Prop := ∀ g ∈ gl, g.2.1 < n ∧ g.2.2 < n ∧ PlOk g.1 g.2.1 g.2.2
theorem Symp.fold {n : Nat} : ∀ {gl : Gs} {L : T2 → T2}, Symp n L → GsOk n gl → Symp n (fun u => gfold gl (L u))
  | [], _, S, _ => S
  | g :: gl, _, S, h => Symp.fold (gl := gl) (S.gate (h g (.head _)).1 (h g (.head _)).2.1 (h g (.head _)).2.2) fun x hx => h x (.tail _ hx)
theorem gfold_app (a b : Gs) (u : T2) : gfold (a ++ b) u = gfold b (gfold a u) := List.foldl_append
/-- a code's data, and the gates that make it of the plain one -/
structure Kn (n rank : Nat) (gl : Gs) (rows : List T2) (prs : List (T2 × T2)) : Prop where
  ok : GsOk n gl
  rows : rows = (List.range rank).map fun i => gfold gl (0, 2 ^ i)
  prs : prs = (pr0 rank (n - rank)).map (L2p (gfold gl))
theorem MsOk.plain (rank : Nat) : MsOk ((List.range rank).map (2 ^ ·)) rank := by
  refine ⟨by rw [List.length_map, List.length_range], fun k m h => ?_⟩
  rw [List.getElem?_map] at h
  obtain ⟨i, hi, rfl⟩ := Option.map_eq_some_iff.mp h
  have hk := (List.getElem?_eq_some_iff.mp hi).1
  rw [List.length_range] at hk
  rw [List.getElem?_range hk] at hi
  obtain rfl := Option.some.inj hi
  exact ⟨Nat.le_refl _, Nat.pow_lt_pow_right (by decide) (Nat.lt_succ_self _)⟩
theorem Kn.code {n rank : Nat} {gl : Gs} {rows : List T2} {prs : List (T2 × T2)} (c : Kn n rank gl rows prs) {T : T2 → T2} (ST : Symp n T) {R : RLs} {S : PrLs} (eR : R.map bz = rows.map T) (eS : S.map bz2 = prs.map (L2p T)) :
    CodeL n rank R S (fun u => T (gfold gl u)) ((List.range rank).map (2 ^ ·)) := by
  refine ⟨ST.comp (Symp.fold (Symp.id n) c.ok), MsOk.plain rank, ?_, ?_⟩
  · rw [eR, c.rows, List.map_map, List.map_map]
    exact List.Perm.refl _
  · rw [eS, c.prs, List.map_map]
    rfl
def gl1 : Gs := [("s", 4, 0), ("cz", 4, 2), ("cz", 4, 1), ("h", 4, 0), ("cz", 4, 2), ("cz", 4, 0), ("h", 4, 0), ("h", 3, 0), ("cz", 3, 2), ("cz", 3, 1), ("cz", 3, 0), ("swap", 3, 4), ("h", 4, 0), ("h", 2, 0), ("cz", 2, 0), ("cx", 2, 4), ("cx", 2, 3), ("h", 4, 0), ("s", 3, 0), ("s", 2, 0), ("h", 1, 0), ("cx", 1, 4), ("cx", 1, 3), ("cx", 1, 2), ("h", 3, 0), ("h", 1, 0), ("h", 0, 0), ("cx", 0, 3), ("cx", 0, 2), ("cx", 0, 1), ("h", 2, 0), ("h", 1, 0)]
def gl2 : Gs := [("cz", 3, 0), ("h", 3, 0), ("cz", 3, 1), ("h", 3, 0), ("cz", 2, 0), ("cx", 2, 3), ("h", 3, 0), ("h", 2, 0), ("cz", 2, 1), ("cx", 2, 3), ("h", 1, 0), ("cx", 1, 3), ("cx", 1, 2), ("h", 3, 0), ("h", 2, 0), ("h", 1, 0), ("h", 0, 0), ("cx", 0, 3), ("cx", 0, 2), ("cx", 0, 1)]
def gl3 : Gs := ([("cz", 6, 1), ("cz", 6, 0), ("h", 6, 0), ("cz", 6, 5), ("cz", 6, 4), ("h", 5, 0), ("cz", 5, 4), ("cz", 5, 3), ("cx", 5, 6), ("h", 5, 0), ("h", 4, 0), ("cx", 4, 6), ("swap", 4, 5), ("h", 3, 0), ("cx", 3, 6), ("cx", 3, 5), ("swap", 3, 4)] : Gs) ++ ([("h", 6, 0), ("h", 5, 0), ("h", 4, 0), ("h", 2, 0), ("cx", 2, 6), ("cx", 2, 4), ("cx", 2, 3), ("h", 1, 0), ("cx", 1, 6), ("cx", 1, 5), ("cx", 1, 2), ("h", 0, 0), ("cx", 0, 6), ("cx", 0, 5), ("cx", 0, 4), ("swap", 0, 3)] : Gs)
def gl4 : Gs := [("cz", 5, 2), ("cz", 5, 1), ("cz", 5, 0), ("h", 5, 0), ("cz", 5, 4), ("cz", 5, 3), ("h", 4, 0), ("cz", 4, 3), ("cx", 4, 5), ("h", 5, 0), ("h", 3, 0), ("cx", 3, 4), ("h", 4, 0), ("h", 3, 0), ("h", 2, 0), ("cx", 2, 5), ("swap", 2, 4), ("h", 5, 0), ("h", 4, 0), ("h", 1, 0), ("cx", 1, 3), ("swap", 1, 2), ("h", 3, 0), ("h", 2, 0), ("h", 0, 0), ("cx", 0, 1), ("h", 1, 0), ("h", 0, 0)]
instance (kd : Str) (a b : Nat) : Decidable (PlOk kd a b) := inferInstanceAs (Decidable (a ≠ b ∨ (¬ kd = "cx" ∧ ¬ kd = "cz" ∧ ¬ kd = "swap")))
instance (n : Nat) (gl : Gs) : Decidable (GsOk n gl) := inferInstanceAs (Decidable (∀ g ∈ gl, g.2.1 < n ∧ g.2.2 < n ∧ PlOk g.1 g.2.1 g.2.2))
theorem kn1 : Kn 5 4 gl1 [(9, 6), (18, 12), (5, 24), (10, 17)] [((31, 0), (0, 31))] := ⟨by decide +kernel, by decide +kernel, by decide +kernel⟩
theorem kn2 : Kn 4 2 gl2 [(15, 0), (0, 15)] [((5, 0), (0, 3)), ((3, 0), (0, 5))] := ⟨by decide +kernel, by decide +kernel, by decide +kernel⟩
theorem kn3 : Kn 7 6 gl3 [(120, 0), (102, 0), (85, 0), (0, 120), (0, 102), (0, 85)] [((127, 0), (0, 127))] := ⟨by decide +kernel, by decide +kernel, by decide +kernel⟩
theorem kn4 : Kn 6 5 gl4 [(0, 3), (0, 12), (0, 48), (15, 0), (60, 0)] [((0, 21), (3, 0))] := ⟨by decide +kernel, by decide +kernel, by decide +kernel⟩
end KQ
namespace KQ
open PySem PySem.Spec PyProof.Rows L2
theorem off_kb2 {H H' : Hp} {p c x : Addr} {n : Nat} (k : KB p H H') (P : PenAt H' p c n) (h : H' x = none) : H x = none := by
  obtain ⟨⟨o', ep⟩, _⟩ := P.some
  cases e : H x with
  | none => rfl
  | some o =>
    rw [k _ _ e (fun z => by rw [z, ep] at h; cases h)] at h
    cases h
theorem kb_tup {H H' : Hp} {p c x : Addr} {n : Nat} {xs : List V} (P : PenAt H p c n) (k : KB p H H') (e : H x = some (.tup xs)) : H' x = some (.tup xs) := by
  obtain ⟨ns, a, d, f, hp, _⟩ := P
  exact k _ _ e fun z => by rw [z, hp] at e; cases e
theorem tCons_i {a : TE} {b : TA} {σ : L2.St} {H : Hp} {Q : List V → Hp → Prop} (h : a σ H fun x H1 => b σ H1 fun xs H2 => Q (x :: xs) H2) : tCons a b σ H Q := h
theorem tLst_i {ta : TA} {σ : L2.St} {H : Hp} {Q : V → Hp → Prop} (h : ta σ H fun xs H1 => xs.length ≤ sizeLine ∧ ∀ p, H1 p = none → Q (.ref p) (upd H1 p (.lst xs))) : tLst ta σ H Q := h
def KTup (H : Hp) (a : Addr) (rs hs gs : List V) : Prop := ∃ l t g, H a = some (.tup [.ref l, .ref t, .ref g]) ∧ H l = some (.lst rs) ∧ H t = some (.tup hs) ∧ H g = some (.lst gs)
theorem KTup.same {H H' : Hp} {a : Addr} {rs hs gs : List V} (s : Same H H') (h : KTup H a rs hs gs) : KTup H' a rs hs gs := let ⟨l, t, g, e1, e2, e3, e4⟩ := h; ⟨l, t, g, s _ _ e1, s _ _ e2, s _ _ e3, s _ _ e4⟩
theorem kt_of {tl tt tg : TE} {σ : L2.St} {rs hs gs : List V} (h1 : ∀ (H : Hp) (Z : V → Hp → Prop), (∀ l, H l = none → Z (.ref l) (upd H l (.lst rs))) → tl σ H Z) (h2 : ∀ (H : Hp) (Z : V → Hp → Prop), (∀ l, H l = none → Z (.ref l) (upd H l (.tup hs))) → tt σ H Z)
    (h3 : ∀ (H : Hp) (Z : V → Hp → Prop), (∀ l, H l = none → Z (.ref l) (upd H l (.lst gs))) → tg σ H Z) (H : Hp) (Z : V → Hp → Prop) (q : ∀ a H', Same H H' → KTup H' a rs hs gs → Z (.ref a) H') : tTup (tCons tl (tCons tt (tCons tg tNil))) σ H Z := by
  refine h1 H _ fun l nl => h2 _ _ fun t nt => h3 _ _ fun g ng => ⟨by show 3 ≤ sizeLine; decide, fun a na => ?_⟩
  have s1 := same_new (o := .lst rs) nl
  have s2 := same_new (o := .tup hs) nt
  have s3 := same_new (o := .lst gs) ng
  have s4 := same_new (o := .tup [.ref l, .ref t, .ref g]) na
  exact q a _ (s1.trans (s2.trans (s3.trans s4))) ⟨l, t, g, upd_same, s4 _ _ (s3 _ _ (s2 _ _ upd_same)), s4 _ _ (s3 _ _ upd_same), s4 _ _ upd_same⟩
/-- a known code's texts -/
structure KT4 where
  ts : List Str
  h1 : Str
  h2 : Str
  gs : List Str
def k4 : List KT4 := [⟨["XZZXI", "IXZZX", "XIXZZ", "ZXIXZ"], "XXXXX", "ZZZZZ", []⟩, ⟨["XXXX", "ZZZZ"], "XXII", "ZIZI", ["XIXI", "IXIX", "ZZII", "IIZZ"]⟩, ⟨["IIIXXXX", "IXXIIXX", "XIXIXIX", "IIIZZZZ", "IZZIIZZ", "ZIZIZIZ"], "XXXXXXX", "ZZZZZZZ", []⟩, ⟨["ZZIIII", "IIZZII", "IIIIZZ", "XXXXII", "IIXXXX"], "ZIZIZI", "XXIIII", []⟩]
def KT4.all (d : KT4) : List Str := d.ts ++ [d.h1, d.h2] ++ d.gs
def KT4.n (d : KT4) : Nat := (d.ts.headD "").length
theorem k4_ok : ∀ d ∈ k4, 2 ≤ d.n ∧ d.n ≤ 7 ∧ d.ts.length ≤ 6 ∧ 0 < d.ts.length ∧ d.gs.length ≤ 4 ∧ (∀ t ∈ d.all, t.length = d.n ∧ ∀ c ∈ t.cps.toList, isL c = true) := by
  intro d hd
  have : (k4.all fun d => decide (2 ≤ d.n ∧ d.n ≤ 7 ∧ d.ts.length ≤ 6 ∧ 0 < d.ts.length ∧ d.gs.length ≤ 4) && d.all.all fun t => t.length == d.n && t.cps.toList.all isL) = true := by decide +kernel
  have := List.all_eq_true.mp this d hd
  rw [Bool.and_eq_true, decide_eq_true_eq, List.all_eq_true] at this
  obtain ⟨⟨a1, a2, a3, a4, a5⟩, a6⟩ := this
  refine ⟨a1, a2, a3, a4, a5, fun t ht => ?_⟩
  have := a6 t ht
  rw [Bool.and_eq_true, List.all_eq_true] at this
  exact ⟨eq_of_beq this.1, this.2⟩
def strV (ss : List Str) : List V := ss.map V.str
theorem bv_pb {f : Nat → Nat} (hf : ∀ c, f c < 2) {L : List Nat} : ∀ os : List Nat, (∀ k ∈ os, k < L.length) → bv f (os.map fun k => L.getD k 0) = pb os (bv f L)
  | [], _ => rfl
  | k :: os, h => by
    have hk := h k (.head _)
    have e : L[k]? = some (L.getD k 0) := by rw [List.getElem?_eq_getElem hk, List.getD_eq_getElem?_getD, List.getElem?_eq_getElem hk]; rfl
    show f (L.getD k 0) + 2 * bv f (os.map fun k => L.getD k 0) = ((bv f L).testBit k).toNat + 2 * pb os (bv f L)
    rw [bv_pb hf os fun x hx => h x (.tail _ hx), ← bt_eq, bv_bit hf e]
def tb (s : Str) : T2 := (bv lx s.cps.toList, bv lz s.cps.toList)
/-- the gates of the words, place by place -/
def wG (k : Nat) (s : Str) : Gs := s.cps.toList.map fun c => ((⟨#[c]⟩ : Str), k, 0)
def ksG (ks : List Str) (j : Nat) : Gs := (List.range j).flatMap fun k => wG k (ks.getD k "")
theorem ksG_snoc (ks : List Str) (j : Nat) : ksG ks (j + 1) = ksG ks j ++ wG j (ks.getD j "") := by
  unfold ksG
  rw [List.range_succ, List.flatMap_append]
  exact congrArg (_ ++ ·) (List.append_nil _)
theorem hs_ok : ∀ s ∈ (["", "h", "s", "hs", "sh", "hsh"] : List Str), ∀ c ∈ s.cps.toList, (⟨#[c]⟩ : Str) = "h" ∨ (⟨#[c]⟩ : Str) = "s" := by decide +kernel
theorem ksG_ok {ks : List Str} {n : Nat} (h1 : 0 < n) (l : ks.length = n) (h : ∀ s ∈ ks, s ∈ (["", "h", "s", "hs", "sh", "hsh"] : List Str)) : GsOk n (ksG ks n) := by
  intro g hg
  obtain ⟨k, hk, hg⟩ := List.mem_flatMap.mp hg
  obtain ⟨c, hc, rfl⟩ := List.mem_map.mp hg
  have hk' := List.mem_range.mp hk
  have ms : ks.getD k "" ∈ ks := by
    rw [List.getD_eq_getElem?_getD, List.getElem?_eq_getElem (by omega)]
    exact List.getElem_mem _
  refine ⟨hk', h1, .inr ?_⟩
  rcases hs_ok _ (h _ ms) c hc with e | e <;> (show ¬ (⟨#[c]⟩ : Str) = "cx" ∧ ¬ (⟨#[c]⟩ : Str) = "cz" ∧ ¬ (⟨#[c]⟩ : Str) = "swap"; rw [e]; decide +kernel)
theorem some0 {n rank : Nat} {gl : Gs} {rows : List T2} {pr : T2 × T2} (c : Kn n rank gl rows [pr]) {T : T2 → T2} (ST : Symp n T) (n2 : 2 ≤ n) (n7 : n ≤ 7) (rk : rank ≤ n) {R : RLs} {a : Addr} {f g : Addr × T3} (eR : R.map bz = rows.map T) (ef : bz f = T pr.1) (eg : bz g = T pr.2) (hf : ∀ r ∈ R, Fit n r.2) :
    SomeC n rank 0 R [] R [(a, f, g)] [] [] (fun u => T (gfold gl u)) ((List.range rank).map (2 ^ ·)) := by
  refine ⟨n2, n7, rk, by decide, ?_, hf, c.code ST eR ?_, by rw [List.append_nil], by decide, fun u h => (by cases h), List.Perm.refl _, by decide, fun u h => (by cases h)⟩
  · have := congrArg List.length eR
    rw [List.length_map, List.length_map, c.rows, List.length_map, List.length_range] at this
    exact this
  · show [(bz f, bz g)] = [(T pr.1, T pr.2)]
    rw [ef, eg]
theorem known_some {d : KT4} (hd : d ∈ k4) {T : T2 → T2} (ST : Symp d.n T) {FL : RLs} (e : FL.map bz = d.all.map fun s => T (tb s)) (hf : ∀ r ∈ FL, Fit d.n r.2) :
    ∃ f g, FL[d.ts.length]? = some f ∧ FL[d.ts.length + 1]? = some g ∧ ∀ hp : Addr, ∃ rank gd S Y L ms, S.drop gd = [(hp, f, g)] ∧ (∀ s ∈ S, Fit d.n s.2.1.2 ∧ Fit d.n s.2.2.2) ∧ SomeC d.n rank gd (FL.take d.ts.length) (FL.drop (d.ts.length + 2)) (FL.take d.ts.length) S [] Y L ms := by
  unfold k4 at hd
  rcases List.mem_cons.mp hd with rfl | hd
  · have hn : KT4.n ⟨["XZZXI", "IXZZX", "XIXZZ", "ZXIXZ"], "XXXXX", "ZZZZZ", []⟩ = 5 := by decide +kernel
    rw [hn] at ST hf ⊢
    have e : FL.map bz = [T (9, 6), T (18, 12), T (5, 24), T (10, 17), T (31, 0), T (0, 31)] := e.trans (congrArg (List.map T) (by decide +kernel : (["XZZXI", "IXZZX", "XIXZZ", "ZXIXZ", "XXXXX", "ZZZZZ"] : List Str).map tb = [(9, 6), (18, 12), (5, 24), (10, 17), (31, 0), (0, 31)]))
    obtain ⟨f0, F, rfl, e0, e⟩ := List.map_eq_cons_iff.mp e
    obtain ⟨f1, F, rfl, e1, e⟩ := List.map_eq_cons_iff.mp e
    obtain ⟨f2, F, rfl, e2, e⟩ := List.map_eq_cons_iff.mp e
    obtain ⟨f3, F, rfl, e3, e⟩ := List.map_eq_cons_iff.mp e
    obtain ⟨f4, F, rfl, e4, e⟩ := List.map_eq_cons_iff.mp e
    obtain ⟨f5, F, rfl, e5, e⟩ := List.map_eq_cons_iff.mp e
    obtain rfl := List.map_eq_nil_iff.mp e
    refine ⟨f4, f5, rfl, rfl, fun hp => ⟨4, 0, [(hp, f4, f5)], [], _, _, rfl, fun s hs => ?_, some0 kn1 ST (by decide) (by decide) (by decide) ?_ e4 e5 fun r hr => hf r (List.mem_of_mem_take hr)⟩⟩
    · rw [List.mem_singleton.mp hs]
      exact ⟨hf f4 (by simp), hf f5 (by simp)⟩
    · show [bz f0, bz f1, bz f2, bz f3] = [T (9, 6), T (18, 12), T (5, 24), T (10, 17)]
      rw [e0, e1, e2, e3]
  rcases List.mem_cons.mp hd with rfl | hd
  · have hn : KT4.n ⟨["XXXX", "ZZZZ"], "XXII", "ZIZI", ["XIXI", "IXIX", "ZZII", "IIZZ"]⟩ = 4 := by decide +kernel
    rw [hn] at ST hf ⊢
    have e : FL.map bz = [T (15, 0), T (0, 15), T (3, 0), T (0, 5), T (5, 0), T (10, 0), T (0, 3), T (0, 12)] := e.trans (congrArg (List.map T) (by decide +kernel : (["XXXX", "ZZZZ", "XXII", "ZIZI", "XIXI", "IXIX", "ZZII", "IIZZ"] : List Str).map tb = [(15, 0), (0, 15), (3, 0), (0, 5), (5, 0), (10, 0), (0, 3), (0, 12)]))
    obtain ⟨f0, F, rfl, e0, e⟩ := List.map_eq_cons_iff.mp e
    obtain ⟨f1, F, rfl, e1, e⟩ := List.map_eq_cons_iff.mp e
    obtain ⟨f2, F, rfl, e2, e⟩ := List.map_eq_cons_iff.mp e
    obtain ⟨f3, F, rfl, e3, e⟩ := List.map_eq_cons_iff.mp e
    obtain ⟨f4, F, rfl, e4, e⟩ := List.map_eq_cons_iff.mp e
    obtain ⟨f5, F, rfl, e5, e⟩ := List.map_eq_cons_iff.mp e
    obtain ⟨f6, F, rfl, e6, e⟩ := List.map_eq_cons_iff.mp e
    obtain ⟨f7, F, rfl, e7, e⟩ := List.map_eq_cons_iff.mp e
    obtain rfl := List.map_eq_nil_iff.mp e
    refine ⟨f2, f3, rfl, rfl, fun hp => ⟨2, 1, [(0, f4, f6), (hp, f2, f3)], [f5.2, f7.2], fun u => T (gfold gl2 u), (List.range 2).map (2 ^ ·), rfl, fun s hs => ?_, ?_⟩⟩
    · rcases List.mem_cons.mp hs with rfl | hs
      · exact ⟨hf f4 (by simp), hf f6 (by simp)⟩
      · rw [List.mem_singleton.mp hs]
        exact ⟨hf f2 (by simp), hf f3 (by simp)⟩
    · refine ⟨by decide, by decide, by decide, by decide, rfl, fun r hr => hf r (List.mem_of_mem_take hr), kn2.code ST ?_ ?_, by rw [List.append_nil], by decide, fun u h => (by cases h), ?_, Nat.le_succ 2, fun u hu => ?_⟩
      · show [bz f0, bz f1] = [T (15, 0), T (0, 15)]
        rw [e0, e1]
      · show [(bz f4, bz f6), (bz f2, bz f3)] = [(T (5, 0), T (0, 3)), (T (3, 0), T (0, 5))]
        rw [e4, e6, e2, e3]
      · show [f4.2, f5.2, f6.2, f7.2].Perm [f4.2, f6.2, f5.2, f7.2]
        exact .cons _ (.swap _ _ _)
      · have mk : ∀ {f r q : Addr × T3} {a b c : T2}, bz f = T c → bz r = T a → bz q = T b → c = xr2 a b → f.2.1 = r.2.1 ^^^ q.2.1 ∧ f.2.2.1 = r.2.2.1 ^^^ q.2.2.1 := by
          intro f r q a b c h1 h2 h3 h4
          rw [h4, ST.lin, ← h2, ← h3] at h1
          exact ⟨congrArg Prod.fst h1, congrArg Prod.snd h1⟩
        rcases List.mem_cons.mp hu with rfl | hu
        · have := mk e5 e0 e4 (by decide)
          exact .inr (.inr (.inr ⟨f0, by simp, f4, by simp [flatQ], this.1, this.2⟩))
        · rw [List.mem_singleton.mp hu]
          have := mk e7 e1 e6 (by decide)
          exact .inr (.inr (.inr ⟨f1, by simp, f6, by simp [flatQ], this.1, this.2⟩))
  rcases List.mem_cons.mp hd with rfl | hd
  · have hn : KT4.n ⟨["IIIXXXX", "IXXIIXX", "XIXIXIX", "IIIZZZZ", "IZZIIZZ", "ZIZIZIZ"], "XXXXXXX", "ZZZZZZZ", []⟩ = 7 := by decide +kernel
    rw [hn] at ST hf ⊢
    have e : FL.map bz = [T (120, 0), T (102, 0), T (85, 0), T (0, 120), T (0, 102), T (0, 85), T (127, 0), T (0, 127)] := e.trans (congrArg (List.map T) (by decide +kernel : (["IIIXXXX", "IXXIIXX", "XIXIXIX", "IIIZZZZ", "IZZIIZZ", "ZIZIZIZ", "XXXXXXX", "ZZZZZZZ"] : List Str).map tb = [(120, 0), (102, 0), (85, 0), (0, 120), (0, 102), (0, 85), (127, 0), (0, 127)]))
    obtain ⟨f0, F, rfl, e0, e⟩ := List.map_eq_cons_iff.mp e
    obtain ⟨f1, F, rfl, e1, e⟩ := List.map_eq_cons_iff.mp e
    obtain ⟨f2, F, rfl, e2, e⟩ := List.map_eq_cons_iff.mp e
    obtain ⟨f3, F, rfl, e3, e⟩ := List.map_eq_cons_iff.mp e
    obtain ⟨f4, F, rfl, e4, e⟩ := List.map_eq_cons_iff.mp e
    obtain ⟨f5, F, rfl, e5, e⟩ := List.map_eq_cons_iff.mp e
    obtain ⟨f6, F, rfl, e6, e⟩ := List.map_eq_cons_iff.mp e
    obtain ⟨f7, F, rfl, e7, e⟩ := List.map_eq_cons_iff.mp e
    obtain rfl := List.map_eq_nil_iff.mp e
    refine ⟨f6, f7, rfl, rfl, fun hp => ⟨6, 0, [(hp, f6, f7)], [], _, _, rfl, fun s hs => ?_, some0 kn3 ST (by decide) (by decide) (by decide) ?_ e6 e7 fun r hr => hf r (List.mem_of_mem_take hr)⟩⟩
    · rw [List.mem_singleton.mp hs]
      exact ⟨hf f6 (by simp), hf f7 (by simp)⟩
    · show [bz f0, bz f1, bz f2, bz f3, bz f4, bz f5] = [T (120, 0), T (102, 0), T (85, 0), T (0, 120), T (0, 102), T (0, 85)]
      rw [e0, e1, e2, e3, e4, e5]
  rcases List.mem_cons.mp hd with rfl | hd
  · have hn : KT4.n ⟨["ZZIIII", "IIZZII", "IIIIZZ", "XXXXII", "IIXXXX"], "ZIZIZI", "XXIIII", []⟩ = 6 := by decide +kernel
    rw [hn] at ST hf ⊢
    have e : FL.map bz = [T (0, 3), T (0, 12), T (0, 48), T (15, 0), T (60, 0), T (0, 21), T (3, 0)] := e.trans (congrArg (List.map T) (by decide +kernel : (["ZZIIII", "IIZZII", "IIIIZZ", "XXXXII", "IIXXXX", "ZIZIZI", "XXIIII"] : List Str).map tb = [(0, 3), (0, 12), (0, 48), (15, 0), (60, 0), (0, 21), (3, 0)]))
    obtain ⟨f0, F, rfl, e0, e⟩ := List.map_eq_cons_iff.mp e
    obtain ⟨f1, F, rfl, e1, e⟩ := List.map_eq_cons_iff.mp e
    obtain ⟨f2, F, rfl, e2, e⟩ := List.map_eq_cons_iff.mp e
    obtain ⟨f3, F, rfl, e3, e⟩ := List.map_eq_cons_iff.mp e
    obtain ⟨f4, F, rfl, e4, e⟩ := List.map_eq_cons_iff.mp e
    obtain ⟨f5, F, rfl, e5, e⟩ := List.map_eq_cons_iff.mp e
    obtain ⟨f6, F, rfl, e6, e⟩ := List.map_eq_cons_iff.mp e
    obtain rfl := List.map_eq_nil_iff.mp e
    refine ⟨f5, f6, rfl, rfl, fun hp => ⟨5, 0, [(hp, f5, f6)], [], _, _, rfl, fun s hs => ?_, some0 kn4 ST (by decide) (by decide) (by decide) ?_ e5 e6 fun r hr => hf r (List.mem_of_mem_take hr)⟩⟩
    · rw [List.mem_singleton.mp hs]
      exact ⟨hf f5 (by simp), hf f6 (by simp)⟩
    · show [bz f0, bz f1, bz f2, bz f3, bz f4] = [T (0, 3), T (0, 12), T (0, 48), T (15, 0), T (60, 0)]
      rw [e0, e1, e2, e3, e4]
  · cases hd
end KQ
namespace KQ
open PySem PySem.Spec PyProof.Rows L2
abbrev sKn : Stmt := topS 80
theorem scKn : FnScope ["_law_pen_here", "_law_texts", "_law_hidden", "_law_gauge", "_law_size", "_law_order", "_law_k", "_law_kinds_here", "_law_found", "_law_text_here", "_law_string", "_law_kind", "_law_many"] ["_law_pen_here"] (defScope sKn) := ⟨rfl, rfl, rfl, by decide +kernel, rfl, by decide +kernel, by decide +kernel⟩
def spKn : Sp := fun vs H Q _ => ∃ (p c : Addr) (k : Nat), vs = [.ref p] ∧ PenAt H p c k ∧ k + 6000 < 1000000 ∧
  ∀ H' k' d n rank gd lr lg lh R G S Y L ms, KB p H H' → PenAt H' p c k' → k' ≤ k + 6000 → d ≠ p → H' d = some (.dK (cdk n lr lg lh)) → H' lr = some (.lst (refR R)) → RsAt n H' R → H' lg = some (.lst (refR G)) → RsAt n H' G → H' lh = some (.lst (refQ (S.drop gd))) → QsAt n H' (S.drop gd) → (∀ s ∈ S, Fit n s.2.1.2 ∧ Fit n s.2.2.2) → SomeC n rank gd R G R S [] Y L ms → Q (.ref d) H'
section
variable {P : Program} {w : World} {K : PySem.W.Frag} {mg : Str → Option Value} {base : Heap}
theorem ok_kn {f fD fP fS fT fG : Addr} {fd dD dP dS dT dG : FuncData} {k : Nat} (F : Fun K "_law_known_code" "_law_known_code" sKn f fd) (FD : Fun K "_law_draw" "_law_draw" sDraw fD dD) (bD : Binds K dD ["_law_pen_here", "_law_many"] []) (gD : mg "_law_draw" = some (.ref fD))
    (FP : Fun K "_law_pick" "_law_pick" sPick fP dP) (bP : Binds K dP ["_law_pen_here", "_law_some"] []) (gP : mg "_law_pick" = some (.ref fP)) (FS : Fun K "_law_shuffled" "_law_shuffled" sShuf fS dS) (bS : Binds K dS ["_law_pen_here", "_law_some"] []) (gS : mg "_law_shuffled" = some (.ref fS))
    (FT : Fun K "_law_of_text" "_law_of_text" sOfT fT dT) (bT : Binds K dT ["_law_text_here"] []) (gT : mg "_law_of_text" = some (.ref fT)) (FG : Fun K "_law_gate" "_law_gate" sGate fG dG) (bG : Binds K dG ["_law_string", "_law_kind", "_law_places"] []) (gG : mg "_law_gate" = some (.ref fG)) (B : Bl mg) :
    FnOk P w K mg base CX0 (k + 3) f fd ["_law_pen_here"] spKn := by
  have GD : FnOk P w K mg base CX0 (k + 1) fD dD ["_law_pen_here", "_law_many"] spDraw := ok_draw FD B.int B.len
  have GP : FnOk P w K mg base CX0 (k + 2) fP dP ["_law_pen_here", "_law_some"] (spPick K) := ok_pick FP FD bD gD B.int B.len
  have GS : FnOk P w K mg base CX0 (k + 2) fS dS ["_law_pen_here", "_law_some"] (spShuf K) := ok_shuf FS FD bD gD B
  have GT : FnOk P w K mg base CX0 (k + 1) fT dT ["_law_text_here"] spOfT := ok_oft FT B
  have GG : FnOk P w K mg base CX0 (k + 1) fG dG ["_law_string", "_law_kind", "_law_places"] (spGate K) := ok_gate FG B
  refine F.ok scKn (fun vs H Q E h => ?_) (fun cdv A outer s H vs Q E hr h => ?_)
  · obtain ⟨p, c, k0, rfl, _⟩ := h
    rfl
  · obtain ⟨p, c, k0, rfl, hP, hk, q⟩ := h
    have hu := hu_of hr
    have r2 : Room (k + 2) _ := hr
    have r1 : Room (k + 1) _ := hr.mono (by omega)
    refine ⟨_, C8.pss_cut (ps_asg (pe_call GP r2 (by rfl) gP FP.kp bP .nil pass0 (pa_cons (pv 0) (pa_cons (pe_lst (pa_cons (pe_tup (pa_cons (pe_lst (pa_cons pe_str (pa_cons pe_str (pa_cons pe_str (pa_cons pe_str pa_nil))))) (pa_cons (pe_tup (pa_cons pe_str (pa_cons pe_str pa_nil))) (pa_cons (pe_lst pa_nil) pa_nil)))) (pa_cons (pe_tup (pa_cons (pe_lst (pa_cons pe_str (pa_cons pe_str pa_nil))) (pa_cons (pe_tup (pa_cons pe_str (pa_cons pe_str pa_nil))) (pa_cons (pe_lst (pa_cons pe_str (pa_cons pe_str (pa_cons pe_str (pa_cons pe_str pa_nil))))) pa_nil)))) (pa_cons (pe_tup (pa_cons (pe_lst (pa_cons pe_str (pa_cons pe_str (pa_cons pe_str (pa_cons pe_str (pa_cons pe_str (pa_cons pe_str pa_nil))))))) (pa_cons (pe_tup (pa_cons pe_str (pa_cons pe_str pa_nil))) (pa_cons (pe_lst pa_nil) pa_nil)))) (pa_cons (pe_tup (pa_cons (pe_lst (pa_cons pe_str (pa_cons pe_str (pa_cons pe_str (pa_cons pe_str (pa_cons pe_str pa_nil)))))) (pa_cons (pe_tup (pa_cons pe_str (pa_cons pe_str pa_nil))) (pa_cons (pe_lst pa_nil) pa_nil)))) pa_nil))))) pa_nil))) (pg_tup rfl (pgs_cons (pg_name (i := 1) scKn.nd rfl (.inl rfl)) (pgs_cons (pg_name (i := 2) scKn.nd rfl (.inl rfl)) (pgs_cons (pg_name (i := 3) scKn.nd rfl (.inl rfl)) pgs_nil)))))
      (C8.pss_cut (ps_set (i := 4) scKn.nd rfl (.inl rfl) (pe_callB call_len_str (by rfl) B.len PySem.boot_len (pa_cons (pe_ix ix_list (pv 1) pe_int (fun _ _ => rfl)) pa_nil)))
      (C8.pss_cut (ps_set (i := 5) scKn.nd rfl (.inl rfl) (pe_call GS r2 (by rfl) gS FS.kp bS .nil pass0 (pa_cons (pv 0) (pa_cons (pe_listRg rfl (by rfl) B.list (prg_1 (by rfl) B.range (pv 4))) pa_nil))))
      (C8.pss_cut (ps_setLc (i := 7) (own := [("_law_k", 6)]) (g := gName 6) (by rfl) scKn.nd rfl rfl (sw_true rfl rfl rfl (by decide +kernel)) (pi_range1 (by rfl) B.range (pa_cons (pv 4) pa_nil)) (blkOk_by (own := [("_law_k", 6)]) (N := ["_law_pen_here", "_law_texts", "_law_hidden", "_law_gauge", "_law_size", "_law_order", "_law_k", "_law_kinds_here", "_law_found", "_law_text_here", "_law_string", "_law_kind", "_law_many"]) (sc := defScope sKn) (by decide +kernel))
          (fun _ _ _ _ _ => pg_name (i := 6) scKn.nd rfl (Or.inl rfl)) (fun _ _ _ _ _ => pts_nil) (fun _ _ _ _ _ => pe_call GP r2 (by rfl) gP FP.kp bP .nil pass0 (pa_cons (pv 0) (pa_cons (pe_lst (pa_cons pe_str (pa_cons pe_str (pa_cons pe_str (pa_cons pe_str (pa_cons pe_str (pa_cons pe_str pa_nil))))))) pa_nil))))
      (C8.pss_cut (ps_set (i := 8) scKn.nd rfl (.inl rfl) (pe_lst pa_nil))
      (C8.pss_cut (ps_for PassesOwn.never rfl (pi_list (pe_op op_cat (pe_op op_cat (pv 1) (pe_callTy call_list_of (by rfl) B.list bootL (pa_cons (pv 2) pa_nil))) (pv 3))) (pg_name (i := 9) scKn.nd rfl (.inr rfl))
        (C8.pss_cut (ps_set (i := 10) scKn.nd rfl (.inl rfl) (pe_call GT r1 (by rfl) gT FT.kp bT .nil pass0 (pa_cons (pe_bm PySem.F.plainAttrs_str PySem.F.slot_str_join PySem.F.type_str_join mt_join pe_str (pa_cons (pe_lc (own := [("_law_k", 6)]) (g := gName 6) (by rfl) scKn.nd (pi_list (pv 5)) (blkOk_by (own := [("_law_k", 6)]) (N := ["_law_pen_here", "_law_texts", "_law_hidden", "_law_gauge", "_law_size", "_law_order", "_law_k", "_law_kinds_here", "_law_found", "_law_text_here", "_law_string", "_law_kind", "_law_many"]) (sc := defScope sKn) (by decide +kernel))
            (fun _ _ _ _ _ => pg_name (i := 6) scKn.nd rfl (Or.inl rfl)) (fun _ _ _ _ _ => pts_nil) (fun _ _ _ _ _ => pe_ix ix_str (pv 9) (pv 6) (fun _ _ => rfl))) pa_nil)) pa_nil)))
        (C8.pss_cut (ps_for PassesOwn.never rfl (pi_range1 (by rfl) B.range (pa_cons (pv 4) pa_nil)) (pg_name (i := 6) scKn.nd rfl (.inl rfl))
          (pss_one (ps_for PassesOwn.never rfl (pi_str (pe_ix ix_list (pv 7) (pv 6) (fun _ _ => rfl))) (pg_name (i := 11) scKn.nd rfl (.inl rfl))
            (pss_one (ps_set (i := 10) scKn.nd rfl (.inl rfl) (pe_call GG r1 (by rfl) gG FG.kp bG .nil pass0 (pa_cons (pv 10) (pa_cons (pv 11) (pa_cons (pe_lst (pa_cons (pv 6) pa_nil)) pa_nil)))))))))
        (pss_one (ps_expr (pe_bm PySem.F.plainAttrs_list PySem.F.slot_list_append PySem.F.type_list_append mt_append (pv 8) (pa_cons (pe_tup (pa_cons (pe_ix ix_tup (pv 10) pe_int (fun _ _ => rfl)) (pa_cons (pe_ix ix_tup (pv 10) pe_int (fun _ _ => rfl)) (pa_cons (pe_call GD r1 (by rfl) gD FD.kp bD .nil pass0 (pa_cons (pv 0) (pa_cons pe_int pa_nil))) pa_nil)))) pa_nil)))))))
      (C8.pss_cut (ps_set (i := 12) scKn.nd rfl (.inl rfl) (pe_callB call_len_seq (by rfl) B.len PySem.boot_len (pa_cons (pv 1) pa_nil)))
      (pss_one (ps_ret (pe_disp (pps_cons pe_str (pv 4) (pps_cons pe_str (pe_slice sl_list (pv 8) po_none (po_some (pv 12))) (pps_cons pe_str (pe_slice sl_list (pv 8) (po_some (pe_op op_add (pv 12) pe_int)) po_none) (pps_cons pe_str (pe_lst (pa_cons (pe_tup (pa_cons (pe_ix ix_list (pv 8) (pv 12) (fun _ _ => rfl)) (pa_cons (pe_ix ix_list (pv 8) (pe_op op_add (pv 12) pe_int) (fun _ _ => rfl)) pa_nil))) pa_nil)) pps_nil)))) (by rfl) (by rfl) (fun z => by cases z) (by decide)))))))))), ?_⟩
    obtain ⟨op, oc⟩ := hP.some
    refine ⟨fun σ' H' => ∃ (d : KT4) (l t g : Addr), d ∈ k4 ∧ σ' = [some (.ref p), some (.ref l), some (.ref t), some (.ref g), none, none, none, none, none, none, none, none, none] ∧ KB p H H' ∧ PenAt H' p c (k0 + 1) ∧ H' l = some (.lst (strV d.ts)) ∧ H' t = some (.tup [.str d.h1, .str d.h2]) ∧ H' g = some (.lst (strV d.gs)), ?_, ?_⟩
    · refine ⟨_, rfl, ?_⟩
      refine tCons_i (tLst_i (tCons_i (kt_of (rs := strV ["XZZXI", "IXZZX", "XIXZZ", "ZXIXZ"]) (hs := strV ["XXXXX", "ZZZZZ"]) (gs := strV []) ?_ ?_ ?_ _ _ fun a1 H1 s1 t1 => ?_)))
      · exact fun H Z h => ⟨by show 4 ≤ sizeLine; decide, h⟩
      · exact fun H Z h => ⟨by show 2 ≤ sizeLine; decide, h⟩
      · exact fun H Z h => ⟨by show 0 ≤ sizeLine; decide, h⟩
      refine (tCons_i (kt_of (rs := strV ["XXXX", "ZZZZ"]) (hs := strV ["XXII", "ZIZI"]) (gs := strV ["XIXI", "IXIX", "ZZII", "IIZZ"]) ?_ ?_ ?_ _ _ fun a2 H2 s2 t2 => ?_))
      · exact fun H Z h => ⟨by show 2 ≤ sizeLine; decide, h⟩
      · exact fun H Z h => ⟨by show 2 ≤ sizeLine; decide, h⟩
      · exact fun H Z h => ⟨by show 4 ≤ sizeLine; decide, h⟩
      refine (tCons_i (kt_of (rs := strV ["IIIXXXX", "IXXIIXX", "XIXIXIX", "IIIZZZZ", "IZZIIZZ", "ZIZIZIZ"]) (hs := strV ["XXXXXXX", "ZZZZZZZ"]) (gs := strV []) ?_ ?_ ?_ _ _ fun a3 H3 s3 t3 => ?_))
      · exact fun H Z h => ⟨by show 6 ≤ sizeLine; decide, h⟩
      · exact fun H Z h => ⟨by show 2 ≤ sizeLine; decide, h⟩
      · exact fun H Z h => ⟨by show 0 ≤ sizeLine; decide, h⟩
      refine (tCons_i (kt_of (rs := strV ["ZZIIII", "IIZZII", "IIIIZZ", "XXXXII", "IIXXXX"]) (hs := strV ["ZIZIZI", "XXIIII"]) (gs := strV []) ?_ ?_ ?_ _ _ fun a4 H4 s4 t4 => ?_))
      · exact fun H Z h => ⟨by show 5 ≤ sizeLine; decide, h⟩
      · exact fun H Z h => ⟨by show 2 ≤ sizeLine; decide, h⟩
      · exact fun H Z h => ⟨by show 0 ≤ sizeLine; decide, h⟩
      refine ⟨by show 4 ≤ sizeLine; decide, fun ll nll => ?_⟩
      have s5 := same_new (o := .lst [.ref a1, .ref a2, .ref a3, .ref a4]) nll
      have sA := s1.trans (s2.trans (s3.trans (s4.trans s5)))
      refine ⟨p, c, ll, k0, _, rfl, hP.ext sA, by omega, .inl (SqL.of upd_same), by simp, by show 4 ≤ 1000; decide, fun i v H' hv P' k' => ?_⟩
      have kbA : KB p H H' := (KB.of sA).trans (KB.eq k')
      have go : ∀ (d : KT4) (a : Addr), d ∈ k4 → KTup (upd H4 ll (.lst [.ref a1, .ref a2, .ref a3, .ref a4])) a (strV d.ts) (strV [d.h1, d.h2]) (strV d.gs) → v = .ref a → gTup K 3 (gCons (gName 1) (gCons (gName 2) (gCons (gName 3) gNil))) v [some (.ref p), none, none, none, none, none, none, none, none, none, none, none, none] H' (fun σ' H' => ∃ (d : KT4) (l t g : Addr), d ∈ k4 ∧ σ' = [some (.ref p), some (.ref l), some (.ref t), some (.ref g), none, none, none, none, none, none, none, none, none] ∧ KB p H H' ∧ PenAt H' p c (k0 + 1) ∧ H' l = some (.lst (strV d.ts)) ∧ H' t = some (.tup [.str d.h1, .str d.h2]) ∧ H' g = some (.lst (strV d.gs))) := by
        rintro d a hd ⟨l, t, g, e1, e2, e3, e4⟩ rfl
        have PA := hP.ext sA
        have kU := KB.eq k'
        exact ⟨a, [.ref l, .ref t, .ref g], rfl, .inl (.inl (kb_tup PA kU e1)), rfl, _, _, rfl, _, _, rfl, _, _, rfl, rfl, d, l, t, g, hd, rfl, kbA, P', kb_lst PA kU e2, kb_tup PA kU e3, kb_lst PA kU e4⟩
      match i, hv with
      | 0, hv => exact go ⟨_, _, _, _⟩ a1 (.head _) (t1.same (s2.trans (s3.trans (s4.trans s5)))) (Option.some.inj hv).symm
      | 1, hv => exact go ⟨_, _, _, _⟩ a2 (.tail _ (.head _)) (t2.same (s3.trans (s4.trans s5))) (Option.some.inj hv).symm
      | 2, hv => exact go ⟨_, _, _, _⟩ a3 (.tail _ (.tail _ (.head _))) (t3.same (s4.trans s5)) (Option.some.inj hv).symm
      | 3, hv => exact go ⟨_, _, _, _⟩ a4 (.tail _ (.tail _ (.tail _ (.head _)))) (t4.same s5) (Option.some.inj hv).symm
      | i + 4, hv => cases hv
    rintro _ H1 ⟨d, l, t, g, hd, rfl, kb1, P1, el, et, eg⟩
    obtain ⟨n2, n7, lt6, lt0, lg4, tx⟩ := k4_ok d hd
    refine ⟨fun σ' H' => σ' = [some (.ref p), some (.ref l), some (.ref t), some (.ref g), some (.int (d.n : Nat)), none, none, none, none, none, none, none, none] ∧ H' = H1, ?_, ?_⟩
    · cases hts : d.ts with
      | nil => rw [hts] at lt0; cases lt0
      | cons t0 tr =>
        have e0 : strV d.ts = .str t0 :: strV tr := by rw [hts]; rfl
        have ln : t0.length = d.n := (tx t0 (List.mem_append_left _ (List.mem_append_left _ (by rw [hts]; exact .head _)))).1
        refine ⟨_, rfl, l, _, _, _, rfl, rfl, SqL.of el, at_of (j := 0) rfl (by rw [e0]; rfl), _, rfl, ?_, ?_, rfl⟩
        · rw [ln]
          exact Nat.le_trans n7 (by decide)
        · show [_, _, _, _, some (V.int (t0.length : Nat)), _, _, _, _, _, _, _, _] = _
          rw [ln]
    rintro _ H2 ⟨rfl, e2⟩
    have e2' := e2.symm
    subst e2'
    refine ⟨fun σ' H' => ∃ (o : Addr) (os : List Nat), σ' = [some (.ref p), some (.ref l), some (.ref t), some (.ref g), some (.int (d.n : Nat)), some (.ref o), none, none, none, none, none, none, none] ∧ KB p H1 H' ∧ PenAt H' p c (k0 + 1 + d.n) ∧ os.Perm (List.range d.n) ∧ H' o = some (.lst (natV os)), ?_, ?_⟩
    · refine ⟨_, rfl, _, rfl, _, rfl, ?_, fun q0 nq0 => ?_⟩
      · exact ⟨by decide, by decide, by omega, by omega, by omega⟩
      have eV : rgV 0 (d.n : Int) = natV (List.range d.n) := by
        unfold rgV natV
        rw [show ((d.n : Int) - 0).toNat = d.n by omega]
        refine List.map_congr_left fun j _ => ?_
        show V.int (0 + (j : Int)) = _
        rw [Int.zero_add]
      rw [eV]
      refine ⟨p, c, q0, _, _, rfl, P1.ext (same_new nq0), by omega, SqL.of upd_same, by rw [natV_len, List.length_range]; omega, fun H8 r ys pm hl hm hP8 k8 nr er => ?_⟩
      rw [natV_len, List.length_range] at hl hP8
      have kb8 : KB p H1 H8 := (KB.of (same_new nq0)).trans k8
      obtain ⟨us, rfl⟩ : ∃ us : List Nat, ys = natV us := by
        refine ⟨ys.map fun v => match v with | .int i => i.toNat | _ => 0, ?_⟩
        unfold natV
        rw [List.map_map]
        refine (List.map_id ys).symm.trans (List.map_congr_left fun y hy => ?_)
        obtain ⟨j, _, rfl⟩ := List.mem_map.mp (hm y hy)
        rfl
      refine ⟨r, us, rfl, kb8, hP8, ?_, er⟩
      have pm' := pm.map (fun v => match v with | V.int i => i.toNat | _ => 0)
      unfold natV at pm'
      rw [List.map_map, List.map_map] at pm'
      have idm : ∀ L : List Nat, L.map ((fun v => match v with | V.int i => i.toNat | _ => 0) ∘ fun n : Nat => V.int (n : Nat)) = L := fun L => (List.map_congr_left fun x _ => rfl).trans (List.map_id L)
      rwa [idm, idm] at pm'
    rintro _ H3 ⟨o, os, rfl, kb3, P3, pos, eo⟩
    have kb13 : KB p H H3 := kb1.trans kb3
    refine ⟨fun σ' H' => ∃ (kl : Addr) (ks : List Str), σ' = [some (.ref p), some (.ref l), some (.ref t), some (.ref g), some (.int (d.n : Nat)), some (.ref o), none, some (.ref kl), none, none, none, none, none] ∧ KB p H3 H' ∧ PenAt H' p c (k0 + 1 + d.n + d.n) ∧ ks.length = d.n ∧ (∀ s ∈ ks, s ∈ (["", "h", "s", "hs", "sh", "hsh"] : List Str)) ∧ H' kl = some (.lst (strV ks)), ?_, ?_⟩
    · refine ⟨_, rfl, _, rfl, by omega, by omega, fun D nD => ?_⟩
      rw [Int.toNat_natCast]
      have Dp : p ≠ D := by obtain ⟨⟨o', e⟩, _⟩ := P3.some; exact ne_of_none e nD
      have Dc : c ≠ D := by obtain ⟨_, o', e⟩ := P3.some; exact ne_of_none e nD
      refine lc_range (lo := 0) (n := d.n) (Pv := fun j Hc => ∃ ks : List Str, KB p H3 Hc ∧ PenAt Hc p c (k0 + 1 + d.n + j) ∧ ks.length = j ∧ (∀ s ∈ ks, s ∈ (["", "h", "s", "hs", "sh", "hsh"] : List Str)) ∧ Hc D = some (.lst (strV ks))) ⟨[], KB.of (same_new nD), P3.ext (same_new nD), rfl, fun s h => (by cases h), upd_same⟩ ?_ ?_
      · rintro j Hc hj ⟨ks, kc, Pc, lks, mks, ec⟩
        refine ⟨rfl, _, rfl, by show 6 ≤ sizeLine; decide, fun q0 nq0 => ?_⟩
        refine ⟨p, c, q0, _, _, rfl, Pc.ext (same_new nq0), by omega, .inl (SqL.of upd_same), by simp, by show 6 ≤ 1000; decide, fun i v H' hv P' k' => ?_⟩
        have kU : KB p Hc H' := (KB.of (same_new nq0)).trans (KB.eq k')
        obtain ⟨s, hs, rfl⟩ : ∃ s : Str, s ∈ (["", "h", "s", "hs", "sh", "hsh"] : List Str) ∧ v = .str s := by
          have : v ∈ strV ["", "h", "s", "hs", "sh", "hsh"] := List.mem_of_getElem? hv
          obtain ⟨s, hs, e⟩ := List.mem_map.mp this
          exact ⟨s, hs, e.symm⟩
        refine ⟨_, kb_lst Pc kU ec, ?_, ks ++ [s], (kc.trans kU).up nD, ?_, by rw [List.length_append, lks]; rfl, fun x hx => ?_, ?_⟩
        · show (List.map _ ks).length < sizeLine
          rw [List.length_map, lks]
          exact Nat.lt_of_lt_of_le hj (Nat.le_trans n7 (by decide))
        · exact P'.same (upd_ne Dp) (upd_ne Dc)
        · rcases List.mem_append.mp hx with h | h
          · exact mks x h
          · rw [List.mem_singleton.mp h]
            exact hs
        · rw [upd_same]
          unfold strV
          rw [List.map_append]
          rfl
      · rintro Hc ⟨ks, kc, Pc, lks, mks, ec⟩
        exact ⟨D, ks, rfl, kc, Pc, lks, mks, ec⟩
    rintro _ H4 ⟨kl, ks, rfl, kb4, P4, lks, mks, ekl⟩
    have kb14 : KB p H H4 := kb13.trans kb4
    refine ⟨fun σ' H' => ∃ fo : Addr, σ' = [some (.ref p), some (.ref l), some (.ref t), some (.ref g), some (.int (d.n : Nat)), some (.ref o), none, some (.ref kl), some (.ref fo), none, none, none, none] ∧ Same H4 H' ∧ H4 fo = none ∧ H' fo = some (.lst []), ⟨by show 0 ≤ sizeLine; decide, fun l' nl => ⟨l', rfl, same_new nl, nl, upd_same⟩⟩, ?_⟩
    rintro _ H5 ⟨fo, rfl, s5, nfo, efo⟩
    have n1 : 0 < d.n := by omega
    have kb15 : KB p H H5 := kb14.sm s5
    have P5 := P4.ext s5
    have el5 : H5 l = some (.lst (strV d.ts)) := s5 _ _ (kb_lst P1 (kb3.trans kb4) el)
    have et5 : H5 t = some (.tup [.str d.h1, .str d.h2]) := s5 _ _ (kb_tup P1 (kb3.trans kb4) et)
    have eg5 : H5 g = some (.lst (strV d.gs)) := s5 _ _ (kb_lst P1 (kb3.trans kb4) eg)
    have eo5 : H5 o = some (.lst (natV os)) := s5 _ _ (kb_lst P3 kb4 eo)
    have ekl5 : H5 kl = some (.lst (strV ks)) := s5 _ _ ekl
    have los : os.length = d.n := by rw [pos.length_eq, List.length_range]
    have oslt : ∀ k ∈ os, k < d.n := fun k hk' => List.mem_range.mp (pos.mem_iff.mp hk')
    have lall : d.all.length ≤ 12 := by unfold KT4.all; rw [List.length_append, List.length_append]; show d.ts.length + 2 + d.gs.length ≤ 12; omega
    let T : T2 → T2 := fun u => gfold (ksG ks d.n) (pm os u)
    have ST : Symp d.n T := Symp.fold (Symp.pm pos) (ksG_ok n1 lks mks)
    refine ⟨fun σ' H' => ∃ (v6 v9 v10 v11 : Option V) (FL : RLs), σ' = [some (.ref p), some (.ref l), some (.ref t), some (.ref g), some (.int (d.n : Nat)), some (.ref o), v6, some (.ref kl), some (.ref fo), v9, v10, v11, none] ∧ (∀ b o, b ≠ p → b ≠ fo → H5 b = some o → H' b = some o) ∧ PenAt H' p c (k0 + 1 + d.n + d.n + d.all.length) ∧ H' fo = some (.lst (refR FL)) ∧ RsAt d.n H' FL ∧ FL.map bz = d.all.map (fun s => T (tb s)), ?_, ?_⟩
    · refine ⟨_, rfl, _, rfl, t, _, rfl, .inr (.inl (.inl et5)), fun l2 nl2 => ⟨l, l2, _, _, rfl, rfl, same_new nl2 _ _ el5, upd_same, ?_, fun l3 nl3 => ⟨_, rfl, l3, g, _, _, rfl, rfl, upd_same, same_new nl3 _ _ (same_new nl2 _ _ eg5), ?_, fun l4 nl4 => ⟨l4, rfl, ⟨_, SqL.of upd_same⟩, ?_⟩⟩⟩⟩
      · show (strV d.ts).length + 2 ≤ sizeLine
        unfold strV
        rw [List.length_map]
        exact Nat.le_trans (by omega : _ ≤ 8) (by decide)
      · show (strV d.ts ++ [V.str d.h1, V.str d.h2]).length + (strV d.gs).length ≤ sizeLine
        unfold strV
        rw [List.length_append, List.length_map, List.length_map]
        show d.ts.length + 2 + d.gs.length ≤ _
        exact Nat.le_trans (by omega : _ ≤ 12) (by decide)
      have s6 := (same_new (o := .lst [.str d.h1, .str d.h2]) nl2).trans ((same_new (o := .lst (strV d.ts ++ [.str d.h1, .str d.h2])) nl3).trans (same_new (o := .lst ((strV d.ts ++ [.str d.h1, .str d.h2]) ++ strV d.gs)) nl4))
      have eall : ((strV d.ts ++ [V.str d.h1, V.str d.h2]) ++ strV d.gs) = strV d.all := by unfold KT4.all strV; rw [List.map_append, List.map_append]; rfl
      have e4 : (upd (upd (upd H5 l2 (.lst [.str d.h1, .str d.h2])) l3 (.lst (strV d.ts ++ [.str d.h1, .str d.h2]))) l4 (.lst ((strV d.ts ++ [.str d.h1, .str d.h2]) ++ strV d.gs))) l4 = some (.lst (strV d.all)) := by rw [upd_same, eall]
      have l4f : l4 ≠ fo := (ne_of_none (same_new nl3 _ _ (same_new nl2 _ _ efo)) nl4).symm
      generalize (upd (upd (upd H5 l2 (.lst [.str d.h1, .str d.h2])) l3 (.lst (strV d.ts ++ [.str d.h1, .str d.h2]))) l4 (.lst ((strV d.ts ++ [.str d.h1, .str d.h2]) ++ strV d.gs))) = H6 at s6 e4 ⊢
      have P6 := P5.ext s6
      have l4p : l4 ≠ p := fun z => by obtain ⟨ns, a, d', f', hp, _⟩ := P6; rw [z, hp] at e4; cases e4
      refine for_list (K := K) (xs := strV d.all) (fun i σ' H' => ∃ (v6 v9 v10 v11 : Option V) (FL : RLs), σ' = [some (.ref p), some (.ref l), some (.ref t), some (.ref g), some (.int (d.n : Nat)), some (.ref o), v6, some (.ref kl), some (.ref fo), v9, v10, v11, none] ∧ (∀ b o, b ≠ p → b ≠ fo → H6 b = some o → H' b = some o) ∧ PenAt H' p c (k0 + 1 + d.n + d.n + i) ∧ H' fo = some (.lst (refR FL)) ∧ RsAt d.n H' FL ∧ FL.map bz = (d.all.take i).map (fun s => T (tb s))) ⟨none, none, none, none, [], rfl, fun b o _ _ e => e, P5.ext s6, s6 _ _ efo, fun r hr => (by cases hr), rfl⟩ (fun i σ' H' _ ⟨_, _, _, _, _, _, kp, P', _⟩ => SqL.of (kp _ _ l4p l4f e4)) ?_ ?_
      · rintro i y _ Hi hy ⟨v6, v9, v10, v11, FL, rfl, kp, Pi, efi, hFL, mFL⟩
        obtain ⟨s, hs, rfl⟩ : ∃ s, d.all[i]? = some s ∧ y = V.str s := by
          unfold strV at hy
          rw [List.getElem?_map] at hy
          obtain ⟨s, hs, e⟩ := Option.map_eq_some_iff.mp hy
          exact ⟨s, hs, e.symm⟩
        have ils : i < d.all.length := (List.getElem?_eq_some_iff.mp hs).1
        obtain ⟨ls, Ls⟩ := tx s (List.mem_of_getElem? hs)
        have lsL : s.cps.toList.length = d.n := by rw [← ls]; simp [Str.length]
        have lw : ∀ {x : Addr} {xs : List V}, H5 x = some (.lst xs) → x ≠ fo → Hi x = some (.lst xs) := fun {x xs} e n => kp _ _ (fun z => by obtain ⟨ns, a, d', f', hp, _⟩ := P5; rw [z, hp] at e; cases e) n (s6 _ _ e)
        have nf : ∀ {x : Addr} {ob : HO}, H4 x = some ob → x ≠ fo := fun e => ne_of_none e nfo
        have eoi : Hi o = some (.lst (natV os)) := lw eo5 (nf (kb_lst P3 kb4 eo))
        have ekli : Hi kl = some (.lst (strV ks)) := lw ekl5 (nf ekl)
        let LL : List Nat := os.map fun k => s.cps.toList.getD k 0
        have lLL : LL.length = d.n := by show (List.map _ os).length = _; rw [List.length_map, los]
        have L8 : Lts8 LL := fun ch hc => by
          obtain ⟨k, hk', rfl⟩ := List.mem_map.mp hc
          have hk2 : k < s.cps.toList.length := by rw [lsL]; exact oslt k hk'
          refine Ls _ ?_
          rw [List.getD_eq_getElem?_getD, List.getElem?_eq_getElem hk2]
          exact List.getElem_mem _
        refine ⟨fun σ' H' => ∃ (r : Addr) (u : T3), σ' = [some (.ref p), some (.ref l), some (.ref t), some (.ref g), some (.int (d.n : Nat)), some (.ref o), v6, some (.ref kl), some (.ref fo), some (.str s), some (.ref r), v11, none] ∧ Same Hi H' ∧ TrAt H' r u ∧ Fit d.n u ∧ (u.1, u.2.1) = pm os (tb s), ?_, ?_⟩
        · refine ⟨rfl, _, rfl, o, rfl, ⟨_, SqL.of eoi⟩, fun D nD => ?_⟩
          refine lc_list (K := K) (a := o) (xs := natV os) (Pv := fun j Hc => Same Hi Hc ∧ Hc D = some (.lst (((sgs LL).map V.str).take j))) ⟨same_new nD, upd_same⟩ (fun j Hc _ ⟨sc, _⟩ => SqL.of (sc _ _ eoi)) ?_ ?_
          · rintro j y Hc hj ⟨sc, ec⟩
            obtain ⟨kk', hk', rfl⟩ := natV_at hj
            have hk2 : kk' < s.cps.toList.length := by rw [lsL]; exact oslt _ (List.mem_of_getElem? hk')
            refine ⟨rfl, _, rfl, _, rfl, s, _, s.cps.toList.getD kk' 0, rfl, rfl, ?_, atI_nat ?_, _, ec, ?_, same_put0 sc nD, ?_⟩
            · rw [ls]
              exact Nat.le_trans n7 (by decide)
            · rw [List.getD_eq_getElem?_getD, List.getElem?_eq_getElem hk2]
              rfl
            · rw [List.length_take]
              refine Nat.lt_of_le_of_lt (Nat.min_le_right _ _) ?_
              unfold sgs
              rw [List.length_map, List.length_map, lLL]
              exact Nat.lt_of_le_of_lt n7 (by decide)
            · rw [upd_same]
              have eL : ((sgs LL).map V.str)[j]? = some (V.str ⟨#[s.cps.toList.getD kk' 0]⟩) := by
                unfold sgs
                rw [List.getElem?_map, List.getElem?_map]
                show ((((os.map fun k => s.cps.toList.getD k 0))[j]?).map _).map _ = _
                rw [List.getElem?_map, hk']
                rfl
              rw [take_snoc eL]
          · rintro Hc ⟨sc, ec⟩
            rw [natV_len, List.take_of_length_le (by unfold sgs; rw [List.length_map, List.length_map, lLL, los]; exact Nat.le_refl _)] at ec
            refine ⟨_, D, sgs LL, rfl, rfl, .inl (SqL.of ec), ?_, ?_⟩
            · rw [sgs_len, lLL, show ("" : Str).length = 0 from by decide +kernel]
              exact Nat.le_trans (by omega : _ ≤ 100) (by decide)
            · rw [join_sgs]
              refine ⟨LL, rfl, L8, by omega, fun H' r s' nr er => ⟨r, (bv lx LL, bv lz LL, 0), rfl, sc.trans s', er, oft_fit (by omega), ?_⟩⟩
              show (bv lx LL, bv lz LL) = (pb os (bv lx s.cps.toList), pb os (bv lz s.cps.toList))
              rw [bv_pb lx_lt os fun k hk' => by rw [lsL]; exact oslt k hk', bv_pb lz_lt os fun k hk' => by rw [lsL]; exact oslt k hk']
        rintro _ Hj ⟨r, u, rfl, sj, tu, fu, eu⟩
        refine ⟨fun σ' H' => ∃ (v6 v11 : Option V) (r : Addr) (u : T3), σ' = [some (.ref p), some (.ref l), some (.ref t), some (.ref g), some (.int (d.n : Nat)), some (.ref o), v6, some (.ref kl), some (.ref fo), some (.str s), some (.ref r), v11, none] ∧ Same Hi H' ∧ TrAt H' r u ∧ Fit d.n u ∧ (u.1, u.2.1) = T (tb s), ?_, ?_⟩
        · refine ⟨_, rfl, _, rfl, ?_⟩
          refine ⟨by omega, by omega, ?_⟩
          rw [Int.toNat_natCast]
          refine for_range (lo := 0) (n := d.n) (fun j σ' H' => ∃ (v6 v11 : Option V) (r : Addr) (u : T3), σ' = [some (.ref p), some (.ref l), some (.ref t), some (.ref g), some (.int (d.n : Nat)), some (.ref o), v6, some (.ref kl), some (.ref fo), some (.str s), some (.ref r), v11, none] ∧ Same Hi H' ∧ TrAt H' r u ∧ Fit d.n u ∧ (u.1, u.2.1) = gfold (ksG ks j) (pm os (tb s))) ⟨v6, v11, r, u, rfl, sj, tu, fu, eu⟩ ?_ ?_
          rotate_left
          · rintro _ Hc ⟨v6, v11, r, u, rfl, sc, tr, ft, e⟩
            exact ⟨v6, v11, r, u, rfl, sc, tr, ft, e⟩
          rintro j _ Hc hj ⟨v6, v11, r, u, rfl, sc, tr, ft, eg⟩
          rw [Int.zero_add]
          have hks : ks[j]? = some (ks.getD j "") := by rw [List.getD_eq_getElem?_getD, List.getElem?_eq_getElem (by omega)]; rfl
          refine ⟨_, rfl, _, rfl, kl, _, _, _, rfl, rfl, SqL.of (sc _ _ ekli), atI_nat (by unfold strV; rw [List.getElem?_map, hks]; rfl), ks.getD j "", rfl, ?_⟩
          refine for_it (walk_str (z := ks.getD j "")) (fun m σ' H' => ∃ (v11 : Option V) (r : Addr) (u : T3), σ' = [some (.ref p), some (.ref l), some (.ref t), some (.ref g), some (.int (d.n : Nat)), some (.ref o), some (.int (j : Nat)), some (.ref kl), some (.ref fo), some (.str s), some (.ref r), v11, none] ∧ Same Hi H' ∧ TrAt H' r u ∧ Fit d.n u ∧ (u.1, u.2.1) = gfold ((wG j (ks.getD j "")).take m) (gfold (ksG ks j) (pm os (tb s)))) ⟨v11, r, u, rfl, sc, tr, ft, eg⟩ (fun _ _ _ _ _ => trivial) ?_ ?_
          rotate_left
          · rintro _ Hd ⟨v11, r, u, rfl, sd, tr, ft, eg⟩
            refine ⟨_, v11, r, u, rfl, sd, tr, ft, ?_⟩
            rw [eg, ksG_snoc, gfold_app, List.take_of_length_le (by unfold wG; rw [List.length_map]; simp)]
          rintro m y _ Hd He hm ⟨v11, r, u, rfl, sd, tr, ft, eg⟩ ⟨eH, ch, hch, rfl⟩
          have eH' := eH.symm
          subst eH'
          have hcl : (ks.getD j "").cps.toList[m]? = some ch := by rw [Array.getElem?_toList]; exact hch
          have hw : (wG j (ks.getD j ""))[m]? = some ((⟨#[ch]⟩ : Str), j, 0) := by unfold wG; rw [List.getElem?_map, hcl]; rfl
          have g1 : G1 ⟨#[ch]⟩ := by
            rcases hs_ok _ (mks _ (List.mem_of_getElem? hks)) ch (List.mem_of_getElem? hcl) with e | e
            · exact .inl e
            · exact .inr (.inl e)
          refine ⟨_, rfl, _, rfl, _, rfl, by show 1 ≤ sizeLine; decide, fun qa nqa => ?_⟩
          refine ⟨r, qa, ⟨#[ch]⟩, d.n, u, [j], rfl, same_new nqa _ _ tr, ft, by omega, SqL.of upd_same, fun a ha => by rw [List.mem_singleton.mp ha]; exact hj, Nat.le_refl _, .inl g1, fun H' r2 u2 s2 nr2 tr2 ft2 eg2 => ?_⟩
          refine ⟨_, r2, u2, rfl, sd.trans ((same_new nqa).trans s2), tr2, ft2, ?_⟩
          rw [take_snoc hw, gfold_app, ← eg, ← eg2]
          rfl
        rintro _ H8 ⟨v6', v11', sa, u, rfl, s8, eu8, fu8, bu8⟩
        have sq : ∀ {G : Hp}, TrAt G sa u → SqT K G sa [.int (u.1 : Nat), .int (u.2.1 : Nat), .int (u.2.2 : Nat)] := fun e => .inl (.inl e)
        have P8 := Pi.ext s8
        have ef8 : H8 fo = some (.lst (refR FL)) := s8 _ _ efi
        refine ⟨_, rfl, .inl ⟨rfl, _, SqL.of ef8⟩, _, rfl, sa, _, _, _, rfl, rfl, sq eu8, tri0 _ _ _, _, rfl, sa, _, _, _, rfl, rfl, sq eu8, tri1 _ _ _, _, rfl, p, c, _, 2, rfl, P8, by omega, by decide, by decide, fun r0 H9 hr0 hr1 hP9 k9 => ⟨by show 3 ≤ sizeLine; decide, fun x nx => ?_⟩⟩
        have kb9 : KB p Hi H9 := (KB.of s8).trans (KB.eq k9)
        have n10 : Same H9 (upd H9 x (.tup [.int (u.1 : Nat), .int (u.2.1 : Nat), .int r0])) := same_new nx
        have kb10 := kb9.sm n10
        have ef10 := kb_lst Pi kb10 efi
        have P10 := hP9.ext n10
        have ex10 : (upd H9 x (.tup [.int (u.1 : Nat), .int (u.2.1 : Nat), .int r0])) x = some (.tup [.int (u.1 : Nat), .int (u.2.1 : Nat), .int r0]) := upd_same
        generalize upd H9 x (.tup [.int (u.1 : Nat), .int (u.2.1 : Nat), .int r0]) = H10 at n10 kb10 ef10 P10 ex10 ⊢
        have fp : fo ≠ p := fun z => by
          obtain ⟨ns, a, d, f, hp, _⟩ := P10
          rw [z, hp] at ef10
          cases ef10
        have fc : fo ≠ c := fun z => by
          obtain ⟨ns, a, d, f, hp, hc, _⟩ := P4
          rw [z, hc] at nfo
          cases nfo
        have lFL : FL.length = i := by
          have := congrArg List.length mFL
          rw [List.length_map, List.length_map, List.length_take] at this
          omega
        refine ⟨fo, _, _, rfl, rfl, ef10, ?_, v6', _, _, v11', FL ++ [(x, (u.1, u.2.1, r0.toNat))], rfl, fun b ob hb hf e => ?_, P10.same (upd_ne fp.symm) (upd_ne fc.symm), ?_, RsAt.put ef10 fun r' h' => ?_, ?_⟩
        · rw [refR_len, lFL]
          exact Nat.lt_of_lt_of_le ils (Nat.le_trans lall (by decide))
        · rw [upd_ne hf]
          exact kb10 _ _ (kp _ _ hb hf e) hb
        · rw [upd_same]
          unfold refR
          rw [List.map_append]
          rfl
        · rcases List.mem_append.mp h' with k' | k'
          · exact kb_rs Pi kb10 hFL r' k'
          · rw [List.mem_singleton.mp k']
            refine ⟨?_, fu8.1, fu8.2.1, by show r0.toNat < 2; omega⟩
            have : r0 = ((r0.toNat : Nat) : Int) := by omega
            rw [this] at ex10
            exact ex10
        · rw [take_snoc hs, List.map_append, List.map_append, mFL]
          exact congrArg (_ ++ [·]) bu8
      · rintro _ Hc ⟨v6, v9, v10, v11, FL, rfl, kp, P', ef, hF, mF⟩
        have lx' : (strV d.all).length = d.all.length := List.length_map ..
        rw [lx'] at P' mF
        rw [List.take_length] at mF
        exact ⟨v6, v9, v10, v11, FL, rfl, fun b o' hb hf e => kp _ _ hb hf (s6 _ _ e), P', ef, hF, mF⟩
    rintro _ H7 ⟨v6, v9, v10, v11, FL, rfl, kp7, P7, ef7, hF7, mF7⟩
    have el7 : H7 l = some (.lst (strV d.ts)) := kp7 _ _ (fun z => by obtain ⟨ns, a, d', f', hp, _⟩ := P5; rw [z, hp] at el5; cases el5) (ne_of_none (kb_lst P1 (kb3.trans kb4) el) nfo) el5
    refine ⟨fun σ' H' => σ' = [some (.ref p), some (.ref l), some (.ref t), some (.ref g), some (.int (d.n : Nat)), some (.ref o), v6, some (.ref kl), some (.ref fo), v9, v10, v11, some (.int (d.ts.length : Nat))] ∧ H' = H7, ?_, ?_⟩
    · refine ⟨_, rfl, l, _, rfl, .inl (SqL.of el7), ?_, rfl⟩
      show [_, _, _, _, _, _, _, _, _, _, _, _, some (V.int ((strV d.ts).length : Nat))] = _
      unfold strV
      rw [List.length_map]
    rintro _ H8 ⟨rfl, e8⟩
    have e8' := e8.symm
    subst e8'
    obtain ⟨ff, gg, ef, eg', hso⟩ := known_some hd ST mF7 fun r hr => (hF7 r hr).2
    intro dd nd
    have dp : p ≠ dd := by obtain ⟨⟨o', e⟩, _⟩ := P7.some; exact ne_of_none e nd
    have dc : c ≠ dd := by obtain ⟨_, o', e⟩ := P7.some; exact ne_of_none e nd
    have nfoH : H fo = none := off_kb2 kb14 P4 nfo
    have kb17 : KB p H H7 := fun b ob e hb => kp7 _ _ hb (ne_of_none e nfoH) (kb15 b ob e hb)
    have nd0 : H dd = none := off_kb2 kb17 P7 nd
    have n1 : Same H7 (upd H7 dd (.dK [])) := same_new nd
    have lFL : FL.length = d.all.length := by
      have := congrArg List.length mF7
      rwa [List.length_map, List.length_map] at this
    have at0 : atI (refR FL) ((d.ts.length : Nat) : Int) = some (.ref ff.1) := atI_nat (by unfold refR; rw [List.getElem?_map, ef]; rfl)
    have at1 : atI (refR FL) (((d.ts.length : Nat) : Int) + 1) = some (.ref gg.1) := by
      rw [show ((d.ts.length : Nat) : Int) + 1 = ((d.ts.length + 1 : Nat) : Int) by push_cast; rfl]
      exact atI_nat (by unfold refR; rw [List.getElem?_map, eg']; rfl)
    refine ⟨_, rfl, _, rfl, _, rfl, _, rfl, fo, _, rfl, SqL.of (n1 _ _ ef7), fun lr nlr => ?_⟩
    have n2 := n1.trans (same_new (o := .lst (cutV (refR FL) none (some (d.ts.length : Nat)))) nlr)
    have elr : (upd (upd H7 dd (.dK [])) lr (.lst (cutV (refR FL) none (some (d.ts.length : Nat))))) lr = some (.lst (refR (FL.take d.ts.length))) := by
      rw [upd_same, cutV_to]
      unfold refR
      rw [List.map_take]
    have ed2 := same_new (o := .lst (cutV (refR FL) none (some (d.ts.length : Nat)))) nlr _ _ (upd_same (H := H7) (a := dd) (o := .dK []))
    generalize upd (upd H7 dd (.dK [])) lr (.lst (cutV (refR FL) none (some (d.ts.length : Nat)))) = Ha at n2 elr ed2 ⊢
    refine ⟨_, rfl, _, rfl, _, _, rfl, rfl, _, rfl, fo, _, rfl, SqL.of (n2 _ _ ef7), fun lg nlg => ?_⟩
    have sB := same_new (o := .lst (cutV (refR FL) (some (((d.ts.length : Nat) : Int) + 2)) none)) nlg
    have elg : (upd Ha lg (.lst (cutV (refR FL) (some (((d.ts.length : Nat) : Int) + 2)) none))) lg = some (.lst (refR (FL.drop (d.ts.length + 2)))) := by
      rw [upd_same, show ((d.ts.length : Nat) : Int) + 2 = ((d.ts.length + 2 : Nat) : Int) by push_cast; rfl, cutV_from]
      unfold refR
      rw [List.map_drop]
    generalize upd Ha lg (.lst (cutV (refR FL) (some (((d.ts.length : Nat) : Int) + 2)) none)) = Hb at sB elg ⊢
    have n3 := n2.trans sB
    refine ⟨_, rfl, _, rfl, fo, _, _, _, rfl, rfl, SqL.of (n3 _ _ ef7), at0, _, rfl, _, rfl, _, _, rfl, rfl, fo, _, _, _, rfl, rfl, SqL.of (n3 _ _ ef7), at1, by show 2 ≤ sizeLine; decide, fun hp nhp => ⟨by show 1 ≤ sizeLine; decide, fun lh nlh => ?_⟩⟩
    have sC := same_new (o := .tup [.ref ff.1, .ref gg.1]) nhp
    have sD := same_new (o := .lst [.ref hp]) nlh
    have ehp := sD _ _ (upd_same (H := Hb) (a := hp) (o := .tup [.ref ff.1, .ref gg.1]))
    have elh : (upd (upd Hb hp (.tup [.ref ff.1, .ref gg.1])) lh (.lst [.ref hp])) lh = some (.lst [.ref hp]) := upd_same
    generalize upd (upd Hb hp (.tup [.ref ff.1, .ref gg.1])) lh (.lst [.ref hp]) = Hd at sD ehp elh ⊢
    have n5 := n3.trans (sC.trans sD)
    have ed5 := (sB.trans (sC.trans sD)) _ _ ed2
    have elr5 := (sB.trans (sC.trans sD)) _ _ elr
    have elg5 := (sC.trans sD) _ _ elg
    refine ⟨ed5, [((.inr "size" : Key), V.int (d.n : Nat)), (.inr "rows", .ref lr), (.inr "gauge", .ref lg), (.inr "hidden", .ref lh)], rfl, by show 4 ≤ 15; decide, ?_⟩
    rw [code_kv]
    obtain ⟨rank, gd, S, Y, L, ms, eS, fS, sc⟩ := hso hp
    have lne : ∀ {y : Addr} {xs : List V}, Hd y = some (.lst xs) → y ≠ dd := fun {y xs} e z => by rw [z, ed5] at e; cases e
    have tne : ∀ {y : Addr} {xs : List V}, Hd y = some (.tup xs) → y ≠ dd := fun {y xs} e z => by rw [z, ed5] at e; cases e
    have hFd : RsAt d.n Hd FL := hF7.same n5
    have put : ∀ {R : RLs} {o : HO}, (∀ r ∈ R, r ∈ FL) → RsAt d.n (upd Hd dd o) R := fun {R o} h r hr => by
      obtain ⟨e1, e2⟩ := hFd r (h r hr)
      refine ⟨?_, e2⟩
      unfold TrAt at *
      rw [upd_ne (tne e1)]
      exact e1
    have mf := List.mem_of_getElem? ef
    have mg' := List.mem_of_getElem? eg'
    refine q _ _ dd d.n rank gd lr lg lh _ _ S Y L ms ((kb17.sm n5).up nd0) ((P7.ext n5).same (upd_ne dp) (upd_ne dc)) ?_ dp.symm upd_same ((upd_ne (lne elr5)).trans elr5) (put fun r hr => List.mem_of_mem_take hr) ((upd_ne (lne elg5)).trans elg5) (put fun r hr => List.mem_of_mem_drop hr) ?_ ?_ fS sc
    · omega
    · rw [eS]
      exact (upd_ne (lne elh)).trans elh
    · rw [eS]
      intro q' hq'
      rw [List.mem_singleton.mp hq']
      obtain ⟨a1, b1⟩ := hFd ff mf
      obtain ⟨a2, b2⟩ := hFd gg mg'
      unfold TrAt at *
      exact ⟨(upd_ne (tne ehp)).trans ehp, (upd_ne (tne a1)).trans a1, b1, (upd_ne (tne a2)).trans a2, b2⟩
end
end KQ
namespace KQ
open PySem PySem.Spec PyProof.Rows L2
theorem zp_inn {n i m : Nat} (hn : n ≤ 7) (hi : i < 2 ^ n) (hm : m < 2 ^ n) : zp n i m = decide (m &&& maskL (lotOf n i) = m) := by
  rw [mask_lot hi, Bool.eq_iff_iff, zp_iff, decide_eq_true_iff]
  have hi' : ∀ b, n ≤ b → i.testBit b = false := fun b hb => Nat.testBit_lt_two_pow (Nat.lt_of_lt_of_le hi (Nat.pow_le_pow_right (by decide) hb))
  have hm' : ∀ b, n ≤ b → m.testBit b = false := fun b hb => Nat.testBit_lt_two_pow (Nat.lt_of_lt_of_le hm (Nat.pow_le_pow_right (by decide) hb))
  constructor
  · intro h
    refine Nat.eq_of_testBit_eq fun b => ?_
    rw [Nat.testBit_and]
    by_cases hb : b < n
    · cases e : m.testBit b with
      | false => rfl
      | true => rw [(h b (by omega)).1 hb e]; rfl
    · rw [hm' b (by omega)]
      rfl
  · intro h b _
    refine ⟨fun _ e => ?_, fun hb => by rw [hi' b hb, hm' b hb]⟩
    have := congrArg (fun x => x.testBit b) h
    rw [show (m &&& i).testBit b = (m.testBit b && i.testBit b) from Nat.testBit_and .., e, Bool.true_and] at this
    exact this
theorem zc_inn {n i : Nat} {Ks : KLs} (hn : n ≤ 7) (hi : i < 2 ^ n) (lt : ∀ k ∈ Ks, k.1.1 < 2 ^ n ∧ k.1.2 < 2 ^ n) : zc (Ks.map mkm) n i = ((Ks.map (·.1)).filter (inn (lotOf n i))).length := by
  unfold zc
  rw [List.filter_map, List.filter_map, List.length_map, List.length_map]
  refine congrArg List.length (List.filter_congr fun k hk => ?_)
  show zp n i (mkm k) = inn (lotOf n i) k.1
  exact zp_inn hn hi (or_lt2 (lt k hk).1 (lt k hk).2)
theorem zc_innE {n i : Nat} {Ks : KLs} {fE : T2 → Bool} (hn : n ≤ 7) (hi : i < 2 ^ n) (lt : ∀ k ∈ Ks, k.1.1 < 2 ^ n ∧ k.1.2 < 2 ^ n) : zc ((Ks.filter fun k => fE k.1).map mkm) n i = (((Ks.map (·.1)).filter (inn (lotOf n i))).filter fE).length := by
  rw [zc_inn hn hi fun k hk => lt k (List.mem_filter.mp hk).1]
  refine congrArg List.length ?_
  have e : (Ks.filter fun k => fE k.1).map (·.1) = (Ks.map (·.1)).filter fE := by rw [List.filter_map]; rfl
  rw [e, List.filter_filter, List.filter_filter]
  exact List.filter_congr fun p _ => Bool.and_comm ..
open Classical in
/-- the strings of a lot that meet all of gs evenly, and those of them within GT -/
theorem reg_sets {n i : Nat} {gs GT I : List Nat} (ro : RegOf n (lotOf n i) gs GT I) : ∃ W E : List Nat, W.Nodup ∧ E.Nodup ∧ (∀ x, x ∈ W ↔ Spn (singL n (lotOf n i)) x ∧ Even n x gs) ∧ (∀ x, x ∈ E ↔ x ∈ W ∧ Spn GT x) ∧ W.length = E.length * 2 ^ I.length ∧ 0 < E.length := by
  have lo := lot_ok n i
  have ndL := els_nd (singL_ind n (lo.1.imp fun h => Nat.ne_of_lt h) lo.2)
  let W := (els (singL n (lotOf n i))).filter fun x => decide (Even n x gs)
  let E := W.filter fun x => decide (Spn GT x)
  have ndW : W.Nodup := ndL.filter _
  have hW : ∀ x, x ∈ W ↔ Spn (singL n (lotOf n i)) x ∧ Even n x gs := fun x => by
    show x ∈ (els _).filter _ ↔ _
    rw [List.mem_filter, els_mem, decide_eq_true_iff]
  have hE : ∀ x, x ∈ E ↔ x ∈ W ∧ Spn GT x := fun x => by
    show x ∈ W.filter _ ↔ _
    rw [List.mem_filter, decide_eq_true_iff]
  have C := reg_count ro lo.2 ndW (ndW.filter _) hW hE
  have pE : 0 < E.length := List.length_pos_of_mem (a := 0) ((hE 0).mpr ⟨(hW 0).mpr ⟨(spn_sub _).1, fun o _ => by
    have := cx_xl (n := n) (a := 0) (b := 0) (Nat.two_pow_pos _) (Nat.two_pow_pos _) o
    rw [Nat.xor_self] at this
    have := cx_lt n 0 o
    show cx n 0 o = 0
    omega⟩, (spn_sub _).1⟩)
  exact ⟨W, E, ndW, ndW.filter _, hW, hE, C, pE⟩
theorem ev_xor {n : Nat} {ps bs : List Nat} (hps : ∀ p ∈ ps, p < n) {a b : Nat} (ha : Spn (singL n ps) a) (hb : Spn (singL n ps) b) (ea : Even n a bs) (eb : Even n b bs) : Even n (a ^^^ b) bs := by
  have lt := singL_lt hps
  rw [← phC_iff (Nat.xor_lt_two_pow (spn_lt lt ha) (spn_lt lt hb)), phC_lin, (phC_iff (spn_lt lt ha)).mpr ea, (phC_iff (spn_lt lt hb)).mpr eb]
  rfl
/-- a lot within another has no greater number -/
theorem num_le {n i j : Nat} {gs GT I J : List Nat} (sub : ∀ x, Spn (singL n (lotOf n j)) x → Spn (singL n (lotOf n i)) x) (r : RegOf n (lotOf n i) gs GT I) (r' : RegOf n (lotOf n j) gs GT J) : J.length ≤ I.length := by
  obtain ⟨W, E, ndW, ndE, hW, hE, C, pE⟩ := reg_sets r
  have lo := lot_ok n i
  have ndC : (cosets E J).Nodup := cosets_nd J E GT ndE (fun u hu => ((hE u).mp hu).2) r'.ind
  have spJ : ∀ s, Spn J s → Spn (singL n (lotOf n i)) s ∧ Even n s gs := fun s hs => by
    refine ⟨spn_le (fun a ha => sub a (r'.win a ha)) hs, ?_⟩
    exact reg_even r' (lot_ok n j).2 hs
  have le := List.Nodup.length_le_of_subset ndC (l₂ := W) fun x hx => by
    obtain ⟨u, hu, s, hs, rfl⟩ := (cosets_mem J E x).mp hx
    obtain ⟨h1, h2⟩ := (hW u).mp ((hE u).mp hu).1
    obtain ⟨h3, h4⟩ := spJ s hs
    exact (hW _).mpr ⟨(spn_sub _).2 _ _ h1 h3, ev_xor lo.2 h1 h3 h2 h4⟩
  rw [cosets_len, C] at le
  exact (Nat.pow_le_pow_iff_right (by decide)).mp (Nat.le_of_mul_le_mul_left le pE)
/-- one place more adds at most 2 -/
theorem num_two {n i p : Nat} {gs GT I J : List Nat} (hi : i < 2 ^ n) (hp : p < n) (hb : i.testBit p = true) (r : RegOf n (lotOf n i) gs GT I) (r' : RegOf n (lotOf n (i ^^^ 2 ^ p)) gs GT J) (sub : ∀ x, Spn (singL n (lotOf n (i ^^^ 2 ^ p))) x → Spn (singL n (lotOf n i)) x) : I.length ≤ J.length + 2 := by
  obtain ⟨W, E, ndW, ndE, hW, hE, C, pE⟩ := reg_sets r
  obtain ⟨W', E', ndW', ndE', hW', hE', C', pE'⟩ := reg_sets r'
  have lo := lot_ok n i
  have pp : 2 ^ p < 2 ^ n := Nat.pow_lt_pow_right (by decide) hp
  have hj : i ^^^ 2 ^ p < 2 ^ n := Nat.xor_lt_two_pow hi pp
  have lt := singL_lt lo.2
  have cc : cpl n (i ^^^ 2 ^ p) = cpl n i ^^^ 2 ^ p := (Nat.xor_assoc ..).symm
  let f : Nat → Nat := fun x => x &&& fB n (2 ^ p) (2 ^ p)
  -- within the lot, the smaller lot is where the place is empty
  have key : ∀ x, Spn (singL n (lotOf n i)) x → f x = 0 → Spn (singL n (lotOf n (i ^^^ 2 ^ p))) x := fun x hx h0 => by
    have h1 := (and_lot (cpl_lt hi) (spn_lt lt hx)).mpr (by rw [cpl_cpl]; exact hx)
    have := (and_lot (cpl_lt hj) (spn_lt lt hx)).mp ?_
    · rwa [cpl_cpl] at this
    · rw [cc, ← fB_xor, Nat.and_xor_distrib_left, h1, show x &&& fB n (2 ^ p) (2 ^ p) = 0 from h0, Nat.xor_self]
  have fxx : ∀ a b, f (a ^^^ b) = f a ^^^ f b := fun a b => Nat.and_xor_distrib_right ..
  let Y : List Nat := [fB n 0 0, fB n (2 ^ p) 0, fB n 0 (2 ^ p), fB n (2 ^ p) (2 ^ p)]
  have pb2 : ∀ x : Nat, x &&& 2 ^ p = 0 ∨ x &&& 2 ^ p = 2 ^ p := fun x => by
    have e : x &&& 2 ^ p = (x.testBit p).toNat * 2 ^ p := by
      refine Nat.eq_of_testBit_eq fun j => ?_
      rw [Nat.testBit_and, Nat.testBit_two_pow]
      have := pt_bit (x.testBit p) p j
      unfold pt at this
      rw [this]
      by_cases ej : p = j
      · subst ej
        rfl
      · rw [decide_eq_false ej, Bool.and_false, Bool.and_false]
    rw [e]
    cases x.testBit p with
    | false => exact .inl (Nat.zero_mul _)
    | true => exact .inr (Nat.one_mul _)
  have fY : ∀ x ∈ W, f x ∈ Y := fun x hx => by
    obtain ⟨x1, z1, _, _, rfl⟩ := fB_onto (spn_lt lt ((hW x).mp hx).1)
    show fB n x1 z1 &&& fB n (2 ^ p) (2 ^ p) ∈ Y
    rw [fB_and]
    rcases pb2 x1 with e1 | e1 <;> rcases pb2 z1 with e2 | e2 <;> rw [e1, e2] <;> simp [Y]
  have p0 : 2 ^ p ≠ 0 := Nat.ne_of_gt (Nat.two_pow_pos p)
  have z0 : 0 < 2 ^ n := Nat.two_pow_pos n
  have ndY : Y.Nodup := by
    have d : ∀ {a b c e : Nat}, a < 2 ^ n → b < 2 ^ n → c < 2 ^ n → e < 2 ^ n → (a ≠ c ∨ b ≠ e) → fB n a b ≠ fB n c e := fun ha hb' hc he h z => by
      obtain ⟨u, v⟩ := fB_inj ha hb' hc he z
      exact h.elim (fun k => k u) (fun k => k v)
    refine .cons ?_ (.cons ?_ (.cons ?_ (.cons (fun a h => by cases h) .nil)))
    · intro a h
      simp only [List.mem_cons, List.not_mem_nil, or_false] at h
      rcases h with rfl | rfl | rfl
      · exact d z0 z0 pp z0 (.inl p0.symm)
      · exact d z0 z0 z0 pp (.inr p0.symm)
      · exact d z0 z0 pp pp (.inl p0.symm)
    · intro a h
      simp only [List.mem_cons, List.not_mem_nil, or_false] at h
      rcases h with rfl | rfl
      · exact d pp z0 z0 pp (.inl p0)
      · exact d pp z0 pp pp (.inr p0.symm)
    · intro a h
      simp only [List.mem_cons, List.not_mem_nil, or_false] at h
      rcases h with rfl
      exact d z0 pp pp pp (.inl p0.symm)
  have one : ∀ y, (W.filter fun x => f x == y).length ≤ W'.length := fun y => by
    cases hL : W.filter fun x => f x == y with
    | nil => exact Nat.zero_le _
    | cons x0 r0 =>
      have m0 : x0 ∈ W.filter fun x => f x == y := by rw [hL]; exact .head _
      obtain ⟨w0, e0⟩ := List.mem_filter.mp m0
      rw [← hL]
      have nd : ((W.filter fun x => f x == y).map (· ^^^ x0)).Nodup := by
        refine List.pairwise_map.mpr ((ndW.filter _).imp fun {a b} h z => h ?_)
        have := congrArg (· ^^^ x0) z
        simp only [Nat.xor_assoc, Nat.xor_self, Nat.xor_zero] at this
        exact this
      have le := List.Nodup.length_le_of_subset nd (l₂ := W') fun x hx => by
        obtain ⟨a, ha, rfl⟩ := List.mem_map.mp hx
        obtain ⟨wa, ea⟩ := List.mem_filter.mp ha
        obtain ⟨a1, a2⟩ := (hW a).mp wa
        obtain ⟨b1, b2⟩ := (hW x0).mp w0
        refine (hW' _).mpr ⟨key _ ((spn_sub _).2 _ _ a1 b1) ?_, ev_xor lo.2 a1 b1 a2 b2⟩
        rw [fxx, eq_of_beq ea, eq_of_beq e0, Nat.xor_self]
      rwa [List.length_map] at le
  have tot := fibre f Y W ndY fY
  have W4 : W.length ≤ 4 * W'.length := by
    rw [tot]
    have h1 := one (fB n 0 0)
    have h2 := one (fB n (2 ^ p) 0)
    have h3 := one (fB n 0 (2 ^ p))
    have h4 := one (fB n (2 ^ p) (2 ^ p))
    exact Nat.le_trans (Nat.add_le_add h1 (Nat.add_le_add h2 (Nat.add_le_add h3 (Nat.add_le_add h4 (Nat.le_refl 0))))) (by omega)
  have EE : E'.length ≤ E.length := List.Nodup.length_le_of_subset ndE' fun x hx => by
    obtain ⟨w, t⟩ := (hE' x).mp hx
    obtain ⟨a, b⟩ := (hW' x).mp w
    exact (hE x).mpr ⟨(hW x).mpr ⟨sub x a, b⟩, t⟩
  rw [C, C'] at W4
  have : E.length * 2 ^ I.length ≤ E.length * 2 ^ (J.length + 2) := by
    refine Nat.le_trans W4 ?_
    rw [Nat.pow_add]
    have := Nat.mul_le_mul_right (2 ^ J.length) EE
    calc 4 * (E'.length * 2 ^ J.length) ≤ 4 * (E.length * 2 ^ J.length) := Nat.mul_le_mul_left _ this
      _ = E.length * (2 ^ J.length * 2 ^ 2) := by rw [Nat.mul_comm 4, Nat.mul_assoc]
  exact (Nat.pow_le_pow_iff_right (by decide)).mp (Nat.le_of_mul_le_mul_left this pE)
end KQ
namespace KQ
open PySem PySem.Spec PyProof.Rows L2
theorem scLaw : FnScope ["_law_script", "_law_pen_here", "_law_code_here", "_law_size", "_law_made", "_law_told", "_law_index", "_law_place"] ["_law_script"] (defScope sLaw) := ⟨rfl, rfl, rfl, by decide +kernel, rfl, by decide +kernel, by decide +kernel⟩
theorem dpall_ints (K : PySem.W.Frag) (H : Hp) : ∀ ns : List Int, DpAll K H (ns.map V.int) (ns.map PyData.int)
  | [] => .nil
  | n :: ns => .cons (.int n) (dpall_ints K H ns)
theorem eqv_ints : ∀ ns : List Int, PyData.eqv (.list (ns.map PyData.int)) (.list (ns.map PyData.int)) = true
  | [] => by decide +kernel
  | n :: ns => by
    have := eqv_ints ns
    simp [PyData.eqv, PyData.eqvAll] at this ⊢
    exact this
theorem lay_ints : ∀ ns : List Int, PyData.canLayAll0 (ns.map PyData.int) = true ∧ PyData.depthAll (ns.map PyData.int) ≤ 1
  | [] => by simp [PyData.canLayAll0, PyData.depthAll]
  | n :: ns => by
    obtain ⟨h1, h2⟩ := lay_ints ns
    simp [PyData.canLayAll0, PyData.depthAll, PyData.canLay0, PyData.depth, h1] at h2 ⊢
    omega
theorem sh_ints (ns : List Int) : SeqAt.shaped (.list (ns.map PyData.int)) = true := by
  obtain ⟨h1, h2⟩ := lay_ints ns
  simp [SeqAt.shaped, PyData.canLay0, PyData.depth, h1]
  omega
theorem ne_same {K : PySem.W.Frag} {H : Hp} {a b : Addr} {ns : List Int} {Q : VK} (ha : SqL K H a (ns.map V.int)) (hb : SqL K H b (ns.map V.int)) (q : Q (.bl false) H) : rNeD K (.ref a) (.ref b) H Q := by
  refine ⟨_, _, .lst ha (dpall_ints K H ns), .lst hb (dpall_ints K H ns), sh_ints ns, sh_ints ns, ?_⟩
  rw [eqv_ints]
  exact q
theorem eqv_intsT (ns : List Int) : PyData.eqv (.tuple (ns.map PyData.int)) (.tuple (ns.map PyData.int)) = true := by
  have := eqv_ints ns
  simp [PyData.eqv] at this ⊢
  exact this
theorem sh_intsT (ns : List Int) : SeqAt.shaped (.tuple (ns.map PyData.int)) = true := by
  obtain ⟨h1, h2⟩ := lay_ints ns
  simp [SeqAt.shaped, PyData.canLay0, PyData.depth, h1]
  omega
theorem lens_at {In : Nat → List Nat} {m i : Nat} (h : i < m) : atI (lensV In m) ((i : Nat) : Int) = some (.int ((In i).length : Nat)) := atI_nat (by unfold lensV natV; rw [List.getElem?_map, List.getElem?_map, List.getElem?_range h]; rfl)
theorem lens_last {In : Nat → List Nat} {m : Nat} (h : 0 < m) : atI (lensV In m) (-1) = some (.int ((In (m - 1)).length : Nat)) := by
  have l : (lensV In m).length = m := by unfold lensV; rw [natV_len, List.length_map, List.length_range]
  have ix : ixN (lensV In m).length (-1) = some (m - 1) := by
    unfold ixN
    rw [l, if_neg (by decide), if_pos (by omega)]
    congr 1
    omega
  unfold atI
  rw [ix]
  show (lensV In m)[m - 1]? = _
  unfold lensV natV
  rw [List.getElem?_map, List.getElem?_map, List.getElem?_range (by omega)]
  rfl
def kpt (n : Nat) (M : GLs) (GT : List Nat) : Int := (n : Int) - M.length - ((GT.length : Int) - M.length) / 2
def spLaw (K : PySem.W.Frag) : Sp := fun vs H Q _ => ∃ (a : Addr) (ns : List Int), vs = [.ref a] ∧ SqL K H a (ns.map V.int) ∧ ns.length ≤ 63 ∧ ∀ H', Q (.bl true) H'
section
variable {P : Program} {w : World} {K : PySem.W.Frag} {mg : Str → Option Value} {base : Heap}
set_option linter.unusedVariables false in
theorem ok_law {dvC : List V} {f C CT CB fI fE fB fBN hA lA fIs fHo fBo fHp fPa fCr fSh fBt fLg fLn fCk fRt fSo fFr fLo fC fSy fCg fCc fCh fPt fLm fRn fRb fRl fSg CG fGI CD fCI fPn fDr fPk fSu fOn fCx fTi fPr fLe fTx fOt fGa fDc fPl fCd fSc fWm fKn fSp fKi fHl fCt fAl fNu fLb : Addr} {fd dB dBN dI dIs dHo dBo dHp dPa dCr dSh dBt dLg dLn dCk dRt dSo dFr dLo dC dSy dCg dCc dCh dPt dLm dRn dRb dRl dSg dGI dCI dPn dDr dPk dSu dOn dCx dTi dPr dLe dTx dOt dGa dDc dPl dCd dSc dWm dKn dSp dKi dHl dCt dAl dNu dLb : FuncData} {tM : Tok} (F : Fun K "law" "law" sLaw f fd)
    (T_G : GEnv K w mg C CT CB fI fE fB fBN hA lA dB dBN fIs fHo fBo fHp fPa fCr fSh fBt fLg fLn fCk fRt fSo fFr fLo fC dI dIs dHo dBo dHp dPa dCr dSh dBt dLg dLn dCk dRt dSo dFr dLo dC) (T_D : DEnv K mg CG fSy fCg fCc fCh fPt fLm fRn fRb fRl fSg dSy dCg dCc dCh dPt dLm dRn dRb dRl dSg) (T_FGI : Fun K "__init__" "Group.__init__" sGI fGI dGI) (T_bGI : Binds K dGI ["self", "size", "strings"] []) (T_GC : GCl K mg CG fGI) (T_FCI : FunD K "__init__" "Code.__init__" (defArgs sCI) (defBody sCI) (defScope sCI) dvC [] fCI dCI) (T_bCI : Binds K dCI ["self", "size", "strings", "gauge", "hidden"] []) (T_DC : DCl K mg CD fCI) (T_cne : C ≠ CG) (T_n1 : CG ≠ CD) (T_n2 : C ≠ CD) (T_mm : mg "max" = none) (T_ms : mg "sum" = none) (T_mz : mg "zip" = none) (T_gM : mg "MOST_PLACES" = some (.int 12 tM)) (T_FPn : Fun K "_law_pen" "_law_pen" sPen fPn dPn) (T_bPn : Binds K dPn ["_law_script"] []) (T_gPn : mg "_law_pen" = some (.ref fPn)) (T_FDr : Fun K "_law_draw" "_law_draw" sDraw fDr dDr) (T_bDr : Binds K dDr ["_law_pen_here", "_law_many"] []) (T_gDr : mg "_law_draw" = some (.ref fDr)) (T_FPk : Fun K "_law_pick" "_law_pick" sPick fPk dPk) (T_bPk : Binds K dPk ["_law_pen_here", "_law_some"] []) (T_gPk : mg "_law_pick" = some (.ref fPk)) (T_FSu : Fun K "_law_shuffled" "_law_shuffled" sShuf fSu dSu) (T_bSu : Binds K dSu ["_law_pen_here", "_law_some"] []) (T_gSu : mg "_law_shuffled" = some (.ref fSu)) (T_FOn : Fun K "_law_ones" "_law_ones" sOnes fOn dOn) (T_bOn : Binds K dOn ["_law_number"] []) (T_gOn : mg "_law_ones" = some (.ref fOn)) (T_FCx : Fun K "_law_crosses" "_law_crosses" sCross fCx dCx) (T_bCx : Binds K dCx ["_law_one", "_law_two"] []) (T_gCx : mg "_law_crosses" = some (.ref fCx)) (T_FTi : Fun K "_law_times" "_law_times" sLTimes fTi dTi) (T_bTi : Binds K dTi ["_law_one", "_law_two"] []) (T_gTi : mg "_law_times" = some (.ref fTi)) (T_FPr : Fun K "_law_product" "_law_product" sProd fPr dPr) (T_bPr : Binds K dPr ["_law_one", "_law_two"] []) (T_gPr : mg "_law_product" = some (.ref fPr)) (T_FLe : Fun K "_law_letters" "_law_letters" sLett fLe dLe) (T_bLe : Binds K dLe ["_law_string", "_law_size"] []) (T_gLe : mg "_law_letters" = some (.ref fLe)) (T_FTx : Fun K "_law_text" "_law_text" sText fTx dTx) (T_bTx : Binds K dTx ["_law_string", "_law_size"] []) (T_gTx : mg "_law_text" = some (.ref fTx)) (T_FOt : Fun K "_law_of_text" "_law_of_text" sOfT fOt dOt) (T_bOt : Binds K dOt ["_law_text_here"] []) (T_gOt : mg "_law_of_text" = some (.ref fOt)) (T_FGa : Fun K "_law_gate" "_law_gate" sGate fGa dGa) (T_bGa : Binds K dGa ["_law_string", "_law_kind", "_law_places"] []) (T_gGa : mg "_law_gate" = some (.ref fGa)) (T_FDc : Fun K "_law_drawn_code" "_law_drawn_code" sCode fDc dDc) (T_bDc : Binds K dDc ["_law_pen_here", "_law_size", "_law_rank", "_law_gauged"] []) (T_gDc : mg "_law_drawn_code" = some (.ref fDc)) (T_FPl : Fun K "_law_pauli" "_law_pauli" sPau fPl dPl) (T_bPl : Binds K dPl ["_law_string", "_law_size"] []) (T_gPl : mg "_law_pauli" = some (.ref fPl)) (T_FCd : Fun K "_law_code" "_law_code" sCd fCd dCd) (T_bCd : Binds K dCd ["_law_code_here"] []) (T_gCd : mg "_law_code" = some (.ref fCd)) (T_FSc : Fun K "_law_some_code" "_law_some_code" sSC fSc dSc) (T_bSc : Binds K dSc ["_law_pen_here", "_law_most"] []) (T_gSc : mg "_law_some_code" = some (.ref fSc)) (T_FWm : Fun K "_law_with_more" "_law_with_more" sWM fWm dWm) (T_bWm : Binds K dWm ["_law_pen_here", "_law_code_here"] []) (T_gWm : mg "_law_with_more" = some (.ref fWm)) (T_FKn : Fun K "_law_known_code" "_law_known_code" sKn fKn dKn) (T_bKn : Binds K dKn ["_law_pen_here"] []) (T_gKn : mg "_law_known_code" = some (.ref fKn)) (T_FSp : Fun K "_law_spanned" "_law_spanned" sSpd fSp dSp) (T_bSp : Binds K dSp ["_law_strings"] []) (T_gSp : mg "_law_spanned" = some (.ref fSp)) (T_FKi : Fun K "_law_kinds" "_law_kinds" sKin fKi dKi) (T_bKi : Binds K dKi ["_law_code_here"] []) (T_gKi : mg "_law_kinds" = some (.ref fKi)) (T_FHl : Fun K "_law_halvings" "_law_halvings" sHlv fHl dHl) (T_bHl : Binds K dHl ["_law_number"] []) (T_gHl : mg "_law_halvings" = some (.ref fHl)) (T_FCt : Fun K "_law_counted" "_law_counted" sCnt fCt dCt) (T_bCt : Binds K dCt ["_law_kinds_here", "_law_size"] []) (T_gCt : mg "_law_counted" = some (.ref fCt)) (T_FAl : Fun K "all_lots" "all_lots" sAll fAl dAl) (T_bAl : Binds K dAl ["code"] []) (T_gAl : mg "all_lots" = some (.ref fAl)) (T_FNu : Fun K "number_of_lot" "number_of_lot" sNum fNu dNu) (T_bNu : Binds K dNu ["code", "lot"] []) (T_gNu : mg "number_of_lot" = some (.ref fNu)) (T_FLb : Fun K "lot_bits" "lot_bits" sLotB fLb dLb) (T_bLb : Binds K dLb ["size", "lot"] []) (T_gLb : mg "lot_bits" = some (.ref fLb)) : FnOk P w K mg base CX0 13 f fd ["_law_script"] (spLaw K) := by
  have GPn : FnOk P w K mg base CX0 1 fPn dPn ["_law_script"] (spPen K) := ok_pen T_FPn T_G.B.int T_G.B.list
  have GDr : FnOk P w K mg base CX0 1 fDr dDr ["_law_pen_here", "_law_many"] spDraw := ok_draw T_FDr T_G.B.int T_G.B.len
  have GSc : FnOk P w K mg base CX0 7 fSc dSc ["_law_pen_here", "_law_most"] spSC := ok_sc T_FSc T_FDc T_bDc T_gDc T_FWm T_bWm T_gWm T_FDr T_bDr T_gDr T_FPk T_bPk T_gPk T_FSu T_bSu T_gSu T_FOt T_bOt T_gOt T_FGa T_bGa T_gGa T_FPr T_bPr T_gPr T_FOn T_bOn T_gOn T_FTi T_bTi T_gTi T_G.B T_mm
  have GKn : FnOk P w K mg base CX0 7 fKn dKn ["_law_pen_here"] spKn := ok_kn (k := 4) T_FKn T_FDr T_bDr T_gDr T_FPk T_bPk T_gPk T_FSu T_bSu T_gSu T_FOt T_bOt T_gOt T_FGa T_bGa T_gGa T_G.B
  have GCd : FnOk P w K mg base (L2.CX P w) 12 fCd dCd ["_law_code_here"] (spCd CD CG C) := ok_cd T_FCd T_FPl T_bPl T_gPl T_FTx T_bTx T_gTx T_FLe T_bLe T_gLe T_FCI T_bCI T_DC T_FGI T_bGI T_GC T_cne T_n1 T_n2 T_G T_D
  have GKi : FnOk P w K mg base CX0 7 fKi dKi ["_law_code_here"] spKin := ok_kin T_FKi T_FSp T_bSp T_gSp T_FCx T_bCx T_gCx T_FOn T_bOn T_gOn T_G.B
  have GCt : FnOk P w K mg base CX0 7 fCt dCt ["_law_kinds_here", "_law_size"] spCnt := ok_cnt (k := 5) T_FCt T_FHl T_bHl T_gHl T_G.B T_mz
  have GNu : FnOk P w K mg base CX0 6 fNu dNu ["code", "lot"] (spNum CD CG C) := ok_num T_FNu T_FLb T_bLb T_gLb T_D.FSg T_D.bSg T_D.gSg T_D.FRn T_D.bRn T_D.gRn T_D.FRb T_D.bRb T_D.gRb T_DC T_GC T_G.B T_ms
  have GAl : FnOk P w K mg base CX0 7 fAl dAl ["code"] (spAll CD CG C) := ok_all T_FAl T_FNu T_bNu T_gNu GNu T_gM T_DC T_G.B
  refine F.ok scLaw (fun vs H Q E h => ?_) (fun cdv A outer s H vs Q E hr h => ?_)
  · obtain ⟨a, ns, rfl, _⟩ := h
    rfl
  · obtain ⟨a, ns, rfl, hS, hlen, q⟩ := h
    have r1 : Room 1 _ := hr.mono (by decide)
    have r7 : Room 7 _ := hr.mono (by decide)
    have hu := hu_of hr
    refine ⟨_, (C8.pss_cut (ps_set (i := 1) scLaw.nd rfl (.inl rfl) (pe_call GPn r1 (by rfl) T_gPn T_FPn.kp T_bPn .nil pass0 (pa_cons (pv 0) pa_nil)))
      (C8.pss_cut (ps_set (i := 2) scLaw.nd rfl (.inl rfl) (pe_call GSc r7 (by rfl) T_gSc T_FSc.kp T_bSc .nil pass0 (pa_cons (pv 1) (pa_cons pe_int pa_nil))))
      (C8.pss_cut (ps_if (pt_cmpR op_eq (pe_call GDr r1 (by rfl) T_gDr T_FDr.kp T_bDr .nil pass0 (pa_cons (pv 1) (pa_cons pe_int pa_nil))) pe_int (nomark _)) (pss_one (ps_set (i := 2) scLaw.nd rfl (.inl rfl) (pe_call GKn r7 (by rfl) T_gKn T_FKn.kp T_bKn .nil pass0 (pa_cons (pv 1) pa_nil)))) pss_nil)
      (C8.pss_cut (ps_par (i := 3) (j := 4) rfl scLaw.nd rfl rfl (by decide) rfl rfl (pa_cons (pe_dget hu (pv 2) pe_str (fun _ _ => rfl)) (pa_cons (pe_call GCd hr (by rfl) T_gCd T_FCd.kp T_bCd .nil passL (pa_cons (pv 2) pa_nil)) pa_nil)) rfl)
      (C8.pss_cut (ps_set (i := 5) scLaw.nd rfl (.inl rfl) (pe_call GAl r7 (by rfl) T_gAl T_FAl.kp T_bAl .nil pass0 (pa_cons (pv 4) pa_nil)))
      (C8.pss_cut (ps_if (PW.pt (pw_or (pt_not (pt_val (pe_callB call_isi (by rfl) T_G.B.isi PyProof.Rows.boot_isinstance (pa_cons (pv 5) (pa_cons (pe_bltn (v := .ty "tuple") (by rfl) T_G.B.tuple bootT rfl) pa_nil))))) (pw_or1 (pt_cmpR (op_neD (hu64_of hr)) (pe_callTy call_list_of (by rfl) T_G.B.list bootL (pa_cons (pv 5) pa_nil)) (pe_call GCt r7 (by rfl) T_gCt T_FCt.kp T_bCt .nil pass0 (pa_cons (pe_call GKi r7 (by rfl) T_gKi T_FKi.kp T_bKi .nil pass0 (pa_cons (pv 2) pa_nil)) (pa_cons (pv 3) pa_nil))) (nomark _))))) pss_never pss_nil)
      (C8.pss_cut (ps_if (PW.pt (pw_or (pt_cmpR op_ne (pe_ix ix_tup (pv 5) pe_int (fun _ _ => rfl)) pe_int (nomark _)) (pw_or1 (pt_cmpR op_ne (pe_ix ix_tup (pv 5) (pe_un un_neg pe_int) (fun _ _ => rfl)) (pe_op op_mul pe_int (pe_fld (pv 4) rfl)) (nomark _))))) pss_never pss_nil)
      (C8.pss_cut (ps_for PassesOwn.never rfl (pi_range1 (by rfl) T_G.B.range (pa_cons (pe_op op_oneShl pe_int (pv 3)) pa_nil)) (pg_name (i := 6) scLaw.nd rfl (.inl rfl))
        (pss_one (ps_for PassesOwn.never rfl (pi_range1 (by rfl) T_G.B.range (pa_cons (pv 3) pa_nil)) (pg_name (i := 7) scLaw.nd rfl (.inl rfl))
          (pss_one (ps_if (PW.pt (pw_and (pt_cmpR op_eq (pe_op op_mod (pe_callTy call_int1 (by rfl) T_G.B.int bootI (pa_cons (pe_op op_shr (pv 6) (pv 7)) pa_nil)) pe_int) pe_int (nomark _)) (pw_and1 (pt_not (pt_chain op_le op_le pe_int (pe_op op_sub (pe_ix ix_tup (pv 5) (pv 6) (fun _ _ => rfl)) (pe_ix ix_tup (pv 5) (pe_op op_sub (pv 6) (pe_op op_oneShl pe_int (pv 7))) (fun _ _ => rfl))) pe_int))))) pss_never pss_nil)))))
      (pss_one (ps_ret (pe_cmpR (op_eqD (hu64_of hr)) (pe_call GAl r7 (by rfl) T_gAl T_FAl.kp T_bAl .nil pass0 (pa_cons (pv 4) pa_nil)) (pv 5) (nomark _)))))))))))), ?_⟩
    refine ⟨fun σ' H' => ∃ p pc, σ' = [some (.ref a), some (.ref p), none, none, none, none, none, none] ∧ PenAt H' p pc 0, ⟨_, rfl, a, ns, rfl, hS, hlen, fun H' p pc sm np _ hP => ⟨p, pc, rfl, hP⟩⟩, ?_⟩
    rintro _ H1 ⟨p, pc, rfl, P1⟩
    refine ⟨fun σ' H' => ∃ (d : Addr) (k n rank gd : Nat) (lr lg lh : Addr) (R G R0 : RLs) (S : PrLs) (X Y : List T3) (L : T2 → T2) (ms : List Nat), σ' = [some (.ref a), some (.ref p), some (.ref d), none, none, none, none, none] ∧ PenAt H' p pc k ∧ k ≤ 6000 ∧ H' d = some (.dK (cdk n lr lg lh)) ∧ H' lr = some (.lst (refR R)) ∧ RsAt n H' R ∧ H' lg = some (.lst (refR G)) ∧ RsAt n H' G ∧ H' lh = some (.lst (refQ (S.drop gd))) ∧ QsAt n H' (S.drop gd) ∧ (∀ s ∈ S, Fit n s.2.1.2 ∧ Fit n s.2.2.2) ∧ SomeC n rank gd R G R0 S X Y L ms ∧ d ≠ p, ?_, ?_⟩
    · refine ⟨_, rfl, p, pc, 0, rfl, P1, by decide, fun H' k' d n rank gd lr lg lh R G R0 S X Y L ms kb P2 hk nd e1 e2 e3 e4 e5 e6 e7 sc => ⟨d, k', n, rank, gd, lr, lg, lh, R, G, R0, S, X, Y, L, ms, rfl, P2, by omega, e1, e2, e3, e4, e5, e6, fun s hs => e7 s (List.mem_of_mem_drop hs), fun s hs => ⟨(e7 s hs).2.2.1, (e7 s hs).2.2.2.2⟩, sc, nd⟩⟩
    rintro _ H2 ⟨d, k2, n, rank, gd, lr, lg, lh, R, G, R0, S, X, Y, L, ms, rfl, P2, hk2, ed, elr, hR, elg, hG, elh, hQ, hF, sc, ndp⟩
    refine ⟨fun σ' H' => ∃ (d : Addr) (n rank gd : Nat) (lr lg lh : Addr) (R G R0 : RLs) (S : PrLs) (X Y : List T3) (L : T2 → T2) (ms : List Nat), σ' = [some (.ref a), some (.ref p), some (.ref d), none, none, none, none, none] ∧ H' d = some (.dK (cdk n lr lg lh)) ∧ H' lr = some (.lst (refR R)) ∧ RsAt n H' R ∧ H' lg = some (.lst (refR G)) ∧ RsAt n H' G ∧ H' lh = some (.lst (refQ (S.drop gd))) ∧ QsAt n H' (S.drop gd) ∧ (∀ s ∈ S, Fit n s.2.1.2 ∧ Fit n s.2.2.2) ∧ SomeC n rank gd R G R0 S X Y L ms, ?_, ?_⟩
    · refine ⟨_, rfl, p, pc, k2, 4, rfl, P2, by omega, by decide, by decide, fun r H3 h0 h1 P3 k3 => ?_⟩
      have kb3 : KB p H2 H3 := KB.eq k3
      have dn3 : H3 d = some (.dK (cdk n lr lg lh)) := kb3 _ _ ed ndp
      refine ⟨rfl, decide (V.int r = V.int 0), rfl, ?_⟩
      by_cases hr0 : r = 0
      · rw [decide_eq_true (congrArg V.int hr0)]
        refine iteT ⟨_, rfl, p, pc, _, rfl, P3, by omega, fun H' k' d n rank gd lr lg lh R G S Y L ms kb P4 hk nd e1 e2 e3 e4 e5 e6 e7 e8 sc => ⟨d, n, rank, gd, lr, lg, lh, R, G, R, S, [], Y, L, ms, rfl, e1, e2, e3, e4, e5, e6, e7, e8, sc⟩⟩
      · rw [decide_eq_false (fun z => hr0 (V.int.inj z))]
        exact iteF ⟨d, n, rank, gd, lr, lg, lh, R, G, R0, S, X, Y, L, ms, rfl, dn3, kb_lst P2 kb3 elr, kb_rs P2 kb3 hR, kb_lst P2 kb3 elg, kb_rs P2 kb3 hG, kb_lst P2 kb3 elh, kb_qs P2 kb3 hQ, hF, sc⟩
    clear ed elr hR elg hG elh hQ hF sc ndp P2 hk2
    rintro _ H3 ⟨d, n, rank, gd, lr, lg, lh, R, G, R0, S, X, Y, L, ms, rfl, ed, elr, hR, elg, hG, elh, hQ, hF, sc⟩
    have n2 := sc.n2
    have n7 := sc.n5
    have lenR : R.length ≤ 8 := by
      have := sc.pmR.length_eq
      rw [List.length_map, List.length_append, List.length_map, sc.len0] at this
      have := sc.lX
      have := sc.rk
      omega
    have lenS : S.length ≤ 7 := by
      have := (pair_at sc).1
      omega
    have lenG : G.length ≤ 7 := by
      have := sc.pmG.length_eq
      rw [List.length_map, List.length_append, List.length_map, flatQ_len, List.length_take] at this
      have := sc.lY
      have := sc.g2
      omega
    refine ⟨fun σ' H' => ∃ (c : Addr) (M : GLs) (GT : List Nat), σ' = [some (.ref a), some (.ref p), some (.ref d), some (.int (n : Nat)), some (.ref c), none, none, none] ∧ Same H3 H' ∧ CodeAt CD CG C H' c n M (rb n G) GT ∧ Red (gbs M) ∧ (∀ x, Spn (gbs M) x ↔ Spn (rb n R) x) ∧ GT.length ≤ 600 ∧ Red GT ∧ (∀ x, Spn GT x ↔ Spn (rb n R ++ rb n G) x), ?_, ?_⟩
    · refine ⟨_, rfl, d, _, rfl, cd_size ed, _, rfl, d, n, lr, lg, lh, R, G, S.drop gd, rfl, ed, elr, hR, elg, hG, elh, hQ, by omega, by omega, by omega, by omega, by rw [List.length_drop]; omega, fun Lp Lg HS eL eG eS => code_all sc (fun r hr => (hR r hr).2) (fun r hr => (hG r hr).2) hF Lp Lg HS eL eG eS, fun H' x M GT s' cA _ rM sM lT rT sT => ?_⟩
      exact ⟨_, _, rfl, x, M, GT, rfl, s', cA, rM, sM, lT, rT, sT⟩
    rintro _ H4 ⟨c, M, GT, rfl, s4, hC, rM, sM, lT, rT, sT⟩
    have fitR : ∀ r ∈ R, Fit n r.2 := fun r hr => (hR r hr).2
    have fitG : ∀ r ∈ G, Fit n r.2 := fun r hr => (hG r hr).2
    obtain ⟨dU, dV⟩ := sc.dims fitR fitG (gbs M) GT rM.ec sM rT.ec sT
    have hrk := sc.rk
    have lM : M.length = rank := by rw [← gbs_len]; exact dU
    have ltR : ∀ b ∈ rb n R, b < 2 ^ (2 * n) := fun b hb => by
      obtain ⟨r, hr, rfl⟩ := List.mem_map.mp hb
      rw [rb_fB (hR r hr).2]
      exact fB_lt _ _ _
    have ltG : ∀ b ∈ rb n G, b < 2 ^ (2 * n) := fun b hb => by
      obtain ⟨r, hr, rfl⟩ := List.mem_map.mp hb
      rw [rb_fB (hG r hr).2]
      exact fB_lt _ _ _
    have ltM : ∀ b ∈ gbs M, b < 2 ^ (2 * n) := fun b hb => spn_lt ltR ((sM b).mp (spn_mem hb))
    have ltT : ∀ b ∈ GT, b < 2 ^ (2 * n) := fun b hb => spn_lt (fun a ha => (List.mem_append.mp ha).elim (ltR a) (ltG a)) ((sT b).mp (spn_mem hb))
    have sub : ∀ x, Spn (gbs M) x → Spn GT x := fun x hx => (sT x).mpr (spn_le (fun a ha => spn_mem (List.mem_append_left _ ha)) ((sM x).mp hx))
    have comm : ∀ x y, Spn GT x → Spn (gbs M) y → cx n x y = 0 ∧ cx n y x = 0 := fun x y hx hy => sc.comm fitR fitG ((sT x).mp hx) ((sM y).mp hy)
    have sbar : ∀ x, Spn (gbs M ++ rb n G) x ↔ Spn GT x := fun x => by
      rw [sT]
      exact spn_iff_of (fun y hy => by
        rcases List.mem_append.mp hy with k | k
        · exact spn_le (fun z hz => spn_mem (List.mem_append_left _ hz)) ((sM y).mp (spn_mem k))
        · exact spn_mem (List.mem_append_right _ k)) (fun y hy => by
        rcases List.mem_append.mp hy with k | k
        · exact spn_le (fun z hz => spn_mem (List.mem_append_left _ hz)) ((sM y).mpr (spn_mem k))
        · exact spn_mem (List.mem_append_right _ k)) x
    have cf : CF n (gbs M) GT := ⟨by omega, by omega, rM.ec, rT.ec, ltM, ltT, comm, by rw [dU]; omega, by rw [dV]; omega⟩
    have kk0 : kpt n M GT = ((n - rank - gd : Nat) : Int) := by
      unfold kpt
      rw [lM, dV]
      omega
    have kk2 : 2 * (n - rank - gd) + rank + (rank + 2 * gd) = 2 * n := by omega
    -- the numbers of all lots
    obtain ⟨In, hIn⟩ : ∃ In : Nat → List Nat, ∀ i, RegOf n (lotOf n i) (gbs M) GT (In i) := ⟨fun i => Classical.choose (reg_ex (lotOf n i) (gbs M) GT (lot_ok n i).2), fun i => Classical.choose_spec (reg_ex (lotOf n i) (gbs M) GT (lot_ok n i).2)⟩
    obtain ⟨Bn, hBn⟩ : ∃ Bn : Nat → List Nat, ∀ i, RegOf n (lotOf n i) (gbs M ++ rb n G) (gbs M) (Bn i) := ⟨fun i => Classical.choose (reg_ex (lotOf n i) (gbs M ++ rb n G) (gbs M) (lot_ok n i).2), fun i => Classical.choose_spec (reg_ex (lotOf n i) (gbs M ++ rb n G) (gbs M) (lot_ok n i).2)⟩
    have sum2 : ∀ i, i < 2 ^ n → (Bn i).length + (In (cpl n i)).length = 2 * (n - rank - gd) := fun i hi => by
      have cl := clean hi rM.ec rT.ec ltM ltT sub comm sbar (hBn i) (hIn (cpl n i))
      rw [dU, dV] at cl
      omega
    have bare : ∀ i, (Bn i).length ≤ (In i).length := fun i => bare_le comm (fun x hx h => (sM x).mpr (sc.cen fitR fitG ((sT x).mp hx) fun y hy => h y ((sT y).mpr hy))) sbar sub (hBn i) (hIn i)
    refine ⟨fun σ' H' => ∃ tt : Addr, σ' = [some (.ref a), some (.ref p), some (.ref d), some (.int (n : Nat)), some (.ref c), some (.ref tt), none, none] ∧ Same H4 H' ∧ H' tt = some (.tup (lensV In (2 ^ n))), ⟨_, rfl, c, n, M, rb n G, GT, In, rfl, hC, n7, cf, hIn, fun H' t s' nt et => ⟨t, rfl, s', et⟩⟩, ?_⟩
    rintro _ H5 ⟨tt, rfl, s5, ett⟩
    have s35 := s4.trans s5
    have ltK0 : ∀ {Ks : KLs}, Ks.map (·.1) = (grid n (2 ^ n)).filter (com2 R) → ∀ k ∈ Ks, k.1.1 < 2 ^ n ∧ k.1.2 < 2 ^ n := fun {Ks} e k hk => by
      have : k.1 ∈ Ks.map (·.1) := List.mem_map_of_mem (f := fun k : T2 × Addr => k.1) hk
      rw [e] at this
      exact grid_mem.mp (List.mem_filter.mp this).1
    refine ⟨fun σ' H' => σ' = [some (.ref a), some (.ref p), some (.ref d), some (.int (n : Nat)), some (.ref c), some (.ref tt), none, none] ∧ Same H5 H', ?_, ?_⟩
    · refine ⟨_, rfl, .ref tt, _, _, _, true, rfl, .ty "tuple", .base (.tup ett), kit_ty (by decide +kernel), _, rfl, iteF ⟨_, rfl, tt, _, rfl, .inr (.inl (.inl ett)), fun lt nlt => ?_⟩⟩
      have s1 := same_new (o := .lst (lensV In (2 ^ n))) nlt
      have elt : (upd H5 lt (.lst (lensV In (2 ^ n)))) lt = some (.lst (lensV In (2 ^ n))) := upd_same
      generalize upd H5 lt (.lst (lensV In (2 ^ n))) = Ha at s1 elt ⊢
      have sA := s35.trans s1
      refine ⟨_, rfl, d, n, lr, lg, lh, R, G, rfl, sA _ _ ed, sA _ _ elr, hR.same sA, sA _ _ elg, hG.same sA, n7, by omega, fun Hb kd Ks psE psG s2 e1 e2 AE AG eKs => ?_⟩
      have ltK := ltK0 eKs
      have ndK : (Ks.map (·.1)).Nodup := by
        rw [eKs]
        exact (grid_nd n _).filter _
      have lenK : Ks.length ≤ 16384 := by
        have : (Ks.map (·.1)).length ≤ 16384 := by
          rw [eKs]
          refine Nat.le_trans (List.length_filter_le ..) ?_
          rw [grid_len, ← Nat.pow_add]
          exact Nat.le_trans (Nat.pow_le_pow_right (by decide) (by omega : n + n ≤ 14)) (by decide)
        rwa [List.length_map] at this
      have z0 : ((0, 0) : T2) ∈ Ks.map (·.1) := by
        rw [eKs]
        exact List.mem_filter.mpr ⟨grid_mem.mpr ⟨Nat.two_pow_pos _, Nat.two_pow_pos _⟩, com2_zero R⟩
      have zE : ((0, 0) : T2) ∈ psE := (AE.iff _).mpr (SpP.zero _)
      refine ⟨_, rfl, kd, n, Ks, _, _, _, rfl, e1, e2, ndK, n7, ltK, lenK, z0, decide_eq_true zE, fun Hc l rs s3 el lrs hrs => ?_⟩
      have eRs : rs = (List.range (2 ^ n)).map fun i => (In i).length := by
        refine List.ext_getElem? fun i => ?_
        by_cases hi : i < 2 ^ n
        · rw [List.getElem?_map, List.getElem?_range hi]
          refine hrs i hi _ ?_
          rw [zc_inn n7 hi ltK, zc_innE (fE := fun p => decide (p ∈ psE)) n7 hi ltK, eKs]
          exact lot_count hi hR hG AE sM sT (hIn i)
        · rw [List.getElem?_eq_none (by omega), List.getElem?_eq_none (by rw [List.length_map, List.length_range]; omega)]
      have elt2 := s3 _ _ (s2 _ _ elt)
      unfold lensV at elt2
      rw [natV_ints] at elt2
      rw [eRs, natV_ints] at el
      exact ne_same (SqL.of elt2) (SqL.of el) ⟨_, rfl, iteF ⟨rfl, s1.trans (s2.trans s3)⟩⟩
    rintro _ H6 ⟨rfl, s6⟩
    have ett6 := s6 _ _ ett
    have two : 0 < 2 ^ n := Nat.two_pow_pos n
    have l0 : (In 0).length = 0 := by
      have h := hIn 0
      rw [show lotOf n 0 = [] from List.filter_eq_nil_iff.mpr fun p _ => by rw [Nat.zero_testBit]; decide] at h
      exact num_none h
    have b0 : (Bn 0).length = 0 := by have := bare 0; omega
    have lL : (In (2 ^ n - 1)).length = 2 * (n - rank - gd) := by
      have := sum2 0 two
      rw [show cpl n 0 = 2 ^ n - 1 from Nat.xor_zero _] at this
      omega
    refine ⟨fun σ' H' => σ' = [some (.ref a), some (.ref p), some (.ref d), some (.int (n : Nat)), some (.ref c), some (.ref tt), none, none] ∧ Same H6 H', ?_, ?_⟩
    · obtain ⟨dx, fs, g, b, t, e, fl, gr, eb, et⟩ := id (hC.same (s5.trans s6))
      refine ⟨_, rfl, tt, _, _, _, rfl, rfl, .inl (.inl ett6), lens_at (i := 0) two, rfl, false, ?_, iteF ?_⟩
      · rw [l0]
        exact congrArg V.bl (by decide +kernel : (!decide (V.int ((0 : Nat) : Int) = V.int 0)) = false)
      refine ⟨_, rfl, _, rfl, tt, _, _, _, rfl, rfl, .inl (.inl ett6), lens_last two, _, rfl, c, CD, dx, fs, _, rfl, e, T_DC.cl, T_DC.nK, fl _ (.tail _ (.tail _ (.tail _ (.tail _ (.head _))))), _, _, rfl, rfl, ?_, rfl, false, ?_, iteF ⟨rfl, fun _ _ e => e⟩⟩
      · exact .inl ⟨by decide, by decide⟩
      · have kk : ((n : Int) - M.length - ((GT.length : Int) - M.length) / 2) = ((n - rank - gd : Nat) : Int) := kk0
        rw [lL, kk]
        have : V.int ((2 * (n - rank - gd) : Nat) : Int) = V.int (2 * ((n - rank - gd : Nat) : Int)) := congrArg V.int (by push_cast; rfl)
        exact congrArg V.bl (by rw [decide_eq_true this]; rfl)
    rintro _ H7 ⟨rfl, s7⟩
    have ett7 := s7 _ _ ett6
    refine ⟨fun σ' H' => ∃ v6 v7 : Option V, σ' = [some (.ref a), some (.ref p), some (.ref d), some (.int (n : Nat)), some (.ref c), some (.ref tt), v6, v7] ∧ Same H7 H', ?_, ?_⟩
    · have pw : ((2 : Int) ^ n) = ((2 ^ n : Nat) : Int) := by push_cast; rfl
      have nn : (0 : Int) ≤ ((2 ^ n : Nat) : Int) := Int.natCast_nonneg _
      have p7 : 2 ^ n ≤ 2 ^ 7 := Nat.pow_le_pow_right (by decide) n7
      refine ⟨_, rfl, n, rfl, rfl, by omega, _, rfl, ?_⟩
      refine ⟨by rw [pw]; omega, by rw [pw]; omega, ?_⟩
      rw [pw, Int.toNat_natCast]
      refine for_range (lo := 0) (n := 2 ^ n) (fun i σ' H' => ∃ v6 v7 : Option V, σ' = [some (.ref a), some (.ref p), some (.ref d), some (.int (n : Nat)), some (.ref c), some (.ref tt), v6, v7] ∧ Same H7 H') ⟨none, none, rfl, fun _ _ e => e⟩ ?_ ?_
      rotate_left
      · rintro _ Hc ⟨v6, v7, rfl, sc'⟩
        exact ⟨v6, v7, rfl, sc'⟩
      rintro i _ Hi hi ⟨v6, v7, rfl, si⟩
      rw [Int.zero_add]
      refine ⟨_, rfl, _, rfl, ?_⟩
      refine ⟨by omega, by omega, ?_⟩
      rw [Int.toNat_natCast]
      refine for_range (lo := 0) (n := n) (fun j σ' H' => ∃ v7 : Option V, σ' = [some (.ref a), some (.ref p), some (.ref d), some (.int (n : Nat)), some (.ref c), some (.ref tt), some (.int (i : Nat)), v7] ∧ Same H7 H') ⟨v7, rfl, si⟩ ?_ ?_
      rotate_left
      · rintro _ Hc ⟨v7, rfl, sc'⟩
        exact ⟨_, v7, rfl, sc'⟩
      rintro j _ Hj hj ⟨v7, rfl, sj⟩
      rw [Int.zero_add]
      have ettj := sj _ _ ett7
      refine ⟨_, rfl, _, rfl, _, _, rfl, rfl, by omega, .inl ⟨_, rfl, _, _, rfl, rfl, by show (0 : Int) < 2; decide, rfl, i.testBit j, ?_, ?_⟩⟩
      · have e : ((i : Nat) : Int) / 2 ^ (((j : Nat) : Int)).toNat % 2 = ((i.testBit j).toNat : Int) := by
          rw [Nat.toNat_testBit, Int.toNat_natCast]
          push_cast
          rfl
        show V.bl (decide (V.int (((i : Nat) : Int) / 2 ^ (((j : Nat) : Int)).toNat % 2) = V.int 1)) = _
        rw [e]
        cases i.testBit j <;> rfl
      cases hb : i.testBit j with
      | false => exact iteF (iteF ⟨_, rfl, sj⟩)
      | true =>
        have hj7 : j < 7 := by omega
        have hi7 : i < 128 := by omega
        have ge := bit_ge j hj7 i hi7 hb
        have ex := sub_bit j hj7 i hi7 hb
        have ei : ((i : Nat) : Int) - 2 ^ j = ((i - 2 ^ j : Nat) : Int) := by
          rw [Int.ofNat_sub ge]
          push_cast
          rfl
        have sub' : ∀ x, Spn (singL n (lotOf n (i ^^^ 2 ^ j))) x → Spn (singL n (lotOf n i)) x := fun x hx => spn_le (fun b hb' => by
          obtain ⟨q', hq', hb2⟩ := List.mem_flatMap.mp hb'
          obtain ⟨q1, q2⟩ := List.mem_filter.mp hq'
          refine spn_mem (List.mem_flatMap.mpr ⟨q', List.mem_filter.mpr ⟨q1, ?_⟩, hb2⟩)
          have q2 : (i ^^^ 2 ^ j).testBit q' = true := q2
          rw [Nat.testBit_xor, Nat.testBit_two_pow] at q2
          show i.testBit q' = true
          by_cases ej : j = q'
          · rw [← ej]
            exact hb
          · rwa [decide_eq_false ej, Bool.xor_false] at q2) hx
        have le1 : (In (i - 2 ^ j)).length ≤ (In i).length := by
          rw [ex]
          exact num_le sub' (hIn i) (hIn _)
        have le2 : (In i).length ≤ (In (i - 2 ^ j)).length + 2 := by
          rw [ex]
          exact num_two hi hj hb (hIn i) (hIn _) sub'
        have lt2 : i - 2 ^ j < 2 ^ n := Nat.lt_of_le_of_lt (Nat.sub_le ..) hi
        refine iteT ⟨_, rfl, _, rfl, tt, _, _, _, rfl, rfl, .inl (.inl ettj), lens_at hi, _, rfl, _, rfl, _, rfl, j, rfl, rfl, by omega, _, _, rfl, rfl, tt, _, _, _, rfl, rfl, .inl (.inl ettj), by rw [ei]; exact lens_at lt2, _, _, rfl, rfl, _, _, rfl, rfl, true, congrArg V.bl (decide_eq_true (by omega)), iteT ⟨_, _, rfl, rfl, true, congrArg V.bl (decide_eq_true (by omega)), iteF ⟨_, rfl, sj⟩⟩⟩
    rintro _ H8 ⟨v6, v7, rfl, s8⟩
    have s48 := s5.trans (s6.trans (s7.trans s8))
    refine ⟨_, rfl, c, n, M, rb n G, GT, In, rfl, hC.same s48, n7, cf, hIn, fun H9 t' s9 nt et => ?_⟩
    have ett9 := (s6.trans (s7.trans (s8.trans s9))) _ _ ett
    unfold lensV at et ett9
    rw [natV_ints] at et ett9
    refine ⟨_, rfl, _, _, .tup (.inl (.inl et)) (dpall_ints K H9 _), .tup (.inl (.inl ett9)) (dpall_ints K H9 _), sh_intsT _, sh_intsT _, ?_⟩
    rw [eqv_intsT]
    exact q H9
end
end KQ
namespace KQ
open PySem PySem.Spec PyProof.Rows L2
/-- an own exception class straight over the class at cK, which is straight over ValueError -/
structure KC (K : PySem.W.Frag) (cK C : Addr) : Prop where
  l : ∃ nm q N bs sn sub ab col dd k0 k1 k2 k3 k5, K.lookup C = some (excClassObj nm q C N bs [.ref cK, .type "ValueError", .type "Exception", .type "BaseException", .type "object"] true sn sub ab col dd k0 k1 k2 k3 k5 "ValueError.__new__")
  sa : PySem.W.findIn K (Value.ref C) "__setattr__" = some (some (.builtin "object.__setattr__"))
  ty : PySem.W.typeIn K (.ref C) = some (.type "type")
  kp : PySem.W.keepIn K (Value.ref C) = true
  hg : PySem.W.findIn K (.ref C) "__getattribute__" = some (some (.builtin "BaseException.__getattribute__"))
  hk : PySem.W.findIn K (.ref C) "__getattr__" = some none
  ha : PySem.W.findIn K (Value.ref C) "__class__" = some (some (.builtin "object.__class__"))
theorem KC.of {K : PySem.W.Frag} {cK C N : Addr} {nm q : Str} {bs : List Value} {sn : List Str} {sub : List Value} {ab : Bool} {col : Option Bool} {dd : Option Addr} {k0 k1 k2 k3 k5 : Option Value}
    (l : K.lookup C = some (excClassObj nm q C N bs [.ref cK, .type "ValueError", .type "Exception", .type "BaseException", .type "object"] true sn sub ab col dd k0 k1 k2 k3 k5 "ValueError.__new__"))
    (sa : PySem.W.findIn K (.ref C) "__setattr__" = some (some (.builtin "object.__setattr__"))) (ty : PySem.W.typeIn K (.ref C) = some (.type "type")) (kp : PySem.W.keepIn K (.ref C) = true)
    (hg : PySem.W.findIn K (.ref C) "__getattribute__" = some (some (.builtin "BaseException.__getattribute__"))) (hk : PySem.W.findIn K (.ref C) "__getattr__" = some none)
    (ha : PySem.W.findIn K (.ref C) "__class__" = some (some (.builtin "object.__class__"))) : KC K cK C := ⟨⟨_, _, _, _, _, _, _, _, _, _, _, _, _, _, l⟩, sa, ty, kp, hg, hk, ha⟩
theorem fun_ex {K : PySem.W.Frag} {x qual : Str} {st : Stmt} {f : Addr} {oc : Value} {od an : Option Addr} {osl : Array (Option Value)} {kV doc pm cdv ct : Value} (l : K.lookup f = some ⟨oc, od, .func (PySem.W.fnOf x qual (defArgs st) (defBody st) (defScope st) .none kV doc pm an cdv ct), osl⟩)
    (c : PySem.W.codeIn K cdv qual = true) (k : PySem.W.keepIn K (.ref f) = true) : ∃ d, Fun K x qual st f d := ⟨_, L2.fun_mk l c k⟩
theorem KC.cls {K : PySem.W.Frag} {cK C : Addr} (h : KC K cK C) : ∃ cd, PySem.W.clsIn K C = some cd ∧ cd.mro = [.ref C, .ref cK, .type "ValueError", .type "Exception", .type "BaseException", .type "object"] ∧ cd.hasDict = true := by
  obtain ⟨nm, q, N, bs, sn, sub, ab, col, dd, k0, k1, k2, k3, k5, hl⟩ := h.l
  refine ⟨_, by unfold PySem.W.clsIn; rw [hl] <;> rfl, rfl, rfl⟩
theorem KC.mro {K : PySem.W.Frag} {cK C : Addr} (h : KC K cK C) (b : Value) : PySem.W.mroIn K C b = some ([Value.ref C, .ref cK, .type "ValueError", .type "Exception", .type "BaseException", .type "object"].contains b) := by
  obtain ⟨cd, e, m, _⟩ := h.cls
  unfold PySem.W.mroIn
  rw [e, Option.bind_some, m]
  rfl
theorem KC.exC {K : PySem.W.Frag} {cK C : Addr} (h : KC K cK C) : PySem.W.subIn K (.ref C) (.type "BaseException") = some true := by
  show PySem.W.mroIn K C _ = _
  rw [h.mro]
  rfl
theorem KC.ox {K : PySem.W.Frag} {cK C : Addr} (h : KC K cK C) : OexC K C := by
  obtain ⟨nm, q, N, bs, sn, sub, ab, col, dd, k0, k1, k2, k3, k5, hl⟩ := h.l
  exact ⟨⟨nm, q, N, bs, _, sn, sub, ab, col, dd, k0, k1, k2, k3, k5, hl, rfl⟩, h.sa, h.exC, h.ty, h.kp⟩
theorem KC.hd {K : PySem.W.Frag} {cK C : Addr} (h : KC K cK C) : PySem.W.hasDictIn K C = true := by
  obtain ⟨cd, e, _, d⟩ := h.cls
  show (PySem.W.clsIn K C).any _ = true
  rw [e]
  exact d
theorem KC.ex {K : PySem.W.Frag} {cK C : Addr} (h : KC K cK C) : PySem.W.exmOne K (.ref C) (.ref C) = some true := by
  refine PySem.W.exm_ref h.exC h.hd h.ty ?_
  show PySem.W.mroIn K C _ = _
  rw [h.mro, List.contains_cons, beq_self_eq_true, Bool.true_or]
theorem hd_ex {K : PySem.W.Frag} {A : Addr} {t0 t1 t2 t3 : Tok} {n : Nat} {sl : Array (Option Value)} (l : K.lookup A = some ⟨.type "tuple", none, .seq #[.str "" t0, .str "i" t1, .str "-" t2, .str "-i" t3] n, sl⟩) : ∃ t0 t1 t2 t3 n sl, K.lookup A = some ⟨.type "tuple", none, .seq #[.str "" t0, .str "i" t1, .str "-" t2, .str "-i" t3] n, sl⟩ := ⟨_, _, _, _, _, _, l⟩
theorem lett_one {K : PySem.W.Frag} {w : World} {A : Addr} {es : Array DictEntry} {n : Nat} {x y : Str} {L M : List Nat} {t : Tok} (hl : K.lookup A = some ⟨.type "dict", none, .dict es n, #[]⟩) (hk : PySem.W.KeysLit w.params es.toList)
    (hx : x = mS L) (hy : y = mS M) (e : PySem.W.nsIn K A x = some (some (.str y t))) : KDct K w A (mS L) (.str (mS M)) := by
  subst hx hy
  exact ⟨es, n, _, hl, hk, e, ⟨t, rfl⟩⟩
theorem funD_ex {K : PySem.W.Frag} {x qual : Str} {st : Stmt} {f T e : Addr} {oc oT : Value} {od an dT : Option Addr} {osl sT : Array (Option Value)} {kV doc pm cdv ct : Value} {n : Nat} (l : K.lookup f = some ⟨oc, od, .func (PySem.W.fnOf x qual (defArgs st) (defBody st) (defScope st) (.ref T) kV doc pm an cdv ct), osl⟩)
    (lT : K.lookup T = some ⟨oT, dT, .seq #[.ref e, .none] n, sT⟩) (c : PySem.W.codeIn K cdv qual = true) (k : PySem.W.keepIn K (.ref f) = true) : ∃ (e : Addr) (d : FuncData), FunD K x qual (defArgs st) (defBody st) (defScope st) [.ref e, .non] [] f d :=
  ⟨e, _, ⟨oc, od, .ref T, kV, doc, pm, an, cdv, ct, osl, rfl, l, c, .inr ⟨by simp, T, _, [.ref e, .none], n, rfl, lT, rfl, .cons rfl (.cons rfl .nil)⟩, .inl rfl⟩, k⟩
theorem all_mk {l : PySem.W.OpenLaw} {w : World} {K : PySem.W.Frag} {h : Heap} {mg : Str → Option Value} {fa : Addr} (X : K.In h) (G : h.Ns mainGlobals mg) (hfa : mg "law" = some (.ref fa))
    {cK C CT CB fI fE fB fBN hA lA fIs fHo fBo fHp fPa fCr fSh fBt fLg fLn fCk fRt fSo fFr fLo fC fSy fCg fCc fCh fPt fLm fRn fRb fRl fSg CG fGI CD fCI fPn fDr fPk fSu fOn fCx fTi fPr fLe fTx fOt fGa fDc fPl fCd fSc fWm fKn fSp fKi fHl fCt fAl fNu fLb fLa : Addr} {es : Array DictEntry} {pn : Nat} {t00 t10 t11 t01 tM : Tok}
    (aK : PySem.W.nsIn K mainGlobals "KeptError" = some (some (.ref cK)))
    (aT : PySem.W.nsIn K mainGlobals "BadText" = some (some (.ref CT)))
    (aB : PySem.W.nsIn K mainGlobals "BadNumber" = some (some (.ref CB)))
    (aP : PySem.W.nsIn K mainGlobals "Pauli" = some (some (.ref C)))
    (aG : PySem.W.nsIn K mainGlobals "Group" = some (some (.ref CG)))
    (aD : PySem.W.nsIn K mainGlobals "Code" = some (some (.ref CD)))
    (aH : PySem.W.nsIn K mainGlobals "HEADS" = some (some (.ref hA)))
    (kcT : KC K cK CT)
    (icT : PySem.W.findIn K (.ref CT) "__init__" = some (some (.ref fB)))
    (tiT : PySem.W.typeIn K (.ref fB) = some (.type "function"))
    (nT0 : PySem.W.findIn K (.ref CT) "line" = some none)
    (nT1 : PySem.W.findIn K (.ref CT) "column" = some none)
    (F_T : ∃ d, Fun K "__init__" "BadText.__init__" sInitT fB d)
    (kcB : KC K cK CB)
    (icB : PySem.W.findIn K (.ref CB) "__init__" = some (some (.ref fBN)))
    (tiB : PySem.W.typeIn K (.ref fBN) = some (.type "function"))
    (nB0 : PySem.W.findIn K (.ref CB) "what" = some none)
    (nB1 : PySem.W.findIn K (.ref CB) "number" = some none)
    (F_B : ∃ d, Fun K "__init__" "BadNumber.__init__" sIBadNumber fBN d)
    (pgP : PySem.W.plainGet K C Str.empty = true)
    (hdiP : PySem.W.hasDictIn K C = true)
    (poP : PySem.W.plainOver K C = true)
    (saP : PySem.W.findIn K (.ref C) "__setattr__" = some (some (.builtin "object.__setattr__")))
    (nP0 : PySem.W.findIn K (.ref C) "letters" = some none)
    (nP1 : PySem.W.findIn K (.ref C) "phase" = some none)
    (nP2 : PySem.W.findIn K (.ref C) "size" = some none)
    (nP3 : PySem.W.findIn K (.ref C) "weight" = some none)
    (mkP : PySem.W.makesIn K C = true)
    (icP : PySem.W.findIn K (.ref C) "__init__" = some (some (.ref fI)))
    (ifP : PySem.W.isFn K (.ref fI) = true)
    (kpP : PySem.W.keepIn K (.ref C) = true)
    (pgG : PySem.W.plainGet K CG Str.empty = true)
    (hdiG : PySem.W.hasDictIn K CG = true)
    (poG : PySem.W.plainOver K CG = true)
    (saG : PySem.W.findIn K (.ref CG) "__setattr__" = some (some (.builtin "object.__setattr__")))
    (nG0 : PySem.W.findIn K (.ref CG) "size" = some none)
    (nG1 : PySem.W.findIn K (.ref CG) "held" = some none)
    (nG2 : PySem.W.findIn K (.ref CG) "bits" = some none)
    (nG3 : PySem.W.findIn K (.ref CG) "rows" = some none)
    (nG4 : PySem.W.findIn K (.ref CG) "rank" = some none)
    (mkG : PySem.W.makesIn K CG = true)
    (icG : PySem.W.findIn K (.ref CG) "__init__" = some (some (.ref fGI)))
    (ifG : PySem.W.isFn K (.ref fGI) = true)
    (kpG : PySem.W.keepIn K (.ref CG) = true)
    (pgD : PySem.W.plainGet K CD Str.empty = true)
    (hdiD : PySem.W.hasDictIn K CD = true)
    (poD : PySem.W.plainOver K CD = true)
    (saD : PySem.W.findIn K (.ref CD) "__setattr__" = some (some (.builtin "object.__setattr__")))
    (nD0 : PySem.W.findIn K (.ref CD) "group" = some none)
    (nD1 : PySem.W.findIn K (.ref CD) "size" = some none)
    (nD2 : PySem.W.findIn K (.ref CD) "gauge" = some none)
    (nD3 : PySem.W.findIn K (.ref CD) "gauge_bits" = some none)
    (nD4 : PySem.W.findIn K (.ref CD) "gauge_table" = some none)
    (nD5 : PySem.W.findIn K (.ref CD) "gauged" = some none)
    (nD6 : PySem.W.findIn K (.ref CD) "kept" = some none)
    (nD7 : PySem.W.findIn K (.ref CD) "hidden" = some none)
    (nD8 : PySem.W.findIn K (.ref CD) "marks" = some none)
    (mkD : PySem.W.makesIn K CD = true)
    (icD : PySem.W.findIn K (.ref CD) "__init__" = some (some (.ref fCI)))
    (ifD : PySem.W.isFn K (.ref fCI) = true)
    (kpD : PySem.W.keepIn K (.ref CD) = true)
    (haP : PySem.W.findIn K (.ref C) "__class__" = some (some (.builtin "object.__class__")))
    (hnP : PySem.W.specialIn K (.builtin "object.__class__") "__get__" = some (some (.builtin "getset_descriptor.__get__")))
    (htP : PySem.W.takesIn K (.builtin "object.__class__") = some true)
    (hmP : PySem.W.mroIn K C (.type "object") = some true)
    (kCP : PySem.W.kitOne K (.ref C) (.ref C) = some true)
    (kSP : PySem.W.kitOne K (.type "str") (.ref C) = some false)
    (eqP : PySem.W.findIn K (.ref C) "__eq__" = some (some (.ref fE)))
    (efP : PySem.W.isFn K (.ref fE) = true)
    (enP : PySem.W.notFirst K C (.type "str") = true)
    (hl : ∃ t0 t1 t2 t3 n sl, K.lookup hA = some ⟨.type "tuple", none, .seq #[.str "" t0, .str "i" t1, .str "-" t2, .str "-i" t3] n, sl⟩)
    (aL : PySem.W.nsIn K mainGlobals "LETTERS" = some (some (.ref lA)))
    (ll : K.lookup lA = some ⟨.type "dict", none, .dict es pn, #[]⟩)
    (lkk : PySem.W.KeysLit w.params es.toList)
    (l00 : PySem.W.nsIn K lA "00" = some (some (.str "I" t00)))
    (l10 : PySem.W.nsIn K lA "10" = some (some (.str "X" t10)))
    (l11 : PySem.W.nsIn K lA "11" = some (some (.str "Y" t11)))
    (l01 : PySem.W.nsIn K lA "01" = some (some (.str "Z" t01)))
    (FI : ∃ d, Fun K "__init__" "Pauli.__init__" sInit fI d)
    (FGI : ∃ d, Fun K "__init__" "Group.__init__" sGI fGI d)
    (FCI : ∃ (e : Addr) (d : FuncData), FunD K "__init__" "Code.__init__" (defArgs sCI) (defBody sCI) (defScope sCI) [.ref e, .non] [] fCI d)
    (mSy : PySem.W.findIn K (.ref CG) "syndrome_of" = some (some (.ref fSy)))
    (miSy : PySem.W.isFn K (.ref fSy) = true)
    (mkSy : PySem.W.keepIn K (.ref fSy) = true)
    (FSy : ∃ d, Fun K "syndrome_of" "Group.syndrome_of" sSyn fSy d)
    (cne : C ≠ CG)
    (n1 : CG ≠ CD)
    (n2 : C ≠ CD)
    (gC : PySem.W.nsIn K mainGlobals "_cut_text" = some (some (.ref fC)))
    (FC : ∃ d, Fun K "_cut_text" "_cut_text" sCut fC d)
    (gIs : PySem.W.nsIn K mainGlobals "is_integer" = some (some (.ref fIs)))
    (FIs : ∃ d, Fun K "is_integer" "is_integer" sIsI fIs d)
    (gHo : PySem.W.nsIn K mainGlobals "held_of" = some (some (.ref fHo)))
    (FHo : ∃ d, Fun K "held_of" "held_of" sHeld fHo d)
    (gBo : PySem.W.nsIn K mainGlobals "bits_of" = some (some (.ref fBo)))
    (FBo : ∃ d, Fun K "bits_of" "bits_of" sBof fBo d)
    (gHp : PySem.W.nsIn K mainGlobals "held_product" = some (some (.ref fHp)))
    (FHp : ∃ d, Fun K "held_product" "held_product" sHprod fHp d)
    (gPa : PySem.W.nsIn K mainGlobals "parity" = some (some (.ref fPa)))
    (FPa : ∃ d, Fun K "parity" "parity" sPar fPa d)
    (gCr : PySem.W.nsIn K mainGlobals "crossing" = some (some (.ref fCr)))
    (FCr : ∃ d, Fun K "crossing" "crossing" sCrossg fCr d)
    (gSh : PySem.W.nsIn K mainGlobals "second_half" = some (some (.ref fSh)))
    (FSh : ∃ d, Fun K "second_half" "second_half" sHalf fSh d)
    (gBt : PySem.W.nsIn K mainGlobals "bit_tuple" = some (some (.ref fBt)))
    (FBt : ∃ d, Fun K "bit_tuple" "bit_tuple" sBits fBt d)
    (gCk : PySem.W.nsIn K mainGlobals "_check_commuting" = some (some (.ref fCk)))
    (FCk : ∃ d, Fun K "_check_commuting" "_check_commuting" sChk fCk d)
    (gRt : PySem.W.nsIn K mainGlobals "_reduced_table" = some (some (.ref fRt)))
    (FRt : ∃ d, Fun K "_reduced_table" "_reduced_table" sRedT fRt d)
    (gSo : PySem.W.nsIn K mainGlobals "string_of" = some (some (.ref fSo)))
    (FSo : ∃ d, Fun K "string_of" "string_of" sSof fSo d)
    (gFr : PySem.W.nsIn K mainGlobals "string_from" = some (some (.ref fFr)))
    (FFr : ∃ d, Fun K "string_from" "string_from" sFrom fFr d)
    (gLo : PySem.W.nsIn K mainGlobals "letters_of" = some (some (.ref fLo)))
    (FLo : ∃ d, Fun K "letters_of" "letters_of" sLof fLo d)
    (gLg : PySem.W.nsIn K mainGlobals "lowered_groups" = some (some (.ref fLg)))
    (FLg : ∃ d, Fun K "_lowered" "_lowered" sLowG fLg d)
    (gLn : PySem.W.nsIn K mainGlobals "lowered_bitnumbers" = some (some (.ref fLn)))
    (FLn : ∃ d, Fun K "_lowered" "_lowered" sLow fLn d)
    (gCg : PySem.W.nsIn K mainGlobals "_check_gauge" = some (some (.ref fCg)))
    (FCg : ∃ d, Fun K "_check_gauge" "_check_gauge" sCkG fCg d)
    (gCc : PySem.W.nsIn K mainGlobals "_check_centre" = some (some (.ref fCc)))
    (FCc : ∃ d, Fun K "_check_centre" "_check_centre" sCkC fCc d)
    (gCh : PySem.W.nsIn K mainGlobals "_check_hidden" = some (some (.ref fCh)))
    (FCh : ∃ d, Fun K "_check_hidden" "_check_hidden" sCkH fCh d)
    (gPt : PySem.W.nsIn K mainGlobals "_partners" = some (some (.ref fPt)))
    (FPt : ∃ d, Fun K "_partners" "_partners" sPart fPt d)
    (gLm : PySem.W.nsIn K mainGlobals "letter_marks" = some (some (.ref fLm)))
    (FLm : ∃ d, Fun K "letter_marks" "letter_marks" sLM fLm d)
    (gRn : PySem.W.nsIn K mainGlobals "reduced_numbers" = some (some (.ref fRn)))
    (FRn : ∃ d, Fun K "reduced_numbers" "reduced_numbers" sRedN fRn d)
    (gRb : PySem.W.nsIn K mainGlobals "rest_by" = some (some (.ref fRb)))
    (FRb : ∃ d, Fun K "rest_by" "rest_by" sRestBy fRb d)
    (gRl : PySem.W.nsIn K mainGlobals "relations" = some (some (.ref fRl)))
    (FRl : ∃ d, Fun K "relations" "relations" sRel fRl d)
    (gSg : PySem.W.nsIn K mainGlobals "single_bits" = some (some (.ref fSg)))
    (FSg : ∃ d, Fun K "single_bits" "single_bits" sSing fSg d)
    (gPn : PySem.W.nsIn K mainGlobals "_law_pen" = some (some (.ref fPn)))
    (FPn : ∃ d, Fun K "_law_pen" "_law_pen" sPen fPn d)
    (gDr : PySem.W.nsIn K mainGlobals "_law_draw" = some (some (.ref fDr)))
    (FDr : ∃ d, Fun K "_law_draw" "_law_draw" sDraw fDr d)
    (gPk : PySem.W.nsIn K mainGlobals "_law_pick" = some (some (.ref fPk)))
    (FPk : ∃ d, Fun K "_law_pick" "_law_pick" sPick fPk d)
    (gSu : PySem.W.nsIn K mainGlobals "_law_shuffled" = some (some (.ref fSu)))
    (FSu : ∃ d, Fun K "_law_shuffled" "_law_shuffled" sShuf fSu d)
    (gOn : PySem.W.nsIn K mainGlobals "_law_ones" = some (some (.ref fOn)))
    (FOn : ∃ d, Fun K "_law_ones" "_law_ones" sOnes fOn d)
    (gCx : PySem.W.nsIn K mainGlobals "_law_crosses" = some (some (.ref fCx)))
    (FCx : ∃ d, Fun K "_law_crosses" "_law_crosses" sCross fCx d)
    (gTi : PySem.W.nsIn K mainGlobals "_law_times" = some (some (.ref fTi)))
    (FTi : ∃ d, Fun K "_law_times" "_law_times" sLTimes fTi d)
    (gPr : PySem.W.nsIn K mainGlobals "_law_product" = some (some (.ref fPr)))
    (FPr : ∃ d, Fun K "_law_product" "_law_product" sProd fPr d)
    (gLe : PySem.W.nsIn K mainGlobals "_law_letters" = some (some (.ref fLe)))
    (FLe : ∃ d, Fun K "_law_letters" "_law_letters" sLett fLe d)
    (gTx : PySem.W.nsIn K mainGlobals "_law_text" = some (some (.ref fTx)))
    (FTx : ∃ d, Fun K "_law_text" "_law_text" sText fTx d)
    (gOt : PySem.W.nsIn K mainGlobals "_law_of_text" = some (some (.ref fOt)))
    (FOt : ∃ d, Fun K "_law_of_text" "_law_of_text" sOfT fOt d)
    (gGa : PySem.W.nsIn K mainGlobals "_law_gate" = some (some (.ref fGa)))
    (FGa : ∃ d, Fun K "_law_gate" "_law_gate" sGate fGa d)
    (gDc : PySem.W.nsIn K mainGlobals "_law_drawn_code" = some (some (.ref fDc)))
    (FDc : ∃ d, Fun K "_law_drawn_code" "_law_drawn_code" sCode fDc d)
    (gPl : PySem.W.nsIn K mainGlobals "_law_pauli" = some (some (.ref fPl)))
    (FPl : ∃ d, Fun K "_law_pauli" "_law_pauli" sPau fPl d)
    (gCd : PySem.W.nsIn K mainGlobals "_law_code" = some (some (.ref fCd)))
    (FCd : ∃ d, Fun K "_law_code" "_law_code" sCd fCd d)
    (gSc : PySem.W.nsIn K mainGlobals "_law_some_code" = some (some (.ref fSc)))
    (FSc : ∃ d, Fun K "_law_some_code" "_law_some_code" sSC fSc d)
    (gWm : PySem.W.nsIn K mainGlobals "_law_with_more" = some (some (.ref fWm)))
    (FWm : ∃ d, Fun K "_law_with_more" "_law_with_more" sWM fWm d)
    (gKn : PySem.W.nsIn K mainGlobals "_law_known_code" = some (some (.ref fKn)))
    (FKn : ∃ d, Fun K "_law_known_code" "_law_known_code" sKn fKn d)
    (gSp : PySem.W.nsIn K mainGlobals "_law_spanned" = some (some (.ref fSp)))
    (FSp : ∃ d, Fun K "_law_spanned" "_law_spanned" sSpd fSp d)
    (gKi : PySem.W.nsIn K mainGlobals "_law_kinds" = some (some (.ref fKi)))
    (FKi : ∃ d, Fun K "_law_kinds" "_law_kinds" sKin fKi d)
    (gHl : PySem.W.nsIn K mainGlobals "_law_halvings" = some (some (.ref fHl)))
    (FHl : ∃ d, Fun K "_law_halvings" "_law_halvings" sHlv fHl d)
    (gCt : PySem.W.nsIn K mainGlobals "_law_counted" = some (some (.ref fCt)))
    (FCt : ∃ d, Fun K "_law_counted" "_law_counted" sCnt fCt d)
    (gAl : PySem.W.nsIn K mainGlobals "all_lots" = some (some (.ref fAl)))
    (FAl : ∃ d, Fun K "all_lots" "all_lots" sAll fAl d)
    (gNu : PySem.W.nsIn K mainGlobals "number_of_lot" = some (some (.ref fNu)))
    (FNu : ∃ d, Fun K "number_of_lot" "number_of_lot" sNum fNu d)
    (gLb : PySem.W.nsIn K mainGlobals "lot_bits" = some (some (.ref fLb)))
    (FLb : ∃ d, Fun K "lot_bits" "lot_bits" sLotB fLb d)
    (z_isinstance : PySem.W.nsIn K mainGlobals "isinstance" = some none)
    (z_int : PySem.W.nsIn K mainGlobals "int" = some none)
    (z_bool : PySem.W.nsIn K mainGlobals "bool" = some none)
    (z_str : PySem.W.nsIn K mainGlobals "str" = some none)
    (z_len : PySem.W.nsIn K mainGlobals "len" = some none)
    (z_range : PySem.W.nsIn K mainGlobals "range" = some none)
    (z_list : PySem.W.nsIn K mainGlobals "list" = some none)
    (z_enumerate : PySem.W.nsIn K mainGlobals "enumerate" = some none)
    (z_tuple : PySem.W.nsIn K mainGlobals "tuple" = some none)
    (z_min : PySem.W.nsIn K mainGlobals "min" = some none)
    (z_sorted : PySem.W.nsIn K mainGlobals "sorted" = some none)
    (z_reversed : PySem.W.nsIn K mainGlobals "reversed" = some none)
    (z_zip : PySem.W.nsIn K mainGlobals "zip" = some none)
    (z_max : PySem.W.nsIn K mainGlobals "max" = some none)
    (z_sum : PySem.W.nsIn K mainGlobals "sum" = some none)
    (gLa : PySem.W.nsIn K mainGlobals "law" = some (some (.ref fLa)))
    (FLa : ∃ d, Fun K "law" "law" sLaw fLa d)
    (aMp : PySem.W.nsIn K mainGlobals "MOST_PLACES" = some (some (.int 12 tM))) :
    ∃ fd : FuncData, (∀ (s : Shared) (u : Value), BindsTo s fd ⟨[u], []⟩ [("_law_script", u)]) ∧ ∀ base : Heap, K.In base → base.Ns mainGlobals mg → FnOk l.prog w K mg base CX0 13 fa fd ["_law_script"] (spLaw K) := by
  have e := hfa.symm.trans (PySem.W.mg_of X G gLa)
  cases e
  obtain ⟨dB, F_T⟩ := F_T
  have b_T := F_T.binds (ps := ["self", "line", "column"]) fun _ _ _ _ _ _ us hl => match us, hl with | [_, _, _], _ => rfl
  obtain ⟨dBN, F_B⟩ := F_B
  have b_B := F_B.binds (ps := ["self", "what", "number"]) fun _ _ _ _ _ _ us hl => match us, hl with | [_, _, _], _ => rfl
  obtain ⟨dI, FI⟩ := FI
  have bI := FI.binds (ps := ["self", "text"]) fun _ _ _ _ _ _ us hl => match us, hl with | [_, _], _ => rfl
  obtain ⟨dGI, FGI⟩ := FGI
  have bGI := FGI.binds (ps := ["self", "size", "strings"]) fun _ _ _ _ _ _ us hl => match us, hl with | [_, _, _], _ => rfl
  obtain ⟨dSy, FSy⟩ := FSy
  have bSy := FSy.binds (ps := ["self", "string"]) fun _ _ _ _ _ _ us hl => match us, hl with | [_, _], _ => rfl
  obtain ⟨eC, dCI, FCI⟩ := FCI
  have bCI : Binds K dCI ["self", "size", "strings", "gauge", "hidden"] [] := by
    obtain ⟨ds, hv, hb⟩ := FCI.binds1 (ps := ["self", "size", "strings", "gauge", "hidden"]) 5 2 (by simp) rfl fun _ _ _ _ _ _ _ us its hl hi => match us, its, hl, hi with | [_, _, _, _, _], [_, _], _, _ => ⟨_, rfl, rfl⟩
    cases hv
    exact hb
  obtain ⟨dC, FC⟩ := FC
  have bC := FC.binds (ps := ["text"]) fun _ _ _ _ _ _ us hl => match us, hl with | [_], _ => rfl
  obtain ⟨dIs, FIs⟩ := FIs
  have bIs := FIs.binds (ps := ["value"]) fun _ _ _ _ _ _ us hl => match us, hl with | [_], _ => rfl
  obtain ⟨dHo, FHo⟩ := FHo
  have bHo := FHo.binds (ps := ["string"]) fun _ _ _ _ _ _ us hl => match us, hl with | [_], _ => rfl
  obtain ⟨dBo, FBo⟩ := FBo
  have bBo := FBo.binds (ps := ["string"]) fun _ _ _ _ _ _ us hl => match us, hl with | [_], _ => rfl
  obtain ⟨dHp, FHp⟩ := FHp
  have bHp := FHp.binds (ps := ["size", "one", "other"]) fun _ _ _ _ _ _ us hl => match us, hl with | [_, _, _], _ => rfl
  obtain ⟨dPa, FPa⟩ := FPa
  have bPa := FPa.binds (ps := ["number"]) fun _ _ _ _ _ _ us hl => match us, hl with | [_], _ => rfl
  obtain ⟨dCr, FCr⟩ := FCr
  have bCr := FCr.binds (ps := ["size", "bits", "others"]) fun _ _ _ _ _ _ us hl => match us, hl with | [_, _, _], _ => rfl
  obtain ⟨dSh, FSh⟩ := FSh
  have bSh := FSh.binds (ps := ["size", "bits"]) fun _ _ _ _ _ _ us hl => match us, hl with | [_, _], _ => rfl
  obtain ⟨dBt, FBt⟩ := FBt
  have bBt := FBt.binds (ps := ["number", "many"]) fun _ _ _ _ _ _ us hl => match us, hl with | [_, _], _ => rfl
  obtain ⟨dCk, FCk⟩ := FCk
  have bCk := FCk.binds (ps := ["size", "rows"]) fun _ _ _ _ _ _ us hl => match us, hl with | [_, _], _ => rfl
  obtain ⟨dRt, FRt⟩ := FRt
  have bRt := FRt.binds (ps := ["size", "given"]) fun _ _ _ _ _ _ us hl => match us, hl with | [_, _], _ => rfl
  obtain ⟨dSo, FSo⟩ := FSo
  have bSo := FSo.binds (ps := ["size", "held"]) fun _ _ _ _ _ _ us hl => match us, hl with | [_, _], _ => rfl
  obtain ⟨dFr, FFr⟩ := FFr
  have bFr := FFr.binds (ps := ["letters", "phase"]) fun _ _ _ _ _ _ us hl => match us, hl with | [_, _], _ => rfl
  obtain ⟨dLo, FLo⟩ := FLo
  have bLo := FLo.binds (ps := ["size", "bits"]) fun _ _ _ _ _ _ us hl => match us, hl with | [_, _], _ => rfl
  obtain ⟨dLg, FLg⟩ := FLg
  have bLg := FLg.binds (ps := ["size", "held", "table"]) fun _ _ _ _ _ _ us hl => match us, hl with | [_, _, _], _ => rfl
  obtain ⟨dLn, FLn⟩ := FLn
  have bLn := FLn.binds (ps := ["number", "marks", "table"]) fun _ _ _ _ _ _ us hl => match us, hl with | [_, _, _], _ => rfl
  obtain ⟨dCg, FCg⟩ := FCg
  have bCg := FCg.binds (ps := ["group", "gauge"]) fun _ _ _ _ _ _ us hl => match us, hl with | [_, _], _ => rfl
  obtain ⟨dCc, FCc⟩ := FCc
  have bCc := FCc.binds (ps := ["group", "gauge_bits"]) fun _ _ _ _ _ _ us hl => match us, hl with | [_, _], _ => rfl
  obtain ⟨dCh, FCh⟩ := FCh
  have bCh := FCh.binds (ps := ["size", "hidden", "barred"]) fun _ _ _ _ _ _ us hl => match us, hl with | [_, _, _], _ => rfl
  obtain ⟨dPt, FPt⟩ := FPt
  have bPt := FPt.binds (ps := ["hidden"]) fun _ _ _ _ _ _ us hl => match us, hl with | [_], _ => rfl
  obtain ⟨dLm, FLm⟩ := FLm
  have bLm := FLm.binds (ps := ["size", "others"]) fun _ _ _ _ _ _ us hl => match us, hl with | [_, _], _ => rfl
  obtain ⟨dRn, FRn⟩ := FRn
  have bRn := FRn.binds (ps := ["numbers"]) fun _ _ _ _ _ _ us hl => match us, hl with | [_], _ => rfl
  obtain ⟨dRb, FRb⟩ := FRb
  have bRb := FRb.binds (ps := ["number", "table"]) fun _ _ _ _ _ _ us hl => match us, hl with | [_, _], _ => rfl
  obtain ⟨dRl, FRl⟩ := FRl
  have bRl := FRl.binds (ps := ["pairs"]) fun _ _ _ _ _ _ us hl => match us, hl with | [_], _ => rfl
  obtain ⟨dSg, FSg⟩ := FSg
  have bSg := FSg.binds (ps := ["size", "places"]) fun _ _ _ _ _ _ us hl => match us, hl with | [_, _], _ => rfl
  obtain ⟨dPn, FPn⟩ := FPn
  have bPn := FPn.binds (ps := ["_law_script"]) fun _ _ _ _ _ _ us hl => match us, hl with | [_], _ => rfl
  obtain ⟨dDr, FDr⟩ := FDr
  have bDr := FDr.binds (ps := ["_law_pen_here", "_law_many"]) fun _ _ _ _ _ _ us hl => match us, hl with | [_, _], _ => rfl
  obtain ⟨dPk, FPk⟩ := FPk
  have bPk := FPk.binds (ps := ["_law_pen_here", "_law_some"]) fun _ _ _ _ _ _ us hl => match us, hl with | [_, _], _ => rfl
  obtain ⟨dSu, FSu⟩ := FSu
  have bSu := FSu.binds (ps := ["_law_pen_here", "_law_some"]) fun _ _ _ _ _ _ us hl => match us, hl with | [_, _], _ => rfl
  obtain ⟨dOn, FOn⟩ := FOn
  have bOn := FOn.binds (ps := ["_law_number"]) fun _ _ _ _ _ _ us hl => match us, hl with | [_], _ => rfl
  obtain ⟨dCx, FCx⟩ := FCx
  have bCx := FCx.binds (ps := ["_law_one", "_law_two"]) fun _ _ _ _ _ _ us hl => match us, hl with | [_, _], _ => rfl
  obtain ⟨dTi, FTi⟩ := FTi
  have bTi := FTi.binds (ps := ["_law_one", "_law_two"]) fun _ _ _ _ _ _ us hl => match us, hl with | [_, _], _ => rfl
  obtain ⟨dPr, FPr⟩ := FPr
  have bPr := FPr.binds (ps := ["_law_one", "_law_two"]) fun _ _ _ _ _ _ us hl => match us, hl with | [_, _], _ => rfl
  obtain ⟨dLe, FLe⟩ := FLe
  have bLe := FLe.binds (ps := ["_law_string", "_law_size"]) fun _ _ _ _ _ _ us hl => match us, hl with | [_, _], _ => rfl
  obtain ⟨dTx, FTx⟩ := FTx
  have bTx := FTx.binds (ps := ["_law_string", "_law_size"]) fun _ _ _ _ _ _ us hl => match us, hl with | [_, _], _ => rfl
  obtain ⟨dOt, FOt⟩ := FOt
  have bOt := FOt.binds (ps := ["_law_text_here"]) fun _ _ _ _ _ _ us hl => match us, hl with | [_], _ => rfl
  obtain ⟨dGa, FGa⟩ := FGa
  have bGa := FGa.binds (ps := ["_law_string", "_law_kind", "_law_places"]) fun _ _ _ _ _ _ us hl => match us, hl with | [_, _, _], _ => rfl
  obtain ⟨dDc, FDc⟩ := FDc
  have bDc := FDc.binds (ps := ["_law_pen_here", "_law_size", "_law_rank", "_law_gauged"]) fun _ _ _ _ _ _ us hl => match us, hl with | [_, _, _, _], _ => rfl
  obtain ⟨dPl, FPl⟩ := FPl
  have bPl := FPl.binds (ps := ["_law_string", "_law_size"]) fun _ _ _ _ _ _ us hl => match us, hl with | [_, _], _ => rfl
  obtain ⟨dCd, FCd⟩ := FCd
  have bCd := FCd.binds (ps := ["_law_code_here"]) fun _ _ _ _ _ _ us hl => match us, hl with | [_], _ => rfl
  obtain ⟨dSc, FSc⟩ := FSc
  have bSc := FSc.binds (ps := ["_law_pen_here", "_law_most"]) fun _ _ _ _ _ _ us hl => match us, hl with | [_, _], _ => rfl
  obtain ⟨dWm, FWm⟩ := FWm
  have bWm := FWm.binds (ps := ["_law_pen_here", "_law_code_here"]) fun _ _ _ _ _ _ us hl => match us, hl with | [_, _], _ => rfl
  obtain ⟨dKn, FKn⟩ := FKn
  have bKn := FKn.binds (ps := ["_law_pen_here"]) fun _ _ _ _ _ _ us hl => match us, hl with | [_], _ => rfl
  obtain ⟨dSp, FSp⟩ := FSp
  have bSp := FSp.binds (ps := ["_law_strings"]) fun _ _ _ _ _ _ us hl => match us, hl with | [_], _ => rfl
  obtain ⟨dKi, FKi⟩ := FKi
  have bKi := FKi.binds (ps := ["_law_code_here"]) fun _ _ _ _ _ _ us hl => match us, hl with | [_], _ => rfl
  obtain ⟨dHl, FHl⟩ := FHl
  have bHl := FHl.binds (ps := ["_law_number"]) fun _ _ _ _ _ _ us hl => match us, hl with | [_], _ => rfl
  obtain ⟨dCt, FCt⟩ := FCt
  have bCt := FCt.binds (ps := ["_law_kinds_here", "_law_size"]) fun _ _ _ _ _ _ us hl => match us, hl with | [_, _], _ => rfl
  obtain ⟨dAl, FAl⟩ := FAl
  have bAl := FAl.binds (ps := ["code"]) fun _ _ _ _ _ _ us hl => match us, hl with | [_], _ => rfl
  obtain ⟨dNu, FNu⟩ := FNu
  have bNu := FNu.binds (ps := ["code", "lot"]) fun _ _ _ _ _ _ us hl => match us, hl with | [_, _], _ => rfl
  obtain ⟨dLb, FLb⟩ := FLb
  have bLb := FLb.binds (ps := ["size", "lot"]) fun _ _ _ _ _ _ us hl => match us, hl with | [_, _], _ => rfl
  have B : Bl mg := ⟨PySem.W.mg_none_of X G z_isinstance, PySem.W.mg_none_of X G z_int, PySem.W.mg_none_of X G z_bool, PySem.W.mg_none_of X G z_str, PySem.W.mg_none_of X G z_len, PySem.W.mg_none_of X G z_range, PySem.W.mg_none_of X G z_list, PySem.W.mg_none_of X G z_enumerate, PySem.W.mg_none_of X G z_tuple, PySem.W.mg_none_of X G z_min, PySem.W.mg_none_of X G z_sorted, PySem.W.mg_none_of X G z_reversed⟩
  have TT : BT K mg CT fB dB := ⟨kcT.ox, icT, tiT, nT0, nT1, PySem.W.mg_of X G aT, F_T, b_T⟩
  have XB : EX2 K mg "BadNumber" "BadNumber.__init__" "what" "number" sIBadNumber CB fBN dBN := ⟨kcB.ox, icB, tiB, nB0, nB1, PySem.W.mg_of X G aB, F_B, b_B⟩
  have N : PCl K mg C fI fE := ⟨⟨pgP, hdiP, poP, saP⟩, nP0, nP1, nP2, nP3, ⟨mkP, icP, ifP, kpP⟩, haP, hnP, htP, hmP, kCP, kSP, eqP, efP, enP, PySem.W.mg_of X G aP⟩
  have hd : Hd4 K mg hA := ⟨hl, PySem.W.mg_of X G aH⟩
  have lt : Lets K w mg lA := by
    refine ⟨PySem.W.mg_of X G aL, fun x z hx hz => ?_⟩
    have hx' : x = 0 ∨ x = 1 := by omega
    have hz' : z = 0 ∨ z = 1 := by omega
    rcases hx' with rfl | rfl <;> rcases hz' with rfl | rfl
    · exact lett_one ll lkk (by decide +kernel) (by decide +kernel) l00
    · exact lett_one ll lkk (by decide +kernel) (by decide +kernel) l01
    · exact lett_one ll lkk (by decide +kernel) (by decide +kernel) l10
    · exact lett_one ll lkk (by decide +kernel) (by decide +kernel) l11
  have GC : GCl K mg CG fGI := ⟨⟨pgG, hdiG, poG, saG⟩, nG0, nG1, nG2, nG3, nG4, ⟨mkG, icG, ifG, kpG⟩, PySem.W.mg_of X G aG⟩
  have DC : DCl K mg CD fCI := ⟨⟨pgD, hdiD, poD, saD⟩, nD0, nD1, nD2, nD3, nD4, nD5, nD6, nD7, nD8, ⟨mkD, icD, ifD, kpD⟩, PySem.W.mg_of X G aD⟩
  have GE : GEnv K w mg C CT CB fI fE fB fBN hA lA dB dBN fIs fHo fBo fHp fPa fCr fSh fBt fLg fLn fCk fRt fSo fFr fLo fC dI dIs dHo dBo dHp dPa dCr dSh dBt dLg dLn dCk dRt dSo dFr dLo dC := ⟨N, FI, bI, FC, bC, PySem.W.mg_of X G gC, TT, XB, hd, lt, PySem.W.mg_none_of X G z_zip, B, FIs, bIs, PySem.W.mg_of X G gIs, FHo, bHo, PySem.W.mg_of X G gHo, FBo, bBo, PySem.W.mg_of X G gBo, FHp, bHp, PySem.W.mg_of X G gHp, FPa, bPa, PySem.W.mg_of X G gPa, FCr, bCr, PySem.W.mg_of X G gCr, FSh, bSh, PySem.W.mg_of X G gSh, FBt, bBt, PySem.W.mg_of X G gBt, FLg, bLg, PySem.W.mg_of X G gLg, FLn, bLn, PySem.W.mg_of X G gLn, FCk, bCk, PySem.W.mg_of X G gCk, FRt, bRt, PySem.W.mg_of X G gRt, FSo, bSo, PySem.W.mg_of X G gSo, FFr, bFr, PySem.W.mg_of X G gFr, FLo, bLo, PySem.W.mg_of X G gLo⟩
  have DE : DEnv K mg CG fSy fCg fCc fCh fPt fLm fRn fRb fRl fSg dSy dCg dCc dCh dPt dLm dRn dRb dRl dSg := ⟨FSy, bSy, ⟨mSy, miSy, mkSy⟩, FCg, bCg, PySem.W.mg_of X G gCg, FCc, bCc, PySem.W.mg_of X G gCc, FCh, bCh, PySem.W.mg_of X G gCh, FPt, bPt, PySem.W.mg_of X G gPt, FLm, bLm, PySem.W.mg_of X G gLm, FRn, bRn, PySem.W.mg_of X G gRn, FRb, bRb, PySem.W.mg_of X G gRb, FRl, bRl, PySem.W.mg_of X G gRl, FSg, bSg, PySem.W.mg_of X G gSg⟩
  obtain ⟨dLa, FLa⟩ := FLa
  obtain ⟨oc, od, kV, dc, pm, an, cdv, ct, osl, rfl, lk, hcd⟩ := id FLa.ex
  exact ⟨_, fun s v => .of_eq rfl, fun base _ _ => ok_law FLa GE DE FGI bGI GC FCI bCI DC cne n1 n2 (PySem.W.mg_none_of X G z_max) (PySem.W.mg_none_of X G z_sum) (PySem.W.mg_none_of X G z_zip) (PySem.W.mg_of X G aMp) FPn bPn (PySem.W.mg_of X G gPn) FDr bDr (PySem.W.mg_of X G gDr) FPk bPk (PySem.W.mg_of X G gPk) FSu bSu (PySem.W.mg_of X G gSu) FOn bOn (PySem.W.mg_of X G gOn) FCx bCx (PySem.W.mg_of X G gCx) FTi bTi (PySem.W.mg_of X G gTi) FPr bPr (PySem.W.mg_of X G gPr) FLe bLe (PySem.W.mg_of X G gLe) FTx bTx (PySem.W.mg_of X G gTx) FOt bOt (PySem.W.mg_of X G gOt) FGa bGa (PySem.W.mg_of X G gGa) FDc bDc (PySem.W.mg_of X G gDc) FPl bPl (PySem.W.mg_of X G gPl) FCd bCd (PySem.W.mg_of X G gCd) FSc bSc (PySem.W.mg_of X G gSc) FWm bWm (PySem.W.mg_of X G gWm) FKn bKn (PySem.W.mg_of X G gKn) FSp bSp (PySem.W.mg_of X G gSp) FKi bKi (PySem.W.mg_of X G gKi) FHl bHl (PySem.W.mg_of X G gHl) FCt bCt (PySem.W.mg_of X G gCt) FAl bAl (PySem.W.mg_of X G gAl) FNu bNu (PySem.W.mg_of X G gNu) FLb bLb (PySem.W.mg_of X G gLb)⟩
theorem walk {l : PySem.W.OpenLaw} {q : Program} {loose : List Str} {XP : (Str → Option Value) → Heap → Prop} {YP : World → Heap → Prop} {d : DefRec} {K : Params → PySem.W.Frag} (hn : l.most = some 63) (hdf : d.params.defaults = [])
    (hY : ∀ (w : World) (h : Heap), YP w h → (K w.params).In h)
    (F : ∀ (w : World) (mg : Str → Option Value) (fa : Addr) (h : Heap), (K w.params).In h → h.Ns mainGlobals mg → mg d.name = some (.ref fa) →
      ∃ fd : FuncData, (∀ (s : Shared) (u : Value), BindsTo s fd ⟨[u], []⟩ [("_law_script", u)]) ∧ ∀ base : Heap, (K w.params).In base → base.Ns mainGlobals mg → FnOk l.prog w (K w.params) mg base CX0 13 fa fd ["_law_script"] (spLaw (K w.params))) :
    PySem.W.WalkO q loose XP YP l.row.toRowW d [] (fun f vs => PySem.call f vs) :=
  L2.walk_of (n := 63) (k := 13) (x := "_law_script") (CX := fun _ => CX0) (sp := fun w => spLaw (K w.params)) hn (by decide) hdf ⟨rfl, by decide, by decide⟩ hY F (fun _ _ a ns hl _ hS => ⟨a, ns, rfl, hS, hl, fun _ => rfl⟩) fun _ _ _ _ _ z => z
end KQ
open PySem PySem.W PyProof.Rows
set_option maxRecDepth 100000 in
set_option maxHeartbeats 0 in
theorem PySem.Challenge.cw_keptqubits_k24_whole_numbers_of_all_lots_holds : PySem.Challenge.rw_keptqubits_k24_whole_numbers_of_all_lots.Holds := by
  w_on; o_law; k_head; (case hw => w_witness2)
  k_fill
  refine KQ.walk (l := PySem.Challenge.rw_keptqubits_k24_whole_numbers_of_all_lots) rfl rfl (fun w h Y => PySem.W.kIn_of Y) ?F
  case F =>
    intro w mg fa h KX G hmg
    refine' KQ.all_mk KX G hmg ?zq_aK ?zq_aT ?zq_aB ?zq_aP ?zq_aG ?zq_aD ?zq_aH ?zq_kcT ?zq_icT ?zq_tiT ?zq_nT0 ?zq_nT1 ?zq_F_T ?zq_kcB ?zq_icB ?zq_tiB ?zq_nB0 ?zq_nB1 ?zq_F_B ?zq_pgP ?zq_hdiP ?zq_poP ?zq_saP ?zq_nP0 ?zq_nP1 ?zq_nP2 ?zq_nP3 ?zq_mkP ?zq_icP ?zq_ifP ?zq_kpP ?zq_pgG ?zq_hdiG ?zq_poG ?zq_saG ?zq_nG0 ?zq_nG1 ?zq_nG2 ?zq_nG3 ?zq_nG4 ?zq_mkG ?zq_icG ?zq_ifG ?zq_kpG ?zq_pgD ?zq_hdiD ?zq_poD ?zq_saD ?zq_nD0 ?zq_nD1 ?zq_nD2 ?zq_nD3 ?zq_nD4 ?zq_nD5 ?zq_nD6 ?zq_nD7 ?zq_nD8 ?zq_mkD ?zq_icD ?zq_ifD ?zq_kpD ?zq_haP ?zq_hnP ?zq_htP ?zq_hmP ?zq_kCP ?zq_kSP ?zq_eqP ?zq_efP ?zq_enP ?zq_hl ?zq_aL ?zq_ll ?zq_lkk ?zq_l00 ?zq_l10 ?zq_l11 ?zq_l01 ?zq_FI ?zq_FGI ?zq_FCI ?zq_mSy ?zq_miSy ?zq_mkSy ?zq_FSy ?zq_cne ?zq_n1 ?zq_n2 ?zq_gC ?zq_FC ?zq_gIs ?zq_FIs ?zq_gHo ?zq_FHo ?zq_gBo ?zq_FBo ?zq_gHp ?zq_FHp ?zq_gPa ?zq_FPa ?zq_gCr ?zq_FCr ?zq_gSh ?zq_FSh ?zq_gBt ?zq_FBt ?zq_gCk ?zq_FCk ?zq_gRt ?zq_FRt ?zq_gSo ?zq_FSo ?zq_gFr ?zq_FFr ?zq_gLo ?zq_FLo ?zq_gLg ?zq_FLg ?zq_gLn ?zq_FLn ?zq_gCg ?zq_FCg ?zq_gCc ?zq_FCc ?zq_gCh ?zq_FCh ?zq_gPt ?zq_FPt ?zq_gLm ?zq_FLm ?zq_gRn ?zq_FRn ?zq_gRb ?zq_FRb ?zq_gRl ?zq_FRl ?zq_gSg ?zq_FSg ?zq_gPn ?zq_FPn ?zq_gDr ?zq_FDr ?zq_gPk ?zq_FPk ?zq_gSu ?zq_FSu ?zq_gOn ?zq_FOn ?zq_gCx ?zq_FCx ?zq_gTi ?zq_FTi ?zq_gPr ?zq_FPr ?zq_gLe ?zq_FLe ?zq_gTx ?zq_FTx ?zq_gOt ?zq_FOt ?zq_gGa ?zq_FGa ?zq_gDc ?zq_FDc ?zq_gPl ?zq_FPl ?zq_gCd ?zq_FCd ?zq_gSc ?zq_FSc ?zq_gWm ?zq_FWm ?zq_gKn ?zq_FKn ?zq_gSp ?zq_FSp ?zq_gKi ?zq_FKi ?zq_gHl ?zq_FHl ?zq_gCt ?zq_FCt ?zq_gAl ?zq_FAl ?zq_gNu ?zq_FNu ?zq_gLb ?zq_FLb ?zq_z_isinstance ?zq_z_int ?zq_z_bool ?zq_z_str ?zq_z_len ?zq_z_range ?zq_z_list ?zq_z_enumerate ?zq_z_tuple ?zq_z_min ?zq_z_sorted ?zq_z_reversed ?zq_z_zip ?zq_z_max ?zq_z_sum ?zq_gLa ?zq_FLa ?zq_aMp
    (case zq_aK => k_is)
    (case zq_aT => k_is)
    (case zq_aB => k_is)
    (case zq_aP => k_is)
    (case zq_aG => k_is)
    (case zq_aD => k_is)
    (case zq_aH => k_is)
    (case zq_kcT => refine' KQ.KC.of ?l ?sa ?ty ?kp ?hg ?hk ?ha; (case l => k_is); (case sa => k_is); (case ty => k_is); (case kp => k_is); (case hg => k_is); (case hk => k_is); (case ha => k_is))
    (case zq_icT => k_is)
    (case zq_tiT => k_is)
    (case zq_nT0 => k_is)
    (case zq_nT1 => k_is)
    (case zq_F_T => refine' KQ.fun_ex ?l ?c ?k; (case l => k_is); (case c => k_is); (case k => k_is))
    (case zq_kcB => refine' KQ.KC.of ?l ?sa ?ty ?kp ?hg ?hk ?ha; (case l => k_is); (case sa => k_is); (case ty => k_is); (case kp => k_is); (case hg => k_is); (case hk => k_is); (case ha => k_is))
    (case zq_icB => k_is)
    (case zq_tiB => k_is)
    (case zq_nB0 => k_is)
    (case zq_nB1 => k_is)
    (case zq_F_B => refine' KQ.fun_ex ?l ?c ?k; (case l => k_is); (case c => k_is); (case k => k_is))
    (case zq_pgP => k_is)
    (case zq_hdiP => k_is)
    (case zq_poP => k_is)
    (case zq_saP => k_is)
    (case zq_nP0 => k_is)
    (case zq_nP1 => k_is)
    (case zq_nP2 => k_is)
    (case zq_nP3 => k_is)
    (case zq_mkP => k_is)
    (case zq_icP => k_is)
    (case zq_ifP => first | k_is | kernel_rfl | decide +kernel)
    (case zq_kpP => k_is)
    (case zq_pgG => k_is)
    (case zq_hdiG => k_is)
    (case zq_poG => k_is)
    (case zq_saG => k_is)
    (case zq_nG0 => k_is)
    (case zq_nG1 => k_is)
    (case zq_nG2 => k_is)
    (case zq_nG3 => k_is)
    (case zq_nG4 => k_is)
    (case zq_mkG => k_is)
    (case zq_icG => k_is)
    (case zq_ifG => first | k_is | kernel_rfl | decide +kernel)
    (case zq_kpG => k_is)
    (case zq_pgD => k_is)
    (case zq_hdiD => k_is)
    (case zq_poD => k_is)
    (case zq_saD => k_is)
    (case zq_nD0 => k_is)
    (case zq_nD1 => k_is)
    (case zq_nD2 => k_is)
    (case zq_nD3 => k_is)
    (case zq_nD4 => k_is)
    (case zq_nD5 => k_is)
    (case zq_nD6 => k_is)
    (case zq_nD7 => k_is)
    (case zq_nD8 => k_is)
    (case zq_mkD => k_is)
    (case zq_icD => k_is)
    (case zq_ifD => first | k_is | kernel_rfl | decide +kernel)
    (case zq_kpD => k_is)
    (case zq_haP => k_is)
    (case zq_hnP => first | k_is | kernel_rfl | decide +kernel)
    (case zq_htP => first | k_is | kernel_rfl | decide +kernel)
    (case zq_hmP => first | k_is | kernel_rfl | decide +kernel)
    (case zq_kCP => first | k_is | kernel_rfl | decide +kernel)
    (case zq_kSP => first | k_is | kernel_rfl | decide +kernel)
    (case zq_eqP => k_is)
    (case zq_efP => first | k_is | kernel_rfl | decide +kernel)
    (case zq_enP => first | k_is | kernel_rfl | decide +kernel)
    (case zq_hl => refine' KQ.hd_ex ?l; (case l => k_is))
    (case zq_aL => k_is)
    (case zq_ll => k_is)
    (case zq_lkk => first | k_is | exact ⟨⟨_, _, rfl, rfl⟩, ⟨_, _, rfl, rfl⟩, ⟨_, _, rfl, rfl⟩, ⟨_, _, rfl, rfl⟩, trivial⟩)
    (case zq_l00 => k_is)
    (case zq_l10 => k_is)
    (case zq_l11 => k_is)
    (case zq_l01 => k_is)
    (case zq_FI => refine' KQ.fun_ex ?l ?c ?k; (case l => k_is); (case c => k_is); (case k => k_is))
    (case zq_FGI => refine' KQ.fun_ex ?l ?c ?k; (case l => k_is); (case c => k_is); (case k => k_is))
    (case zq_FCI => refine' KQ.funD_ex ?l ?t ?c ?k; (case l => k_is); (case t => k_is); (case c => k_is); (case k => k_is))
    (case zq_mSy => k_is)
    (case zq_miSy => first | k_is | kernel_rfl | decide +kernel)
    (case zq_mkSy => k_is)
    (case zq_FSy => refine' KQ.fun_ex ?l ?c ?k; (case l => k_is); (case c => k_is); (case k => k_is))
    (case zq_cne => first | decide | decide +kernel | simp)
    (case zq_n1 => first | decide | decide +kernel | simp)
    (case zq_n2 => first | decide | decide +kernel | simp)
    (case zq_gC => k_is)
    (case zq_FC => refine' KQ.fun_ex ?l ?c ?k; (case l => k_is); (case c => k_is); (case k => k_is))
    (case zq_gIs => k_is)
    (case zq_FIs => refine' KQ.fun_ex ?l ?c ?k; (case l => k_is); (case c => k_is); (case k => k_is))
    (case zq_gHo => k_is)
    (case zq_FHo => refine' KQ.fun_ex ?l ?c ?k; (case l => k_is); (case c => k_is); (case k => k_is))
    (case zq_gBo => k_is)
    (case zq_FBo => refine' KQ.fun_ex ?l ?c ?k; (case l => k_is); (case c => k_is); (case k => k_is))
    (case zq_gHp => k_is)
    (case zq_FHp => refine' KQ.fun_ex ?l ?c ?k; (case l => k_is); (case c => k_is); (case k => k_is))
    (case zq_gPa => k_is)
    (case zq_FPa => refine' KQ.fun_ex ?l ?c ?k; (case l => k_is); (case c => k_is); (case k => k_is))
    (case zq_gCr => k_is)
    (case zq_FCr => refine' KQ.fun_ex ?l ?c ?k; (case l => k_is); (case c => k_is); (case k => k_is))
    (case zq_gSh => k_is)
    (case zq_FSh => refine' KQ.fun_ex ?l ?c ?k; (case l => k_is); (case c => k_is); (case k => k_is))
    (case zq_gBt => k_is)
    (case zq_FBt => refine' KQ.fun_ex ?l ?c ?k; (case l => k_is); (case c => k_is); (case k => k_is))
    (case zq_gCk => k_is)
    (case zq_FCk => refine' KQ.fun_ex ?l ?c ?k; (case l => k_is); (case c => k_is); (case k => k_is))
    (case zq_gRt => k_is)
    (case zq_FRt => refine' KQ.fun_ex ?l ?c ?k; (case l => k_is); (case c => k_is); (case k => k_is))
    (case zq_gSo => k_is)
    (case zq_FSo => refine' KQ.fun_ex ?l ?c ?k; (case l => k_is); (case c => k_is); (case k => k_is))
    (case zq_gFr => k_is)
    (case zq_FFr => refine' KQ.fun_ex ?l ?c ?k; (case l => k_is); (case c => k_is); (case k => k_is))
    (case zq_gLo => k_is)
    (case zq_FLo => refine' KQ.fun_ex ?l ?c ?k; (case l => k_is); (case c => k_is); (case k => k_is))
    (case zq_gLg => k_is)
    (case zq_FLg => refine' KQ.fun_ex ?l ?c ?k; (case l => k_is); (case c => k_is); (case k => k_is))
    (case zq_gLn => k_is)
    (case zq_FLn => refine' KQ.fun_ex ?l ?c ?k; (case l => k_is); (case c => k_is); (case k => k_is))
    (case zq_gCg => k_is)
    (case zq_FCg => refine' KQ.fun_ex ?l ?c ?k; (case l => k_is); (case c => k_is); (case k => k_is))
    (case zq_gCc => k_is)
    (case zq_FCc => refine' KQ.fun_ex ?l ?c ?k; (case l => k_is); (case c => k_is); (case k => k_is))
    (case zq_gCh => k_is)
    (case zq_FCh => refine' KQ.fun_ex ?l ?c ?k; (case l => k_is); (case c => k_is); (case k => k_is))
    (case zq_gPt => k_is)
    (case zq_FPt => refine' KQ.fun_ex ?l ?c ?k; (case l => k_is); (case c => k_is); (case k => k_is))
    (case zq_gLm => k_is)
    (case zq_FLm => refine' KQ.fun_ex ?l ?c ?k; (case l => k_is); (case c => k_is); (case k => k_is))
    (case zq_gRn => k_is)
    (case zq_FRn => refine' KQ.fun_ex ?l ?c ?k; (case l => k_is); (case c => k_is); (case k => k_is))
    (case zq_gRb => k_is)
    (case zq_FRb => refine' KQ.fun_ex ?l ?c ?k; (case l => k_is); (case c => k_is); (case k => k_is))
    (case zq_gRl => k_is)
    (case zq_FRl => refine' KQ.fun_ex ?l ?c ?k; (case l => k_is); (case c => k_is); (case k => k_is))
    (case zq_gSg => k_is)
    (case zq_FSg => refine' KQ.fun_ex ?l ?c ?k; (case l => k_is); (case c => k_is); (case k => k_is))
    (case zq_gPn => k_is)
    (case zq_FPn => refine' KQ.fun_ex ?l ?c ?k; (case l => k_is); (case c => k_is); (case k => k_is))
    (case zq_gDr => k_is)
    (case zq_FDr => refine' KQ.fun_ex ?l ?c ?k; (case l => k_is); (case c => k_is); (case k => k_is))
    (case zq_gPk => k_is)
    (case zq_FPk => refine' KQ.fun_ex ?l ?c ?k; (case l => k_is); (case c => k_is); (case k => k_is))
    (case zq_gSu => k_is)
    (case zq_FSu => refine' KQ.fun_ex ?l ?c ?k; (case l => k_is); (case c => k_is); (case k => k_is))
    (case zq_gOn => k_is)
    (case zq_FOn => refine' KQ.fun_ex ?l ?c ?k; (case l => k_is); (case c => k_is); (case k => k_is))
    (case zq_gCx => k_is)
    (case zq_FCx => refine' KQ.fun_ex ?l ?c ?k; (case l => k_is); (case c => k_is); (case k => k_is))
    (case zq_gTi => k_is)
    (case zq_FTi => refine' KQ.fun_ex ?l ?c ?k; (case l => k_is); (case c => k_is); (case k => k_is))
    (case zq_gPr => k_is)
    (case zq_FPr => refine' KQ.fun_ex ?l ?c ?k; (case l => k_is); (case c => k_is); (case k => k_is))
    (case zq_gLe => k_is)
    (case zq_FLe => refine' KQ.fun_ex ?l ?c ?k; (case l => k_is); (case c => k_is); (case k => k_is))
    (case zq_gTx => k_is)
    (case zq_FTx => refine' KQ.fun_ex ?l ?c ?k; (case l => k_is); (case c => k_is); (case k => k_is))
    (case zq_gOt => k_is)
    (case zq_FOt => refine' KQ.fun_ex ?l ?c ?k; (case l => k_is); (case c => k_is); (case k => k_is))
    (case zq_gGa => k_is)
    (case zq_FGa => refine' KQ.fun_ex ?l ?c ?k; (case l => k_is); (case c => k_is); (case k => k_is))
    (case zq_gDc => k_is)
    (case zq_FDc => refine' KQ.fun_ex ?l ?c ?k; (case l => k_is); (case c => k_is); (case k => k_is))
    (case zq_gPl => k_is)
    (case zq_FPl => refine' KQ.fun_ex ?l ?c ?k; (case l => k_is); (case c => k_is); (case k => k_is))
    (case zq_gCd => k_is)
    (case zq_FCd => refine' KQ.fun_ex ?l ?c ?k; (case l => k_is); (case c => k_is); (case k => k_is))
    (case zq_gSc => k_is)
    (case zq_FSc => refine' KQ.fun_ex ?l ?c ?k; (case l => k_is); (case c => k_is); (case k => k_is))
    (case zq_gWm => k_is)
    (case zq_FWm => refine' KQ.fun_ex ?l ?c ?k; (case l => k_is); (case c => k_is); (case k => k_is))
    (case zq_gKn => k_is)
    (case zq_FKn => refine' KQ.fun_ex ?l ?c ?k; (case l => k_is); (case c => k_is); (case k => k_is))
    (case zq_gSp => k_is)
    (case zq_FSp => refine' KQ.fun_ex ?l ?c ?k; (case l => k_is); (case c => k_is); (case k => k_is))
    (case zq_gKi => k_is)
    (case zq_FKi => refine' KQ.fun_ex ?l ?c ?k; (case l => k_is); (case c => k_is); (case k => k_is))
    (case zq_gHl => k_is)
    (case zq_FHl => refine' KQ.fun_ex ?l ?c ?k; (case l => k_is); (case c => k_is); (case k => k_is))
    (case zq_gCt => k_is)
    (case zq_FCt => refine' KQ.fun_ex ?l ?c ?k; (case l => k_is); (case c => k_is); (case k => k_is))
    (case zq_gAl => k_is)
    (case zq_FAl => refine' KQ.fun_ex ?l ?c ?k; (case l => k_is); (case c => k_is); (case k => k_is))
    (case zq_gNu => k_is)
    (case zq_FNu => refine' KQ.fun_ex ?l ?c ?k; (case l => k_is); (case c => k_is); (case k => k_is))
    (case zq_gLb => k_is)
    (case zq_FLb => refine' KQ.fun_ex ?l ?c ?k; (case l => k_is); (case c => k_is); (case k => k_is))
    (case zq_z_isinstance => k_is)
    (case zq_z_int => k_is)
    (case zq_z_bool => k_is)
    (case zq_z_str => k_is)
    (case zq_z_len => k_is)
    (case zq_z_range => k_is)
    (case zq_z_list => k_is)
    (case zq_z_enumerate => k_is)
    (case zq_z_tuple => k_is)
    (case zq_z_min => k_is)
    (case zq_z_sorted => k_is)
    (case zq_z_reversed => k_is)
    (case zq_z_zip => k_is)
    (case zq_z_max => k_is)
    (case zq_z_sum => k_is)
    (case zq_gLa => k_is)
    (case zq_FLa => refine' KQ.fun_ex ?l ?c ?k; (case l => k_is); (case c => k_is); (case k => k_is))
    (case zq_aMp => k_is)
