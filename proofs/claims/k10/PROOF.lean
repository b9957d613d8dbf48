import PyProof.Rows.All
import Wide.All
import OpenK.AllK
import Wide.FinOn
import HandS.Base
import HandS.Call
import HandS.List
import PyProof.Rows.SeqCalls
import HandS.ForMost
import HandS.Wide
import HandS.Codes
import HandS.Text
import HandS.StrMore
import PyProof.Rows.StrStrike
import PyProof.Rows.StrCountLaw
import HandS.OwnEq
import HandS.Exc
import HandS.TryMany
import HandS.Strs
import HandS.Replace
import HandS.ReplaceLit
import HandS.Comp
import HandS.IsInst
import HandS.ExcInit
import HandS.ExcField
import HandS.WordsExc
import HandS.Style
import HandS.DeepEq
import HandS.CallLocal
import HandS.Lambda
import HandS.EndOwn
import HandS.Walk
import HandS.ExcIs
import PyProof.ListStr
import HandS.Translate
import HandS.IntHex
import HandS.Dict
import HandS.FStr
import HandS.Iter
import HandS.WideBits
import HandS.AnyAll
import HandS.Conv
import HandS.RevRange
import HandS.SortKw
import PyProof.FString3
import PyProof.Rows.StrIntSpec
import PyProof.Rows.StrRev
import PyProof.StrBlock2
import PyProof.ZipIter
import PyProof.Draws
import PyProof.EnumMake
import PyProof.StrOps2
import KE.KDictDisplayH
import PyProof.DictDisplay
import PyProof.TupleKey
import KE.KDictCopyH
import KE.KDictOf
import PyProof.EqAt
import PyProof.EqKinds
import PyProof.TupleCall
import KE.KEqDict
import PyProof.DictFindH
import HandS.TupAny
import HandS.SortRule
import HandS.TupLen
import PySem.Challenge.RW_keptqubits_k10_whole_groups
set_option Elab.async false
set_option linter.all false
set_option maxRecDepth 100000
set_option maxHeartbeats 4000000
section
open PySem PySem.W PyProof.Rows
/-- size only: with these names taken, the head writes no second copies of some long definitions of its own; nothing below uses them -/
def PySem.W.Fast.tw11899332626948238299 : Nat := 0
def PySem.W.Fast.tw7577222553937453435 : Nat := 0
def PySem.W.Fast.tw15296684430983565170 : Nat := 0
def PySem.W.Fast.tw541143106132251753 : Nat := 0
def PySem.W.Fast.tw6514297192893060353 : Nat := 0
def PySem.W.Fast.tw11927959462513203279 : Nat := 0
def PySem.W.Fast.tw12674656310777702994 : Nat := 0
set_option maxRecDepth 100000 in
set_option maxHeartbeats 0 in
open_top head for PySem.Challenge.rw_keptqubits_k10_whole_groups
end
namespace KQ
open PySem PySem.Spec PyProof.Rows L2
def topS (i : Nat) : Stmt := PySem.Challenge.pw_keptqubits_k10_whole_groups.main.body.getD i (.Pass ⟨0, 0, 0, 0⟩)
abbrev sPen : Stmt := topS 41
abbrev sDraw : Stmt := topS 42
abbrev sPick : Stmt := topS 43
theorem scPen : FnScope ["_law_script", "_law_fold", "_law_cell"] ["_law_script"] (defScope sPen) := ⟨rfl, rfl, rfl, by decide +kernel, rfl, by decide +kernel, by decide +kernel⟩
theorem scDraw : FnScope ["_law_pen_here", "_law_many", "_law_cell", "_law_digit", "_law_mixed"] ["_law_pen_here", "_law_many"] (defScope sDraw) := ⟨rfl, rfl, rfl, by decide +kernel, rfl, by decide +kernel, by decide +kernel⟩
theorem scPick : FnScope ["_law_pen_here", "_law_some"] ["_law_pen_here", "_law_some"] (defScope sPick) := ⟨rfl, rfl, rfl, by decide +kernel, rfl, by decide +kernel, by decide +kernel⟩
theorem k12 : ¬ ("cells" : Str) = "at" := by decide +kernel
theorem k13 : ¬ ("cells" : Str) = "digits" := by decide +kernel
theorem k14 : ¬ ("cells" : Str) = "count" := by decide +kernel
theorem k15 : ¬ ("cells" : Str) = "fold" := by decide +kernel
theorem k23 : ¬ ("at" : Str) = "digits" := by decide +kernel
theorem k24 : ¬ ("at" : Str) = "count" := by decide +kernel
theorem k25 : ¬ ("at" : Str) = "fold" := by decide +kernel
theorem k32 : ¬ ("digits" : Str) = "at" := by decide +kernel
theorem k34 : ¬ ("digits" : Str) = "count" := by decide +kernel
theorem k35 : ¬ ("digits" : Str) = "fold" := by decide +kernel
theorem k42 : ¬ ("count" : Str) = "at" := by decide +kernel
theorem k43 : ¬ ("count" : Str) = "digits" := by decide +kernel
theorem k45 : ¬ ("count" : Str) = "fold" := by decide +kernel
theorem k52 : ¬ ("fold" : Str) = "at" := by decide +kernel
theorem k53 : ¬ ("fold" : Str) = "digits" := by decide +kernel
theorem k54 : ¬ ("fold" : Str) = "count" := by decide +kernel
def kvsP (c : Addr) (a d n f : Int) : List (Key × V) := [(.inr "cells", .ref c), (.inr "at", .int a), (.inr "digits", .int d), (.inr "count", .int n), (.inr "fold", .int f)]
section
variable (c : Addr) (a d n f z : Int)
theorem vCells : valV (kvsP c a d n f) (.inr "cells" : Key) = some (.ref c) := by simp [kvsP, valV, List.find?]
theorem vAt : valV (kvsP c a d n f) (.inr "at" : Key) = some (.int a) := by simp [kvsP, valV, List.find?, k12]
theorem vDigits : valV (kvsP c a d n f) (.inr "digits" : Key) = some (.int d) := by simp [kvsP, valV, List.find?, k13, k23]
theorem vCount : valV (kvsP c a d n f) (.inr "count" : Key) = some (.int n) := by simp [kvsP, valV, List.find?, k14, k24, k34]
theorem vFold : valV (kvsP c a d n f) (.inr "fold" : Key) = some (.int f) := by simp [kvsP, valV, List.find?, k15, k25, k35, k45]
theorem pAt : putK (kvsP c a d n f) (.inr "at" : Key) (.int z) = kvsP c z d n f := by simp [kvsP, putK, k12, k32, k42, k52]
theorem pDigits : putK (kvsP c a d n f) (.inr "digits" : Key) (.int z) = kvsP c a z n f := by simp [kvsP, putK, k13, k23, k43, k53]
theorem pCount : putK (kvsP c a d n f) (.inr "count" : Key) (.int z) = kvsP c a d z f := by simp [kvsP, putK, k14, k24, k34, k54]
theorem pFold : putK (kvsP c a d n f) (.inr "fold" : Key) (.int z) = kvsP c a d n z := by simp [kvsP, putK, k15, k25, k35, k45]
theorem mPen : mergeK [] [((.inr "cells" : Key), V.ref c), (.inr "at", .int a), (.inr "digits", .int d), (.inr "count", .int n), (.inr "fold", .int f)] = kvsP c a d n f := by
  simp [mergeK, kvsP, putK, k12, k13, k14, k15, k23, k24, k25, k34, k35, k45]
end
theorem getS {H : Hp} {a : Addr} {kvs : List (Key × V)} {x : Str} {v : V} (e : H a = some (.dK kvs)) (h : valV kvs (.inr x : Key) = some v) : DGet H a (.str x) (some v) := .inl ⟨kvs, .inr x, .inl e, rfl, h.symm⟩
theorem putS {H : Hp} {a : Addr} {kvs kvs' : List (Key × V)} {x : Str} {v : V} (e : H a = some (.dK kvs)) (hl : kvs.length < sizeLine) (h : putK kvs (.inr x : Key) v = kvs') : DPut H a (.str x) v (upd H a (.dK kvs')) := .inl ⟨kvs, .inr x, e, rfl, hl, by rw [h]⟩
theorem lenP {c : Addr} {a d n f : Int} : (kvsP c a d n f).length < sizeLine := small1000 (by show 5 ≤ 1000; decide)
/-- a pen stands at p, its cells at c, n draws so far -/
def PenAt (H : Hp) (p c : Addr) (n : Nat) : Prop := ∃ (ns : List Int) (a d f : Int), H p = some (.dK (kvsP c a d n f)) ∧ H c = some (.lst (ns.map V.int)) ∧ ns.length ≤ 63 ∧ 0 ≤ a ∧ 0 ≤ d ∧ 0 ≤ f ∧ f < 2147483587
theorem PenAt.ne {H : Hp} {p c : Addr} {n : Nat} (h : PenAt H p c n) : p ≠ c := by
  obtain ⟨ns, a, d, f, hp, hc, _⟩ := h
  exact ne_of hp hc (by intro z; cases z)
theorem PenAt.same {H H' : Hp} {p c : Addr} {n : Nat} (h : PenAt H p c n) (hp : H' p = H p) (hc : H' c = H c) : PenAt H' p c n := by
  obtain ⟨ns, a, d, f, e1, e2, r⟩ := h
  exact ⟨ns, a, d, f, hp.trans e1, hc.trans e2, r⟩
theorem PenAt.some {H : Hp} {p c : Addr} {n : Nat} (h : PenAt H p c n) : (∃ o, H p = some o) ∧ ∃ o, H c = some o := by
  obtain ⟨ns, a, d, f, e1, e2, r⟩ := h
  exact ⟨⟨_, e1⟩, ⟨_, e2⟩⟩
theorem PenAt.ext {H H' : Hp} {p c : Addr} {n : Nat} (h : PenAt H p c n) (s : Same H H') : PenAt H' p c n := by
  obtain ⟨⟨o, e1⟩, o', e2⟩ := h.some
  exact h.same ((s _ _ e1).trans e1.symm) ((s _ _ e2).trans e2.symm)
theorem sqL_pen {K : PySem.W.Frag} {H H' : Hp} {p y : Addr} {xs : List V} {kv : List (Key × V)} (hk : ∀ b, b ≠ p → H' b = H b) (hp : H p = some (.dK kv)) (h : SqL K H y xs) : SqL K H' y xs := by
  rcases h with (h | ⟨ob, h⟩) | h
  · exact .inl (.inl ((hk y (ne_of h hp (by intro z; cases z))).trans h))
  · exact .inl (.inr ⟨ob, (hk y (ne_of h hp (by intro z; cases z))).trans h⟩)
  · exact .inr h
theorem sqT_pen {K : PySem.W.Frag} {H H' : Hp} {p y : Addr} {xs : List V} {kv : List (Key × V)} (hk : ∀ b, b ≠ p → H' b = H b) (hp : H p = some (.dK kv)) (h : SqT K H y xs) : SqT K H' y xs := by
  rcases h with (h | ⟨ob, h⟩) | h
  · exact .inl (.inl ((hk y (ne_of h hp (by intro z; cases z))).trans h))
  · exact .inl (.inr ⟨ob, (hk y (ne_of h hp (by intro z; cases z))).trans h⟩)
  · exact .inr h
theorem ix_or {X : Cx} {r1 r2 : R2} (h1 : IxR X r1) (h2 : IxR X r2) : IxR X (fun x y H Q => r1 x y H Q ∨ r2 x y H Q) := by
  intro val sl pins st σ G x y v u Q J rx ry h hs
  rcases h with h | h
  · exact h1 val sl pins st σ G x y v u Q J rx ry h hs
  · exact h2 val sl pins st σ G x y v u Q J rx ry h hs
def spPen (K : PySem.W.Frag) : Sp := fun vs H Q _ => ∃ (a : Addr) (ns : List Int), vs = [.ref a] ∧ SqL K H a (ns.map V.int) ∧ ns.length ≤ 63 ∧
  ∀ H' p c, Same H H' → H p = none → H c = none → PenAt H' p c 0 → Q (.ref p) H'
def spDraw : Sp := fun vs H Q _ => ∃ (p c : Addr) (n : Nat) (m : Int), vs = [.ref p, .int m] ∧ PenAt H p c n ∧ n < 1000000 ∧ 0 < m ∧ m.natAbs < 2 ^ 200 ∧
  ∀ (r : Int) H', 0 ≤ r → r < m → PenAt H' p c (n + 1) → (∀ b, b ≠ p → H' b = H b) → Q (.int r) H'
def spPick (K : PySem.W.Frag) : Sp := fun vs H Q _ => ∃ (p c q : Addr) (n : Nat) (xs : List V), vs = [.ref p, .ref q] ∧ PenAt H p c n ∧ n < 1000000 ∧ (SqL K H q xs ∨ SqT K H q xs) ∧ xs ≠ [] ∧ xs.length ≤ 1000 ∧
  ∀ (i : Nat) (v : V) H', xs[i]? = some v → PenAt H' p c (n + 1) → (∀ b, b ≠ p → H' b = H b) → Q v H'
section
variable {P : Program} {w : World} {K : PySem.W.Frag} {mg : Str → Option Value} {base : Heap}
theorem ok_pen {f : Addr} {fd : FuncData} {k : Nat} (F : Fun K "_law_pen" "_law_pen" sPen f fd) (mi : mg "int" = none) (ml : mg "list" = none) : FnOk P w K mg base CX0 (k + 1) f fd ["_law_script"] (spPen K) := by
  refine F.ok scPen (fun vs H Q E h => ?_) (fun cdv A outer s H vs Q E hr h => ?_)
  · obtain ⟨a, ns, rfl, _⟩ := h
    rfl
  · obtain ⟨a, ns, rfl, hS, hlen, q⟩ := h
    refine ⟨_, pss_cons (ps_set (i := 1) scPen.nd rfl (.inl rfl) pe_int)
      (pss_cons (ps_for PassesOwn.never rfl (pi_list (pv 0)) (pg_name (i := 2) scPen.nd rfl (.inl rfl))
        (pss_one (ps_set (i := 1) scPen.nd rfl (.inl rfl) (pe_op op_mod (pe_callTy call_int1 (by rfl) mi (by decide +kernel) (pa_cons (pe_op op_add (pe_op op_mul (pv 1) pe_int) (pv 2)) pa_nil)) pe_int))))
      (pss_one (ps_ret (pe_disp (pps_cons pe_str (pe_callTy call_list_of (by rfl) ml (by decide +kernel) (pa_cons (pv 0) pa_nil)) (pps_cons pe_str pe_int (pps_cons pe_str pe_int (pps_cons pe_str pe_int (pps_cons pe_str (pv 1) pps_nil))))) (by rfl) (by rfl) (fun z => by cases z) (by decide))))), ?_⟩
    refine ⟨_, rfl, a, rfl, ⟨_, hS⟩, for_list (K := K) (a := a) (xs := ns.map V.int) (fun i σ H2 => ∃ (g : Int) (v : Option V), σ = [some (.ref a), some (.int g), v] ∧ H2 = H ∧ 0 ≤ g ∧ g < 1000000007)
      ⟨0, none, rfl, rfl, by decide, by decide⟩ (fun i σ H2 _ ⟨_, _, _, e, _⟩ => by rw [e]; exact hS) ?_ ?_⟩
    · rintro i y σ H2 hi ⟨g, v, rfl, rfl, h0, h1⟩
      obtain ⟨z, rfl⟩ : ∃ z, y = V.int z := by
        rw [List.getElem?_map] at hi
        cases e : ns[i]? with
        | none => rw [e] at hi; cases hi
        | some z => rw [e] at hi; exact ⟨z, (Option.some.inj hi).symm⟩
      refine ⟨_, rfl, _, _, rfl, rfl, .inr ⟨by decide, by decide⟩, _, rfl, _, _, rfl, rfl, .inl ⟨_, rfl, _, _, rfl, rfl, (by show (0 : Int) < 1000000007; decide), ?_⟩⟩
      exact ⟨_, _, rfl, rfl, Int.emod_nonneg _ (by decide), Int.emod_lt_of_pos _ (by decide)⟩
    · rintro σ H2 ⟨g, v, rfl, rfl, h0, h1⟩
      intro p np
      refine ⟨.ref a, rfl, a, ns.map V.int, rfl, .inl ?_, fun c nc => ?_⟩
      · exact Same.seq (H := H2) (fun b o e => by rw [upd_ne (ne_of_none e np)]; exact e) hS
      have ncp : c ≠ p := fun e => by rw [e, upd_same] at nc; cases nc
      have nc2 : H2 c = none := by rw [upd_ne ncp] at nc; exact nc
      refine ⟨_, rfl, ?_⟩
      refine ⟨by rw [upd_ne ncp.symm, upd_same], [((.inr "cells" : Key), V.ref c), (.inr "at", .int 0), (.inr "digits", .int 0), (.inr "count", .int 0), (.inr "fold", .int g)], rfl, (by show 5 ≤ 15; decide), ?_⟩
      rw [mPen]
      refine q _ p c (fun b o e => ?_) np nc2 ⟨ns, 0, 0, g, upd_same, ?_, hlen, by decide, by decide, h0, by omega⟩
      · rw [upd_ne (ne_of_none e np), upd_ne (ne_of_none e nc2), upd_ne (ne_of_none e np)]
        exact e
      · rw [upd_ne ncp, upd_same]
theorem ok_draw {f : Addr} {fd : FuncData} {k : Nat} (F : Fun K "_law_draw" "_law_draw" sDraw f fd) (mi : mg "int" = none) (ml : mg "len" = none) : FnOk P w K mg base CX0 (k + 1) f fd ["_law_pen_here", "_law_many"] spDraw := by
  refine F.ok scDraw (fun vs H Q E h => ?_) (fun cdv A outer s H vs Q E hr h => ?_)
  · obtain ⟨p, c, n, m, rfl, _⟩ := h
    rfl
  · obtain ⟨p, c, n, m, rfl, hP, hn, hm, hm9, q⟩ := h
    have hu := hu_of hr
    have hpc := hP.ne
    obtain ⟨ns, a0, d0, f0, hp, hc, hlen, ha, hd, hf0, hf1⟩ := hP
    refine ⟨_, pss_cons (ps_dput hu (pv 0) pe_str (pe_op op_add (pe_dget hu (pv 0) pe_str (fun _ _ => rfl)) pe_int) rfl)
      (C8.pss_cut (ps_if (pw_and (pt_cmpR op_eq (pe_dget hu (pv 0) pe_str (fun _ _ => rfl)) pe_int (nomark _))
            (pw_and1 (pt_cmpR op_lt (pe_dget hu (pv 0) pe_str (fun _ _ => rfl)) (pe_callB call_len_seq (by rfl) ml PySem.boot_len (pa_cons (pe_dget hu (pv 0) pe_str (fun _ _ => rfl)) pa_nil)) (nomark _)))).pt
          (pss_cons (ps_set (i := 2) scDraw.nd rfl (.inl rfl) (pe_ix ix_list (pe_dget hu (pv 0) pe_str (fun _ _ => rfl)) (pe_dget hu (pv 0) pe_str (fun _ _ => rfl)) (fun _ _ => rfl)))
          (pss_cons (ps_dput hu (pv 0) pe_str (pe_op op_add (pe_dget hu (pv 0) pe_str (fun _ _ => rfl)) pe_int) rfl)
          (pss_one (ps_if (pt_cmpR op_ge (pv 2) (pe_op op_pow pe_int pe_int) (nomark _))
            (pss_one (ps_dput hu (pv 0) pe_str (pe_op op_sub (pv 2) (pe_op op_pow pe_int pe_int)) rfl))
            (pss_one (ps_dput hu (pv 0) pe_str (pe_op op_mod (pe_callTy call_int1 (by rfl) mi (by decide +kernel) (pa_cons (pe_op op_add (pe_op op_mul (pe_dget hu (pv 0) pe_str (fun _ _ => rfl)) pe_int) (pv 2)) pa_nil)) pe_int) rfl))))))
          pss_nil)
      (pss_cons (ps_if (pt_cmpR op_gt (pe_dget hu (pv 0) pe_str (fun _ _ => rfl)) pe_int (nomark _))
          (pss_cons (ps_set (i := 3) scDraw.nd rfl (.inl rfl) (pe_op op_mod (pe_callTy call_int1 (by rfl) mi (by decide +kernel) (pa_cons (pe_dget hu (pv 0) pe_str (fun _ _ => rfl)) pa_nil)) (pv 1)))
          (pss_cons (ps_dput hu (pv 0) pe_str (pe_op op_fdivW (pe_dget hu (pv 0) pe_str (fun _ _ => rfl)) (pv 1)) rfl)
          (pss_one (ps_ret (pv 3)))))
          pss_nil)
      (pss_cons (ps_set (i := 4) scDraw.nd rfl (.inl rfl) (pe_op op_add (pe_op op_add (pe_dget hu (pv 0) pe_str (fun _ _ => rfl)) (pe_op op_mul (pe_dget hu (pv 0) pe_str (fun _ _ => rfl)) pe_int)) pe_int))
      (pss_one (ps_ret (pe_op op_mod (pe_op op_fdivW (pe_callTy call_int1 (by rfl) mi (by decide +kernel) (pa_cons (pe_op op_mod (pe_op op_pow (pv 4) pe_int) pe_int) pa_nil)) pe_int) (pv 1))))))), ?_⟩
    -- count
    refine ⟨_, rfl, p, _, rfl, getS hp (vCount ..), _, _, rfl, rfl, _, rfl, p, _, rfl, putS hp lenP (pCount ..), ?_⟩
    have up : ∀ {o : HO}, (upd H p o) p = some o := fun {o} => upd_same
    have uc : ∀ {o : HO}, (upd H p o) c = some (.lst (ns.map V.int)) := fun {o} => by rw [upd_ne hpc.symm]; exact hc
    -- the cell
    refine ⟨fun σ' H' => ∃ (a d g : Int) (v2 : Option V), σ' = [some (.ref p), some (.int m), v2, none, none] ∧ H' = upd H p (.dK (kvsP c a d ((n : Int) + 1) g)) ∧ 0 ≤ a ∧ 0 ≤ d ∧ 0 ≤ g ∧ g < 2147483587, ?_, ?_⟩
    · refine ⟨_, rfl, p, _, rfl, getS up (vDigits ..), rfl, _, rfl, ite2 (fun e1 => ?_) (fun e1 => ?_)⟩
      · refine ⟨_, rfl, p, _, rfl, getS up (vAt ..), _, rfl, p, _, rfl, getS up (vCells ..), c, _, rfl, .inl (SqL.of uc), _, _, rfl, rfl, _, rfl, ite2 (fun e2 => ?_) (fun e2 => ?_)⟩
        · have e2' : a0 < (ns.length : Int) := by
            have z := of_decide_eq_true e2
            rw [List.length_map] at z
            exact z
          have hat : (ns.map V.int)[a0.toNat]? = some (V.int (ns[a0.toNat]'(by omega))) := by
            rw [List.getElem?_map, List.getElem?_eq_getElem (by omega)]
            rfl
          refine ⟨_, rfl, p, _, rfl, getS up (vCells ..), _, rfl, p, _, rfl, getS up (vAt ..), c, _, _, _, rfl, rfl, SqL.of uc, at_of (by omega) hat, ?_⟩
          refine ⟨_, rfl, p, _, rfl, getS up (vAt ..), _, _, rfl, rfl, _, rfl, p, _, rfl, putS up lenP (pAt ..), ?_⟩
          rw [upd_upd]
          refine ⟨_, rfl, _, _, rfl, rfl, ⟨by decide, by decide, by decide⟩, _, _, rfl, rfl, _, rfl, ite2 (fun e3 => ?_) (fun e3 => ?_)⟩
          · refine ⟨_, rfl, _, _, rfl, rfl, ⟨by decide, by decide, by decide⟩, _, _, rfl, rfl, _, rfl, p, _, rfl, putS up lenP (pDigits ..), ?_⟩
            rw [upd_upd]
            have e3' := of_decide_eq_true e3
            exact ⟨_, _, _, _, rfl, rfl, by omega, by omega, hf0, hf1⟩
          · refine ⟨_, rfl, p, _, rfl, getS up (vFold ..), _, _, rfl, rfl, .inr ⟨by decide, by decide⟩, _, rfl, _, _, rfl, rfl, .inl ⟨_, rfl, _, _, rfl, rfl, (by show (0 : Int) < 2147483587; decide), _, rfl, p, _, rfl, putS up lenP (pFold ..), ?_⟩⟩
            rw [upd_upd]
            exact ⟨_, _, _, _, rfl, rfl, by omega, hd, Int.emod_nonneg _ (by decide), Int.emod_lt_of_pos _ (by decide)⟩
        · exact ⟨_, _, _, _, rfl, rfl, ha, hd, hf0, hf1⟩
      · refine iteF ?_
        exact ⟨_, _, _, _, rfl, rfl, ha, hd, hf0, hf1⟩
    · rintro σ' H' ⟨a, d, g, v2, rfl, rfl, ha', hd', hg0, hg1⟩
      have fin : ∀ (r a d g : Int), 0 ≤ r → r < m → 0 ≤ a → 0 ≤ d → 0 ≤ g → g < 2147483587 → Q (.int r) (upd H p (.dK (kvsP c a d ((n : Int) + 1) g))) := fun r a d g r0 r1 a0 d0 g0 g1 =>
        q r _ r0 r1 ⟨ns, a, d, g, up, uc, hlen, a0, d0, g0, g1⟩ fun b hb => upd_ne hb
      refine ⟨_, rfl, p, _, rfl, getS up (vDigits ..), _, _, rfl, rfl, _, rfl, ite2 (fun e1 => ?_) (fun e1 => ?_)⟩
      · refine ⟨_, rfl, p, _, rfl, getS up (vDigits ..), .inl ⟨_, rfl, _, rfl, _, _, rfl, rfl, hm, ?_⟩⟩
        refine ⟨_, rfl, p, _, rfl, getS up (vDigits ..), _, rfl, _, _, rfl, rfl, wide_div hm hm9 (by decide) (by decide), _, rfl, p, _, rfl, putS up lenP (pDigits ..), ?_⟩
        rw [upd_upd]
        refine ⟨_, rfl, ?_⟩
        exact fin _ _ _ _ (Int.emod_nonneg _ (by omega)) (Int.emod_lt_of_pos _ hm) ha' (Int.ediv_nonneg hd' (by omega)) hg0 hg1
      · refine ⟨_, rfl, p, _, rfl, getS up (vFold ..), _, rfl, p, _, rfl, getS up (vCount ..), _, _, rfl, rfl, .inr ⟨by decide, by decide⟩, _, _, rfl, rfl, _, _, rfl, rfl, ?_⟩
        refine ⟨_, rfl, _, _, rfl, rfl, ⟨by decide, by decide, ?_⟩, _, _, rfl, rfl, (by show (0 : Int) < 2305843009213693951; decide), .inl ⟨_, rfl, _, _, rfl, rfl, wide_div (b := 200) (by decide) (by decide) (by decide) (by decide), _, rfl, _, _, rfl, rfl, hm, ?_⟩⟩
        · omega
        · exact fin _ _ _ _ (Int.emod_nonneg _ (by omega)) (Int.emod_lt_of_pos _ hm) ha' hd' hg0 hg1
theorem ok_pick {f fD : Addr} {fd fdD : FuncData} {k : Nat} (F : Fun K "_law_pick" "_law_pick" sPick f fd) (FD : Fun K "_law_draw" "_law_draw" sDraw fD fdD) (bD : Binds K fdD ["_law_pen_here", "_law_many"] []) (gD : mg "_law_draw" = some (.ref fD)) (mi : mg "int" = none) (ml : mg "len" = none) :
    FnOk P w K mg base CX0 (k + 2) f fd ["_law_pen_here", "_law_some"] (spPick K) := by
  have GD : FnOk P w K mg base CX0 (k + 1) fD fdD ["_law_pen_here", "_law_many"] spDraw := ok_draw FD mi ml
  refine F.ok scPick (fun vs H Q E h => ?_) (fun cdv A outer s H vs Q E hr h => ?_)
  · obtain ⟨p, c, y, n, xs, rfl, _⟩ := h
    rfl
  · obtain ⟨p, c, y, n, xs, rfl, hP, hn, hS, h0, hl, q⟩ := h
    refine ⟨_, pss_one (ps_ret (pe_ix (ix_or ix_list ix_tup) (pv 1) (pe_call GD hr (by rfl) gD FD.kp bD .nil pass0 (pa_cons (pv 0) (pa_cons (pe_callB call_len_seq (by rfl) ml PySem.boot_len (pa_cons (pv 1) pa_nil)) pa_nil))) (fun _ _ => rfl))), ?_⟩
    have hpos : 0 < xs.length := List.length_pos_iff.mpr h0
    refine ⟨_, rfl, _, rfl, _, rfl, y, xs, rfl, hS, p, c, n, _, rfl, hP, hn, by omega, ?_, fun r H' r0 r1 hP' hk => ?_⟩
    · have e : (xs.length : Int).natAbs = xs.length := by omega
      rw [e]
      exact Nat.lt_of_le_of_lt hl (by decide)
    · obtain ⟨j, rfl⟩ : ∃ j : Nat, r = (j : Int) := ⟨r.toNat, by omega⟩
      have hj : j < xs.length := by omega
      have hx : xs[j]? = some xs[j] := List.getElem?_eq_getElem hj
      obtain ⟨ns, a0, d0, f0, ep, _⟩ := hP
      rcases hS with hS | hS
      · exact .inl ⟨y, xs, _, _, rfl, rfl, sqL_pen hk ep hS, atI_nat hx, q j _ H' hx hP' hk⟩
      · exact .inr ⟨y, xs, _, _, rfl, rfl, sqT_pen hk ep hS, atI_nat hx, q j _ H' hx hP' hk⟩
end
end KQ
namespace KQ
open PySem PySem.Spec PyProof.Rows L2
abbrev mS (L : List Nat) : Str := ⟨L.toArray⟩
theorem mS_len (L : List Nat) : (mS L).length = L.length := by simp [Str.length]
theorem mS_inj {L M : List Nat} (h : mS L = mS M) : L = M := by
  have := congrArg (fun x : Str => x.cps.toList) h
  simpa using this
theorem mS_app (L M : List Nat) : mS L ++ mS M = mS (L ++ M) := by
  show Str.mk (L.toArray ++ M.toArray) = _
  simp
theorem mS_eta (x : Str) : x = mS x.cps.toList := by
  show x = Str.mk x.cps.toList.toArray
  simp
theorem mS_of {x : Str} {L : List Nat} (h : x.cps.toList = L) : x = mS L := by rw [mS_eta x, h]
theorem mS_cut (L : List Nat) (lo hi : Option Int) : cutS (mS L) lo hi = mS ((L.drop (HT.sIx L.length 0 lo)).take (HT.sIx L.length L.length hi - HT.sIx L.length 0 lo)) := by
  unfold cutS
  rw [mS_len]
theorem cut_from (L : List Nat) (k : Nat) : cutS (mS L) (some (k : Int)) none = mS (L.drop k) := by
  rw [mS_cut, HT.sIx_nat, HT.sIx_none]
  by_cases h : k ≤ L.length
  · rw [Nat.min_eq_left h, List.take_of_length_le (by simp)]
  · rw [Nat.min_eq_right (by omega), List.drop_of_length_le (Nat.le_refl _), List.drop_of_length_le (by omega)]
    simp
theorem cut_to (L : List Nat) (k : Nat) : cutS (mS L) none (some (k : Int)) = mS (L.take k) := by
  rw [mS_cut, HT.sIx_nat, HT.sIx_none, List.drop_zero, Nat.sub_zero]
  by_cases h : k ≤ L.length
  · rw [Nat.min_eq_left h]
  · rw [Nat.min_eq_right (by omega), List.take_of_length_le (Nat.le_refl _), List.take_of_length_le (by omega)]
theorem sw_one (L : List Nat) (c : Nat) : Txt.startswith (mS L) ⟨#[c]⟩ = decide (L.head? = some c) := by
  cases L with
  | nil => rfl
  | cons a L =>
    unfold Txt.startswith Builtin.Str.subAt
    show (decide (0 + 1 ≤ (mS (a :: L)).length) && ((a :: L).toArray.extract 0 (0 + 1) == #[c])) = _
    rw [mS_len]
    by_cases h : a = c
    · subst h
      simp
    · have : ¬ (some a = some c) := fun e => h (Option.some.inj e)
      simp [h]
theorem drop_take {p : Nat → Bool} (L : List Nat) : L.drop (L.takeWhile p).length = L.dropWhile p := by
  have h := List.takeWhile_append_dropWhile (p := p) (l := L)
  have h2 : (L.takeWhile p ++ L.dropWhile p).drop (L.takeWhile p).length = L.dropWhile p := List.drop_left
  rw [h] at h2
  exact h2
theorem lstrip_eq (L S : List Nat) : Txt.lstripChars (mS L) (mS S) = mS (L.dropWhile S.toArray.contains) := by
  have key : Builtin.Str.strSub (mS L) (L.takeWhile S.toArray.contains).length L.length = mS (L.dropWhile S.toArray.contains) := by
    refine mS_of ?_
    rw [PySem.StrLaws.strSub_toList]
    show ((L.drop _).take _) = _
    rw [drop_take, List.take_of_length_le]
    have h := congrArg List.length (List.takeWhile_append_dropWhile (p := S.toArray.contains) (l := L))
    rw [List.length_append] at h
    omega
  unfold Txt.lstripChars Txt.stripBy
  split
  · rename_i h
    have h0 : (L.takeWhile S.toArray.contains).length = 0 := by
      exact eq_of_beq ((Bool.and_eq_true _ _).mp h).1
    rw [← drop_take, h0, List.drop_zero]
  · show Builtin.Str.strSub (mS L) _ (mS L).length = _
    rw [mS_len]
    exact key
theorem strike (L : List Nat) (c : Nat) : Txt.replace (mS L) ⟨#[c]⟩ ⟨#[]⟩ = mS (L.filter (· != c)) := mS_of (by rw [replace_strikes])
def isL (c : Nat) : Bool := (#[73, 88, 89, 90] : Array Nat).contains c
theorem isL_iff {c : Nat} : isL c = true ↔ c = 73 ∨ c = 88 ∨ c = 89 ∨ c = 90 := by
  unfold isL
  simp
def lx (c : Nat) : Nat := if c = 88 ∨ c = 89 then 1 else 0
def lz (c : Nat) : Nat := if c = 90 ∨ c = 89 then 1 else 0
def bv (f : Nat → Nat) : List Nat → Nat
  | [] => 0
  | c :: L => f c + 2 * bv f L
theorem bv_app (f : Nat → Nat) : ∀ (L : List Nat) (c : Nat), bv f (L ++ [c]) = bv f L + 2 ^ L.length * f c
  | [], c => by simp [bv]
  | a :: L, c => by
    show f a + 2 * bv f (L ++ [c]) = f a + 2 * bv f L + 2 ^ (L.length + 1) * f c
    rw [bv_app f L c, Nat.pow_succ, Nat.mul_add, Nat.add_assoc, Nat.mul_comm (2 ^ L.length) 2, Nat.mul_assoc]
theorem bv_take (f : Nat → Nat) {L : List Nat} {k c : Nat} (h : L[k]? = some c) : bv f (L.take (k + 1)) = bv f (L.take k) + 2 ^ k * f c := by
  have hk : k < L.length := by
    rcases Nat.lt_or_ge k L.length with h' | h'
    · exact h'
    · rw [List.getElem?_eq_none h'] at h; cases h
  have e : L.take (k + 1) = L.take k ++ [c] := by
    rw [List.take_succ, h]
    rfl
  rw [e, bv_app, List.length_take, Nat.min_eq_left (by omega)]
theorem bv_bit {f : Nat → Nat} (hf : ∀ c, f c < 2) : ∀ {L : List Nat} {k c : Nat}, L[k]? = some c → bv f L / 2 ^ k % 2 = f c
  | [], k, c, h => by simp at h
  | a :: L, 0, c, h => by
    have e : a = c := by simpa using h
    subst e
    have := hf a
    show (f a + 2 * bv f L) / 2 ^ 0 % 2 = f a
    rw [Nat.pow_zero, Nat.div_one]
    omega
  | a :: L, k + 1, c, h => by
    have h' : L[k]? = some c := by simpa using h
    have := hf a
    show (f a + 2 * bv f L) / 2 ^ (k + 1) % 2 = f c
    rw [Nat.pow_succ, Nat.mul_comm (2 ^ k) 2, ← Nat.div_div_eq_div_mul, show (f a + 2 * bv f L) / 2 = bv f L from by omega]
    exact bv_bit hf h'
theorem bv_lt {f : Nat → Nat} (hf : ∀ c, f c < 2) : ∀ L : List Nat, bv f L < 2 ^ L.length
  | [] => Nat.one_pos
  | a :: L => by
    have := bv_lt hf L
    have := hf a
    show f a + 2 * bv f L < 2 ^ (L.length + 1)
    rw [Nat.pow_succ]
    omega
theorem lx_lt (c : Nat) : lx c < 2 := by unfold lx; split <;> omega
theorem lz_lt (c : Nat) : lz c < 2 := by unfold lz; split <;> omega
theorem letter_back {c : Nat} (h : isL c = true) : ([73, 88, 90, 89] : List Nat)[lx c + 2 * lz c]? = some c := by
  rcases isL_iff.mp h with rfl | rfl | rfl | rfl <;> decide
def pc (n : Nat) : Nat := if h : n = 0 then 0 else n % 2 + pc (n / 2)
termination_by n
decreasing_by omega
theorem pc_zero : pc 0 = 0 := by unfold pc; rfl
theorem pc_two (m b : Nat) (hb : b < 2) : pc (2 * m + b) = b + pc m := by
  by_cases h : 2 * m + b = 0
  · have h1 : m = 0 := by omega
    have h2 : b = 0 := by omega
    subst h1 h2
    rw [pc_zero]
  · rw [pc, dif_neg h, show (2 * m + b) % 2 = b from by omega, show (2 * m + b) / 2 = m from by omega]
theorem and_two (a b i j : Nat) (hi : i < 2) (hj : j < 2) : (2 * a + i) &&& (2 * b + j) = 2 * (a &&& b) + (i &&& j) := by
  have h1 : ((2 * a + i) &&& (2 * b + j)) / 2 = a &&& b := by
    rw [Nat.and_div_two, show (2 * a + i) / 2 = a from by omega, show (2 * b + j) / 2 = b from by omega]
  have h2 : ((2 * a + i) &&& (2 * b + j)) % 2 = i &&& j := by
    have := Nat.and_mod_two_pow (a := 2 * a + i) (b := 2 * b + j) (n := 1)
    rw [Nat.pow_one] at this
    rw [this, show (2 * a + i) % 2 = i from by omega, show (2 * b + j) % 2 = j from by omega]
  omega
theorem or_two (a b i j : Nat) (hi : i < 2) (hj : j < 2) : (2 * a + i) ||| (2 * b + j) = 2 * (a ||| b) + (i ||| j) := by
  have h1 : ((2 * a + i) ||| (2 * b + j)) / 2 = a ||| b := by
    rw [Nat.or_div_two, show (2 * a + i) / 2 = a from by omega, show (2 * b + j) / 2 = b from by omega]
  have h2 : ((2 * a + i) ||| (2 * b + j)) % 2 = i ||| j := by
    have := Nat.or_mod_two_pow (a := 2 * a + i) (b := 2 * b + j) (n := 1)
    rw [Nat.pow_one] at this
    rw [this, show (2 * a + i) % 2 = i from by omega, show (2 * b + j) % 2 = j from by omega]
  omega
theorem pc_step : ∀ (n : Nat), 0 < n → pc (n &&& (n - 1)) + 1 = pc n := by
  intro n
  induction n using Nat.strongRecOn with
  | ind n ih =>
    intro hn
    by_cases h : n % 2 = 1
    · have e : n = 2 * (n / 2) + 1 := by omega
      have e2 : n - 1 = 2 * (n / 2) + 0 := by omega
      have e3 : n &&& (n - 1) = 2 * (n / 2) + 0 := by
        rw [e2]
        conv => lhs; lhs; rw [e]
        rw [and_two _ _ _ _ (by decide) (by decide), Nat.and_self]
        rfl
      rw [e3, pc_two _ _ (by decide)]
      conv => rhs; rw [e]
      rw [pc_two _ _ (by decide)]
      omega
    · have e : n = 2 * (n / 2) + 0 := by omega
      have e2 : n - 1 = 2 * (n / 2 - 1) + 1 := by omega
      have e3 : n &&& (n - 1) = 2 * (n / 2 &&& (n / 2 - 1)) + 0 := by
        rw [e2]
        conv => lhs; lhs; rw [e]
        rw [and_two _ _ _ _ (by decide) (by decide)]
        rfl
      have := ih (n / 2) (by omega) (by omega)
      rw [e3, pc_two _ _ (by decide)]
      conv => rhs; rw [e]
      rw [pc_two _ _ (by decide)]
      omega
def st1 (B : List Nat) : Nat := if B.head? = some 43 ∨ B.head? = some 45 then 1 else 0
def start (B : List Nat) : Nat := st1 B + (if (B.drop (st1 B)).head? = some 105 then 1 else 0)
def rest (B : List Nat) : List Nat := B.drop (start B)
def fine (B : List Nat) : Prop := (rest B).dropWhile isL = [] ∧ rest B ≠ []
instance (B : List Nat) : Decidable (fine B) := inferInstanceAs (Decidable (_ ∧ _))
def col (B : List Nat) : Nat := if fine B then 0 else B.length - ((rest B).dropWhile isL).length + 1
def ph (B : List Nat) : Nat := (if B.head? = some 45 then 2 else 0) + (if (B.drop (st1 B)).head? = some 105 then 1 else 0)
def headL : Nat → List Nat
  | 0 => []
  | 1 => [105]
  | 2 => [45]
  | _ => [45, 105]
theorem ph_lt (B : List Nat) : ph B < 4 := by
  unfold ph
  split <;> split <;> omega
theorem head_of (B : List Nat) : (B.take (start B)).filter (· != 43) = headL (ph B) := by
  cases B with
  | nil => rfl
  | cons a B =>
    unfold start ph
    by_cases h1 : a = 43
    · subst h1
      have e : st1 (43 :: B) = 1 := rfl
      rw [e]
      cases B with
      | nil => rfl
      | cons b B =>
        by_cases h2 : b = 105
        · subst h2
          rfl
        · have e2 : ((43 :: b :: B).drop 1).head? ≠ some 105 := fun z => h2 (Option.some.inj z)
          rw [if_neg e2, if_neg (by simp : ¬ ((43 :: b :: B).head? = some 45))]
          rfl
    · by_cases h3 : a = 45
      · subst h3
        have e : st1 (45 :: B) = 1 := rfl
        rw [e]
        cases B with
        | nil => rfl
        | cons b B =>
          by_cases h2 : b = 105
          · subst h2
            rfl
          · have e2 : ((45 :: b :: B).drop 1).head? ≠ some 105 := fun z => h2 (Option.some.inj z)
            rw [if_neg e2]
            rfl
      · have e : st1 (a :: B) = 0 := by
          unfold st1
          rw [if_neg]
          rintro (z | z)
          · exact h1 (Option.some.inj z)
          · exact h3 (Option.some.inj z)
        have e3 : ¬ ((a :: B).head? = some 45) := fun z => h3 (Option.some.inj z)
        rw [e, if_neg e3]
        by_cases h2 : a = 105
        · subst h2
          rfl
        · have e2 : ¬ (((a :: B).drop 0).head? = some 105) := fun z => h2 (Option.some.inj z)
          rw [if_neg e2]
          rfl
theorem start_le (B : List Nat) : start B ≤ B.length := by
  unfold start
  cases B with
  | nil => decide
  | cons a B =>
    have h1 : st1 (a :: B) ≤ 1 := by unfold st1; split <;> omega
    split
    · rename_i h
      have : st1 (a :: B) < (a :: B).length := by
        rcases Nat.lt_or_ge (st1 (a :: B)) (a :: B).length with z | z
        · exact z
        · rw [List.drop_of_length_le z] at h
          cases h
      omega
    · show _ ≤ B.length + 1
      omega
theorem dw_all : ∀ {L : List Nat}, (∀ c ∈ L, isL c = true) → L.dropWhile isL = []
  | [], _ => rfl
  | c :: L, h => by
    rw [List.dropWhile_cons_of_pos (h c List.mem_cons_self)]
    exact dw_all fun d hd => h d (List.mem_cons_of_mem _ hd)
/-- a head before letters -/
theorem read_head {L : List Nat} (hL : ∀ c ∈ L, isL c = true) (h0 : L ≠ []) (i : Nat) (T : List Nat) (p : Nat) (hT : ([([], 0), ([43], 0), ([45], 2), ([105], 1), ([43, 105], 1), ([45, 105], 3)] : List (List Nat × Nat))[i]? = some (T, p)) :
    rest (T ++ L) = L ∧ ph (T ++ L) = p ∧ fine (T ++ L) := by
  have hd : ∃ a M, L = a :: M ∧ a ≠ 43 ∧ a ≠ 45 ∧ a ≠ 105 := by
    cases L with
    | nil => exact absurd rfl h0
    | cons a M =>
      refine ⟨a, M, rfl, ?_, ?_, ?_⟩ <;> rintro rfl <;> have := isL_iff.mp (hL _ List.mem_cons_self) <;> omega
  obtain ⟨a, M, rfl, n1, n2, n3⟩ := hd
  have dw : (a :: M).dropWhile isL = [] := by
    exact dw_all hL
  have go : ∀ T p, start (T ++ (a :: M)) = T.length → ph (T ++ (a :: M)) = p → rest (T ++ (a :: M)) = a :: M ∧ ph (T ++ (a :: M)) = p ∧ fine (T ++ (a :: M)) := by
    intro T p hs hp
    have hr : rest (T ++ (a :: M)) = a :: M := by
      unfold rest
      rw [hs]
      exact List.drop_left
    refine ⟨hr, hp, ?_⟩
    unfold fine
    rw [hr]
    exact ⟨dw, by simp⟩
  have s1 : ∀ x : Nat, x ≠ 43 → x ≠ 45 → ∀ M, st1 (x :: M) = 0 := by
    intro x h1 h2 M
    unfold st1
    rw [if_neg]
    rintro (z | z)
    · exact h1 (Option.some.inj z)
    · exact h2 (Option.some.inj z)
  have no : ∀ M : List Nat, ¬ ((a :: M).head? = some 105) := fun M z => n3 (Option.some.inj z)
  match i, hT with
  | 0, e =>
    cases e
    refine go [] 0 ?_ ?_
    · show st1 (a :: M) + (if ((a :: M).drop (st1 (a :: M))).head? = some 105 then 1 else 0) = 0
      rw [s1 a n1 n2, List.drop_zero, if_neg (no M)]
    · have n4 : ¬ ((a :: M).head? = some 45) := fun z => n2 (Option.some.inj z)
      show (if (a :: M).head? = some 45 then 2 else 0) + (if ((a :: M).drop (st1 (a :: M))).head? = some 105 then 1 else 0) = 0
      rw [s1 a n1 n2, if_neg n4, List.drop_zero, if_neg (no M)]
  | 1, e =>
    cases e
    refine go [43] 0 ?_ ?_
    · show 1 + (if (a :: M).head? = some 105 then 1 else 0) = 1
      rw [if_neg (no M)]
    · show 0 + (if (a :: M).head? = some 105 then 1 else 0) = 0
      rw [if_neg (no M)]
  | 2, e =>
    cases e
    refine go [45] 2 ?_ ?_
    · show 1 + (if (a :: M).head? = some 105 then 1 else 0) = 1
      rw [if_neg (no M)]
    · show 2 + (if (a :: M).head? = some 105 then 1 else 0) = 2
      rw [if_neg (no M)]
  | 3, e =>
    cases e
    exact go [105] 1 rfl rfl
  | 4, e =>
    cases e
    exact go [43, 105] 1 rfl rfl
  | 5, e =>
    cases e
    exact go [45, 105] 3 rfl rfl
theorem len_split (B : List Nat) : B.length = start B + ((rest B).takeWhile isL).length + ((rest B).dropWhile isL).length := by
  have h := congrArg List.length (List.takeWhile_append_dropWhile (p := isL) (l := rest B))
  rw [List.length_append] at h
  have h2 : (rest B).length = B.length - start B := List.length_drop
  have := start_le B
  omega
end KQ
namespace KQ
open PySem PySem.Spec PyProof.Rows L2
/-- what clauses that all write the slot k wish of an exception, one behind the other -/
def wList (K : PySem.W.Frag) (k : Nat) (W0 : WX) (D : Ends) : List (Value × (Addr → Value → Option Addr → TS)) → WX
  | [] => W0
  | z :: more => wAs K z.1 k z.2 (wList K k W0 D more) D
inductive Clauses (X : Cx) (nm : Str) : List ExceptHandler → List (Value × (Addr → Value → Option Addr → TS)) → Prop
  | done : Clauses X nm [] []
  | next {x : Str} {cl : Value} {tk : Addr → Value → Option Addr → TS} {s0 : Stmt} {ss : List Stmt} {p1 p2 : Pos} {hh : List ExceptHandler} {ll : List (Value × (Addr → Value → Option Addr → TS))} (named : Names X x cl)
      (body : ∀ (r : Addr) (ob : Obj) (k : Value) (d : Option Addr) (pn : List (Addr × Obj)), Zc k d ob → (∃ vs, ob.data = .fields vs) → PSs (X.suite r ((r, ob) :: pn)) (s0 :: ss) (tk r k d)) (more : Clauses X nm hh ll) :
      Clauses X nm (.ExceptHandler (some (.Name x p1)) (some nm) (s0 :: ss) p2 :: hh) ((cl, tk) :: ll)
section
variable {X : Cx} {body : List Stmt} {h0 : ExceptHandler} {hh : List ExceptHandler} {ll : List (Value × (Addr → Value → Option Addr → TS))} {pos : Pos} {tb : WX → TS} {W0 : WX} {nm : Str} {k : Nat}
theorem ps_try_list (hst : X.stack = X.env :: X.outer) (hfr0 : X.env.frame = some X.env.locals) (nd : X.N.Nodup) (hk : X.N[k]? = some nm) (hlo : X.env.kindOf nm = some .local) (tk : Takes X W0)
    (hb : ∀ (W : WX) (pn : List (Addr × Obj)) (xe : Value → Shared → Prop), Takes (X.tr pn xe) W → PassesOwn (model X.prog X.w) X.A X.env xe → PSs (X.tr pn xe) body (tb W))
    (cs : Clauses X nm (h0 :: hh) ll) : PS X (.Try body (h0 :: hh) [] [] pos) (fun D σ H => tb (wList X.K k W0 D ll) D σ H) := by
  refine ⟨fun pins s0 σ0 H0 D I0 want => ?_⟩
  have okX := I0.ok
  have frA : X.A.frames = some (X.env :: X.outer) := by rw [okX.frames, hst]
  refine wpAny_Try_except ?_
  refine wpAny_mono ((hb (wList X.K k W0 D ll) (X.pn ++ pins) (fun ex t1 => wpAny (model X.prog X.w) X.A (noteFrame ex X.env) (fun _ t2 => wpAny (model X.prog X.w) X.A (setFlight ex none) (fun _ t3 =>
    wpAny (model X.prog X.w) X.A (handleBy ex X.env (h0 :: hh)) (SP X pins D) X.xe t3) X.xe t2) X.xe t1) (fun u s1 xx => ?_) PassesOwn.looking).run [] s0 σ0 H0 D (I0.toTry _) want) (fun fl s1 got => ?_) (fun _ _ z => z)
  · obtain ⟨a, B, sI, pins1, σ1, H1, kls, d, rfl, J1, nb, up1, sky1, na, os, ag, wish⟩ := xx
    have J : Inv X pins σ1 H1 sI := J1.ofTry okX
    show wpAny (model X.prog X.w) X.A (noteFrame (.ref a) X.env) _ _ _
    refine Sky.land Zc.steady frA hfr0 (by rw [← hst]; exact sky1) fun hp3 fly3 up3 => ?_
    have J3 : Inv X pins σ1 H1 { s1 with heap := hp3 } := J.landed nb fly3.1 (up1.trans up3) os ag
    obtain ⟨o3, vs3, e3, z3, f3⟩ := fly3.there
    have off : a ∉ frs (X.env :: X.outer) := fun hm => by
      obtain ⟨_, o', e', hnf⟩ := fly3.2.2.1.mem hm
      rw [e3] at e'
      cases e'
      exact hnf _ f3
    have nL : a ≠ X.env.locals := fun z => off (List.mem_filterMap.mpr ⟨X.env, List.mem_cons_self, by rw [hfr0, z]⟩)
    have nF : a ∉ X.fs := fun hm => by
      obtain ⟨e, he, q⟩ := List.mem_filterMap.mp hm
      exact off (List.mem_filterMap.mpr ⟨e, List.mem_cons_of_mem _ he, q⟩)
    have S3 := J3.suite e3 f3 na nL nF
    have looks : PySem.W.Looks (model X.prog X.w) hp3 (typeOf (.ref a)) kls := fun A Q E s kk q => wpAny_typeOf_ref (kk _ _ e3) (by rw [z3.1]; exact q)
    have each : ∀ {hs' : List ExceptHandler} {l' : List (Value × (Addr → Value → Option Addr → TS))}, Clauses X nm hs' l' → wList X.K k W0 D l' kls d σ1 H1 →
        wpAny (model X.prog X.w) X.A (handleBy (.ref a) X.env hs') (SP X pins D) X.xe { s1 with heap := hp3 } := by
      intro hs' l' cl
      induction cl with
      | done =>
        intro out
        refine wpAny_handleBy_nil ?_
        obtain ⟨_, _, _, ob, vs, T, oT, tt, he, hz, hd, h1, hr⟩ := id fly3
        unfold PySem.passOn
        refine wpAny_bind (wpAny_field he hd h1 ?_)
        rw [if_neg (by simp : ¬ ((Value.ref T == Value.none) = true))]
        have go : wpAny (model X.prog X.w) X.A (setFlight (.ref a) X.env.frame) (fun _ s4 => wpAny (model X.prog X.w) X.A (throw (.ref a) : Sem Flow) (SP X pins D) X.xe s4) X.xe { s1 with heap := hp3 } := by
          rw [hfr0]
          refine HandSPX.setFlight_upZ fly3 fun hp4 hh4 up4 => wpAny_throw (tk _ _ ?_)
          exact ⟨a, B, sI, pins, σ1, H1, kls, d, rfl, J, nb, (up1.trans up3).trans up4, .inr (.inr (by rw [hst]; exact hh4)), na, os, ag, out⟩
        first
          | exact wpAny_bind (wpAny_pure (wpAny_bind go))
          | exact wpAny_bind go
      | @next x cl tc s0 ss p1 p2 hs2 l2 named suite more ih =>
        intro ask
        obtain ⟨b, hb1, yes, no⟩ := ask
        refine wpAny_handleBy_cons (codeAny_handlers_test ?_) (by intro q; cases q)
        have LM := PySem.W.exm_one (M := model X.prog X.w) (J3.kIn) looks hb1
        have test : ∀ {Q E : Value → Shared → Prop}, Q cl { s1 with heap := hp3 } → wpAny (model X.prog X.w) (X.A.mark (some (.ref a))) (eval (.Name x p1) X.env) Q E { s1 with heap := hp3 } := fun {Q E} q => by
          obtain ⟨hg, nodbg, hm | ⟨hm, hv, hnn⟩⟩ := named
          · exact ld_glob (X := X.suite a ((a, o3) :: (X.pn ++ pins))) S3 hg hm q nodbg
          · exact ld_blt (X := X.suite a ((a, o3) :: (X.pn ++ pins))) S3 hg hm hv q hnn nodbg
        refine test (LM.here ?_)
        cases b with
        | false =>
          show wpAny _ X.A (handleBy (.ref a) X.env hs2) _ _ _
          exact ih (no rfl)
        | true =>
          refine codeAny_handlers_suite_as ?_
          refine HandSPX.lands_againZ fly3 fun hp4 fly4 up4 => ?_
          have J4 : Inv X pins σ1 H1 { s1 with heap := hp4 } := J.landed nb fly4.1 ((up1.trans up3).trans up4) os ag
          obtain ⟨o4, vs4, e4, z4, f4⟩ := fly4.there
          refine store_ok (X := X.suite a ((a, o4) :: (X.pn ++ pins))) (v := .ref a) (J4.suite e4 f4 na nL nF) nd hk (.inl hlo) rfl (fun s5 S5 => ?_) (.inr hlo)
          refine wpAny_mono ((suite a o4 kls d (X.pn ++ pins) z4 ⟨_, f4⟩).run [] s5 _ H1 _ S5 (yes rfl a na)) (fun fl6 s6 got6 => ?_) (fun _ _ z => False.elim z)
          have gone : ∀ {σ6 : L2.St} {H6 : Hp} {Q : Shared → Prop}, Inv (X.suite a ((a, o4) :: (X.pn ++ pins))) [] σ6 H6 s6 → (∀ s7, Inv X pins (σ6.set k none) H6 s7 → Q s7) →
              wpAny (model X.prog X.w) X.A (do bindName X.env nm .none; unbindBehindTheSuite X.env nm p2) (fun _ s7 => Q s7) X.xe s6 := fun S6 hq => gone_ok (S6.unsuite okX) nd hk hlo hq
          cases fl6 with
          | ret u =>
            obtain ⟨v6, σ6, H6, S6, r6, q6⟩ := got6
            exact gone S6 fun s7 J7 => ⟨_, _, _, J7, r6, q6⟩
          | next =>
            obtain ⟨σ6, H6, S6, q6⟩ := got6
            exact gone S6 fun s7 J7 => ⟨_, _, J7, q6⟩
          | brk =>
            obtain ⟨σ6, H6, S6, q6⟩ := got6
            exact gone S6 fun s7 J7 => ⟨_, _, J7, q6⟩
          | cont =>
            obtain ⟨σ6, H6, S6, q6⟩ := got6
            exact gone S6 fun s7 J7 => ⟨_, _, J7, q6⟩
    exact each cs wish
  · cases fl with
    | ret u =>
      obtain ⟨v, σ', H', J', r, q⟩ := got
      exact ⟨v, σ', H', J'.ofTry okX, r, q⟩
    | next =>
      obtain ⟨σ', H', J', q⟩ := got
      exact wpAny_execs_nil ⟨σ', H', J'.ofTry okX, q⟩
    | brk =>
      obtain ⟨σ', H', J', q⟩ := got
      exact ⟨σ', H', J'.ofTry okX, q⟩
    | cont =>
      obtain ⟨σ', H', J', q⟩ := got
      exact ⟨σ', H', J'.ofTry okX, q⟩
end
end KQ
namespace KQ
open PySem PySem.Spec PyProof.Rows L2
def lw (n r : Nat) : Nat := if n.testBit r.log2 then n ^^^ r else n
def rst (T : List Nat) (n : Nat) : Nat := T.foldl lw n
def Sub (S : Nat → Prop) : Prop := S 0 ∧ ∀ x y, S x → S y → S (x ^^^ y)
def Spn (T : List Nat) (x : Nat) : Prop := ∀ S, Sub S → (∀ a ∈ T, S a) → S x
theorem spn_sub (T : List Nat) : Sub (Spn T) := ⟨fun _ h _ => h.1, fun x y hx hy S h m => h.2 x y (hx S h m) (hy S h m)⟩
theorem spn_mem {T : List Nat} {a : Nat} (h : a ∈ T) : Spn T a := fun _ _ m => m a h
theorem spn_le {T U : List Nat} {x : Nat} (h : ∀ a ∈ T, Spn U a) (hx : Spn T x) : Spn U x := hx _ (spn_sub U) h
theorem spn_iff_of {T U : List Nat} (h : ∀ a ∈ T, Spn U a) (k : ∀ a ∈ U, Spn T a) (x : Nat) : Spn T x ↔ Spn U x := ⟨spn_le h, spn_le k⟩
theorem log_of {n : Nat} (h : n ≠ 0) : 2 ^ n.log2 ≤ n ∧ n < 2 ^ (n.log2 + 1) := ⟨Nat.log2_self_le h, Nat.lt_log2_self⟩
theorem bit_top {n : Nat} (h : n ≠ 0) : n.testBit n.log2 = true := by
  obtain ⟨h1, h2⟩ := log_of h
  rw [Nat.testBit_eq_decide_div_mod_eq]
  have e : n / 2 ^ n.log2 = 1 := by
    apply Nat.div_eq_of_lt_le
    · omega
    · rw [Nat.pow_succ] at h2
      omega
  rw [e]
  rfl
theorem bit_above {n j : Nat} (h : n.log2 < j) : n.testBit j = false := by
  by_cases z : n = 0
  · subst z
    exact Nat.zero_testBit j
  · exact Nat.testBit_lt_two_pow (Nat.lt_of_lt_of_le (log_of z).2 (Nat.pow_le_pow_right (by decide) h))
theorem bit_high {n k j : Nat} (h : n < 2 ^ k) (hj : k ≤ j) : n.testBit j = false := Nat.testBit_lt_two_pow (Nat.lt_of_lt_of_le h (Nat.pow_le_pow_right (by decide) hj))
theorem log_of_bits {n t : Nat} (h : n.testBit t = true) (k : ∀ j, t < j → n.testBit j = false) : n.log2 = t := by
  have n0 : n ≠ 0 := fun z => by
    subst z
    rw [Nat.zero_testBit] at h
    cases h
  rcases Nat.lt_trichotomy n.log2 t with a | a | a
  · rw [bit_above a] at h
    cases h
  · exact a
  · have := k _ a
    rw [bit_top n0] at this
    cases this
theorem bit_lt {n m : Nat} (t : Nat) (hn : n.testBit t = false) (hm : m.testBit t = true) (h : ∀ j, t < j → n.testBit j = m.testBit j) : n < m := by
  have e : n / 2 ^ (t + 1) = m / 2 ^ (t + 1) := by
    apply Nat.eq_of_testBit_eq
    intro j
    rw [Nat.testBit_div_two_pow, Nat.testBit_div_two_pow]
    exact h _ (by omega)
  rw [Nat.testBit_eq_decide_div_mod_eq] at hn hm
  have hn' := of_decide_eq_false hn
  have hm' := of_decide_eq_true hm
  rw [Nat.pow_succ, ← Nat.div_div_eq_div_mul, ← Nat.div_div_eq_div_mul] at e
  have l : n / 2 ^ t < m / 2 ^ t := by omega
  exact Nat.lt_of_not_le fun z => absurd (Nat.div_le_div_right (c := 2 ^ t) z) (by omega)
theorem lt_iff {n r : Nat} (hr : r ≠ 0) : n ^^^ r < n ↔ n.testBit r.log2 = true := by
  have up : ∀ j, r.log2 < j → (n ^^^ r).testBit j = n.testBit j := fun j hj => by
    rw [Nat.testBit_xor, bit_above hj, Bool.xor_false]
  constructor
  · intro h
    rcases Bool.eq_false_or_eq_true (n.testBit r.log2) with e | e
    · exact e
    · have : n < n ^^^ r := by
        refine bit_lt r.log2 e ?_ fun j hj => (up j hj).symm
        rw [Nat.testBit_xor, e, bit_top hr]
        rfl
      omega
  · intro e
    refine bit_lt r.log2 ?_ e up
    rw [Nat.testBit_xor, e, bit_top hr]
    rfl
theorem lw_lin (x y r : Nat) : lw (x ^^^ y) r = lw x r ^^^ lw y r := by
  unfold lw
  rw [Nat.testBit_xor]
  rcases Bool.eq_false_or_eq_true (x.testBit r.log2) with a | a <;> rcases Bool.eq_false_or_eq_true (y.testBit r.log2) with b | b <;> rw [a, b] <;> simp
  · rw [Nat.xor_assoc x r, ← Nat.xor_assoc r y, Nat.xor_comm r y, Nat.xor_assoc y r, Nat.xor_self, Nat.xor_zero]
  · rw [Nat.xor_assoc, Nat.xor_comm y, ← Nat.xor_assoc]
  · rw [Nat.xor_assoc]
theorem rst_lin (T : List Nat) : ∀ x y, rst T (x ^^^ y) = rst T x ^^^ rst T y := by
  induction T with
  | nil => intro x y; rfl
  | cons r T ih =>
    intro x y
    show rst T (lw (x ^^^ y) r) = rst T (lw x r) ^^^ rst T (lw y r)
    rw [lw_lin, ih]
theorem lw_zero (r : Nat) : lw 0 r = 0 := by
  unfold lw
  rw [Nat.zero_testBit]
  rfl
theorem rst_zero (T : List Nat) : rst T 0 = 0 := by
  induction T with
  | nil => rfl
  | cons r T ih =>
    show rst T (lw 0 r) = 0
    rw [lw_zero, ih]
structure Ec (T : List Nat) : Prop where
  nz : ∀ r ∈ T, r ≠ 0
  pw : T.Pairwise fun a b => b.testBit a.log2 = false
theorem lw_bit {n r t : Nat} (h : r.testBit t = false) : (lw n r).testBit t = n.testBit t := by
  unfold lw
  split
  · rw [Nat.testBit_xor, h, Bool.xor_false]
  · rfl
theorem rst_bit {t : Nat} : ∀ {T : List Nat} {n : Nat}, (∀ r ∈ T, r.testBit t = false) → (rst T n).testBit t = n.testBit t
  | [], _, _ => rfl
  | r :: T, n, h => by
    show (rst T (lw n r)).testBit t = _
    rw [rst_bit fun q hq => h q (List.mem_cons_of_mem _ hq), lw_bit (h r List.mem_cons_self)]
theorem Ec.tail {r : Nat} {T : List Nat} (E : Ec (r :: T)) : Ec T := ⟨fun q hq => E.nz q (List.mem_cons_of_mem _ hq), (List.pairwise_cons.mp E.pw).2⟩
theorem lw_clear {n r : Nat} (hr : r ≠ 0) : (lw n r).testBit r.log2 = false := by
  unfold lw
  split
  · rename_i h
    rw [Nat.testBit_xor, h, bit_top hr]
    rfl
  · rename_i h
    exact Bool.eq_false_iff.mpr h
theorem rst_clear : ∀ {T : List Nat} {n : Nat}, Ec T → ∀ r ∈ T, (rst T n).testBit r.log2 = false
  | r :: T, n, E, q, hq => by
    rcases List.mem_cons.mp hq with rfl | hq
    · show (rst T (lw n q)).testBit _ = _
      rw [rst_bit (List.pairwise_cons.mp E.pw).1, lw_clear (E.nz q List.mem_cons_self)]
    · exact rst_clear (T := T) E.tail q hq
theorem lw_self {r : Nat} (hr : r ≠ 0) : lw r r = 0 := by
  unfold lw
  rw [bit_top hr, if_pos rfl, Nat.xor_self]
theorem rst_mem : ∀ {T : List Nat}, Ec T → ∀ r ∈ T, rst T r = 0
  | a :: T, E, r, hr => by
    show rst T (lw r a) = 0
    rcases List.mem_cons.mp hr with rfl | hr
    · rw [lw_self (E.nz r List.mem_cons_self), rst_zero]
    · have e : lw r a = r := by
        unfold lw
        rw [(List.pairwise_cons.mp E.pw).1 r hr]
        rfl
      rw [e]
      exact rst_mem E.tail r hr
theorem rst_spn : ∀ {T : List Nat} (n : Nat), Spn T (n ^^^ rst T n)
  | [], n => by
    show Spn [] (n ^^^ n)
    rw [Nat.xor_self]
    exact (spn_sub _).1
  | r :: T, n => by
    show Spn (r :: T) (n ^^^ rst T (lw n r))
    have h1 : Spn (r :: T) (lw n r ^^^ rst T (lw n r)) := spn_le (fun a ha => spn_mem (List.mem_cons_of_mem _ ha)) (rst_spn (T := T) (lw n r))
    have h2 : Spn (r :: T) (n ^^^ lw n r) := by
      unfold lw
      split
      · rw [← Nat.xor_assoc, Nat.xor_self, Nat.zero_xor]
        exact spn_mem List.mem_cons_self
      · rw [Nat.xor_self]
        exact (spn_sub _).1
    have h3 := (spn_sub _).2 _ _ h2 h1
    rw [Nat.xor_assoc, ← Nat.xor_assoc (lw n r) (lw n r), Nat.xor_self, Nat.zero_xor] at h3
    exact h3
theorem spn_rst {T : List Nat} (E : Ec T) (x : Nat) : Spn T x ↔ rst T x = 0 := by
  constructor
  · intro h
    exact h (fun x => rst T x = 0) ⟨rst_zero T, fun x y a b => by show rst T (x ^^^ y) = 0; rw [rst_lin, show rst T x = 0 from a, show rst T y = 0 from b]; rfl⟩ (rst_mem E)
  · intro h
    have := rst_spn (T := T) x
    rw [h, Nat.xor_zero] at this
    exact this
theorem rst_top : ∀ {T : List Nat} {n t : Nat}, (∀ r ∈ T, r.log2 ≠ t) → n.testBit t = true → (∀ j, t < j → n.testBit j = false) → (rst T n).testBit t = true
  | [], _, _, _, h, _ => h
  | r :: T, n, t, hT, h, k => by
    show (rst T (lw n r)).testBit t = true
    have ne := hT r List.mem_cons_self
    refine rst_top (fun q hq => hT q (List.mem_cons_of_mem _ hq)) ?_ ?_
    · unfold lw
      split
      · rename_i hb
        rcases Nat.lt_or_ge t r.log2 with a | a
        · rw [k _ a] at hb
          cases hb
        · rw [Nat.testBit_xor, h, bit_above (by omega)]
          rfl
      · exact h
    · intro j hj
      unfold lw
      split
      · rename_i hb
        rcases Nat.lt_or_ge t r.log2 with a | a
        · rw [k _ a] at hb
          cases hb
        · rw [Nat.testBit_xor, k j hj, bit_above (by omega)]
          rfl
      · exact k j hj
theorem top_mem {T : List Nat} (E : Ec T) {x : Nat} (h : Spn T x) (x0 : x ≠ 0) : ∃ r ∈ T, r.log2 = x.log2 := by
  refine Classical.byContradiction fun no => ?_
  have := rst_top (T := T) (n := x) (t := x.log2) (fun r hr e => no ⟨r, hr, e⟩) (bit_top x0) fun j hj => bit_above hj
  rw [(spn_rst E x).mp h, Nat.zero_testBit] at this
  cases this
theorem nodup_le {α : Type} [DecidableEq α] : ∀ {l m : List α}, l.Nodup → (∀ a ∈ l, a ∈ m) → l.length ≤ m.length
  | [], _, _, _ => Nat.zero_le _
  | a :: l, m, hn, h => by
    have ha := h a List.mem_cons_self
    have n2 := List.nodup_cons.mp hn
    have k := nodup_le (l := l) (m := m.erase a) n2.2 fun b hb => (List.mem_erase_of_ne (fun e => n2.1 (by rw [← e]; exact hb))).mpr (h b (List.mem_cons_of_mem _ hb))
    rw [List.length_erase_of_mem ha] at k
    have : 0 < m.length := List.length_pos_of_mem ha
    show l.length + 1 ≤ _
    omega
theorem Ec.tops {T : List Nat} (E : Ec T) : (T.map Nat.log2).Nodup := by
  refine List.pairwise_map.mpr ?_
  refine List.Pairwise.imp_of_mem (fun {a b} ha hb h e => ?_) E.pw
  rw [e, bit_top (E.nz b hb)] at h
  cases h
theorem Ec.nodup {T : List Nat} (E : Ec T) : T.Nodup := List.Pairwise.of_map Nat.log2 (fun _ _ h e => h (e ▸ rfl)) E.tops
theorem len_le {T U : List Nat} (E : Ec T) (F : Ec U) (h : ∀ x ∈ T, Spn U x) : T.length ≤ U.length := by
  have := nodup_le (l := T.map Nat.log2) (m := U.map Nat.log2) E.tops fun a ha => by
    obtain ⟨r, hr, rfl⟩ := List.mem_map.mp ha
    obtain ⟨q, hq, e⟩ := top_mem F (h r hr) (E.nz r hr)
    exact List.mem_map.mpr ⟨q, hq, e⟩
  rwa [List.length_map, List.length_map] at this
theorem len_eq {T U : List Nat} (E : Ec T) (F : Ec U) (h : ∀ x, Spn T x ↔ Spn U x) : T.length = U.length :=
  Nat.le_antisymm (len_le E F fun x hx => (h x).mp (spn_mem hx)) (len_le F E fun x hx => (h x).mpr (spn_mem hx))
/-- a reduced table, in any order -/
structure Red (T : List Nat) : Prop where
  nz : ∀ r ∈ T, r ≠ 0
  pw : T.Pairwise fun a b => b.testBit a.log2 = false ∧ a.testBit b.log2 = false
theorem Red.ec {T : List Nat} (R : Red T) : Ec T := ⟨R.nz, R.pw.imp fun h => h.1⟩
theorem Red.perm {T U : List Nat} (R : Red T) (p : T.Perm U) : Red U := ⟨fun r hr => R.nz r (p.mem_iff.mpr hr), (p.pairwise_iff fun h => ⟨h.2, h.1⟩).mp R.pw⟩
theorem Red.nil : Red [] := ⟨fun _ h => (by cases h), List.Pairwise.nil⟩
theorem Red.bit {T : List Nat} (R : Red T) {a b : Nat} (ha : a ∈ T) (hb : b ∈ T) (ne : a ≠ b) : b.testBit a.log2 = false := by
  have this : ∀ {x y : Nat}, List.Sublist [x, y] T → y.testBit x.log2 = false ∧ x.testBit y.log2 = false := List.pairwise_iff_forall_sublist.mp R.pw
  rcases Classical.em (List.Sublist [a, b] T) with s | s
  · exact (this s).1
  · have q : List.Sublist [b, a] T := by
      clear this
      have nd := R.ec.nodup
      clear R
      induction T with
      | nil => cases ha
      | cons c T ih =>
        rcases List.mem_cons.mp ha with e1 | ha'
        · rcases List.mem_cons.mp hb with e2 | hb'
          · exact absurd (e1.trans e2.symm) ne
          · rw [e1] at s
            exact absurd (List.Sublist.cons₂ _ (List.singleton_sublist.mpr hb')) s
        · rcases List.mem_cons.mp hb with e2 | hb'
          · rw [e2]
            exact List.Sublist.cons₂ _ (List.singleton_sublist.mpr ha')
          · exact List.Sublist.cons _ (ih ha' hb' (fun z => s (List.Sublist.cons _ z)) (List.nodup_cons.mp nd).2)
    exact (this q).2
/-- a new row put to it -/
theorem lw_log {r v : Nat} (hr : r ≠ 0) (h : v.testBit r.log2 = false) : (lw r v).log2 = r.log2 ∧ lw r v ≠ 0 := by
  have b : (lw r v).testBit r.log2 = true := by rw [lw_bit h, bit_top hr]
  refine ⟨log_of_bits b fun j hj => ?_, fun z => ?_⟩
  · unfold lw
    split
    · rename_i hb
      rcases Nat.lt_or_ge r.log2 v.log2 with a | a
      · rw [bit_above a] at hb
        cases hb
      · rw [Nat.testBit_xor, bit_above hj, bit_above (by omega)]
        rfl
    · exact bit_above hj
  · rw [z, Nat.zero_testBit] at b
    cases b
theorem Red.add {T : List Nat} {v : Nat} (R : Red T) (v0 : v ≠ 0) (h : ∀ r ∈ T, v.testBit r.log2 = false) : Red (T.map (lw · v) ++ [v]) := by
  refine ⟨fun r hr => ?_, List.pairwise_append.mpr ⟨List.pairwise_map.mpr (R.pw.imp_of_mem fun {a b} ha hb k => ?_), List.pairwise_singleton _ _, fun a ha b hb => ?_⟩⟩
  · rcases List.mem_append.mp hr with q | q
    · obtain ⟨a, ha, rfl⟩ := List.mem_map.mp q
      exact (lw_log (R.nz a ha) (h a ha)).2
    · rw [List.mem_singleton.mp q]
      exact v0
  · rw [(lw_log (R.nz a ha) (h a ha)).1, (lw_log (R.nz b hb) (h b hb)).1, lw_bit (h a ha), lw_bit (h b hb)]
    exact k
  · obtain ⟨c, hc, rfl⟩ := List.mem_map.mp ha
    rw [List.mem_singleton.mp hb, (lw_log (R.nz c hc) (h c hc)).1]
    exact ⟨h c hc, lw_clear v0⟩
theorem spn_add {T ns : List Nat} {g : Nat} (hT : ∀ x, Spn T x ↔ Spn ns x) (v0 : rst T g ≠ 0) (x : Nat) : Spn (T.map (lw · (rst T g)) ++ [rst T g]) x ↔ Spn (ns ++ [g]) x := by
  have left : ∀ a, Spn T a → Spn (ns ++ [g]) a := fun a ha => spn_le (fun b hb => spn_mem (List.mem_append_left _ hb)) ((hT a).mp ha)
  have hv : Spn (ns ++ [g]) (rst T g) := by
    have h1 := left _ (rst_spn (T := T) g)
    have h2 := (spn_sub _).2 _ _ (spn_mem (T := ns ++ [g]) (List.mem_append_right _ (List.mem_singleton_self g))) h1
    rwa [← Nat.xor_assoc, Nat.xor_self, Nat.zero_xor] at h2
  have vm : Spn (T.map (lw · (rst T g)) ++ [rst T g]) (rst T g) := spn_mem (List.mem_append_right _ (List.mem_singleton_self _))
  have old : ∀ r ∈ T, Spn (T.map (lw · (rst T g)) ++ [rst T g]) r := fun r hr => by
    have h1 : Spn (T.map (lw · (rst T g)) ++ [rst T g]) (lw r (rst T g)) := spn_mem (List.mem_append_left _ (List.mem_map.mpr ⟨r, hr, rfl⟩))
    unfold lw at h1
    split at h1
    · have := (spn_sub _).2 _ _ h1 vm
      unfold lw at this
      rwa [Nat.xor_assoc, Nat.xor_self, Nat.xor_zero] at this
    · unfold lw
      exact h1
  refine spn_iff_of (fun a ha => ?_) (fun a ha => ?_) x
  · rcases List.mem_append.mp ha with q | q
    · obtain ⟨r, hr, rfl⟩ := List.mem_map.mp q
      have hr' := left r (spn_mem hr)
      show Spn _ (lw r (rst T g))
      unfold lw
      split
      · exact (spn_sub _).2 _ _ hr' hv
      · exact hr'
    · rw [List.mem_singleton.mp q]
      exact hv
  · rcases List.mem_append.mp ha with q | q
    · exact spn_le old ((hT a).mpr (spn_mem q))
    · rw [List.mem_singleton.mp q]
      have h1 := spn_le old (rst_spn (T := T) g)
      have := (spn_sub _).2 _ _ h1 vm
      rwa [Nat.xor_assoc, Nat.xor_self, Nat.xor_zero] at this
theorem spn_perm {T U : List Nat} (p : T.Perm U) (x : Nat) : Spn T x ↔ Spn U x := spn_iff_of (fun a ha => spn_mem (p.mem_iff.mp ha)) (fun a ha => spn_mem (p.mem_iff.mpr ha)) x
end KQ
namespace KQ
open PySem PySem.Spec PyProof.Rows L2
def rowOf (W m : Nat) : List Nat := (List.range W).map fun k => (m.testBit (W - 1 - k)).toNat
theorem rowOf_len (W m : Nat) : (rowOf W m).length = W := by
  unfold rowOf
  rw [List.length_map, List.length_range]
theorem rowOf_at {W m k : Nat} (h : k < W) : (rowOf W m)[k]? = some (m.testBit (W - 1 - k)).toNat := by
  unfold rowOf
  rw [List.getElem?_map, List.getElem?_range h]
  rfl
theorem rowOf_succ (W m : Nat) : rowOf (W + 1) m = (m.testBit W).toNat :: rowOf W m := by
  unfold rowOf
  rw [List.range_succ_eq_map, List.map_cons, List.map_map]
  congr 1
  refine List.map_congr_left fun k _ => ?_
  show (m.testBit (W + 1 - 1 - (k + 1))).toNat = _
  rw [show W + 1 - 1 - (k + 1) = W - 1 - k by omega]
theorem rowOf_bit {W m b : Nat} (h : b ∈ rowOf W m) : b < 2 := by
  unfold rowOf at h
  obtain ⟨k, _, rfl⟩ := List.mem_map.mp h
  exact Bool.toNat_lt _
/-- the number of bits, the first one the highest -/
def nb (t : Nat) (bs : List Nat) : Nat := bs.foldl (fun t b => 2 * t + b) t
theorem nb_eq : ∀ (bs : List Nat) (t : Nat), nb t bs = t * 2 ^ bs.length + nb 0 bs
  | [], t => by
    show t = t * 1 + 0
    omega
  | b :: bs, t => by
    show nb (2 * t + b) bs = _ + nb (2 * 0 + b) bs
    rw [nb_eq bs, nb_eq bs (2 * 0 + b), List.length_cons, Nat.pow_succ, Nat.mul_zero, Nat.zero_add, Nat.add_mul]
    rw [show 2 * t * 2 ^ bs.length = t * (2 ^ bs.length * 2) by rw [Nat.mul_comm 2 t, Nat.mul_assoc, Nat.mul_comm 2]]
    omega
theorem nb_lt : ∀ (bs : List Nat), (∀ b ∈ bs, b < 2) → nb 0 bs < 2 ^ bs.length
  | [], _ => by
    show 0 < 1
    decide
  | b :: bs, h => by
    show nb (2 * 0 + b) bs < _
    have h1 := nb_lt bs fun c hc => h c (List.mem_cons_of_mem _ hc)
    have h2 := h b List.mem_cons_self
    rw [nb_eq, Nat.mul_zero, Nat.zero_add, List.length_cons, Nat.pow_succ]
    have : b = 0 ∨ b = 1 := by omega
    rcases this with rfl | rfl <;> omega
theorem rowOf_mod (W m : Nat) : rowOf W (m % 2 ^ W) = rowOf W m := by
  unfold rowOf
  refine List.map_congr_left fun k hk => ?_
  have := List.mem_range.mp hk
  rw [Nat.testBit_mod_two_pow, decide_eq_true (by omega : W - 1 - k < W), Bool.true_and]
theorem row_nb : ∀ (bs : List Nat), (∀ b ∈ bs, b < 2) → rowOf bs.length (nb 0 bs) = bs
  | [], _ => rfl
  | b :: bs, h => by
    have hb := h b List.mem_cons_self
    have ht := fun c hc => h c (List.mem_cons_of_mem b hc)
    have lt := nb_lt bs ht
    have e : nb 0 (b :: bs) = b * 2 ^ bs.length + nb 0 bs := by
      show nb (2 * 0 + b) bs = _
      rw [nb_eq, Nat.mul_zero, Nat.zero_add]
    rw [List.length_cons, rowOf_succ, e]
    have e2 : rowOf bs.length (b * 2 ^ bs.length + nb 0 bs) = bs := by
      rw [← rowOf_mod, Nat.add_comm, Nat.add_mul_mod_self_right, Nat.mod_eq_of_lt lt]
      exact row_nb bs ht
    rw [e2, Nat.testBit_eq_decide_div_mod_eq, Nat.add_comm, Nat.add_mul_div_right _ _ (Nat.two_pow_pos _), Nat.div_eq_of_lt lt, Nat.zero_add]
    have : b = 0 ∨ b = 1 := by omega
    rcases this with rfl | rfl <;> rfl
theorem row_zero (W : Nat) : rowOf W 0 = List.replicate W 0 := by
  unfold rowOf
  refine List.ext_getElem (by simp) fun k h1 h2 => ?_
  simp
def XS {α : Type} (l : List α) (f : α → Nat) : Nat := l.foldr (fun k t => f k ^^^ t) 0
theorem xs_lin {α : Type} (l : List α) (f g : α → Nat) : XS l (fun k => f k ^^^ g k) = XS l f ^^^ XS l g := by
  induction l with
  | nil => exact (Nat.xor_self 0).symm
  | cons a l ih =>
    show f a ^^^ g a ^^^ XS l _ = f a ^^^ XS l f ^^^ (g a ^^^ XS l g)
    rw [ih, Nat.xor_assoc, Nat.xor_assoc, ← Nat.xor_assoc (g a), Nat.xor_comm (g a), Nat.xor_assoc (XS l f)]
theorem xs_congr {α : Type} {l : List α} {f g : α → Nat} (h : ∀ a ∈ l, f a = g a) : XS l f = XS l g := by
  induction l with
  | nil => rfl
  | cons a l ih =>
    show f a ^^^ XS l f = g a ^^^ XS l g
    rw [h a List.mem_cons_self, ih fun b hb => h b (List.mem_cons_of_mem _ hb)]
theorem xs_zero {α : Type} (l : List α) : XS l (fun _ => 0) = 0 := by
  induction l with
  | nil => rfl
  | cons a l ih =>
    show 0 ^^^ XS l _ = 0
    rw [ih]
    rfl
theorem xs_one {α : Type} [DecidableEq α] (f : α → Nat) (i : α) : ∀ {l : List α}, l.Nodup → i ∈ l → XS l (fun k => if k = i then f k else 0) = f i
  | a :: l, hn, hi => by
    show (if a = i then f a else 0) ^^^ XS l _ = f i
    have n2 := List.nodup_cons.mp hn
    by_cases e : a = i
    · subst e
      rw [if_pos rfl, xs_congr (g := fun _ => 0) (fun b hb => if_neg (fun z => n2.1 (by rw [← z]; exact hb))), xs_zero, Nat.xor_zero]
    · rw [if_neg e, xs_one f i n2.2 ((List.mem_cons.mp hi).resolve_left (Ne.symm e)), Nat.zero_xor]
theorem xs_spn {α : Type} {T : List Nat} {l : List α} {f : α → Nat} (h : ∀ a ∈ l, Spn T (f a)) : Spn T (XS l f) := by
  induction l with
  | nil => exact (spn_sub T).1
  | cons a l ih => exact (spn_sub T).2 _ _ (h a List.mem_cons_self) (ih fun b hb => h b (List.mem_cons_of_mem _ hb))
def sx (ns : List Nat) (m : Nat) : Nat := XS (List.range ns.length) fun k => if m.testBit k then ns.getD k 0 else 0
theorem sx_lin (ns : List Nat) (a b : Nat) : sx ns (a ^^^ b) = sx ns a ^^^ sx ns b := by
  unfold sx
  rw [← xs_lin]
  refine xs_congr fun k _ => ?_
  rw [Nat.testBit_xor]
  cases a.testBit k <;> cases b.testBit k <;> simp
theorem sx_zero (ns : List Nat) : sx ns 0 = 0 := by
  unfold sx
  rw [xs_congr (g := fun _ => 0) (fun k _ => by rw [Nat.zero_testBit]; rfl), xs_zero]
theorem sx_pow {ns : List Nat} {i : Nat} (h : i < ns.length) : sx ns (2 ^ i) = ns.getD i 0 := by
  unfold sx
  rw [xs_congr (g := fun k => if k = i then ns.getD k 0 else 0) (fun k _ => ?_), xs_one _ i List.nodup_range (List.mem_range.mpr h)]
  rw [Nat.testBit_two_pow]
  by_cases e : k = i
  · rw [e, decide_eq_true rfl, if_pos rfl, if_pos rfl]
  · rw [decide_eq_false (Ne.symm e), if_neg e]
    rfl
theorem sx_spn (ns : List Nat) (m : Nat) : Spn ns (sx ns m) := by
  refine xs_spn fun k hk => ?_
  split
  · have := List.mem_range.mp hk
    rw [List.getD_eq_getElem?_getD, List.getElem?_eq_getElem this]
    exact spn_mem (List.getElem_mem _)
  · exact (spn_sub ns).1
theorem spn_snoc_skip {ns : List Nat} {g x : Nat} (h : Spn ns x) : Spn (ns ++ [g]) x := spn_le (fun b hb => spn_mem (List.mem_append_left _ hb)) h
/-- marks of a shorter list -/
theorem sx_more {ns : List Nat} {m g : Nat} (h : m < 2 ^ ns.length) : sx (ns ++ [g]) m = sx ns m := by
  unfold sx XS
  rw [List.length_append, List.length_singleton, List.range_succ, List.foldr_append]
  show List.foldr _ ((if m.testBit ns.length then _ else 0) ^^^ 0) _ = _
  rw [Nat.testBit_lt_two_pow h, if_neg (by decide), Nat.xor_zero]
  refine xs_congr (l := List.range ns.length) fun k hk => ?_
  have := List.mem_range.mp hk
  rw [List.getD_eq_getElem?_getD, List.getD_eq_getElem?_getD, List.getElem?_append_left this]
end KQ
namespace KQ
open PySem PySem.Spec PyProof.Rows L2
theorem log_lt {r W : Nat} (h0 : r ≠ 0) (h : r < 2 ^ W) : r.log2 < W := (Nat.log2_lt h0).mpr h
def Indep (ns : List Nat) : Prop := ∀ i x, ns[i]? = some x → ¬ Spn (ns.take i) x
def free (T : List Nat) (W : Nat) : List Nat := (List.range W).filter fun p => !(T.map Nat.log2).contains p
structure Tab (W : Nat) (ms : List Nat) : Prop where
  red : Red ms
  lt : ∀ m ∈ ms, m < 2 ^ W
  desc : ms.Pairwise (· > ·)
theorem Tab.piv {W : Nat} {ms : List Nat} (t : Tab W ms) : (ms.map fun m => W - 1 - m.log2).Pairwise (· < ·) := by
  refine List.pairwise_map.mpr (List.Pairwise.imp_of_mem (fun {a b} ha hb h => ?_) t.desc)
  have la := log_lt (t.red.nz a ha) (t.lt a ha)
  have lb := log_lt (t.red.nz b hb) (t.lt b hb)
  have h1 : b.log2 ≤ a.log2 := by
    rcases Nat.lt_or_ge a.log2 b.log2 with z | z
    · have q1 := (log_of (t.red.nz a ha)).2
      have q2 := (log_of (t.red.nz b hb)).1
      have : 2 ^ (a.log2 + 1) ≤ 2 ^ b.log2 := Nat.pow_le_pow_right (by decide) z
      omega
    · exact z
  have h2 : b.log2 ≠ a.log2 := fun e => by
    have := t.red.bit ha hb (fun z => by omega)
    rw [← e, bit_top (t.red.nz b hb)] at this
    cases this
  omega
end KQ
namespace KQ
open PySem PySem.Spec PyProof.Rows L2
def SqLT (K : PySem.W.Frag) (H : Hp) (a : Addr) (xs : List V) : Prop := SqL K H a xs ∨ SqT K H a xs
theorem Same.seqT {K : PySem.W.Frag} {H H' : Hp} {a : Addr} {xs : List V} (e : Same H H') (h : SqT K H a xs) : SqT K H' a xs := by
  rcases h with (h | ⟨o, h⟩) | h
  · exact .inl (.inl (e _ _ h))
  · exact .inl (.inr ⟨o, by first | exact h | exact e _ _ h⟩)
  · exact .inr h
theorem SqLT.same {K : PySem.W.Frag} {H H' : Hp} {a : Addr} {xs : List V} (e : Same H H') (h : SqLT K H a xs) : SqLT K H' a xs := by
  rcases h with h | h
  · exact .inl (Same.seq e h)
  · exact .inr (Same.seqT e h)
/-- what walks xs, S holding -/
structure ItSq (J : It) (S : Hp → Prop) (xs : List V) : Prop where
  go : ∀ i H, S H → i < xs.length → J.go i H
  yld : ∀ i H x H', S H → J.yld i H x H' → H' = H ∧ xs[i]? = some x
  stop : ∀ i H, S H → xs.length ≤ i → J.stop i H
theorem itsq_list {K : PySem.W.Frag} {a : Addr} {xs : List V} : ItSq (Itl K a) (fun H => SqL K H a xs) xs :=
  ⟨fun i H s h => ⟨xs, xs[i], s, List.getElem?_eq_getElem h⟩, fun i H x H' s y => ⟨y.1, y.2 xs s⟩, fun i H s h => ⟨xs, s, h⟩⟩
theorem itsq_tup {K : PySem.W.Frag} {a : Addr} {xs : List V} : ItSq (Itt K a) (fun H => SqT K H a xs) xs :=
  ⟨fun i H s h => ⟨xs, xs[i], s, List.getElem?_eq_getElem h⟩, fun i H x H' s y => ⟨y.1, y.2 xs s⟩, fun i H s h => ⟨xs, s, h⟩⟩
def iSeq (K : PySem.W.Frag) (tl : TE) : TI := fun σ H R => tl σ H fun x H1 => ∃ a xs, x = .ref a ∧ SqLT K H1 a xs ∧ ∀ J S, ItSq J S xs → S H1 → (∀ G G', Same G G' → S G → S G') → R J H1
theorem pi_seq {X : Cx} {tg l : Expr} {tl : TE} (hl : PE X l tl) : PI X tg l (iSeq X.K tl) := by
  refine ⟨fun pins s σ H R I h => ?_⟩
  refine thn (hl.run pins s σ H _ I h) fun v s1 ⟨x, H1, I1, r1, q1⟩ => ?_
  obtain ⟨a, xs, e, hq, q⟩ := q1
  subst e
  cases r1
  rcases hq with hq | hq
  · obtain ⟨its, rv, p, hz⟩ := I1.list hq
    refine wpAny_pyIter_list p.isList (pi_one (tk := s1.toks) I1 _ (turn_list a _) ⟨_, Heap.get?_push_size _ rfl, rfl, rfl⟩ (q _ _ itsq_list hq fun G G' s h => Same.seq s h))
  · obtain ⟨its, rv, p, hz⟩ := I1.tuple hq
    refine wpAny_pyIter_tuple (show s1.heap.IsTuple a its.toArray from p) (pi_one (tk := s1.toks) I1 _ (turn_tuple a _) ⟨_, Heap.get?_push_size _ rfl, rfl, rfl⟩ (q _ _ itsq_tup hq fun G G' s h => Same.seqT s h))
/-- .. a range from its end -/
theorem lc_down {n : Nat} {lo : Int} {g : TG} {tt : TT} {te : TE} {vs : List Nat} {σ : L2.St} {H1 : Hp} {D : Addr} {Qd : Hp → Prop} (Pv : Nat → Hp → Prop) (h0 : Pv 0 (upd H1 D (.lst [])))
    (hs : ∀ i H, i < n → Pv i H → g (.int (lo + (i : Nat) * (-1))) (wipe σ vs) H fun σ2 H2 => wipe σ2 vs = wipe σ vs ∧ tt σ2 H2 fun b H3 =>
      if b = true then te σ2 H3 fun y H4 => ∃ acc, H4 D = some (.lst acc) ∧ acc.length < sizeLine ∧ Pv (i + 1) (upd H4 D (.lst (acc ++ [y]))) else Pv (i + 1) H3) (hd : ∀ H, Pv n H → Qd H) :
    ∃ W : Nat → Nat → Hp → Prop, (∃ m, W 0 m (upd H1 D (.lst []))) ∧ ∀ i m H, W i m H →
      ((Itc lo (-1) n).stop i H ∧ Qd H) ∨ ((Itc lo (-1) n).go i H ∧ ∃ Nx : Hp → Prop, (∀ H', Nx H' → ∃ m', m' < m ∧ W (i + 1) m' H') ∧ ∀ x H', (Itc lo (-1) n).yld i H x H' → g x (wipe σ vs) H' fun σ2 H2 => wipe σ2 vs = wipe σ vs ∧ tt σ2 H2 fun b H3 =>
        if b = true then te σ2 H3 fun y H4 => ∃ acc, H4 D = some (.lst acc) ∧ acc.length < sizeLine ∧ Nx (upd H4 D (.lst (acc ++ [y]))) else Nx H3) := by
  refine ⟨fun i m H => m + i = n ∧ Pv i H, ⟨n, rfl, h0⟩, fun i m H ⟨e, p⟩ => ?_⟩
  rcases Nat.lt_or_ge i n with lt | ge
  · refine .inr ⟨lt, Pv (i + 1), fun H' p' => ⟨m - 1, by omega, by omega, p'⟩, fun x H' y => ?_⟩
    obtain ⟨rfl, rfl⟩ := y
    exact hs i _ lt p
  · obtain rfl : i = n := by omega
    exact .inl ⟨Nat.le_refl _, hd H p⟩
/-- a loop over such -/
theorem for_sq {J : It} {S : Hp → Prop} {xs : List V} (hJ : ItSq J S xs) {g : TG} {tb : TS} {D : Ends} {σ : L2.St} {H : Hp} (Pv : Nat → L2.St → Hp → Prop) (h0 : Pv 0 σ H) (hl : ∀ i σ H, Pv i σ H → S H)
    (hs : ∀ i x σ H, xs[i]? = some x → Pv i σ H → g x σ H fun σ2 H2 => tb { D with nx := Pv (i + 1), ct := Pv (i + 1), bk := D.nx } σ2 H2) (hd : ∀ σ H, Pv xs.length σ H → D.nx σ H) :
    ∃ W : Nat → Nat → L2.St → Hp → Prop, (∃ m, W 0 m σ H) ∧ ∀ i m σ H, W i m σ H →
      (J.stop i H ∧ D.nx σ H) ∨ (J.go i H ∧ ∃ N : L2.St → Hp → Prop, (∀ σ' H', N σ' H' → ∃ m', m' < m ∧ W (i + 1) m' σ' H') ∧ ∀ x H', J.yld i H x H' → g x σ H' fun σ2 H2 => tb { D with nx := N, ct := N, bk := D.nx } σ2 H2) := by
  refine ⟨fun i m σ H => m + i = xs.length ∧ Pv i σ H, ⟨xs.length, rfl, h0⟩, fun i m σ H ⟨e, p⟩ => ?_⟩
  rcases Nat.lt_or_ge i xs.length with lt | ge
  · refine .inr ⟨hJ.go i H (hl i σ H p) lt, Pv (i + 1), fun σ' H' p' => ⟨m - 1, by omega, by omega, p'⟩, fun x H' y => ?_⟩
    obtain ⟨rfl, hx⟩ := hJ.yld i H x H' (hl i σ H p) y
    exact hs i x σ _ hx p
  · obtain rfl : i = xs.length := by omega
    exact .inl ⟨hJ.stop _ H (hl _ σ H p) (Nat.le_refl _), hd σ H p⟩
def FzT (H : Hp) (a : Addr) (xs : List V) : Prop := ∃ o : Obj, o.dict = none ∧ o.cls = .type "tuple" ∧ H a = some (.frz o (.tup xs))
def TupIs (H : Hp) (a : Addr) (xs : List V) : Prop := H a = some (.tup xs) ∨ FzT H a xs
theorem FzT.same {H H' : Hp} {a : Addr} {xs : List V} (s : Same H H') (h : FzT H a xs) : FzT H' a xs := let ⟨o, h1, h2, h3⟩ := h; ⟨o, h1, h2, s _ _ h3⟩
theorem TupIs.same {H H' : Hp} {a : Addr} {xs : List V} (s : Same H H') (h : TupIs H a xs) : TupIs H' a xs := h.elim (fun z => .inl (s _ _ z)) fun z => .inr (z.same s)
theorem TupIs.sq {K : PySem.W.Frag} {H : Hp} {a : Addr} {xs : List V} (h : TupIs H a xs) : SqT K H a xs := h.elim (fun z => SqT.of z) fun ⟨o, _, _, z⟩ => .inl (.inr ⟨o, z⟩)
theorem TupIs.ty {K : PySem.W.Frag} {H : Hp} {a : Addr} {xs : List V} (h : TupIs H a xs) : TyX K H (.ref a) (.type "tuple") := h.elim (fun z => .base (.tup z)) fun ⟨_, _, _, z⟩ => .fTuple z
theorem call_tupF {X : Cx} : CallR X (.type "tuple") (fun xs H Q => ∃ p ys, xs = [.ref p] ∧ SqL X.K H p ys ∧ ∀ l H', H l = none → Same H H' → FzT H' l ys → Q (.ref l) H') := by
  intro pins s σ H xs us Q I r h
  obtain ⟨p, ys, rfl, hq, q⟩ := h
  obtain ⟨u, rfl, rx⟩ := vals1 r
  cases rx
  obtain ⟨its, r', pl, hz⟩ := I.list hq
  have hlen := r'.length
  refine call_tuple_list pl.isList (fun h' kp => ?_) (by simp only [List.size_toArray] <;> omega)
  have I1 : Inv X pins σ H { s with heap := h' } := I.kept (t' := s.toks) kp
  have I2 : Inv X pins σ (upd H h'.objs.size (.frz { cls := .type "tuple", data := .seq its.toArray } (.tup ys))) { s with heap := h'.push { cls := .type "tuple", data := .seq its.toArray } } :=
    I1.laid (t' := s.toks) (fun b o e => Heap.get?_push_of_some _ e) (Nat.le_refl _) ⟨Heap.get?_push_size _ rfl, hz, its, r', IsTup.new _ _⟩
  have nf := I1.hok.fresh (Nat.le_refl h'.objs.size)
  refine ⟨.ref h'.objs.size, _, I2, rfl, q _ _ nf (fun b u e => ?_) ⟨_, rfl, rfl, upd_same⟩⟩
  rw [upd_ne (ne_of_none e nf)]
  exact e
end KQ
namespace KQ
open PySem PySem.Spec PyProof.Rows L2
def PEk (X : Cx) (e : Expr) (t : TE) : Prop :=
  ∀ (pins : List (Addr × Obj)) (s : Shared) (σ : L2.St) (H : Hp) (Q : VK), Inv X pins σ H s → t σ H Q → wpAny (model X.prog X.w) X.A (eval e X.env) (fun v s' => 1 ≤ s'.toks ∧ EP X pins σ Q v s') X.xe s
section
variable {X : Cx} {rest : List Stmt} {u : TS} {e : Expr} {te : TE}
theorem pss_tok {i : Nat} {x : Str} {pos' pos : Pos} (he : PEk X e te) (nd : X.N.Nodup) (hi : X.N[i]? = some x) (hx : Loc X.env.scope x) (h2 : PSsT X rest u)
    (hs : swapsWith e (some (.Name x pos')) pos.line X.env = pure false := by rfl) (hf : X.fn x = true ∨ X.env.scope.names.lookup x = some .local := by first | exact .inl rfl | exact .inr rfl | assumption) :
    PSs X (.Assign [.Name x pos'] e pos :: rest) (tSeq (tAsg te (gName i)) u) := by
  refine ⟨fun pins s σ H D I want => ?_⟩
  refine wpAny_execs_cons (wpAny_Assign_Name (wpAny_mono (he pins s σ H _ I want) (fun v s1 q => ?_) fun _ _ z => z) hs)
  obtain ⟨hk, z, H1, I1, r1, q1⟩ := q
  refine wpAny_mono (PySem.wpAny_toks (store_ok (v := z) (u := v) (Q := fun _ s2 => Inv X pins (σ.set i (some z)) H1 s2) I1 nd hi hx r1 (fun _ I2 => I2) hf)) (fun _ s2 q => ?_) fun _ _ z => z.2
  exact h2 pins s2 _ H1 D (Nat.le_trans hk q.1) q.2 q1
def tStrip (to : TE) (c : Str) : TE := fun σ H Q => to σ H fun v H1 => ∃ x, v = .str x ∧ x.length ≤ sizeLine ∧ Q (.str (Txt.lstripChars x c)) H1
theorem pek_strip {o : Expr} {to : TE} {c : Str} {j : Nat} {cpos apos pos : Pos} (ho : PE X o to)
    (hst : starEach [.Constant (.str c) j cpos] X.env = [(false, eval (.Constant (.str c) j cpos) X.env)] := by rfl)
    (hbase : attributeBase o "lstrip" X.env (eval o X.env) = eval o X.env := by rfl) (hline : (apos.endLine == pos.line) = true := by rfl) :
    PEk X (.Call (.Attribute o "lstrip" apos) [.Constant (.str c) j cpos] [] pos) (tStrip to c) := by
  intro pins s σ H Q I want
  refine PySem.Call_method1 hbase hst hline (wpAny_mono (ho.run pins s σ H _ I want) (fun v s1 q => ?_) fun _ _ z => z)
  obtain ⟨v', H1, I1, r1, x, rfl, hz, q⟩ := q
  obtain ⟨tx, rfl⟩ := r1
  refine ⟨"str", _, PySem.F.plainAttrs_str, PySem.F.slot_str_lstrip, PySem.F.type_str_lstrip, typeIs_str _ _ _, (fun _ e => nomatch e), Calls.callWith_builtin rfl (Calls.evalArgs_plain (Calls.spliced_cons ?_))⟩
  refine Calls.Constant_str (Calls.spliced_nil ?_)
  refine wpAny_mono (PySem.wpAny_toks_of (n := 1) (by show 1 ≤ s1.toks + 1; omega) (PySem.SC.lstripChars (Q := EP X pins σ Q) (fun t' k => ⟨.str _, H1, I1.tok k, ⟨t', rfl⟩, q⟩) hz)) (fun _ _ z => z) fun _ _ z => z.2
/-- a written pair, one token out -/
theorem pet_tup {es : List Expr} {ta : TA} {pos : Pos} {x1} (h : PAT X es ta) : PET X (.Tuple es x1 pos) (tTup ta) := by
  intro pins s σ H Q h0 I hq
  refine wpAny_Tuple_spliced (thn (h pos pins s σ H _ h0 I hq) fun us s1 ⟨xs, H1, I1, r, z, q⟩ => ⟨by rw [← r.length]; exact z, ?_⟩)
  refine ⟨.ref s1.heap.objs.size, upd H1 s1.heap.objs.size (.tup xs), I1.laid (t' := s1.toks) (fun b u e => Heap.get?_push_of_some _ e) (Nat.le_refl _) ?_, rfl, q _ (I1.hok.fresh (Nat.le_refl _))⟩
  exact ⟨z, us, r, ⟨_, Heap.get?_push_size _ rfl, rfl, _, rfl⟩⟩
end
abbrev sInit : Stmt := inClass (topS 17) 0
abbrev sEq : Stmt := inClass (topS 17) 1
abbrev sCut : Stmt := topS 19
abbrev sInitT : Stmt := inClass (topS 7) 0
theorem scInitT : FnScope ["self", "line", "column"] ["self", "line", "column"] (defScope sInitT) := ⟨rfl, rfl, rfl, by decide +kernel, rfl, by decide +kernel, by decide +kernel⟩
theorem scCut : FnScope ["text", "start", "letters", "wrong"] ["text"] (defScope sCut) := ⟨rfl, rfl, rfl, by decide +kernel, rfl, by decide +kernel, by decide +kernel⟩
theorem scInit : FnScope ["self", "text", "head", "letters"] ["self", "text"] (defScope sInit) := ⟨rfl, rfl, rfl, by decide +kernel, rfl, by decide +kernel, by decide +kernel⟩
theorem scEq : FnScope ["self", "other"] ["self", "other"] (defScope sEq) := ⟨rfl, rfl, rfl, by decide +kernel, rfl, by decide +kernel, by decide +kernel⟩
/-- built-in names -/
structure Bl (mg : Str → Option Value) : Prop where
  isi : mg "isinstance" = none
  int : mg "int" = none
  bool : mg "bool" = none
  str : mg "str" = none
  len : mg "len" = none
  range : mg "range" = none
  list : mg "list" = none
  enum : mg "enumerate" = none
  tuple : mg "tuple" = none
  min : mg "min" = none
  sorted : mg "sorted" = none
  reversed : mg "reversed" = none
/-- no text -/
def Odd (H : Hp) (v : V) : Prop := v = .non ∨ (∃ b, v = .bl b) ∨ (∃ i, v = .int i) ∨ (∃ p xs, v = .ref p ∧ H p = some (.lst xs)) ∨ (∃ p xs, v = .ref p ∧ H p = some (.tup xs)) ∨ ∃ p kv, v = .ref p ∧ H p = some (.dK kv)
theorem Odd.ty {H : Hp} {v : V} (h : Odd H v) : ∃ n : String, (∀ K, TyX K H v (.type n)) ∧ kitB n "str" = some false := by
  rcases h with h | ⟨b, h⟩ | ⟨i, h⟩ | ⟨p, xs, h, e⟩ | ⟨p, xs, h, e⟩ | ⟨p, kv, h, e⟩ <;> subst h
  · exact ⟨_, fun K => .base .non, by decide +kernel⟩
  · exact ⟨_, fun K => .base (.bl b), by decide +kernel⟩
  · exact ⟨_, fun K => .base (.int i), by decide +kernel⟩
  · exact ⟨_, fun K => .base (.lst e), by decide +kernel⟩
  · exact ⟨_, fun K => .base (.tup e), by decide +kernel⟩
  · exact ⟨_, fun K => .base (.dK e), by decide +kernel⟩
theorem Odd.same {H H' : Hp} {v : V} (s : Same H H') (h : Odd H v) : Odd H' v := by
  rcases h with h | h | h | ⟨p, xs, h, e⟩ | ⟨p, xs, h, e⟩ | ⟨p, kv, h, e⟩
  · exact .inl h
  · exact .inr (.inl h)
  · exact .inr (.inr (.inl h))
  · exact .inr (.inr (.inr (.inl ⟨p, xs, h, s _ _ e⟩)))
  · exact .inr (.inr (.inr (.inr (.inl ⟨p, xs, h, s _ _ e⟩))))
  · exact .inr (.inr (.inr (.inr (.inr ⟨p, kv, h, s _ _ e⟩))))
def xdT (l c : V) : List (Str × V) := [("column", c), ("line", l)]
/-- BadText(l, c) leaves the call -/
def Rz (C : Addr) (l c : V) (H : Hp) (E : XK) : Prop := ∀ d H', Same H H' → H' d = some (.xd (xdT l c)) → E (.ref C) (some d) H'
def spInitT (C : Addr) : Sp := fun vs H Q _ => ∃ (a : Addr) (y0 y1 : V), vs = [.ref a, y0, y1] ∧ H a = some (exo a C none) ∧
  ∀ H' d, H d = none → d ≠ a → H' a = some (exo a C (some d)) → H' d = some (exd d (xdT y0 y1)) → (∀ b o, H b = some o → b ≠ a → H' b = some o) → Q .non H'
def Telling (C : Addr) (B : List Nat) (H : Hp) (Q : VK) (E : XK) : Prop := (fine B ∧ ∀ H' p, Same H H' → H p = none → H' p = some (.tup [.str (mS (headL (ph B))), .str (mS (rest B))]) → Q (.ref p) H') ∨ (¬ fine B ∧ Rz C (.int 1) (.int (col B)) H E)
def spCut (C : Addr) : Sp := fun vs H Q E => ∃ v, vs = [v] ∧ ((∃ B : List Nat, v = .str (mS B) ∧ B.length ≤ 1000 ∧ Telling C B H Q E) ∨ (Odd H v ∧ Rz C (.int 0) (.int 0) H E))
theorem same_new {H : Hp} {r : Addr} {o : HO} (n : H r = none) : Same H (upd H r o) := fun b u e => by
  rw [upd_ne (ne_of_none e n)]
  exact e
/-- what the top has written of BadText -/
structure BT (K : PySem.W.Frag) (mg : Str → Option Value) (C fB : Addr) (dB : FuncData) : Prop where
  ox : OexC K C
  ic : PySem.W.findIn K (.ref C) "__init__" = some (some (.ref fB))
  ti : PySem.W.typeIn K (.ref fB) = some (.type "function")
  n0 : PySem.W.findIn K (.ref C) "line" = some none
  n1 : PySem.W.findIn K (.ref C) "column" = some none
  g : mg "BadText" = some (.ref C)
  F : Fun K "__init__" "BadText.__init__" sInitT fB dB
  b : Binds K dB ["self", "line", "column"] []
theorem bootS : bootBuiltins "str" = some (.type "str") := by decide +kernel
theorem bootI : bootBuiltins "int" = some (.type "int") := by decide +kernel
theorem e_plus : ("+" : Str) = ⟨#[43]⟩ := by decide +kernel
theorem e_minus : ("-" : Str) = ⟨#[45]⟩ := by decide +kernel
theorem e_i : ("i" : Str) = ⟨#[105]⟩ := by decide +kernel
theorem e_all : ("IXYZ" : Str) = mS [73, 88, 89, 90] := by decide +kernel
theorem e_no : ("" : Str) = ⟨#[]⟩ := by decide +kernel
theorem e_I : ("I" : Str) = ⟨#[73]⟩ := by decide +kernel
section
variable {P : Program} {w : World} {K : PySem.W.Frag} {mg : Str → Option Value} {base : Heap}
theorem ok_initT {f C : Addr} {fd : FuncData} {k : Nat} (F : Fun K "__init__" "BadText.__init__" sInitT f fd) (T : OexC K C) (n0 : PySem.W.findIn K (.ref C) "line" = some none) (n1 : PySem.W.findIn K (.ref C) "column" = some none) :
    FnOk P w K mg base CX0 (k + 1) f fd ["self", "line", "column"] (spInitT C) := by
  refine F.ok scInitT (fun vs H Q E h => ?_) (fun cdv A outer s H vs Q E hr h => ?_)
  · obtain ⟨a, y0, y1, rfl, _⟩ := h
    rfl
  · obtain ⟨a, y0, y1, rfl, ha, q⟩ := h
    refine ⟨_, pss_cons (ps_ost (pv 0) (pv 1) rfl) (pss_one (ps_ost (pv 0) (pv 2) rfl)), ?_⟩
    refine ⟨_, rfl, _, rfl, a, C, rfl, T, n0, .inl ⟨ha, fun dx nx dne => ?_⟩⟩
    refine ⟨_, rfl, _, rfl, a, C, rfl, T, n1, .inr ⟨dx, _, upd_same, by rw [upd_ne dne]; exact upd_same, by show _ ≤ 900; exact Nat.le_of_ble_eq_true rfl, ?_⟩⟩
    exact q _ dx nx dne (by rw [upd_ne dne.symm]; exact upd_same) upd_same (fun b o e hb => by rw [upd_ne (ne_of_none e nx), upd_ne hb, upd_ne (ne_of_none e nx)]; exact e)
theorem raise_rd {C : Addr} {y0 y1 : V} {H : Hp} {W : XK} (h : Rz C y0 y1 H W) : ∀ a, H a = none → spInitT C (.ref a :: ([y0, y1] ++ [])) (upd H a (exo a C none))
    (fun v H2 => v = .non ∧ ∃ (d : Addr) (fs : List (Str × V)), H2 a = some (exo a C (some d)) ∧ H2 d = some (exd d fs) ∧ H d = none ∧ W (.ref C) (some d) (upd (del H2 a) d (.xd fs))) (fun _ _ _ => False) := by
  intro a na
  refine ⟨a, y0, y1, rfl, upd_same, fun H' d nd dne e1 e2 kp => ⟨rfl, d, _, e1, e2, ?_, ?_⟩⟩
  · rw [upd_ne dne] at nd
    exact nd
  · have nd' : H d = none := by
      rw [upd_ne dne] at nd
      exact nd
    refine h d _ (fun b o e => ?_) upd_same
    have hba : b ≠ a := ne_of_none e na
    rw [upd_ne (ne_of_none e nd'), del_ne hba]
    exact kp b o (by rw [upd_ne hba]; exact e) hba
theorem sizeBig {n : Nat} (h : n ≤ 1000) : n ≤ sizeLine := Nat.le_trans h (by decide)
theorem ok_cut {f C fB : Addr} {fd dB : FuncData} (F : Fun K "_cut_text" "_cut_text" sCut f fd) (T : BT K mg C fB dB) (B : Bl mg) : FnOk P w K mg base (L2.CX P w) 3 f fd ["text"] (spCut C) := by
  have GB : FnOk P w K mg base CX0 1 fB dB ["self", "line", "column"] (spInitT C) := ok_initT T.F T.ox T.n0 T.n1
  refine F.okX scCut (fun vs H Q E h => ?_) (fun cdv A outer s H vs Q E hr h => ?_)
  · obtain ⟨v, rfl, _⟩ := h
    rfl
  · obtain ⟨v, rfl, h⟩ := h
    have hr1 : Room 1 _ := hr.mono (by decide)
    refine ⟨_, C8.pss_cut (ps_if (pt_not (pt_val (pe_callB call_isi (by rfl) B.isi PyProof.Rows.boot_isinstance (pa_cons (pv 0) (pa_cons (pe_bltn (v := .ty "str") (by rfl) B.str bootS rfl) pa_nil)))))
        (pss_one (ps_raise rfl (takes_of rfl rfl rfl rfl) (pmk_oex T.ox T.ic T.ti GB hr T.b .nil pass0 (by rfl) T.g (pa_cons pe_int (pa_cons pe_int pa_nil))))) pss_nil)
      (C8.pss_cut (ps_set (i := 1) scCut.nd rfl (.inl rfl) pe_int)
      (C8.pss_cut (ps_if (pw_or (pt_val (pe_bm PySem.F.plainAttrs_str PySem.F.slot_str_startswith PySem.F.type_str_startswith mt_startswith (pv 0) (pa_cons pe_str pa_nil))) (pw_or1 (pt_val (pe_bm PySem.F.plainAttrs_str PySem.F.slot_str_startswith PySem.F.type_str_startswith mt_startswith (pv 0) (pa_cons pe_str pa_nil))))).pt
        (pss_one (ps_set (i := 1) scCut.nd rfl (.inl rfl) pe_int)) pss_nil)
      (C8.pss_cut (ps_if (pt_val (pe_bm PySem.F.plainAttrs_str PySem.F.slot_str_startswith PySem.F.type_str_startswith mt_startswith (pe_slice sl_str (pv 0) (po_some (pv 1)) po_none) (pa_cons pe_str pa_nil)))
        (pss_one (ps_aug (i := 1) scCut.nd rfl (.inl rfl) pe_int ip_add)) pss_nil)
      (C8.pss_cut (ps_set (i := 2) scCut.nd rfl (.inl rfl) (pe_slice sl_str (pv 0) (po_some (pv 1)) po_none))
      (pss_tok (i := 3) (pek_strip (pv 2)) scCut.nd rfl (.inl rfl)
        (psst_cons (PST.of (ps_if (pw_or (pt_truth (pv 3) (by intro _; rfl)) (pw_or1 (pt_not (pt_truth (pv 2) (by intro _; rfl))))).pt
          (pss_one (ps_raise rfl (takes_of rfl rfl rfl rfl) (pmk_oex T.ox T.ic T.ti GB hr T.b .nil pass0 (by rfl) T.g (pa_cons pe_int (pa_cons (pe_op op_add (pe_op op_sub (pe_callB call_len_str (by rfl) B.len PySem.boot_len (pa_cons (pv 0) pa_nil)) (pe_callB call_len_str (by rfl) B.len PySem.boot_len (pa_cons (pv 3) pa_nil))) pe_int) pa_nil))))) pss_nil))
        (CwR.psst_one (CwR.pst_ret (pet_tup (pat_cons (CwR.pet_replC (pe_slice sl_str (pv 0) po_none (po_some (pv 1)))) (pat_cons (CwR.PET.of (pv 2)) pat_nil)))))))))))  , ?_⟩
    refine ⟨fun σ' H' => σ' = [some v, none, none, none] ∧ H' = H ∧ ∃ B : List Nat, v = .str (mS B) ∧ B.length ≤ 1000 ∧ Telling C B H Q E, ?_, ?_⟩
    · rcases h with ⟨B, rfl, hl, t⟩ | ⟨ho, q⟩
      · exact ⟨_, rfl, _, _, _, _, true, rfl, .ty "str", .base (.str _), kit_ty (by decide +kernel), _, rfl, iteF ⟨rfl, rfl, B, rfl, hl, t⟩⟩
      · obtain ⟨n, ty, kt⟩ := ho.ty
        refine ⟨_, rfl, v, _, _, _, false, rfl, .ty "str", ty K, kit_ty kt, _, rfl, iteT ⟨by show 2 ≤ 1000; decide, raise_rd q⟩⟩
    rintro _ H1 ⟨rfl, rfl, B, rfl, hl, t⟩
    have hz : (mS B).length ≤ sizeLine := by rw [mS_len]; exact sizeBig hl
    refine ⟨fun σ' H' => σ' = [some (.str (mS B)), some (.int 0), none, none] ∧ H' = H1, ⟨rfl, rfl⟩, ?_⟩
    rintro _ H2 ⟨rfl, rfl⟩
    refine ⟨fun σ' H' => σ' = [some (.str (mS B)), some (.int ((st1 B : Nat) : Int)), none, none] ∧ H' = H2, ?_, ?_⟩
    · have s1 := sw_one B 43
      have s2 := sw_one B 45
      rw [← e_plus] at s1
      rw [← e_minus] at s2
      refine ⟨_, rfl, rfl, _, _, rfl, rfl, _, rfl, ite2 (fun e => ?_) (fun e => ⟨_, rfl, rfl, _, _, rfl, rfl, _, rfl, ite2 (fun e2 => ?_) (fun e2 => ?_)⟩)⟩
      · have h1 : B.head? = some 43 := of_decide_eq_true (s1.symm.trans e)
        have : st1 B = 1 := if_pos (.inl h1)
        rw [this]
        exact ⟨rfl, rfl⟩
      · have h1 : B.head? = some 45 := of_decide_eq_true (s2.symm.trans e2)
        have : st1 B = 1 := if_pos (.inr h1)
        rw [this]
        exact ⟨rfl, rfl⟩
      · have h1 : ¬ B.head? = some 43 := fun z => e (s1.trans (decide_eq_true z))
        have h2 : ¬ B.head? = some 45 := fun z => e2 (s2.trans (decide_eq_true z))
        have : st1 B = 0 := if_neg (fun z => z.elim h1 h2)
        rw [this]
        exact ⟨rfl, rfl⟩
    rintro _ H3 ⟨rfl, rfl⟩
    refine ⟨fun σ' H' => σ' = [some (.str (mS B)), some (.int ((start B : Nat) : Int)), none, none] ∧ H' = H3, ?_, ?_⟩
    · have s1 := sw_one (B.drop (st1 B)) 105
      rw [← e_i, ← cut_from] at s1
      refine ⟨_, rfl, _, rfl, _, rfl, _, rfl, hz, rfl, _, _, rfl, rfl, _, rfl, ite2 (fun e => ?_) (fun e => ?_)⟩
      · have h1 : (B.drop (st1 B)).head? = some 105 := of_decide_eq_true (s1.symm.trans e)
        have : start B = st1 B + 1 := by unfold start; rw [if_pos h1]
        rw [this]
        exact ⟨_, rfl, _, _, rfl, rfl, rfl, rfl⟩
      · have h1 : ¬ (B.drop (st1 B)).head? = some 105 := fun z => e (s1.trans (decide_eq_true z))
        have : start B = st1 B := by unfold start; rw [if_neg h1]; rfl
        rw [this]
        exact ⟨rfl, rfl⟩
    rintro _ H4 ⟨rfl, rfl⟩
    refine ⟨fun σ' H' => σ' = [some (.str (mS B)), some (.int ((start B : Nat) : Int)), some (.str (mS (rest B))), none] ∧ H' = H4, ?_, ?_⟩
    · refine ⟨_, rfl, _, rfl, _, rfl, _, rfl, hz, ?_⟩
      rw [cut_from]
      exact ⟨rfl, rfl⟩
    rintro _ H5 ⟨rfl, rfl⟩
    have hzr : (mS (rest B)).length ≤ sizeLine := by
      rw [mS_len]
      refine sizeBig (Nat.le_trans ?_ hl)
      rw [show rest B = B.drop (start B) from rfl, List.length_drop]
      omega
    have hst : Txt.lstripChars (mS (rest B)) ("IXYZ" : Str) = mS ((rest B).dropWhile isL) := by
      rw [e_all, lstrip_eq]
      rfl
    refine ⟨_, rfl, _, rfl, hzr, ?_⟩
    rw [hst]
    have hw : ((rest B).dropWhile isL).length ≤ B.length := by
      have := len_split B
      omega
    have hzw : (mS ((rest B).dropWhile isL)).length ≤ sizeLine := by rw [mS_len]; exact sizeBig (Nat.le_trans hw hl)
    have no_fine : ¬ fine B → Rz C (.int 1) (.int (((mS B).length : Int) - ((mS ((rest B).dropWhile isL)).length : Int) + 1)) H5 E := by
      intro nf
      rcases t with ⟨y, _⟩ | ⟨_, q⟩
      · exact absurd y nf
      · have e : (((mS B).length : Int) - ((mS ((rest B).dropWhile isL)).length : Int) + 1) = ((col B : Nat) : Int) := by
          rw [mS_len, mS_len]
          unfold col
          rw [if_neg nf]
          omega
        rw [e]
        exact q
    refine ⟨_, rfl, _, ⟨hzw, rfl⟩, ite2 (fun e => ?_) (fun e => ⟨_, rfl, _, ⟨hzr, rfl⟩, ite2 (fun e2 => ?_) (fun e2 => ?_)⟩)⟩
    · have nf : ¬ fine B := by
        rintro ⟨z, _⟩
        rw [z] at e
        revert e
        decide
      refine ⟨_, rfl, _, rfl, hz, _, rfl, _, rfl, hzw, _, _, rfl, rfl, _, _, rfl, rfl, by show 2 ≤ 1000; decide, raise_rd (no_fine nf)⟩
    · have nf : ¬ fine B := by
        rintro ⟨_, z⟩
        have : ((mS (rest B)).length : Int) ≠ 0 := by
          rw [mS_len]
          have := List.length_pos_iff.mpr z
          omega
        rw [(bne_iff_ne).mpr this] at e2
        cases e2
      refine ⟨_, rfl, _, rfl, hz, _, rfl, _, rfl, hzw, _, _, rfl, rfl, _, _, rfl, rfl, by show 2 ≤ 1000; decide, raise_rd (no_fine nf)⟩
    · have f1 : (rest B).dropWhile isL = [] := by
        have : ¬ ((mS ((rest B).dropWhile isL)).length : Int) ≠ 0 := fun z => e ((bne_iff_ne).mpr z)
        rw [mS_len] at this
        exact List.length_eq_zero_iff.mp (by omega)
      have f2 : rest B ≠ [] := by
        intro z
        rw [z] at e2
        exact e2 rfl
      rcases t with ⟨_, q⟩ | ⟨nf, _⟩
      · refine ⟨_, rfl, _, rfl, _, rfl, _, rfl, hz, ?_⟩
        rw [cut_to]
        have l1 : (mS (B.take (start B))).length ≤ 1000 := by
          rw [mS_len, List.length_take]
          omega
        refine ⟨_, rfl, ?_, ?_⟩
        · have : ("" : Str).length = 0 := by decide +kernel
          rw [this, Nat.mul_zero]
          omega
        · rw [show ("+" : Str) = ⟨#[43]⟩ from e_plus, show ("" : Str) = ⟨#[]⟩ from e_no, strike, head_of]
          refine ⟨_, rfl, by show 2 ≤ sizeLine; decide, fun p np => ?_⟩
          exact q _ p (same_new np) np upd_same
      · exact absurd ⟨f1, f2⟩ nf
end
end KQ
namespace KQ
open PySem PySem.Spec PyProof.Rows L2
def PauliAt (C : Addr) (H : Hp) (a : Addr) (R : List Nat) (p : Nat) : Prop := ∃ dx fs, H a = some (.ins C dx fs) ∧ fs.lookup ("letters" : Str) = some (.str (mS R)) ∧ fs.lookup ("phase" : Str) = some (.int (p : Int)) ∧
  fs.lookup ("size" : Str) = some (.int (R.length : Int)) ∧ fs.lookup ("weight" : Str) = some (.int ((R.length : Int) - (R.count 73 : Int)))
/-- the tuple of heads -/
structure Hd4 (K : PySem.W.Frag) (mg : Str → Option Value) (A : Addr) : Prop where
  l : ∃ t0 t1 t2 t3 n sl, K.lookup A = some ⟨.type "tuple", none, .seq #[.str "" t0, .str "i" t1, .str "-" t2, .str "-i" t3] n, sl⟩
  g : mg "HEADS" = some (.ref A)
theorem e_mi : ("-i" : Str) = mS [45, 105] := by decide +kernel
theorem Hd4.sq {K : PySem.W.Frag} {mg : Str → Option Value} {A : Addr} (h : Hd4 K mg A) (H : Hp) : SqT K H A ([mS [], mS [105], mS [45], mS [45, 105]].map V.str) := by
  obtain ⟨t0, t1, t2, t3, n, sl, e⟩ := h.l
  refine .inr ⟨_, _, n, e, rfl, rfl, by show 4 ≤ sizeLine; decide, ?_⟩
  refine .cons ⟨t0, ?_⟩ (.cons ⟨t1, ?_⟩ (.cons ⟨t2, ?_⟩ (.cons ⟨t3, ?_⟩ .nil)))
  · rw [e_no]
  · rw [e_i]
  · rw [e_minus]
  · rw [e_mi]
theorem Hd4.ty {K : PySem.W.Frag} {mg : Str → Option Value} {A : Addr} (h : Hd4 K mg A) (H : Hp) : tyV K "tuple" (.ref A) H := by
  obtain ⟨t0, t1, t2, t3, n, sl, e⟩ := h.l
  exact .inr (.inl ⟨rfl, _, e, rfl, rfl⟩)
/-- what the top has written of Pauli -/
structure PCl (K : PySem.W.Frag) (mg : Str → Option Value) (C fI fE : Addr) : Prop where
  cl : Cls K C
  nL : NoAttr K C "letters"
  nP : NoAttr K C "phase"
  nS : NoAttr K C "size"
  nW : NoAttr K C "weight"
  mkf : Mk K C fI
  ha : PySem.W.findIn K (.ref C) "__class__" = some (some (.builtin "object.__class__"))
  hn : PySem.W.specialIn K (.builtin "object.__class__") "__get__" = some (some (.builtin "getset_descriptor.__get__"))
  ht : PySem.W.takesIn K (.builtin "object.__class__") = some true
  hm : PySem.W.mroIn K C (.type "object") = some true
  kC : PySem.W.kitOne K (.ref C) (.ref C) = some true
  kS : PySem.W.kitOne K (.type "str") (.ref C) = some false
  eq : PySem.W.findIn K (.ref C) "__eq__" = some (some (.ref fE))
  ef : PySem.W.isFn K (.ref fE) = true
  en : PySem.W.notFirst K C (.type "str") = true
  g : mg "Pauli" = some (.ref C)
def spInit (C CT : Addr) : Sp := fun vs H Q E => ∃ (a dx : Addr) (v : V), vs = [.ref a, v] ∧ H a = some (.ins C dx []) ∧
  ((∃ B : List Nat, v = .str (mS B) ∧ B.length ≤ 1000 ∧ ((fine B ∧ ∀ H', PauliAt C H' a (rest B) (ph B) → (∀ b o, b ≠ a → H b = some o → H' b = some o) → Q .non H') ∨ (¬ fine B ∧ Rz CT (.int 1) (.int (col B)) H E))) ∨ (Odd H v ∧ Rz CT (.int 0) (.int 0) H E))
def spEqP (C : Addr) : Sp := fun vs H Q _ => ∃ (a : Addr) (y : V) (R : List Nat) (p : Nat), vs = [.ref a, y] ∧ PauliAt C H a R p ∧
  ((∃ b R' p', y = .ref b ∧ PauliAt C H b R' p' ∧ Q (.bl (decide (R = R') && decide (p = p'))) H) ∨ ((∃ z : Str, y = .str z) ∧ Q (.bl false) H))
theorem cnt_count (c : Nat) : ∀ L : List Nat, countIn (.str ⟨#[c]⟩) (L.map fun n => PyData.str ⟨#[n]⟩) = (L.count c : Int)
  | [] => rfl
  | a :: L => by
    show (if same (.str ⟨#[a]⟩) (.str ⟨#[c]⟩) then 1 else 0) + countIn (.str ⟨#[c]⟩) (L.map fun n => PyData.str ⟨#[n]⟩) = _
    rw [cnt_count c L, List.count_cons]
    have e : same (.str ⟨#[a]⟩) (.str ⟨#[c]⟩) = (a == c) := by
      show ((⟨#[a]⟩ : Str) == ⟨#[c]⟩) = _
      by_cases h : a = c
      · subst h
        simp
      · have : (⟨#[a]⟩ : Str) ≠ ⟨#[c]⟩ := fun z => h (by injection z with z; simpa using z)
        rw [beq_eq_false_iff_ne.mpr this, beq_eq_false_iff_ne.mpr h]
    rw [e]
    by_cases h : a = c
    · subst h
      simp
      omega
    · rw [beq_eq_false_iff_ne.mpr h]
      simp
theorem head_at {p : Nat} (h : p < 4) : ([mS [], mS [105], mS [45], mS [45, 105]] : List Str)[p]? = some (mS (headL p)) := by
  match p, h with
  | 0, _ => rfl
  | 1, _ => rfl
  | 2, _ => rfl
  | 3, _ => rfl
theorem head_first {p : Nat} (h : p < 4) : ∀ m, m < p → ([mS [], mS [105], mS [45], mS [45, 105]] : List Str)[m]? ≠ some (mS (headL p)) := by
  match p, h with
  | 0, _ => exact fun m hm => by omega
  | 1, _ => 
    intro m hm
    match m, hm with
    | 0, _ => decide
  | 2, _ =>
    intro m hm
    match m, hm with
    | 0, _ => decide
    | 1, _ => decide
  | 3, _ =>
    intro m hm
    match m, hm with
    | 0, _ => decide
    | 1, _ => decide
    | 2, _ => decide
section
variable {P : Program} {w : World} {K : PySem.W.Frag} {mg : Str → Option Value} {base : Heap}
theorem ok_init {f fC C CT fE fB A : Addr} {fd dC dB : FuncData} (F : Fun K "__init__" "Pauli.__init__" sInit f fd) (N : PCl K mg C f fE) (FC : Fun K "_cut_text" "_cut_text" sCut fC dC) (bC : Binds K dC ["text"] []) (gC : mg "_cut_text" = some (.ref fC))
    (T : BT K mg CT fB dB) (hd : Hd4 K mg A) (B : Bl mg) : FnOk P w K mg base (L2.CX P w) 4 f fd ["self", "text"] (spInit C CT) := by
  have GC : FnOk P w K mg base (L2.CX P w) 3 fC dC ["text"] (spCut CT) := ok_cut FC T B
  refine F.okX scInit (fun vs H Q E h => ?_) (fun cdv A' outer s H vs Q E hr h => ?_)
  · obtain ⟨a, dx, v, rfl, _⟩ := h
    rfl
  · obtain ⟨a, dx, v, rfl, ea, h⟩ := h
    refine ⟨_, C8.pss_cut (ps_asg (pe_call GC hr (by rfl) gC FC.kp bC .nil (passes_call (takes_of rfl rfl rfl rfl) (fun _ _ _ _ h => h)) (pa_cons (pv 1) pa_nil)) (pg_tup rfl (pgs_cons (pg_name (i := 2) scInit.nd rfl (.inl rfl)) (pgs_cons (pg_name (i := 3) scInit.nd rfl (.inl rfl)) pgs_nil))))
      (pss_cons (ps_fld (pv 0) (pv 3) rfl)
      (pss_cons (ps_fld (pv 0) (pe_bm PySem.F.plainAttrs_tuple PySem.F.slot_tuple_index PySem.F.type_tuple_index mt_tup_index (pe_glob (v := .ref A) (by rfl) hd.g rfl) (pa_cons (pv 2) pa_nil)) rfl)
      (pss_cons (ps_fld (pv 0) (pe_callB call_len_str (by rfl) B.len PySem.boot_len (pa_cons (pv 3) pa_nil)) rfl)
      (pss_one (ps_fld (pv 0) (pe_op op_sub (pe_callB call_len_str (by rfl) B.len PySem.boot_len (pa_cons (pv 3) pa_nil)) (pe_bm PySem.F.plainAttrs_str PySem.F.slot_str_count PySem.F.type_str_count mt_count (pv 3) (pa_cons pe_str pa_nil))) rfl))))), ?_⟩
    refine ⟨fun σ' H' => ∃ B : List Nat, fine B ∧ B.length ≤ 1000 ∧ σ' = [some (.ref a), some v, some (.str (mS (headL (ph B)))), some (.str (mS (rest B)))] ∧ Same H H' ∧ ∀ H', PauliAt C H' a (rest B) (ph B) → (∀ b o, b ≠ a → H b = some o → H' b = some o) → Q .non H', ?_, ?_⟩
    · refine ⟨_, rfl, v, rfl, ?_⟩
      rcases h with ⟨B, rfl, hl, h⟩ | ⟨ho, q⟩
      · refine .inl ⟨B, rfl, hl, ?_⟩
        rcases h with ⟨hf, q⟩ | ⟨hf, q⟩
        · exact .inl ⟨hf, fun H' p s np ep => ⟨p, _, rfl, .inl (.inl ep), rfl, _, _, rfl, _, _, rfl, rfl, B, hf, hl, rfl, s, q⟩⟩
        · exact .inr ⟨hf, q⟩
      · exact .inr ⟨ho, q⟩
    rintro _ H1 ⟨B, hf, hl, rfl, s1, q⟩
    have ea1 := s1 _ _ ea
    have hlr : (rest B).length ≤ 1000 := by
      refine Nat.le_trans ?_ hl
      rw [show rest B = B.drop (start B) from rfl, List.length_drop]
      omega
    have hz : (mS (rest B)).length ≤ sizeLine := by rw [mS_len]; exact sizeBig hlr
    refine ⟨_, rfl, _, rfl, a, C, dx, _, rfl, ea1, N.cl, N.nL, by show 0 < 1000; decide, ?_⟩
    refine ⟨hd.ty _, _, rfl, A, _, _, _, rfl, rfl, hd.sq _, head_at (ph_lt B), head_first (ph_lt B), _, rfl, a, C, dx, _, rfl, upd_same, N.cl, N.nP, by show 1 < 1000; decide, ?_⟩
    refine ⟨_, rfl, _, rfl, hz, _, rfl, a, C, dx, _, rfl, upd_same, N.cl, N.nS, by show 2 < 1000; decide, ?_⟩
    refine ⟨_, rfl, _, rfl, hz, _, rfl, rfl, _, _, rfl, rfl, _, _, rfl, rfl, _, rfl, a, C, dx, _, rfl, upd_same, N.cl, N.nW, by show 3 < 1000; decide, ?_⟩
    refine q _ ⟨dx, _, upd_same, ?_, ?_, ?_, ?_⟩ (fun b o hb e => by rw [upd_ne hb, upd_ne hb, upd_ne hb, upd_ne hb]; exact s1 _ _ e)
    · rw [lookup_putF, if_neg (by decide +kernel), lookup_putF, if_neg (by decide +kernel), lookup_putF, if_neg (by decide +kernel), lookup_putF, if_pos rfl]
    · rw [lookup_putF, if_neg (by decide +kernel), lookup_putF, if_neg (by decide +kernel), lookup_putF, if_pos rfl]
    · rw [lookup_putF, if_neg (by decide +kernel), lookup_putF, if_pos rfl, mS_len]
    · rw [lookup_putF, if_pos rfl, mS_len, e_I]
      have : Txt.count (mS (rest B)) ⟨#[73]⟩ = ((rest B).count 73 : Int) := (PyProof.Rows.count_is _ _).trans (cnt_count 73 _)
      rw [this]
theorem PauliAt.ty {C : Addr} {fI fE : Addr} (N : PCl K mg C fI fE) {H : Hp} {a : Addr} {R : List Nat} {p : Nat} (h : PauliAt C H a R p) : TyX K H (.ref a) (.ref C) := by
  obtain ⟨dx, fs, e, _⟩ := h
  exact .base (.ins e N.cl N.ha N.hn N.ht N.hm)
theorem ok_eq {f fI C : Addr} {fd : FuncData} {k : Nat} (F : Fun K "__eq__" "Pauli.__eq__" sEq f fd) (N : PCl K mg C fI f) (B : Bl mg) : FnOk P w K mg base CX0 (k + 1) f fd ["self", "other"] (spEqP C) := by
  refine F.ok scEq (fun vs H Q E h => ?_) (fun cdv A' outer s H vs Q E hr h => ?_)
  · obtain ⟨a, y, R, p, rfl, _⟩ := h
    rfl
  · obtain ⟨a, y, R, p, rfl, hP, h⟩ := h
    refine ⟨_, pss_one (ps_ret (pe_and (pe_callB call_isi (by rfl) B.isi PyProof.Rows.boot_isinstance (pa_cons (pv 1) (pa_cons (pe_glob (v := .ref C) (by rfl) N.g rfl) pa_nil)))
      (pe_and (pe_cmpR op_eq (pe_fld (pv 0) rfl) (pe_fld (pv 1) rfl) (nomark _)) (pe_one (pe_cmpR op_eq (pe_fld (pv 0) rfl) (pe_fld (pv 1) rfl) (nomark _)))))), ?_⟩
    rcases h with ⟨b, R', p', rfl, hP', q⟩ | ⟨⟨z, rfl⟩, q⟩
    · refine ⟨_, rfl, _, _, _, _, true, rfl, .own C, hP'.ty N, N.kC, _, rfl, ?_⟩
      obtain ⟨dx, fs, e, l1, l2, _⟩ := hP
      obtain ⟨dy, gs, e', l1', l2', _⟩ := hP'
      refine ⟨_, rfl, a, C, dx, fs, _, rfl, e, N.cl, N.nL, l1, _, rfl, b, C, dy, gs, _, rfl, e', N.cl, N.nL, l1', rfl, _, rfl, ?_⟩
      by_cases hR : R = R'
      · subst hR
        rw [decide_eq_true rfl] at q ⊢
        refine ⟨_, rfl, a, C, dx, fs, _, rfl, e, N.cl, N.nP, l2, _, rfl, b, C, dy, gs, _, rfl, e', N.cl, N.nP, l2', rfl, ?_⟩
        by_cases hp : p = p'
        · subst hp
          rw [decide_eq_true rfl] at q ⊢
          exact q
        · rw [decide_eq_false hp] at q
          rw [decide_eq_false (fun z => hp (by have := V.int.inj z; omega))]
          exact q
      · rw [decide_eq_false hR] at q
        rw [decide_eq_false (fun z => hR (mS_inj (V.str.inj z)))]
        exact q
    · exact ⟨_, rfl, _, _, _, _, false, rfl, .own C, .base (.str z), N.kS, _, rfl, q⟩
end
end KQ
namespace KQ
open PySem PySem.Spec PyProof.Rows L2
theorem band (a b : Nat) : Builtin.bitAnd (a : Int) (b : Int) = ((a &&& b : Nat) : Int) := by
  unfold Builtin.bitAnd
  rw [decide_eq_true (Int.natCast_nonneg a), decide_eq_true (Int.natCast_nonneg b)]
  rfl
theorem bor (a b : Nat) : Builtin.bitOr (a : Int) (b : Int) = ((a ||| b : Nat) : Int) := by
  have n1 : ∀ n : Nat, Builtin.bitNot (n : Int) = -(n : Int) - 1 := fun n => by
    unfold Builtin.bitNot
    omega
  have n2 : ∀ n : Nat, Builtin.bitNot (-(n : Int) - 1) = (n : Int) := fun n => by
    unfold Builtin.bitNot
    omega
  unfold Builtin.bitOr
  rw [n1, n1]
  unfold Builtin.bitAnd
  rw [decide_eq_false (by omega : ¬ (0 ≤ -(a : Int) - 1)), decide_eq_false (by omega : ¬ (0 ≤ -(b : Int) - 1))]
  show Builtin.bitNot (Builtin.bitNot (((Builtin.bitNot (-(a : Int) - 1)).toNat ||| (Builtin.bitNot (-(b : Int) - 1)).toNat : Nat) : Int)) = _
  rw [n2, n2, n1, n2]
  rfl
theorem xor_two (a b i j : Nat) (hi : i < 2) (hj : j < 2) : (2 * a + i) ^^^ (2 * b + j) = 2 * (a ^^^ b) + (i ^^^ j) := by
  have h1 : ((2 * a + i) ^^^ (2 * b + j)) / 2 = a ^^^ b := by
    rw [Nat.xor_div_two, show (2 * a + i) / 2 = a from by omega, show (2 * b + j) / 2 = b from by omega]
  have h2 : ((2 * a + i) ^^^ (2 * b + j)) % 2 = i ^^^ j := by
    have := Nat.xor_mod_two_pow (a := 2 * a + i) (b := 2 * b + j) (n := 1)
    rw [Nat.pow_one] at this
    rw [this, show (2 * a + i) % 2 = i from by omega, show (2 * b + j) % 2 = j from by omega]
  omega
def md (a b : Nat) : Nat := if h : b = 0 then 0 else (if b % 2 = 1 then a else 0) ^^^ md (2 * a) (b / 2)
termination_by b
decreasing_by omega
theorem or_sub_and : ∀ (n m : Nat), (n ||| m) = (n ^^^ m) + (n &&& m) := by
  intro n
  induction n using Nat.strongRecOn with
  | ind n ih =>
    intro m
    by_cases h : n = 0
    · subst h
      rw [Nat.zero_or, Nat.zero_xor, Nat.zero_and]
      rfl
    · have e : n = 2 * (n / 2) + n % 2 := by omega
      have e2 : m = 2 * (m / 2) + m % 2 := by omega
      have k := ih (n / 2) (by omega) (m / 2)
      have l1 : n % 2 < 2 := Nat.mod_lt _ (by decide)
      have l2 : m % 2 < 2 := Nat.mod_lt _ (by decide)
      rw [e, e2, or_two _ _ _ _ l1 l2, xor_two _ _ _ _ l1 l2, and_two _ _ _ _ l1 l2, k]
      have hb : ∀ i j : Nat, i < 2 → j < 2 → (i ||| j) = (i ^^^ j) + (i &&& j) := by
        intro i j hi hj
        match i, j, hi, hj with
        | 0, 0, _, _ => rfl
        | 0, 1, _, _ => rfl
        | 1, 0, _, _ => rfl
        | 1, 1, _, _ => rfl
      rw [hb _ _ l1 l2]
      omega
theorem bxor (a b : Nat) : Builtin.bitXor (a : Int) (b : Int) = ((a ^^^ b : Nat) : Int) := by
  unfold Builtin.bitXor
  rw [bor, band, or_sub_and]
  omega
abbrev sBits : Stmt := topS 32
abbrev sLow : Stmt := topS 3
theorem bootT : bootBuiltins "tuple" = some (.type "tuple") := by decide +kernel
def rowV (W m : Nat) : List V := (rowOf W m).map fun b => V.int (b : Nat)
theorem rowV_len (W m : Nat) : (rowV W m).length = W := by
  unfold rowV
  rw [List.length_map, rowOf_len]
def natV (ns : List Nat) : List V := ns.map fun n => V.int (n : Nat)
theorem natV_int (ns : List Nat) : natV ns = (ns.map fun n => ((n : Nat) : Int)).map V.int := by
  unfold natV
  rw [List.map_map]
  rfl
theorem natV_at {ns : List Nat} {i : Nat} {v : V} (h : (natV ns)[i]? = some v) : ∃ n, ns[i]? = some n ∧ v = .int (n : Nat) := by
  unfold natV at h
  rw [List.getElem?_map] at h
  obtain ⟨n, hn, rfl⟩ := Option.map_eq_some_iff.mp h
  exact ⟨n, hn, rfl⟩
theorem natV_len (ns : List Nat) : (natV ns).length = ns.length := List.length_map ..
theorem take_snoc {α : Type} {l : List α} {i : Nat} {x : α} (h : l[i]? = some x) : l.take (i + 1) = l.take i ++ [x] := by
  rw [List.take_succ, h]
  rfl
theorem natV_app (T U : List Nat) : natV (T ++ U) = natV T ++ natV U := List.map_append ..
def spBits : Sp := fun vs H Q _ => ∃ m W : Nat, vs = [.int (m : Nat), .int (W : Nat)] ∧ W ≤ 100 ∧ ∀ p H', Same H H' → H p = none → FzT H' p (rowV W m) → Q (.ref p) H'
theorem scBits : FnScope ["number", "many", "place"] ["number", "many"] (defScope sBits) := ⟨rfl, rfl, rfl, by decide +kernel, rfl, by decide +kernel, by decide +kernel⟩
section
variable {P : Program} {w : World} {K : PySem.W.Frag} {mg : Str → Option Value} {base : Heap}
theorem ok_bits {f : Addr} {fd : FuncData} {k : Nat} (F : Fun K "bit_tuple" "bit_tuple" sBits f fd) (B : Bl mg) : FnOk P w K mg base CX0 (k + 1) f fd ["number", "many"] spBits := by
  refine F.ok scBits (fun vs H Q E h => ?_) (fun cdv A outer s H vs Q E hr h => ?_)
  · obtain ⟨m, W, rfl, _⟩ := h
    rfl
  · obtain ⟨m, W, rfl, hW, q⟩ := h
    refine ⟨_, pss_one (ps_ret (pe_callTy call_tupF (by rfl) B.tuple bootT (pa_cons (pe_lc (own := [("place", 2)]) (g := gName 2) (by rfl) scBits.nd (pi_revR (by rfl) B.reversed (prg_1 (by rfl) B.range (pv 1))) (blkOk_by (own := [("place", 2)]) (N := ["number", "many", "place"]) (sc := defScope sBits) (by decide +kernel))
          (fun _ _ _ _ _ => pg_name (i := 2) scBits.nd rfl (Or.inl rfl)) (fun _ _ _ _ _ => pts_nil) (fun _ _ _ _ _ => pe_op op_odd (pe_op op_shrN (pv 0) (pv 2)) pe_int)) pa_nil))), ?_⟩
    refine ⟨_, rfl, _, rfl, by omega, by omega, by omega, by omega, ?_⟩

    intro D nD
    refine lc_down (Pv := fun i Hc => Hc D = some (.lst ((rowV W m).take i)) ∧ Same H Hc) ⟨upd_same, same_new nD⟩ ?_ ?_
    · rintro i Hc hi ⟨eD, sc⟩
      have hi' : i < W := by omega
      have hb := rowOf_at (m := m) hi'
      refine ⟨rfl, _, rfl, _, rfl, (m : Int), W - 1 - i, rfl, ?_, m / 2 ^ (W - 1 - i), ?_, rfl, _, eD, ?_, ?_, ?_⟩
      · show V.int (0 + (((W : Int) - 0).toNat : Int) - 1 + (i : Nat) * (-1)) = _
        rw [show (0 : Int) + (((W : Int) - 0).toNat : Int) - 1 + (i : Nat) * (-1) = ((W - 1 - i : Nat) : Int) by omega]
      · push_cast
        rfl
      · rw [List.length_take, rowV_len]
        exact Nat.lt_of_le_of_lt (by omega : _ ≤ 100) (by decide)
      · rw [upd_same, take_snoc (x := V.int ((m / 2 ^ (W - 1 - i) % 2 : Nat) : Int))]
        unfold rowV
        rw [List.getElem?_map, hb]
        show some (V.int _) = _
        rw [Nat.testBit_eq_decide_div_mod_eq]
        have : m / 2 ^ (W - 1 - i) % 2 < 2 := Nat.mod_lt _ (by decide)
        by_cases e : m / 2 ^ (W - 1 - i) % 2 = 1
        · rw [decide_eq_true e, e]
          rfl
        · rw [decide_eq_false e, show m / 2 ^ (W - 1 - i) % 2 = 0 by omega]
          rfl
      · intro b o e
        rw [upd_ne (ne_of_none e nD)]
        exact sc _ _ e
    · rintro Hc ⟨eD, sc⟩
      rw [List.take_of_length_le (by rw [rowV_len]; omega)] at eD
      refine ⟨D, _, rfl, SqL.of eD, fun l H' nl s' fz => ?_⟩
      have nl' : H l = none := by
        cases e : H l with
        | none => rfl
        | some o => rw [sc _ _ e] at nl; cases nl
      exact q l H' (sc.trans s') nl' fz
end
/-- the marked rows at a list's items -/
def MkAt (H : Hp) (L : List (Addr × Nat × Nat)) : Prop := ∀ p ∈ L, H p.1 = some (.tup [.int (p.2.1 : Nat), .int (p.2.2 : Nat)])
theorem MkAt.same {H H' : Hp} {L : List (Addr × Nat × Nat)} (s : Same H H') (h : MkAt H L) : MkAt H' L := fun p hp => s _ _ (h p hp)
theorem spn_add0 {T ns : List Nat} {g : Nat} (hT : ∀ x, Spn T x ↔ Spn ns x) (x : Nat) : Spn (T ++ [rst T g]) x ↔ Spn (ns ++ [g]) x := by
  refine spn_iff_of (fun a ha => ?_) (fun a ha => ?_) x
  · rcases List.mem_append.mp ha with q | q
    · exact spn_le (fun b hb => spn_mem (List.mem_append_left _ hb)) ((hT a).mp (spn_mem q))
    · rw [List.mem_singleton.mp q]
      have h1 : Spn (ns ++ [g]) (g ^^^ rst T g) := spn_le (fun b hb => spn_mem (List.mem_append_left _ hb)) ((hT _).mp (rst_spn (T := T) g))
      have h2 := (spn_sub _).2 _ _ (spn_mem (T := ns ++ [g]) (List.mem_append_right _ (List.mem_singleton_self g))) h1
      rwa [← Nat.xor_assoc, Nat.xor_self, Nat.zero_xor] at h2
  · rcases List.mem_append.mp ha with q | q
    · exact spn_le (fun b hb => spn_mem (List.mem_append_left _ hb)) ((hT a).mpr (spn_mem q))
    · rw [List.mem_singleton.mp q]
      have h1 : Spn (T ++ [rst T g]) (g ^^^ rst T g) := spn_le (fun b hb => spn_mem (List.mem_append_left _ hb)) (rst_spn (T := T) g)
      have := (spn_sub _).2 _ _ h1 (spn_mem (T := T ++ [rst T g]) (List.mem_append_right _ (List.mem_singleton_self _)))
      rwa [Nat.xor_assoc, Nat.xor_self, Nat.xor_zero] at this
theorem Ec.snoc {T : List Nat} {v : Nat} (E : Ec T) (v0 : v ≠ 0) (h : ∀ r ∈ T, v.testBit r.log2 = false) : Ec (T ++ [v]) := by
  refine ⟨fun r hr => ?_, List.pairwise_append.mpr ⟨E.pw, List.pairwise_singleton _ _, fun a ha b hb => ?_⟩⟩
  · rcases List.mem_append.mp hr with q | q
    · exact E.nz r q
    · rw [List.mem_singleton.mp q]
      exact v0
  · rw [List.mem_singleton.mp hb]
    exact h a ha
end KQ
namespace KQ
theorem pc_xor : ∀ (a b : Nat), pc (a ^^^ b) % 2 = (pc a + pc b) % 2 := by
  intro a
  induction a using Nat.strongRecOn with
  | _ a ih =>
    intro b
    by_cases h : a = 0
    · subst h
      rw [Nat.zero_xor, pc_zero, Nat.zero_add]
    · have ha : a = 2 * (a / 2) + a % 2 := by omega
      have hb : b = 2 * (b / 2) + b % 2 := by omega
      have hx : a ^^^ b = 2 * (a / 2 ^^^ b / 2) + (a % 2 ^^^ b % 2) := by
        apply Nat.eq_of_testBit_eq
        intro j
        cases j with
        | zero =>
          rw [Nat.testBit_xor, Nat.testBit_zero, Nat.testBit_zero, Nat.testBit_zero]
          rcases Nat.mod_two_eq_zero_or_one a with e | e <;> rcases Nat.mod_two_eq_zero_or_one b with e' | e' <;> rw [e, e'] <;> simp [Nat.add_mod]
        | succ j =>
          have lt : (a % 2 ^^^ b % 2) < 2 := by
            rcases Nat.mod_two_eq_zero_or_one a with e | e <;> rcases Nat.mod_two_eq_zero_or_one b with e' | e' <;> rw [e, e'] <;> decide
          rw [Nat.testBit_xor, Nat.testBit_succ, Nat.testBit_succ, Nat.testBit_succ, show (2 * (a / 2 ^^^ b / 2) + (a % 2 ^^^ b % 2)) / 2 = a / 2 ^^^ b / 2 by omega, Nat.testBit_xor]
      have i2 := ih (a / 2) (by omega) (b / 2)
      have p1 := pc_two (a / 2) (a % 2) (by omega)
      have p2 := pc_two (b / 2) (b % 2) (by omega)
      rw [← ha] at p1
      rw [← hb] at p2
      have lt : (a % 2 ^^^ b % 2) < 2 ∧ (a % 2 ^^^ b % 2) = (a % 2 + b % 2) % 2 := by
        rcases Nat.mod_two_eq_zero_or_one a with e | e <;> rcases Nat.mod_two_eq_zero_or_one b with e' | e' <;> rw [e, e'] <;> decide
      rw [hx, pc_two _ _ lt.1, p1, p2]
      omega
/-- does the second one's front meet the first one's back oddly -/
def tw (n a b : Nat) : Nat := pc (a &&& (b >>> n)) % 2
theorem tw_xl (n a b c : Nat) : tw n (a ^^^ b) c = (tw n a c + tw n b c) % 2 := by
  unfold tw
  rw [Nat.and_xor_distrib_right, pc_xor]
  omega
theorem tw_xr (n a b c : Nat) : tw n a (b ^^^ c) = (tw n a b + tw n a c) % 2 := by
  unfold tw
  rw [Nat.shiftRight_xor_distrib, Nat.and_xor_distrib_left, pc_xor]
  omega
theorem tw_zl (n c : Nat) : tw n 0 c = 0 := by
  unfold tw
  rw [Nat.zero_and, pc_zero]
theorem tw_zr (n c : Nat) : tw n c 0 = 0 := by
  unfold tw
  rw [Nat.zero_shiftRight, Nat.and_zero, pc_zero]
abbrev Hl := Nat × Nat
def hp (n : Nat) (h g : Hl) : Hl := (h.1 ^^^ g.1, (h.2 + g.2 + 2 * tw n h.1 g.1) % 4)
def lwH (n : Nat) (h r : Hl) : Hl := if h.1 ^^^ r.1 < h.1 then hp n h r else h
def rsH (n : Nat) (T : List Hl) (h : Hl) : Hl := T.foldl (lwH n) h
theorem lwH_fst {n : Nat} {h r : Hl} (r0 : r.1 ≠ 0) : (lwH n h r).1 = lw h.1 r.1 := by
  unfold lwH lw
  by_cases c : h.1.testBit r.1.log2 = true
  · rw [if_pos ((lt_iff r0).mpr c), if_pos c]
    rfl
  · rw [if_neg (fun z => c ((lt_iff r0).mp z)), if_neg c]
theorem rsH_fst {n : Nat} : ∀ {T : List Hl} {h : Hl}, (∀ r ∈ T, r.1 ≠ 0) → (rsH n T h).1 = rst (T.map Prod.fst) h.1
  | [], _, _ => rfl
  | r :: T, h, z => by
    show (rsH n T (lwH n h r)).1 = rst (T.map Prod.fst) (lw h.1 r.1)
    rw [rsH_fst (fun q m => z q (List.mem_cons_of_mem _ m)), lwH_fst (z r (List.mem_cons_self ..))]
theorem hp_assoc (n : Nat) (a b c : Hl) : hp n (hp n a b) c = hp n a (hp n b c) := by
  unfold hp
  refine Prod.ext (Nat.xor_assoc ..) ?_
  show ((a.2 + b.2 + 2 * tw n a.1 b.1) % 4 + c.2 + 2 * tw n (a.1 ^^^ b.1) c.1) % 4 = (a.2 + (b.2 + c.2 + 2 * tw n b.1 c.1) % 4 + 2 * tw n a.1 (b.1 ^^^ c.1)) % 4
  rw [tw_xl, tw_xr]
  omega
theorem hp_zr {n : Nat} {a : Hl} (h : a.2 < 4) : hp n a (0, 0) = a := by
  unfold hp
  refine Prod.ext (Nat.xor_zero _) ?_
  show (a.2 + 0 + 2 * tw n a.1 0) % 4 = a.2
  rw [tw_zr]
  omega
theorem hp_zl {n : Nat} {a : Hl} (h : a.2 < 4) : hp n (0, 0) a = a := by
  unfold hp
  refine Prod.ext (Nat.zero_xor _) ?_
  show (0 + a.2 + 2 * tw n 0 a.1) % 4 = a.2
  rw [tw_zl]
  omega
theorem hp_lt (n : Nat) (a b : Hl) : (hp n a b).2 < 4 := Nat.mod_lt _ (by decide)
def Com (n : Nat) (a b : Hl) : Prop := tw n a.1 b.1 = tw n b.1 a.1
def Sg (n : Nat) (h : Hl) : Prop := h.2 < 4 ∧ h.2 % 2 = tw n h.1 h.1
theorem Com.symm {n : Nat} {a b : Hl} (h : Com n a b) : Com n b a := Eq.symm h
theorem Com.self (n : Nat) (a : Hl) : Com n a a := rfl
theorem hp_comm {n : Nat} {a b : Hl} (h : Com n a b) : hp n a b = hp n b a := by
  unfold hp Com at *
  refine Prod.ext (Nat.xor_comm ..) ?_
  show (a.2 + b.2 + 2 * tw n a.1 b.1) % 4 = (b.2 + a.2 + 2 * tw n b.1 a.1) % 4
  rw [h]
  omega
theorem hp_sq {n : Nat} {a : Hl} (h : Sg n a) : hp n a a = (0, 0) := by
  obtain ⟨h1, h2⟩ := h
  unfold hp
  refine Prod.ext (Nat.xor_self _) ?_
  show (a.2 + a.2 + 2 * tw n a.1 a.1) % 4 = 0
  omega
theorem com_hp {n : Nat} {a b c : Hl} (h : Com n a b) (k : Com n a c) : Com n a (hp n b c) := by
  unfold Com hp at *
  show tw n a.1 (b.1 ^^^ c.1) = tw n (b.1 ^^^ c.1) a.1
  rw [tw_xr, tw_xl, h, k]
theorem com_z (n : Nat) (a : Hl) : Com n a (0, 0) := by
  unfold Com
  show tw n a.1 0 = tw n 0 a.1
  rw [tw_zr, tw_zl]
theorem sg_z (n : Nat) : Sg n (0, 0) := ⟨by decide, by show 0 % 2 = tw n 0 0; rw [tw_zl]⟩
theorem sg_hp {n : Nat} {a b : Hl} (ha : Sg n a) (hb : Sg n b) (h : Com n a b) : Sg n (hp n a b) := by
  obtain ⟨a1, a2⟩ := ha
  obtain ⟨b1, b2⟩ := hb
  refine ⟨hp_lt .., ?_⟩
  unfold Com at h
  show (a.2 + b.2 + 2 * tw n a.1 b.1) % 4 % 2 = tw n (a.1 ^^^ b.1) (a.1 ^^^ b.1)
  rw [tw_xl, tw_xr, tw_xr]
  omega
/-- the product of those of the first k whose mark is set, in their order -/
def pr (n : Nat) (hs : List Hl) (m : Nat) : Nat → Hl
  | 0 => (0, 0)
  | k + 1 => if m.testBit k = true then hp n (pr n hs m k) (hs.getD k (0, 0)) else pr n hs m k
/-- signed ones that commute -/
structure CS (n : Nat) (hs : List Hl) : Prop where
  sg : ∀ a ∈ hs, Sg n a
  com : ∀ a ∈ hs, ∀ b ∈ hs, Com n a b
theorem getD_mem {hs : List Hl} {k : Nat} (h : k < hs.length) : hs.getD k (0, 0) ∈ hs := by
  rw [List.getD_eq_getElem?_getD, List.getElem?_eq_getElem h]
  exact List.getElem_mem h
theorem pr_lt (n : Nat) (hs : List Hl) (m : Nat) : ∀ k, (pr n hs m k).2 < 4
  | 0 => by show 0 < 4; decide
  | k + 1 => by
    unfold pr
    split
    · exact hp_lt ..
    · exact pr_lt n hs m k
theorem pr_com {n : Nat} {hs : List Hl} {g : Hl} (m : Nat) (h : ∀ a ∈ hs, Com n g a) : ∀ {k}, k ≤ hs.length → Com n g (pr n hs m k)
  | 0, _ => com_z n g
  | k + 1, hk => by
    unfold pr
    split
    · exact com_hp (pr_com m h (by omega)) (h _ (getD_mem hk))
    · exact pr_com m h (by omega)
theorem pr_sg {n : Nat} {hs : List Hl} (C : CS n hs) (m : Nat) : ∀ {k}, k ≤ hs.length → Sg n (pr n hs m k)
  | 0, _ => sg_z n
  | k + 1, hk => by
    unfold pr
    split
    · exact sg_hp (pr_sg C m (by omega)) (C.sg _ (getD_mem hk)) ((pr_com m (fun a ha => C.com _ (getD_mem hk) a ha) (by omega)).symm)
    · exact pr_sg C m (by omega)
theorem pr_xor {n : Nat} {hs : List Hl} (C : CS n hs) (m m' : Nat) : ∀ {k}, k ≤ hs.length → pr n hs (m ^^^ m') k = hp n (pr n hs m k) (pr n hs m' k)
  | 0, _ => by
    show ((0, 0) : Hl) = hp n (0, 0) (0, 0)
    rw [hp_zr (by decide)]
  | k + 1, hk => by
    have ih := pr_xor C m m' (k := k) (by omega)
    have g := getD_mem (hs := hs) hk
    generalize hs.getD k (0, 0) = r at g
    have c1 : Com n r (pr n hs m' k) := pr_com m' (fun a ha => C.com _ g a ha) (by omega)
    have s1 := C.sg _ g
    show (if (m ^^^ m').testBit k = true then hp n (pr n hs (m ^^^ m') k) (hs.getD k (0, 0)) else pr n hs (m ^^^ m') k) = hp n (if m.testBit k = true then hp n (pr n hs m k) (hs.getD k (0, 0)) else pr n hs m k) (if m'.testBit k = true then hp n (pr n hs m' k) (hs.getD k (0, 0)) else pr n hs m' k)
    have g' := getD_mem (hs := hs) hk
    generalize hs.getD k (0, 0) = q at g'
    have c2 : Com n q (pr n hs m' k) := pr_com m' (fun a ha => C.com _ g' a ha) (by omega)
    have s2 := C.sg _ g'
    rw [Nat.testBit_xor, ih]
    cases m.testBit k <;> cases m'.testBit k
    · rfl
    · exact hp_assoc ..
    · show hp n (hp n (pr n hs m k) (pr n hs m' k)) q = hp n (hp n (pr n hs m k) q) (pr n hs m' k)
      rw [hp_assoc, hp_assoc, hp_comm c2]
    · show hp n (pr n hs m k) (pr n hs m' k) = hp n (hp n (pr n hs m k) q) (hp n (pr n hs m' k) q)
      rw [hp_assoc, ← hp_assoc n q, hp_comm c2, hp_assoc n _ q q, hp_sq s2, hp_zr (pr_lt ..)]
theorem pr_take {n : Nat} {hs : List Hl} {g : Hl} (m : Nat) : ∀ {k}, k ≤ hs.length → pr n (hs ++ [g]) m k = pr n hs m k
  | 0, _ => rfl
  | k + 1, hk => by
    unfold pr
    rw [pr_take m (by omega), show (hs ++ [g]).getD k (0, 0) = hs.getD k (0, 0) by
      rw [List.getD_eq_getElem?_getD, List.getD_eq_getElem?_getD, List.getElem?_append_left hk]]
theorem pr_bits {n : Nat} {hs : List Hl} {m m' : Nat} : ∀ {k}, (∀ j, j < k → m.testBit j = m'.testBit j) → pr n hs m k = pr n hs m' k
  | 0, _ => rfl
  | k + 1, h => by
    unfold pr
    rw [pr_bits (k := k) (fun j hj => h j (by omega)), h k (by omega)]
theorem pr_snoc0 {n : Nat} {hs : List Hl} {g : Hl} {m : Nat} (h : m < 2 ^ hs.length) : pr n (hs ++ [g]) m (hs.length + 1) = pr n hs m hs.length := by
  show (if m.testBit hs.length = true then _ else _) = _
  rw [bit_high h (Nat.le_refl _), if_neg (by decide), pr_take m (Nat.le_refl _)]
theorem pr_snoc1 {n : Nat} {hs : List Hl} {g : Hl} {m : Nat} (h : m < 2 ^ hs.length) : pr n (hs ++ [g]) (2 ^ hs.length ^^^ m) (hs.length + 1) = hp n (pr n hs m hs.length) g := by
  show (if (2 ^ hs.length ^^^ m).testBit hs.length = true then _ else _) = _
  rw [Nat.testBit_xor, bit_high h (Nat.le_refl _), Nat.testBit_two_pow_self, if_pos (show (true ^^ false) = true from rfl), pr_take _ (Nat.le_refl _)]
  congr 1
  · refine pr_bits fun j hj => ?_
    rw [Nat.testBit_xor, Nat.testBit_two_pow_of_ne (by omega), Bool.false_xor]
  · rw [List.getD_eq_getElem?_getD, List.getElem?_append_right (Nat.le_refl _), Nat.sub_self] <;> rfl
theorem pr_zero {n : Nat} {hs : List Hl} : ∀ k, pr n hs 0 k = (0, 0)
  | 0 => rfl
  | k + 1 => by
    unfold pr
    rw [Nat.zero_testBit, if_neg (by decide), pr_zero k]
theorem xs_app {α : Type} (l : List α) (a : α) (f : α → Nat) : XS (l ++ [a]) f = XS l f ^^^ f a := by
  induction l with
  | nil =>
    show f a ^^^ 0 = 0 ^^^ f a
    rw [Nat.xor_zero, Nat.zero_xor]
  | cons b l ih =>
    show f b ^^^ XS (l ++ [a]) f = (f b ^^^ XS l f) ^^^ f a
    rw [ih, Nat.xor_assoc]
theorem pr_fst {n : Nat} {hs : List Hl} (m : Nat) : (pr n hs m hs.length).1 = sx (hs.map Prod.fst) m := by
  have go : ∀ k, (pr n hs m k).1 = XS (List.range k) fun j => if m.testBit j then (hs.map Prod.fst).getD j 0 else 0 := by
    intro k
    induction k with
    | zero => rfl
    | succ k ih =>
      rw [List.range_succ, xs_app, ← ih]
      show (if m.testBit k = true then hp n (pr n hs m k) (hs.getD k (0, 0)) else pr n hs m k).1 = _
      have e : (hs.map Prod.fst).getD k 0 = (hs.getD k (0, 0)).1 := by
        rw [List.getD_eq_getElem?_getD, List.getD_eq_getElem?_getD, List.getElem?_map]
        cases hs[k]? <;> rfl
      rw [e]
      cases m.testBit k
      · exact (Nat.xor_zero _).symm
      · rfl
  rw [go, sx, List.length_map]
theorem indep_sx {ns : List Nat} (I : Indep ns) {m : Nat} (h : m < 2 ^ ns.length) (z : sx ns m = 0) : m = 0 := by
  by_cases m0 : m = 0
  · exact m0
  · refine absurd ?_ (I m.log2 (ns.getD m.log2 0) ?_)
    · have ht := bit_top m0
      have hl : m.log2 < ns.length := (Nat.log2_lt m0).mpr h
      have e : m = 2 ^ m.log2 ^^^ (m ^^^ 2 ^ m.log2) := by
        rw [Nat.xor_comm m, ← Nat.xor_assoc, Nat.xor_self, Nat.zero_xor]
      have e2 : sx ns (m ^^^ 2 ^ m.log2) = ns.getD m.log2 0 := by
        rw [sx_lin, z, Nat.zero_xor, sx_pow hl]
      have lt : m ^^^ 2 ^ m.log2 < 2 ^ m.log2 := by
        apply Nat.lt_pow_two_of_testBit
        intro j hj
        rw [Nat.testBit_xor]
        by_cases e : j = m.log2
        · subst e
          rw [ht, Nat.testBit_two_pow_self]
          rfl
        · rw [bit_above (by omega), Nat.testBit_two_pow_of_ne (by omega)]
          rfl
      rw [← e2]
      have e3 : ns = ns.take m.log2 ++ ns.drop m.log2 := (List.take_append_drop ..).symm
      have go : ∀ (us vs : List Nat) (x : Nat), x < 2 ^ us.length → sx (us ++ vs) x = sx us x := by
        intro us vs
        induction vs generalizing us with
        | nil => intro x _; rw [List.append_nil]
        | cons v vs ih =>
          intro x hx
          have l2 : x < 2 ^ (us ++ [v]).length := Nat.lt_of_lt_of_le hx (Nat.pow_le_pow_right (by decide) (by rw [List.length_append]; omega))
          rw [show us ++ v :: vs = (us ++ [v]) ++ vs by simp, ih (us ++ [v]) x l2, sx_more hx]
      rw [e3, go (ns.take m.log2) (ns.drop m.log2) _ (by rw [List.length_take, Nat.min_eq_left (by omega)]; exact lt)]
      rw [List.take_left' (by rw [List.length_take, Nat.min_eq_left (by omega)])]
      exact sx_spn (ns.take m.log2) _
    · have hl : m.log2 < ns.length := (Nat.log2_lt m0).mpr h
      rw [List.getD_eq_getElem?_getD, List.getElem?_eq_getElem hl]
      rfl
theorem indep_one {ns : List Nat} (I : Indep ns) {m m' : Nat} (h : m < 2 ^ ns.length) (h' : m' < 2 ^ ns.length) (e : sx ns m = sx ns m') : m = m' := by
  have z := indep_sx I (m := m ^^^ m') (Nat.xor_lt_two_pow h h') (by rw [sx_lin, e, Nat.xor_self])
  have : m ^^^ (m ^^^ m') = m ^^^ 0 := by rw [z]
  rw [← Nat.xor_assoc, Nat.xor_self, Nat.zero_xor, Nat.xor_zero] at this
  exact this.symm
end KQ
namespace KQ
structure TabG (n : Nat) (hs T : List Hl) : Prop where
  red : Red (T.map Prod.fst)
  spn : ∀ x, Spn (T.map Prod.fst) x ↔ Spn (hs.map Prod.fst) x
  of : ∀ r ∈ T, ∃ m, m < 2 ^ hs.length ∧ r = pr n hs m hs.length
theorem TabG.nil (n : Nat) : TabG n [] [] := ⟨Red.nil, fun _ => Iff.rfl, fun _ h => by cases h⟩
theorem TabG.nz {n : Nat} {hs T : List Hl} (t : TabG n hs T) : ∀ r ∈ T, r.1 ≠ 0 := fun r hr => t.red.nz _ (List.mem_map_of_mem hr)
theorem rsH_pr {n : Nat} {hs : List Hl} (C : CS n hs) {g : Hl} : ∀ {T : List Hl} (m : Nat), m < 2 ^ hs.length → (∀ r ∈ T, ∃ m, m < 2 ^ hs.length ∧ r = pr n hs m hs.length) →
    ∃ m', m' < 2 ^ hs.length ∧ rsH n T (hp n g (pr n hs m hs.length)) = hp n g (pr n hs m' hs.length)
  | [], m, hm, _ => ⟨m, hm, rfl⟩
  | r :: T, m, hm, h => by
    obtain ⟨m1, l1, e1⟩ := h r (List.mem_cons_self ..)
    have h' := fun q hq => h q (List.mem_cons_of_mem _ hq)
    show ∃ m', _ ∧ rsH n T (lwH n (hp n g (pr n hs m hs.length)) r) = _
    unfold lwH
    split
    · rw [hp_assoc, e1, ← pr_xor C m m1 (Nat.le_refl _)]
      exact rsH_pr C _ (Nat.xor_lt_two_pow hm l1) h'
    · exact rsH_pr C m hm h'
theorem TabG.rest {n : Nat} {hs T : List Hl} (t : TabG n hs T) (C : CS n hs) {g : Hl} (hg : g.2 < 4) : ∃ m, m < 2 ^ hs.length ∧ rsH n T g = hp n g (pr n hs m hs.length) := by
  have h := rsH_pr C (g := g) (T := T) 0 (Nat.two_pow_pos _) t.of
  rwa [pr_zero, hp_zr hg] at h
theorem CS.snoc {n : Nat} {hs : List Hl} (C : CS n hs) {g : Hl} (hg : Sg n g) (cg : ∀ a ∈ hs, Com n g a) : CS n (hs ++ [g]) := by
  refine ⟨fun a ha => ?_, fun a ha b hb => ?_⟩
  · rcases List.mem_append.mp ha with h | h
    · exact C.sg a h
    · rw [List.mem_singleton.mp h]; exact hg
  · rcases List.mem_append.mp ha with h | h <;> rcases List.mem_append.mp hb with k | k
    · exact C.com a h b k
    · rw [List.mem_singleton.mp k]; exact (cg a h).symm
    · rw [List.mem_singleton.mp h]; exact cg b k
    · rw [List.mem_singleton.mp h, List.mem_singleton.mp k]; exact Com.self n g
theorem Indep.snoc {ns : List Nat} (I : Indep ns) {g : Nat} (h : ¬ Spn ns g) : Indep (ns ++ [g]) := by
  intro i x hx
  by_cases hi : i < ns.length
  · rw [List.getElem?_append_left hi] at hx
    rw [List.take_append_of_le_length (by omega)]
    exact I i x hx
  · rw [List.getElem?_append_right (by omega)] at hx
    have e : i = ns.length := by
      cases k : i - ns.length with
      | zero => omega
      | succ j => rw [k] at hx; cases hx
    subst e
    rw [Nat.sub_self] at hx
    cases hx
    rw [List.take_left' rfl]
    exact h
theorem TabG.out {n : Nat} {hs T : List Hl} (t : TabG n hs T) {g : Hl} : (rsH n T g).1 = 0 ↔ Spn (hs.map Prod.fst) g.1 := by
  rw [rsH_fst t.nz, ← t.spn, spn_rst t.red.ec]
theorem TabG.add {n : Nat} {hs T : List Hl} (t : TabG n hs T) (C : CS n hs) {g : Hl} (hg : Sg n g) (cg : ∀ a ∈ hs, Com n g a) (v0 : (rsH n T g).1 ≠ 0) :
    TabG n (hs ++ [g]) (T.map (lwH n · (rsH n T g)) ++ [rsH n T g]) := by
  obtain ⟨m0, l0, e0⟩ := t.rest C hg.1
  have ef : (T.map (lwH n · (rsH n T g)) ++ [rsH n T g]).map Prod.fst = (T.map Prod.fst).map (lw · (rst (T.map Prod.fst) g.1)) ++ [rst (T.map Prod.fst) g.1] := by
    rw [List.map_append, List.map_map, List.map_map, ← rsH_fst t.nz]
    congr 1
    exact List.map_congr_left fun r _ => lwH_fst v0
  have v0' : rst (T.map Prod.fst) g.1 ≠ 0 := by rw [← rsH_fst t.nz]; exact v0
  have ev : rsH n T g = hp n (pr n hs m0 hs.length) g := by rw [e0, hp_comm (pr_com m0 cg (Nat.le_refl _))]
  have up : 2 ^ (hs ++ [g]).length = 2 * 2 ^ hs.length := by rw [List.length_append, List.length_singleton, Nat.pow_succ]; omega
  have top : ∀ m, m < 2 ^ hs.length → 2 ^ hs.length ^^^ m < 2 ^ (hs ++ [g]).length := fun m hm => by
    refine Nat.xor_lt_two_pow ?_ ?_
    · rw [up]; have := Nat.two_pow_pos hs.length; omega
    · rw [up]; omega
  refine ⟨?_, fun x => ?_, fun r hr => ?_⟩
  · rw [ef]
    exact t.red.add v0' fun r hr => rst_clear t.red.ec r hr
  · rw [ef, List.map_append]
    exact spn_add t.spn v0' x
  · rw [show (hs ++ [g]).length = hs.length + 1 by simp] at top ⊢
    rcases List.mem_append.mp hr with h | h
    · obtain ⟨q, hq, e⟩ := List.mem_map.mp h
      obtain ⟨m1, l1, e1⟩ := t.of q hq
      subst e
      show ∃ m, _ ∧ lwH n q (rsH n T g) = _
      unfold lwH
      split
      · refine ⟨2 ^ hs.length ^^^ (m1 ^^^ m0), top _ (Nat.xor_lt_two_pow l1 l0), ?_⟩
        rw [pr_snoc1 (Nat.xor_lt_two_pow l1 l0), ev, e1, pr_xor C m1 m0 (Nat.le_refl _), hp_assoc]
      · exact ⟨m1, by rw [Nat.pow_succ]; omega, by rw [pr_snoc0 l1]; exact e1⟩
    · rw [List.mem_singleton.mp h]
      exact ⟨2 ^ hs.length ^^^ m0, top m0 l0, by rw [pr_snoc1 l0]; exact ev⟩
/-- one that is a product of kept ones, up to its sign -/
theorem TabG.hit {n : Nat} {hs T : List Hl} (t : TabG n hs T) (C : CS n hs) {g : Hl} (hg : Sg n g) (cg : ∀ a ∈ hs, Com n g a) (v0 : (rsH n T g).1 = 0) :
    ∃ m, m < 2 ^ hs.length ∧ (pr n hs m hs.length).1 = g.1 ∧ ((rsH n T g).2 = 0 ↔ (pr n hs m hs.length).2 = g.2) := by
  obtain ⟨m0, l0, e0⟩ := t.rest C hg.1
  have e1 : (pr n hs m0 hs.length).1 = g.1 := by
    rw [e0] at v0
    have z : g.1 ^^^ (pr n hs m0 hs.length).1 = 0 := v0
    have : g.1 ^^^ (g.1 ^^^ (pr n hs m0 hs.length).1) = g.1 ^^^ 0 := by rw [z]
    rw [← Nat.xor_assoc, Nat.xor_self, Nat.zero_xor, Nat.xor_zero] at this
    exact this
  refine ⟨m0, l0, e1, ?_⟩
  rw [e0]
  show (g.2 + (pr n hs m0 hs.length).2 + 2 * tw n g.1 (pr n hs m0 hs.length).1) % 4 = 0 ↔ _
  have s2 := pr_sg C m0 (Nat.le_refl _)
  obtain ⟨s1, s2⟩ := s2
  obtain ⟨g1, g2⟩ := hg
  rw [e1] at s2 ⊢
  omega
end KQ
namespace KQ
open PySem PySem.Spec PyProof.Rows
open PySem.Builtin PySem.Builtin.Str PySem.Builtin.Int PySem.Builtin.Float
/-- the digits of n to the base 2, as a text -/
def binT (n : Nat) : Str := ⟨((Nat.toDigits 2 n).map Char.toNat).toArray⟩
theorem spec_b (name : String) : parseFormatSpec ("b" : Str).cps.toList name 62 = .ok { align := 62, type := some 98 } := by
  rw [show ("b" : Str).cps.toList = [98] from by decide +kernel]
  rfl
theorem gives_bin (n : Nat) (t u : Tok) : Gives («int.__format__» ⟨[.int (n : Int) t, .str "b" u], []⟩) (.str (binT n)) := by
  intro prog w A R s hq
  unfold Builtin.«int.__format__»
  have h1 : (("b" : Str).length == 0) = false := by decide +kernel
  have h2 : ((("b" : Str).cps.toList.drop 1).any (· ≥ 128) || (("b" : Str).cps.getD 0 0 ≥ 128 && !([60, 62, 61, 94] : List Nat).contains (("b" : Str).cps.getD 1 0))) = false := by decide +kernel
  simp only [selfAndOne, noKeywords, Int.intOfSelf, asInt?, asStr?, List.isEmpty_nil, if_true, pure_bind, bind_pure, bind_assoc, h1, h2, Bool.false_eq_true, if_false,
    show (Value.str ("b" : Str) u == Value.none) = false from rfl]
  refine wpAny_bind (wpAny_typeNameOf (T := "str") (typeIs_str _ _ _) (by decide) fun _ => ?_)
  refine wpAny_bind (PyProof.Rows.wpAny_typeNameOfCut_int ?_)
  simp only [spec_b]
  simp only [Option.getD_some]
  rw [if_pos]
  case hc => decide +kernel
  show wpAny _ _ (retStr _) _ _ _
  have made : ∀ X : Str, X = binT n → wpAny (model prog w) A.in1 (retStr X) (fun fin s' => match fin with
      | Fin.done f => R (Except.ok f) s'
      | Fin.again c' => c'.quiet = true ∧ codeAny (model prog w) A c' R s') (fun e s' => R (Except.error e) s') s := by
    rintro _ rfl
    unfold retStr
    refine wpAny_bind (wpAny_mkStr (wpAny_pure ?_) ?_)
    · exact hq.2
    · exact hq.1
  refine made _ ?_
  rw [show decide ((n : Int) < 0) = false from decide_eq_false (by omega)]
  generalize hd : List.map (fun c => (if (98 == 88) = true then Char.toUpper c else c).toNat) (Nat.toDigits 2 (n : Int).natAbs) = ds
  conv => lhs; whnf
  have h0 : ds.isEmpty = false := by
    have := tDigits_len_ge 2 n
    rw [← hd, Int.natAbs_natCast]
    cases h : Nat.toDigits 2 n with
    | nil => rw [h] at this; simp at this
    | cons _ _ => rfl
  have hp : ((-1 : Int) - ds.length).toNat = 0 := by omega
  have hb : binT n = ⟨ds.toArray⟩ := by
    unfold binT
    rw [← hd]
    rfl
  rw [hb]
  simp [h0, hp]
/-- the bits of a whole number as a text, the highest one first -/
def tFmtB (te : L2.TE) : L2.TE := fun σ H Q => te σ H fun x H1 => ∃ n : Nat, x = .int (n : Int) ∧ (binT n).length ≤ sizeLine ∧ Q (.str (binT n)) H1
theorem pe_fmtB {X : L2.Cx} {e : Expr} {te : L2.TE} {j : Nat} {p1 p2 pos : Pos} (he : L2.PE X e te) : L2.PE X (.FormattedValue e (-1) (some (.JoinedStr [.Constant (.str "b") j p1] p2)) pos) (tFmtB te) := by
  refine ⟨fun pins s σ H Q I h => ?_⟩
  refine wpAny_FormattedValue_spec (L2.thn (he.run pins s σ H _ I h) fun v s1 hv => ?_)
  obtain ⟨x, H1, I1, r1, n, rfl, hz, q⟩ := hv
  obtain ⟨t, rfl⟩ := r1
  have hs := (L2.pe_joined1 (X := X) (pos := p2) (L2.pe_str (X := X) (x := "b") (j := j) (pos := p1))).run pins s1 σ H1 (fun y H2 => y = .str "b" ∧ H2 = H1) I1 ⟨rfl, rfl⟩
  refine L2.thn hs fun r s2 hr => ?_
  obtain ⟨y, H2, I2, r2, rfl, rfl⟩ := hr
  obtain ⟨u, rfl⟩ := r2
  refine ⟨_, _, rfl, wpAny_formatField_spec (by decide +kernel) (fun s' => typeIs_int s' _ t) slot_int_format entry_int_format args_int_format (fun u => gives_bin n t u) ?_ (by decide +kernel) hz⟩
  exact ⟨.str _, H2, I2.tok _, ⟨_, rfl⟩, q⟩
end KQ
namespace KT
open PySem PySem.Spec PyProof.Rows L2 PySem.NumText PySem.Calls
def IsB (c : Nat) : Prop := c = 48 ∨ c = 49
/-- the number that a list of signs 0 and 1 tells, the highest one first -/
def binN (l : List Nat) : Nat := l.foldl (fun a c => a * 2 + (c - 48)) 0
theorem IsB.hex {c : Nat} (h : IsB c) : Hx.IsHex c := by
  unfold IsB at h
  unfold Hx.IsHex
  omega
theorem IsB.hv {c : Nat} (h : IsB c) : Hx.hv c = c - 48 := if_pos (by unfold IsB at h; omega)
theorem step_b {ds : Array Nat} {b : Bool} {c : Nat} (h : IsB c) : PySem.NumText.step 2 (ds, b) c = some (ds.push (c - 48), true) := by
  unfold PySem.NumText.step
  rw [if_neg (by rw [beq_iff_eq]; exact (Hx.hex_rng h.hex).2.2), Hx.digit_hex h.hex, h.hv]
  exact if_pos (by unfold IsB at h; omega)
theorem steps_b : ∀ (cs : List Nat) (ds : Array Nat) (b : Bool), (∀ c ∈ cs, IsB c) → cs.foldlM (PySem.NumText.step 2) (ds, b) = some (cs.foldl (fun acc c => acc.push (c - 48)) ds, b || !cs.isEmpty)
  | [], _, b, _ => by cases b <;> rfl
  | c :: cs, ds, b, h => by
    rw [List.foldlM_cons, step_b (h c (List.mem_cons_self ..))]
    show cs.foldlM (PySem.NumText.step 2) (ds.push (c - 48), true) = _
    rw [steps_b cs _ true fun d hd => h d (List.mem_cons_of_mem _ hd)]
    cases b <;> rfl
theorem digits_b {cs : List Nat} (h : ∀ c ∈ cs, IsB c) (hne : cs ≠ []) : digits? 2 cs = some (cs.foldl (fun acc c => acc.push (c - 48)) #[]) := by
  unfold digits?
  rw [steps_b cs _ _ h]
  cases cs with
  | nil => exact absurd rfl hne
  | cons c cs => rfl
theorem push_b : ∀ (cs : List Nat) (ds : Array Nat), (cs.foldl (fun acc c => acc.push (c - 48)) ds).foldl (fun acc d => acc * 2 + d) 0 = cs.foldl (fun a c => a * 2 + (c - 48)) (ds.foldl (fun acc d => acc * 2 + d) 0)
  | [], _ => rfl
  | c :: cs, ds => by
    rw [List.foldl_cons, push_b cs, List.foldl_cons]
    simp
theorem based_b {cs : List Nat} (h : ∀ c ∈ cs, IsB c) : based 2 cs = (2, false, cs) := by
  match cs, h with
  | [], _ => rfl
  | [a], h =>
    rcases h a (List.mem_cons_self ..) with rfl | rfl <;> rfl
  | a :: c :: r, h =>
    rcases h a (List.mem_cons_self ..) with rfl | rfl <;> rcases h c (List.mem_cons_of_mem _ (List.mem_cons_self ..)) with rfl | rfl <;> rfl
theorem read_b {cs : List Nat} (h : ∀ c ∈ cs, IsB c) (hne : cs ≠ []) : (int_private% "readNumeral") 0 2 cs = (int_private% "Numeral.value") ((binN cs : Nat) : Int) := by
  have hx : ∀ c ∈ cs, Hx.IsHex c := fun c hc => (h c hc).hex
  have hr : ∀ c ∈ cs.reverse, Hx.IsHex c := fun c hc => hx c (List.mem_reverse.mp hc)
  have eb := based_b h
  refine (readNumeral_eq 0 2 cs).trans ?_
  rw [Hx.dropB hx, Hx.signH hx]
  show judge 0 false (based 2 cs).1 (based 2 cs).2.1 (digits? (based 2 cs).1 (((based 2 cs).2.2.reverse.dropWhile blank).reverse)) = _
  rw [eb]
  show judge 0 false 2 false (digits? 2 ((cs.reverse.dropWhile blank).reverse)) = _
  rw [Hx.dropB hr, List.reverse_reverse, digits_b h hne]
  have z : (#[] : Array Nat).foldl (fun acc d => acc * 2 + d) 0 = 0 := by first | rfl | simp
  have e := push_b cs #[]
  rw [z] at e
  show (int_private% "Numeral.value") (((cs.foldl (fun acc c => acc.push (c - 48)) (#[] : Array Nat)).foldl (fun acc d => acc * 2 + d) 0 : Nat) : Int) = _
  rw [e] <;> rfl
theorem gives_b {x : PySem.Str} {u t : Tok} (hl : x.length ≤ 640) (h : ∀ c ∈ x.cps.toList, IsB c) (hne : x.cps.toList ≠ []) :
    Gives (Builtin.«int.__new__» ⟨[.type "int", .str x u, .int 2 t], []⟩) (.int ((binN x.cps.toList : Nat) : Int)) :=
  .of_wp fun M A E s Q hQ => by
    obtain ⟨hp, g, d, tk, os⟩ := s
    have f1 := F.conv_sub_int
    have f2 := F.madeHere_int
    have f6 : typeOf (.str x u) = pure (.type "str") := rfl
    obtain ⟨e1, e2⟩ := Hx.seen_hex fun c hc => (h c hc).hex
    have hk : Hx.Hid ((numSeenOf x).length ≤ 640 ∧ (int_private% "readNumeral") 0 2 (numSeenOf x) = (int_private% "Numeral.value") ((binN x.cps.toList : Nat) : Int) ∧ ((numSeenOf x).length == (numTextOf x).length) = true) := by
      refine ⟨?_, ?_, ?_⟩
      · rw [e2, Array.length_toList]; exact hl
      · rw [e2]; exact read_b h hne
      · rw [e1, e2]; exact beq_self_eq_true _
    clear e1 e2 hl hne h
    repeat (any_goals (first
      | assumption
      | ((with_reducible show wpAny _ _ ((int_private% "intFromText") _ _ _) _ _ _); refine Hx.wp_textB hk.out.1 hk.out.2.1 hk.out.2.2 ?_)
      | wp_step))
    all_goals first | exact ⟨_, rfl, hQ⟩ | skip
end KT
namespace KQ
open PySem PySem.Spec PyProof.Rows L2
/-- int(t, 2) -/
def rIntB : List V → Hp → VK → Prop := fun xs H Q => ∃ l : List Nat, xs = [.str (SX.S l), .int 2] ∧ l ≠ [] ∧ l.length ≤ 640 ∧ (∀ c ∈ l, KT.IsB c) ∧ Q (.int ((KT.binN l : Nat) : Int)) H
theorem call_int_b {X : Cx} : CallR X (.type "int") rIntB := by
  rintro pins s σ H xs us Q I r ⟨l, rfl, hne, hl, hx, q⟩
  obtain ⟨u, w', rfl, ⟨t1, rfl⟩, ⟨t2, rfl⟩⟩ := vals2 r
  exact callType_new F.called_int F.newNe_int (Hx.typeCall_int_2 _ _) (Hx.newCall_int_2 _ _) (fun obj => F.initArgs_range_2 obj _ _) F.entry_int_new (KT.gives_b (x := SX.S l) (by rw [SX.S_len]; exact hl) hx hne).meets
    (show (Made.int ((KT.binN l : Nat) : Int)).post _ s from ⟨rfl, ⟨.int ((KT.binN l : Nat) : Int), H, I.tok _, ⟨_, rfl⟩, q⟩⟩)
end KQ
namespace KQ
open PySem PySem.Spec PyProof.Rows L2
def lsb (n : Nat) : List Nat := if h : n < 2 then [48 + n] else (48 + n % 2) :: lsb (n / 2)
termination_by n
decreasing_by omega
theorem lsb_small {n : Nat} (h : n < 2) : lsb n = [48 + n] := by rw [lsb, dif_pos h]
theorem lsb_big {n : Nat} (h : ¬ n < 2) : lsb n = (48 + n % 2) :: lsb (n / 2) := by rw [lsb, dif_neg h]
theorem dig_char {b : Nat} (h : b < 2) : (Nat.digitChar b).toNat = 48 + b := by
  have : b = 0 ∨ b = 1 := by omega
  rcases this with rfl | rfl <;> decide
theorem core_two : ∀ (fuel n : Nat) (ds : List Char), n < fuel → (Nat.toDigitsCore 2 fuel n ds).map Char.toNat = (lsb n).reverse ++ ds.map Char.toNat
  | 0, n, ds, h => by omega
  | fuel + 1, n, ds, h => by
    unfold Nat.toDigitsCore
    by_cases h2 : n / 2 = 0
    · simp only [h2, if_true]
      rw [lsb_small (by omega), List.map_cons, dig_char (by omega), show n % 2 = n by omega]
      rfl
    · simp only [h2, if_false]
      have e : lsb n = (48 + n % 2) :: lsb (n / 2) := lsb_big (by omega)
      rw [core_two fuel (n / 2) _ (by omega), e, List.map_cons, dig_char (by omega)]
      simp
theorem bin_eq (n : Nat) : binT n = mS (lsb n).reverse := by
  unfold binT Nat.toDigits
  rw [core_two (n + 1) n [] (by omega)]
  simp
theorem lsb_pc (n : Nat) : (lsb n).count 49 = pc n := by
  induction n using Nat.strongRecOn with
  | _ n ih =>
    by_cases h : n < 2
    · rw [lsb_small h]
      have : n = 0 ∨ n = 1 := by omega
      rcases this with rfl | rfl
      · rw [pc_zero]; decide
      · have := pc_two 0 1 (by decide)
        rw [pc_zero] at this
        rw [show pc 1 = 1 from this]
        decide
    · have e := pc_two (n / 2) (n % 2) (by omega)
      rw [show 2 * (n / 2) + n % 2 = n by omega] at e
      rw [lsb_big h, e, List.count_cons, ih (n / 2) (by omega)]
      rcases Nat.mod_two_eq_zero_or_one n with q | q <;> rw [q] <;> simp <;> omega
/-- n signs, the highest one first -/
def txB (n m : Nat) : List Nat := (rowOf n m).map (48 + ·)
theorem txB_len (n m : Nat) : (txB n m).length = n := by rw [txB, List.length_map, rowOf_len]
theorem rowOf_low (n m : Nat) : rowOf (n + 1) m = rowOf n (m / 2) ++ [m % 2] := by
  unfold rowOf
  rw [List.range_succ, List.map_append, List.map_cons, List.map_nil]
  congr 1
  · refine List.map_congr_left fun k hk => ?_
    have : k < n := List.mem_range.mp hk
    rw [show n + 1 - 1 - k = (n - 1 - k) + 1 by omega, Nat.testBit_succ]
  · rw [show n + 1 - 1 - n = 0 by omega, Nat.testBit_zero]
    rcases Nat.mod_two_eq_zero_or_one m with e | e <;> rw [e] <;> rfl
theorem txB_low (n m : Nat) : txB (n + 1) m = txB n (m / 2) ++ [48 + m % 2] := by
  unfold txB
  rw [rowOf_low, List.map_append] <;> rfl
theorem lsb_pad : ∀ (n m : Nat), m < 2 ^ (n + 1) → (lsb m).length ≤ n + 1 ∧ List.replicate (n + 1 - (lsb m).length) 48 ++ (lsb m).reverse = txB (n + 1) m
  | 0, m, h => by
    rw [lsb_small (by omega)]
    refine ⟨Nat.le_refl _, ?_⟩
    rw [txB_low, show m % 2 = m by omega] <;> rfl
  | n + 1, m, h => by
    have up : 2 ^ (n + 1 + 1) = 2 ^ (n + 1) * 2 := Nat.pow_succ ..
    by_cases h2 : m < 2
    · rw [lsb_small h2, txB_low, show m / 2 = 0 by omega, show m % 2 = m by omega]
      refine ⟨by simp, ?_⟩
      unfold txB
      rw [row_zero, List.map_replicate, List.length_singleton, Nat.add_sub_cancel] <;> rfl
    · obtain ⟨i1, i2⟩ := lsb_pad n (m / 2) (by omega)
      rw [lsb_big h2, txB_low, ← i2]
      refine ⟨by rw [List.length_cons]; omega, ?_⟩
      rw [List.length_cons, List.reverse_cons, List.append_assoc, Nat.add_sub_add_right]
theorem txB_dig (n m : Nat) : ∀ c ∈ txB n m, c = 48 ∨ c = 49 := by
  intro c hc
  obtain ⟨b, hb, rfl⟩ := List.mem_map.mp hc
  have := rowOf_bit hb
  omega
theorem zf_bin {n m : Nat} (hn : 1 ≤ n) (h : m < 2 ^ n) : Txt.zfill (binT m) (n : Int) = mS (txB n m) := by
  obtain ⟨n, rfl⟩ : ∃ k, n = k + 1 := ⟨n - 1, by omega⟩
  obtain ⟨i1, i2⟩ := lsb_pad n m h
  have e0 : ∀ c, (lsb m).reverse.head? = some c → c = 48 ∨ c = 49 := by
    intro c hc
    have : c ∈ txB (n + 1) m := by
      rw [← i2]
      exact List.mem_append_right _ (List.mem_of_mem_head? hc)
    exact txB_dig _ _ c this
  rw [bin_eq]
  unfold Txt.zfill
  by_cases hc : ((n + 1 : Nat) : Int) ≤ ((mS (lsb m).reverse).length : Int)
  · rw [if_pos hc]
    rw [mS_len, List.length_reverse] at hc
    have e : (lsb m).length = n + 1 := by omega
    rw [e, Nat.sub_self] at i2
    exact congrArg mS i2
  · rw [if_neg hc]
    have e9 : (mS (lsb m).reverse).cps[0]? = (lsb m).reverse.head? := by
      rw [List.head?_eq_getElem?]
      simp
    unfold zfilled
    rw [e9]
    have go : ∀ o : Option Nat, (∀ c, o = some c → c = 48 ∨ c = 49) → (match o with
        | some 43 | some 45 => PySem.Builtin.Str.strSub (mS (lsb m).reverse) 0 1 ++ PySem.Builtin.Str.padded (PySem.Builtin.Str.strSub (mS (lsb m).reverse) 1 (mS (lsb m).reverse).length) (((n + 1 : Nat) : Int).toNat - (mS (lsb m).reverse).length) 0 48
        | _ => PySem.Builtin.Str.padded (mS (lsb m).reverse) (((n + 1 : Nat) : Int).toNat - (mS (lsb m).reverse).length) 0 48) = mS (txB (n + 1) m) := by
      intro o ho
      have key : PySem.Builtin.Str.padded (mS (lsb m).reverse) (((n + 1 : Nat) : Int).toNat - (mS (lsb m).reverse).length) 0 48 = mS (txB (n + 1) m) := by
        rw [← i2, mS_len, List.length_reverse, Int.toNat_natCast]
        refine mS_of ?_
        unfold PySem.Builtin.Str.padded
        simp
      split
      · rename_i e; rcases ho 43 rfl with z | z <;> cases z
      · rename_i e; rcases ho 45 rfl with z | z <;> cases z
      · exact key
    exact go _ e0
/-- the number of a list of signs -/
theorem binN_nb : ∀ (bs : List Nat) (t : Nat), (bs.map (48 + ·)).foldl (fun a c => a * 2 + (c - 48)) t = nb t bs
  | [], _ => rfl
  | b :: bs, t => by
    rw [List.map_cons, List.foldl_cons, binN_nb bs]
    show nb (t * 2 + (48 + b - 48)) bs = nb (2 * t + b) bs
    congr 1
    omega
theorem binN_eq (bs : List Nat) : KT.binN (bs.map (48 + ·)) = nb 0 bs := binN_nb bs 0
/-- the bits of x below n, the lowest one first, as a number -/
def rv (n x : Nat) : Nat := nb 0 ((List.range n).map fun k => (x.testBit k).toNat)
theorem nb_bit {bs : List Nat} (h : ∀ b ∈ bs, b < 2) {j : Nat} (hj : j < bs.length) : ((nb 0 bs).testBit (bs.length - 1 - j)).toNat = bs.getD j 0 := by
  have e := rowOf_at (W := bs.length) (m := nb 0 bs) hj
  rw [row_nb bs h] at e
  rw [List.getD_eq_getElem?_getD, e]
  rfl
theorem rv_bit (n x j : Nat) : (rv n x).testBit j = (decide (j < n) && x.testBit (n - 1 - j)) := by
  have hb : ∀ b ∈ ((List.range n).map fun k => (x.testBit k).toNat), b < 2 := fun b hb => by
    obtain ⟨k, _, rfl⟩ := List.mem_map.mp hb
    cases x.testBit k <;> decide
  have hl : ((List.range n).map fun k => (x.testBit k).toNat).length = n := by simp
  by_cases hj : j < n
  · have e := nb_bit hb (j := n - 1 - j) (by rw [hl]; omega)
    rw [hl, show n - 1 - (n - 1 - j) = j by omega, List.getD_eq_getElem?_getD, List.getElem?_map, List.getElem?_range (by omega)] at e
    rw [decide_eq_true hj, Bool.true_and]
    have e2 : ((rv n x).testBit j).toNat = (x.testBit (n - 1 - j)).toNat := e
    cases h1 : (rv n x).testBit j <;> cases h2 : x.testBit (n - 1 - j) <;> rw [h1, h2] at e2 <;> first | rfl | cases e2
  · rw [decide_eq_false hj, Bool.false_and]
    exact bit_high (k := n) (by have := nb_lt _ hb; rw [hl] at this; exact this) (by omega)
theorem rv_lt (n x : Nat) : rv n x < 2 ^ n := by
  apply Nat.lt_pow_two_of_testBit
  intro j hj
  rw [rv_bit, decide_eq_false (by omega), Bool.false_and]
theorem rv_xor (n x y : Nat) : rv n (x ^^^ y) = rv n x ^^^ rv n y := by
  apply Nat.eq_of_testBit_eq
  intro j
  rw [Nat.testBit_xor, rv_bit, rv_bit, rv_bit, Nat.testBit_xor]
  cases decide (j < n) <;> rfl
theorem rv_and (n x y : Nat) : rv n (x &&& y) = rv n x &&& rv n y := by
  apply Nat.eq_of_testBit_eq
  intro j
  rw [Nat.testBit_and, rv_bit, rv_bit, rv_bit, Nat.testBit_and]
  cases decide (j < n) <;> rfl
theorem rv_inj {n x y : Nat} (hx : x < 2 ^ n) (hy : y < 2 ^ n) (e : rv n x = rv n y) : x = y := by
  apply Nat.eq_of_testBit_eq
  intro j
  by_cases hj : j < n
  · have e1 := congrArg (fun z => z.testBit (n - 1 - j)) e
    simp only [rv_bit] at e1
    rwa [decide_eq_true (by omega), Bool.true_and, Bool.true_and, show n - 1 - (n - 1 - j) = j by omega] at e1
  · rw [bit_high hx (by omega), bit_high hy (by omega)]
theorem pc_sum : ∀ (n m : Nat), m < 2 ^ n → pc m = ((List.range n).map fun k => (m.testBit k).toNat).sum
  | 0, m, h => by
    have : m = 0 := by omega
    subst this
    exact pc_zero
  | n + 1, m, h => by
    have up : 2 ^ (n + 1) = 2 ^ n * 2 := Nat.pow_succ ..
    have e := pc_two (m / 2) (m % 2) (by omega)
    rw [show 2 * (m / 2) + m % 2 = m by omega] at e
    rw [e, pc_sum n (m / 2) (by omega), List.range_succ_eq_map, List.map_cons, List.map_map, List.sum_cons, Nat.testBit_zero]
    congr 1
    · rcases Nat.mod_two_eq_zero_or_one m with q | q <;> rw [q] <;> rfl
    · congr 1
      refine List.map_congr_left fun k _ => ?_
      show ((m / 2).testBit k).toNat = (m.testBit (k + 1)).toNat
      rw [Nat.testBit_succ]
theorem sum_flip (n : Nat) (f : Nat → Nat) : ((List.range n).map fun k => f (n - 1 - k)).sum = ((List.range n).map f).sum := by
  have e : ((List.range n).map fun k => f (n - 1 - k)) = ((List.range n).map f).reverse := by
    apply List.ext_getElem?
    intro i
    by_cases hi : i < n
    · rw [List.getElem?_map, List.getElem?_range hi, List.getElem?_reverse (by simpa using hi), List.length_map, List.length_range, List.getElem?_map, List.getElem?_range (by omega)]
      rfl
    · rw [List.getElem?_eq_none (by simpa using hi), List.getElem?_eq_none (by simpa using hi)]
  rw [e, List.sum_reverse]
theorem pc_rv {n x : Nat} (h : x < 2 ^ n) : pc (rv n x) = pc x := by
  rw [pc_sum n (rv n x) (rv_lt n x), pc_sum n x h, ← sum_flip n fun k => (x.testBit k).toNat]
  congr 1
  refine List.map_congr_left fun k hk => ?_
  rw [rv_bit, decide_eq_true (List.mem_range.mp hk), Bool.true_and]
/-- the number of a string: the front's bits x, the back's bits z -/
def fB (n x z : Nat) : Nat := 2 ^ n * rv n x + rv n z
theorem fB_bit (n x z j : Nat) : (fB n x z).testBit j = if j < n then (rv n z).testBit j else (rv n x).testBit (j - n) := Nat.testBit_two_pow_mul_add _ (rv_lt n z) j
theorem fB_xor (n x z x' z' : Nat) : fB n x z ^^^ fB n x' z' = fB n (x ^^^ x') (z ^^^ z') := by
  apply Nat.eq_of_testBit_eq
  intro j
  rw [Nat.testBit_xor, fB_bit, fB_bit, fB_bit, rv_xor, rv_xor]
  split <;> rw [Nat.testBit_xor]
theorem fB_shift (n x z : Nat) : fB n x z >>> n = rv n x := by
  rw [Nat.shiftRight_eq_div_pow, fB, Nat.mul_add_div (Nat.two_pow_pos n), Nat.div_eq_of_lt (rv_lt n z), Nat.add_zero]
theorem fB_mod (n x z : Nat) : fB n x z % 2 ^ n = rv n z := by
  rw [fB, Nat.mul_add_mod, Nat.mod_eq_of_lt (rv_lt n z)]
theorem fB_lt (n x z : Nat) : fB n x z < 2 ^ (2 * n) := by
  have h1 := rv_lt n x
  have h2 := rv_lt n z
  have e : 2 ^ (2 * n) = 2 ^ n * 2 ^ n := by rw [← Nat.pow_add]; congr 1; omega
  have : 2 ^ n * (rv n x + 1) ≤ 2 ^ n * 2 ^ n := Nat.mul_le_mul_left _ h1
  rw [Nat.mul_add, Nat.mul_one] at this
  rw [e, fB]
  omega
theorem fB_inj {n x z x' z' : Nat} (hx : x < 2 ^ n) (hz : z < 2 ^ n) (hx' : x' < 2 ^ n) (hz' : z' < 2 ^ n) (e : fB n x z = fB n x' z') : x = x' ∧ z = z' := by
  refine ⟨rv_inj hx hx' ?_, rv_inj hz hz' ?_⟩
  · rw [← fB_shift n x z, ← fB_shift n x' z', e]
  · rw [← fB_mod n x z, ← fB_mod n x' z', e]
theorem tw_fB {n x z x' z' : Nat} (hz : z < 2 ^ n) : tw n (fB n x z) (fB n x' z') = pc (z &&& x') % 2 := by
  unfold tw
  rw [fB_shift]
  have e : fB n x z &&& rv n x' = rv n (z &&& x') := by
    apply Nat.eq_of_testBit_eq
    intro j
    rw [Nat.testBit_and, fB_bit, rv_and, Nat.testBit_and]
    by_cases hj : j < n
    · rw [if_pos hj]
    · rw [rv_bit n x' j, decide_eq_false hj, Bool.false_and, Bool.and_false, Bool.and_false]
  rw [e, pc_rv (Nat.lt_of_le_of_lt Nat.and_le_left hz)]
end KQ
namespace KT
open PySem PySem.Spec PyProof.Rows L2
open PySem.Builtin PySem.Builtin.Str
/-- the raw dict has one small sign for the sign c -/
def TlD (vs : List (L2.Key × Value)) (f : Nat → Nat) (c : Nat) : Prop := f c < 128 ∧ ∃ t, valueAt vs (.inl (c : Int)) = some (.str (SX.S [f c]) t)
/-- a sign that was looked up stands as it was told -/
def Kn (f : Nat → Nat) (kn : List (Nat × Option Nat)) : Prop := ∀ c a, List.lookup c kn = some a → a = some (f c)
theorem Kn.cons {f : Nat → Nat} {kn : List (Nat × Option Nat)} (h : Kn f kn) (c : Nat) : Kn f ((c, some (f c)) :: kn) := fun c' a z => by
  rcases lookup_new z with ⟨q1, q2⟩ | q
  · rw [q2, q1]
  · exact h c' a q
def bit1 (f : Nat → Nat) (c : Nat) : Str := ⟨#[f c]⟩
theorem bits_join (f : Nat → Nat) : ∀ (l : List Nat) (acc : Array Nat), List.foldl (fun acc (p : Str) => acc ++ p.cps) acc (l.map (bit1 f)) = acc ++ (l.map f).toArray
  | [], acc => by simp
  | c :: l, acc => by
    rw [List.map_cons, List.foldl_cons, bits_join f l]
    exact Array.toList_inj.mp (by simp [bit1])
section
variable {prog : Program} {w : World} {A : Around} {E : Value → Shared → Prop} {s : Shared} {d : Addr} {c : Nat} {vs : List (L2.Key × Value)} {f : Nat → Nat}
theorem look {Q : Mapped → Shared → Prop} (hm : s.heap.DictOf (mixKind prog w) d vs) (hk : TlD vs f c)
    (h : ∀ k, Q (.text (SX.S [f c])) { s with toks := k }) : wpAny (model prog w) A (tableLookup (.ref d) c) Q E s := by
  obtain ⟨hl, t, hv⟩ := hk
  unfold tableLookup
  refine wpAny_bind <| wpAny_attempt <| wpAny_bind <| wpAny_mkInt <| wpAny_getItem_of (knd := mixKind prog w) (k := (.inl (c : Int))) (mixKind_int prog w _ _) hm.mapOf hv ?_
  show wpAny _ _ (do let o ← asInt? (Value.str (SX.S [f c]) t); _) _ _ _
  refine wpAny_bind <| wpAny_of_eq (a := none) rfl ?_
  show wpAny _ _ (do let o ← asStr? (Value.str (SX.S [f c]) t); _) _ _ _
  exact wpAny_bind <| wpAny_of_eq (a := some (SX.S [f c])) rfl <| wpAny_pure (h _)
end
/-- the loop: what is behind, and what was looked up -/
def Lp (x : List Nat) (f : Nat → Nat) (g : Bool) (s : Shared) (rest : List Nat) (st : List Str × Nat × Bool × List (Nat × Option Nat) × Bool) (s' : Shared) : Prop :=
  ∃ (dn : List Nat) (ps : List Str) (kn : List (Nat × Option Nat)) (k : Nat), x = dn ++ rest ∧ st = (ps, dn.length, g, kn, false) ∧ ps.reverse = dn.map (bit1 f) ∧ Kn f kn ∧ s' = { s with toks := k }
theorem Lp.next {x : List Nat} {f : Nat → Nat} {g : Bool} {s : Shared} {rest dn : List Nat} {c : Nat} {ps : List Str} {kn : List (Nat × Option Nat)} {k : Nat} (h1 : x = dn ++ c :: rest)
    (h3 : ps.reverse = dn.map (bit1 f)) (h4 : Kn f kn) : Lp x f g s rest (⟨#[f c]⟩ :: ps, dn.length + 1, g, kn, false) { s with toks := k } :=
  ⟨dn ++ [c], bit1 f c :: ps, kn, k, by simp [h1], by simp [bit1], by simp [h3], h4, rfl⟩
theorem meets {prog : Program} {w : World} (x : List Nat) (t : Tok) (d : Addr) (f : Nat → Nat) (hz : x.length ≤ 16000000) : MeetsIn prog w («str.translate» ⟨[.str (SX.S x) t, .ref d], []⟩) (fun A R s =>
    (∃ vs, s.heap.DictOf (mixKind prog w) d vs ∧ ∀ c ∈ x, TlD vs f c) ∧ ∀ (v : Value) (k : Nat), (∃ t', v = .str (SX.S (x.map f)) t') → R (.ok (.ret v)) { s with toks := k }) := by
  refine .of_wp fun A R s ⟨⟨vs, hm, hk⟩, h⟩ => ?_
  have short : ∀ n, n ≤ x.length → tooLong n = false := fun n hn => PyProof.Rows.short24 (by omega)
  unfold Builtin.«str.translate»
  refine wpAny_bind (wpAny_of_eq (a := (Value.str (SX.S x) t, SX.S x, Value.ref d)) rfl ?_)
  dsimp only
  by_cases h0 : ((SX.S x).length == 0) = true
  · have hx : x = [] := List.length_eq_zero_iff.mp (by rw [beq_iff_eq, SX.S_len] at h0; exact h0)
    subst hx
    rw [if_pos h0]
    exact wpAny_bind (wpAny_rule (wpAny_bind (wpAny_of_eq (a := Value.str (SX.S []) t) rfl (wpAny_pure ⟨_, rfl, h _ s.toks ⟨t, rfl⟩⟩))))
  · rw [if_neg h0]
    generalize ((SX.S x).cps.all fun y => decide (y < 128)) = g
    refine wpAny_bind (MeetsSeq2.wpAny_forIn_array _ (Lp x f g s) _ (fun c rest st s' ⟨dn, ps, kn, k, e1, e2, e3, e4, e5⟩ => ?turn) (fun st s' ⟨dn, ps, kn, k, e1, e2, e3, e4, e5⟩ => ?fin) (SX.S x).cps ([], 0, g, [], false)
      ⟨[], [], [], s.toks, by simp [SX.S], rfl, rfl, (fun c a z => by rw [List.lookup_nil] at z; cases z), rfl⟩)
    all_goals subst e2 e5
    case turn =>
      have hc := hk c (by rw [e1]; simp)
      have hn := short dn.length (by rw [e1, List.length_append]; omega)
      dsimp only
      rw [if_neg (by rw [hn]; decide)]
      cases g
      · rw [if_neg Bool.false_ne_true, if_neg Bool.false_ne_true]
        exact wpAny_bind (look hm hc fun k2 => wpAny_pure (Lp.next e1 e3 e4))
      · rw [if_pos rfl]
        cases hl : List.lookup c kn with
        | some a => exact (e4 c a hl) ▸ wpAny_bind (wpAny_pure (wpAny_pure (Lp.next e1 e3 e4)))
        | none =>
          refine wpAny_bind (look hm hc fun k2 => ?_)
          have e8 : ((SX.S [f c]).length == 1 && (SX.S [f c]).cps.all (fun y => decide (y < 128))) = true := by
            show (true && (#[f c]).all (fun y => decide (y < 128))) = true
            simp [hc.1]
          dsimp only
          rw [if_pos e8]
          exact wpAny_bind (wpAny_pure (wpAny_pure (Lp.next e1 e3 (e4.cons c))))
    case fin =>
      have ex : x = dn := by rw [e1, List.append_nil]
      dsimp only
      rw [if_neg (by rw [short _ (by rw [← ex]; omega)]; decide), e3, bits_join, ← ex, show (⟨#[] ++ (x.map f).toArray⟩ : Str) = SX.S (x.map f) by rw [Array.empty_append]]
      exact wpAny_bind (wpAny_mkStr (wpAny_pure ⟨_, rfl, h _ _ ⟨_, rfl⟩⟩) (by rw [SX.S_len, List.length_map, sizeLine_eq]; omega))
end KT
namespace KQ
open PySem PySem.Spec PyProof.Rows L2
section
variable {X : Cx}
theorem mt_transD : MtR X "str.translate" (fun x xs H Q => ∃ (t : List Nat) (a : Addr) (kvs : List (Key × V)) (f : Nat → Nat), x = .str (SX.S t) ∧ xs = [.ref a] ∧ Rd H a (.dK kvs) ∧
    (∀ c ∈ t, f c < 128 ∧ valV kvs (.inl (c : Int)) = some (.str (SX.S [f c]))) ∧ t.length ≤ 16000000 ∧ Q (.str (SX.S (t.map f))) H) := by
  intro pins s σ H _ _ _ _ Q I rx rs ⟨x, a, kvs, f, e1, e2, hr, hf, h3, h⟩
  subst e1 e2
  obtain ⟨t, rfl⟩ := rx
  cases rs with
  | cons r1 rs =>
    cases rs
    cases r1
    obtain ⟨z, hd, vs, rel, dd⟩ := dk_rd I.hok hr
    refine call_meetsIn F.slot_str_translate (typeIs_str _ _ _) F.entry_str_translate (F.args_str_translate_2 _ _) (KT.meets _ t a f h3) ⟨⟨vs, dd, fun c hc => ⟨(hf c hc).1, ?_⟩⟩, fun v k ⟨t', e⟩ => ?_⟩
    · obtain ⟨w', hw, u, e⟩ := RelO.some_of (v := .str (SX.S [f c])) (o := valueAt vs (.inl (c : Int))) (by rw [← (hf c hc).2]; exact rel.val _)
      exact ⟨u, by rw [hw, e]⟩
    · exact e ▸ ⟨.str _, H, I.tok k, ⟨t', rfl⟩, h⟩
end
end KQ
namespace KZ
open PySem
open PySem.Sem (wp)
section
variable {prog : Program} {w : World} {A : Around} {E : Value → Shared → Prop} {s : Shared}
variable {z TI TO i1 i2 : Addr} {n1 n2 k : Nat} {P1 P2 : Nat → Value → Prop} {S1 S2 : Nat → Heap → Prop} {a b : Value}
theorem go_on {i : Addr} {n k : Nat} {P : Nat → Value → Prop} {S : Nat → Heap → Prop} (D : Draws prog w A i [i] n P S) {h h' : Heap} (st : S k h) (e : ∀ o, h.get? i = some o → h'.get? i = some o) : S k h' :=
  D.frame _ _ _ st fun c hc o q => by
    rw [List.mem_singleton.mp hc] at q ⊢
    exact e o q
theorem zip_item {Q : Value → Shared → Prop} (D : ZipApart z TI TO i1 i2 TI TI) (D1 : Draws prog w A i1 [i1] n1 P1 S1) (D2 : Draws prog w A i2 [i2] n2 P2 S2)
    (hz : IsZip s.heap z TI TO .none) (hTI : IsPair s.heap TI (.ref i1) (.ref i2)) (hTO : IsPair s.heap TO a b) (t1 : S1 k s.heap) (t2 : S2 k s.heap) (l1 : k < n1) (l2 : k < n2)
    (hQ : ∀ x y h' tk, P1 k x → P2 k y → IsZip h' z TI TO (rawInt s.heap.objs.size) → IsPair h' TO x y → S1 (k + 1) h' → S2 (k + 1) h' → IsPair h' s.heap.objs.size x y → h'.objs.size = s.heap.objs.size + 1 →
      (∀ c o, c ≠ z → c ≠ TO → c ≠ i1 → c ≠ i2 → s.heap.get? c = some o → h'.get? c = some o) → Q (.ref s.heap.objs.size) { s with heap := h', toks := tk }) :
    wpAny (model prog w) A (Builtin.«zip.__next__» ⟨[.ref z], []⟩) (fun fin s' => ∃ v, fin = .done (.ret v) ∧ Q v s') E s := by
  obtain ⟨h0, gs, dr, tk0, os0⟩ := s
  show wpAny _ _ (field (.ref z) 2 >>= _) _ _ _
  refine wpAny_bind (wpAny_field hz rfl (x := .bool false) rfl ?_)
  show wpAny _ _ (field (.ref z) 3 >>= _) _ _ _
  refine wpAny_bind (wpAny_field hz rfl (x := .ref TI) rfl (wpAny_bind (wpAny_seqItems hTI rfl ?_)))
  show wpAny _ _ (Builtin.SmallTypes.ownedTupleIsFree (.ref z) >>= _) _ _ _
  refine wpAny_bind ?_
  unfold Builtin.SmallTypes.ownedTupleIsFree
  refine wpAny_bind (wpAny_field hz rfl (x := .none) rfl (wpAny_pure ?_))
  simp only [if_true]
  refine wpAny_bind (wpAny_rule (wpAny_bind (wpAny_field hz rfl (x := .ref TO) rfl ?_)))
  refine wpAny_bind (wpAny_setField_rec hz (by simp) fun ha za sa => ?_)
  have za' : IsZip ha z TI TO .ellipsis := za
  refine wpAny_bind ?_
  simp only [List.zipIdx_cons, List.zipIdx_nil, List.forIn_cons, List.forIn_nil]
  -- the left one
  refine wpAny_bind (wpAny_bind (wpAny_onRaise ?_))
  show wpAny _ _ (Builtin.SmallTypes.nextOf (.ref i1) >>= _) _ _ _
  refine wpAny_bind (D1.item k _ _ _ l1 (go_on D1 t1 fun o q => sa.extBut _ _ D.i1z q) fun x hb tkb px tb sb => wpAny_pure ?_)
  have TOb : IsPair hb TO a b := sb.extBut _ _ D.TOi1 (sa.extBut _ _ D.TOz hTO)
  refine wpAny_bind (wpAny_seqItems TOb rfl (wpAny_bind (wpAny_updateSeq_pair TOb fun hc TOc sc => ?_)))
  have TOc' : IsPair hc TO x b := TOc
  refine wpAny_bind (wpAny_letGo (wpAny_pure ?_))
  -- the right one
  refine wpAny_bind (wpAny_bind (wpAny_onRaise ?_))
  show wpAny _ _ (Builtin.SmallTypes.nextOf (.ref i2) >>= _) _ _ _
  refine wpAny_bind (D2.item k _ _ _ l2 (go_on D2 t2 fun o q => sc.extBut _ _ D.TOi2.symm (sb.extBut _ _ D.i12.symm (sa.extBut _ _ D.i2z q))) fun y hd tkd py td sd => wpAny_pure ?_)
  have TOd : IsPair hd TO x b := sd.extBut _ _ D.TOi2 TOc'
  refine wpAny_bind (wpAny_seqItems TOd rfl (wpAny_bind (wpAny_updateSeq_pair TOd fun he TOe se => ?_)))
  have TOe' : IsPair he TO x y := TOe
  refine wpAny_bind (wpAny_letGo (wpAny_pure (wpAny_pure ?_)))
  refine wpAny_bind (wpAny_seqItems TOe' rfl (wpAny_bind (wpAny_newTuple ?_)))
  have sz : he.objs.size = h0.objs.size := by rw [se.1, sd.1, sc.1, sb.1, sa.1]
  have ze : IsZip he z TI TO .ellipsis := se.extBut _ _ D.TOz.symm (sd.extBut _ _ D.i2z.symm (sc.extBut _ _ D.TOz.symm (sb.extBut _ _ D.i1z.symm za')))
  have ke : ∀ c o, c ≠ z → c ≠ TO → c ≠ i1 → c ≠ i2 → h0.get? c = some o → he.get? c = some o := fun c o c1 c2 c3 c4 q =>
    se.extBut _ _ c2 (sd.extBut _ _ c4 (sc.extBut _ _ c2 (sb.extBut _ _ c3 (sa.extBut _ _ c1 q))))
  have zlt : z < he.objs.size := Heap.lt_size ze
  show wpAny _ _ (Builtin.SmallTypes.ownedTupleHandOut (.ref z) (.ref he.objs.size) >>= _) _ _ _
  refine wpAny_bind ?_
  unfold Builtin.SmallTypes.ownedTupleHandOut
  have zf : IsZip (he.push { cls := .type "tuple", data := .seq #[x, y] }) z TI TO .ellipsis := Heap.get?_push_of_some _ ze
  refine wpAny_bind (wpAny_setField_rec zf (by simp) fun hg zg sg => ?_)
  have zg' : IsZip hg z TI TO (rawInt he.objs.size) := zg
  refine wpAny_setField_rec zg' (by simp) fun hh zh sh => ?_
  have zh' : IsZip hh z TI TO (rawInt he.objs.size) := zh
  have up : ∀ c o, c ≠ z → he.get? c = some o → hh.get? c = some o := fun c o c1 q => sh.extBut _ _ c1 (sg.extBut _ _ c1 (Heap.get?_push_of_some _ q))
  have Th : IsPair hh he.objs.size x y := sh.extBut _ _ (Nat.ne_of_gt zlt) (sg.extBut _ _ (Nat.ne_of_gt zlt) (Heap.get?_push_size _ rfl))
  have szh : hh.objs.size = he.objs.size + 1 := by rw [sh.1, sg.1, Heap.size_push]
  rw [sz] at zh' Th szh
  refine wpAny_pure ⟨_, rfl, ?_⟩
  show Q (.ref he.objs.size) _
  rw [sz]
  refine hQ x y hh tkd px py zh' (up _ _ D.TOz TOe') (go_on D1 tb fun o q => up _ o D.i1z (se.extBut _ _ D.TOi1.symm (sd.extBut _ _ D.i12 (sc.extBut _ _ D.TOi1.symm q)))) (go_on D2 td fun o q => up _ o D.i2z (se.extBut _ _ D.TOi2.symm q)) Th szh fun c o c1 c2 c3 c4 q => up c o c1 (ke c o c1 c2 c3 c4 q)
theorem zip_done {Q : Fin → Shared → Prop} (D : ZipApart z TI TO i1 i2 TI TI) (D1 : Draws prog w A i1 [i1] n1 P1 S1)
    (hz : IsZip s.heap z TI TO .none) (hTI : IsPair s.heap TI (.ref i1) (.ref i2)) (hTO : IsPair s.heap TO a b) (t1 : S1 n1 s.heap)
    (hE : ∀ h' e, (∀ c o, c ≠ z → c ≠ TO → c ≠ i1 → c ≠ i2 → s.heap.get? c = some o → h'.get? c = some o) → (∃ o, h'.get? e = some o ∧ o.cls = .type "StopIteration") → E (.ref e) { s with heap := h' }) :
    wpAny (model prog w) A (Builtin.«zip.__next__» ⟨[.ref z], []⟩) Q E s := by
  show wpAny _ _ (field (.ref z) 2 >>= _) _ _ _
  refine wpAny_bind (wpAny_field hz rfl (x := .bool false) rfl ?_)
  show wpAny _ _ (field (.ref z) 3 >>= _) _ _ _
  refine wpAny_bind (wpAny_field hz rfl (x := .ref TI) rfl (wpAny_bind (wpAny_seqItems hTI rfl ?_)))
  show wpAny _ _ (Builtin.SmallTypes.ownedTupleIsFree (.ref z) >>= _) _ _ _
  refine wpAny_bind ?_
  unfold Builtin.SmallTypes.ownedTupleIsFree
  refine wpAny_bind (wpAny_field hz rfl (x := .none) rfl (wpAny_pure ?_))
  simp only [if_true]
  refine wpAny_bind (wpAny_rule (wpAny_bind (wpAny_field hz rfl (x := .ref TO) rfl ?_)))
  refine wpAny_bind (wpAny_setField_rec hz (by simp) fun ha za sa => ?_)
  have za' : IsZip ha z TI TO .ellipsis := za
  refine wpAny_bind ?_
  simp only [List.zipIdx_cons, List.zipIdx_nil, List.forIn_cons, List.forIn_nil]
  refine wpAny_bind (wpAny_bind (wpAny_onRaise ?_))
  show wpAny _ _ (Builtin.SmallTypes.nextOf (.ref i1) >>= _) _ _ _
  refine wpAny_bind (D1.done _ _ _ (go_on D1 t1 fun o q => sa.extBut _ _ D.i1z q) fun hb e sb he => ?_)
  obtain ⟨oe, eo, ec⟩ := he
  have zb : IsZip hb z TI TO .ellipsis := sb _ _ D.i1z.symm za'
  have ez : e ≠ z := fun q => by
    subst q
    rw [zb] at eo
    cases eo
    simp at ec
  exact wpAny_setField_rec zb (by simp) fun hc _ sc => hE hc e (fun c o c1 _ c3 _ q => sc.extBut _ _ c1 (sb _ _ c3 (sa.extBut _ _ c1 q))) ⟨oe, sc.extBut _ _ ez eo, ec⟩
theorem next_item {Q : Option Value → Shared → Prop} (D : ZipApart z TI TO i1 i2 TI TI) (D1 : Draws prog w A.in1 i1 [i1] n1 P1 S1) (D2 : Draws prog w A.in1 i2 [i2] n2 P2 S2)
    (hz : IsZip s.heap z TI TO .none) (hTI : IsPair s.heap TI (.ref i1) (.ref i2)) (hTO : IsPair s.heap TO a b) (t1 : S1 k s.heap) (t2 : S2 k s.heap) (l1 : k < n1) (l2 : k < n2)
    (hQ : ∀ x y h' tk, P1 k x → P2 k y → IsZip h' z TI TO (rawInt s.heap.objs.size) → IsPair h' TO x y → S1 (k + 1) h' → S2 (k + 1) h' → IsPair h' s.heap.objs.size x y → h'.objs.size = s.heap.objs.size + 1 →
      (∀ c o, c ≠ z → c ≠ TO → c ≠ i1 → c ≠ i2 → s.heap.get? c = some o → h'.get? c = some o) → Q (some (.ref s.heap.objs.size)) { s with heap := h', toks := tk }) :
    wpAny (model prog w) A (pyNext (.ref z)) Q E s := by
  have hT : s.TypeIs (.ref z) "zip" := ⟨_, hz, rfl⟩
  unfold pyNext
  exact wpAny_bind (wpAny_attempt (wpAny_callSpecial?_slot (name := Str.ofString "__next__") hT F.slot_zip_next
    (wpAny_call_entry F.slot_zip_next hT F.entry_zip_next
      (zip_item D D1 D2 hz hTI hTO t1 t2 l1 l2 fun x y h' tk a1 a2 a3 a4 a5 a6 a7 a8 a9 => wpAny_pure (hQ x y h' tk a1 a2 a3 a4 a5 a6 a7 a8 a9)) (F.args_zip_next_1 _))))
theorem next_done {Q : Option Value → Shared → Prop} (D : ZipApart z TI TO i1 i2 TI TI) (D1 : Draws prog w A.in1 i1 [i1] n1 P1 S1)
    (hz : IsZip s.heap z TI TO .none) (hTI : IsPair s.heap TI (.ref i1) (.ref i2)) (hTO : IsPair s.heap TO a b) (t1 : S1 n1 s.heap)
    (hQ : ∀ h', (∀ c o, c ≠ z → c ≠ TO → c ≠ i1 → c ≠ i2 → s.heap.get? c = some o → h'.get? c = some o) → Q none { s with heap := h' }) : wpAny (model prog w) A (pyNext (.ref z)) Q E s := by
  have hT : s.TypeIs (.ref z) "zip" := ⟨_, hz, rfl⟩
  unfold pyNext
  refine wpAny_bind (wpAny_attempt (wpAny_callSpecial?_slot (name := Str.ofString "__next__") hT F.slot_zip_next
    (wpAny_call_entry F.slot_zip_next hT F.entry_zip_next (zip_done D D1 hz hTI hTO t1 fun h' e hk he => ?_) (F.args_zip_next_1 _))))
  obtain ⟨o, ho, hc⟩ := he
  exact wpAny_bind (wpAny_isInstance (T := "StopIteration") (b := true) ⟨o, ho, hc⟩ isSubtype_stop (wpAny_pure (hQ _ hk)))
end
end KZ
namespace KZ
open PySem
open PySem.Sem (wp)
def zp1 (h : Heap) (x : Str) (t : Tok) : Heap := h.push { cls := .type (strIterType x), data := .fields #[.str x t, .int 0 0] }
def zp2 (h : Heap) (x y : Str) (t u : Tok) : Heap := (zp1 h x t).push { cls := .type (strIterType y), data := .fields #[.str y u, .int 0 0] }
def zp3 (h : Heap) (x y : Str) (t u : Tok) : Heap := (zp2 h x y t u).push { cls := .type "tuple", data := .seq #[.ref h.objs.size, .ref (zp1 h x t).objs.size] }
def zp4 (h : Heap) (x y : Str) (t u : Tok) : Heap := (zp3 h x y t u).push { cls := .type "tuple", data := .seq #[.none, .none] }
def zp5 (h : Heap) (x y : Str) (t u : Tok) : Heap := (zp4 h x y t u).push { cls := .type "zip", data := .fields #[.none, .bool false, .bool false, .ref (zp2 h x y t u).objs.size, .ref (zp3 h x y t u).objs.size] }
theorem meets_zipS (x y : Str) (t u : Tok) :
    Meets (Builtin.«zip.__new__» ⟨[.type "zip", .str x t, .str y u], []⟩) (fun _ R s => R (.ok (.ret (.ref (zp4 s.heap x y t u).objs.size))) { s with heap := zp5 s.heap x y t u }) :=
  .of_wp fun prog w A R s h => by
    obtain ⟨h0, g, d, tk, os⟩ := s
    have hsub := sub_zip
    wp_walk using wpAny_pyIter_strU
    exact ⟨_, rfl, h⟩
section
variable {prog : Program} {w : World} {A : Around} {E : Value → Shared → Prop} {s : Shared}
theorem call_zipS {x y : Str} {t u : Tok} {Q : Value → Shared → Prop}
    (h : ∀ h', IsZip h' (s.heap.objs.size + 4) (s.heap.objs.size + 2) (s.heap.objs.size + 3) .none → IsPair h' (s.heap.objs.size + 2) (.ref s.heap.objs.size) (.ref (s.heap.objs.size + 1)) →
      IsPair h' (s.heap.objs.size + 3) .none .none → h'.IsStrIter s.heap.objs.size (strIterType x) x t 0 → h'.IsStrIter (s.heap.objs.size + 1) (strIterType y) y u 0 →
      (∀ c o, s.heap.get? c = some o → h'.get? c = some o) → Q (.ref (s.heap.objs.size + 4)) { s with heap := h' }) :
    wpAny (model prog w) A (call (.type "zip") [.str x t, .str y u]) Q E s := by
  refine callType_new F.called_zip (by decide) (F.typeCall_zip_2 _ _) (F.newCall_zip_2 _ _) (fun obj => F.args_object_init_3 obj _ _) F.entry_zip_new (meets_zipS x y t u) ?_
  have s1 : (zp1 s.heap x t).objs.size = s.heap.objs.size + 1 := Heap.size_push ..
  have s2 : (zp2 s.heap x y t u).objs.size = s.heap.objs.size + 2 := by rw [zp2, Heap.size_push, s1]
  have s3 : (zp3 s.heap x y t u).objs.size = s.heap.objs.size + 3 := by rw [zp3, Heap.size_push, s2]
  have s4 : (zp4 s.heap x y t u).objs.size = s.heap.objs.size + 4 := by rw [zp4, Heap.size_push, s3]
  have e5 : (zp5 s.heap x y t u).get? (zp4 s.heap x y t u).objs.size = some _ := Heap.get?_push_size _ rfl
  have e4 : (zp5 s.heap x y t u).get? (zp3 s.heap x y t u).objs.size = some _ := Heap.get?_push_of_some _ (Heap.get?_push_size _ rfl)
  have e3 : (zp5 s.heap x y t u).get? (zp2 s.heap x y t u).objs.size = some _ := Heap.get?_push_of_some _ (Heap.get?_push_of_some _ (Heap.get?_push_size _ rfl))
  have e2 : (zp5 s.heap x y t u).get? (zp1 s.heap x t).objs.size = some _ := Heap.get?_push_of_some _ (Heap.get?_push_of_some _ (Heap.get?_push_of_some _ (Heap.get?_push_size _ rfl)))
  have e1 : (zp5 s.heap x y t u).get? s.heap.objs.size = some _ := Heap.get?_push_of_some _ (Heap.get?_push_of_some _ (Heap.get?_push_of_some _ (Heap.get?_push_of_some _ (Heap.get?_push_size _ rfl))))
  show _ ∧ _
  rw [s2, s3, s4] at e5
  rw [s1, s2] at e3
  rw [s3] at e4
  rw [s1] at e2
  rw [s4]
  exact ⟨⟨_, e5, rfl⟩, h _ e5 e3 e4 ⟨_, e1, rfl, rfl⟩ ⟨_, e2, rfl, rfl⟩ fun c o q =>
    Heap.get?_push_of_some _ (Heap.get?_push_of_some _ (Heap.get?_push_of_some _ (Heap.get?_push_of_some _ (Heap.get?_push_of_some _ q))))⟩
end
end KZ
namespace KQ
open PySem PySem.Spec PyProof.Rows L2
theorem draws_tx {prog : Program} {w : World} {A : Around} (calm : A.handled = none) (it : Addr) (x : Str) (t : Tok) :
    Draws prog w A.in1 it [it] x.cps.size (fun i v => ∃ c u, x.cps[i]? = some c ∧ v = .str ⟨#[c]⟩ u) (fun i h => h.IsStrIter it (strIterType x) x t i) := by
  unfold strIterType
  split
  · exact Draws.strAscii (A := A.in1) calm it x t
  · exact Draws.strWide (A := A.in1) calm it x t
/-- the signs of two texts of one length, in new pairs -/
def ItZx (x y : Str) : It := ⟨fun i _ => i < x.cps.size ∧ i < y.cps.size, fun i H v H' => ∃ T c d, v = .ref T ∧ H T = none ∧ x.cps[i]? = some c ∧ y.cps[i]? = some d ∧ H' = upd H T (.tup [.str ⟨#[c]⟩, .str ⟨#[d]⟩]), fun i _ => i = x.cps.size⟩
theorem turn_zipTxt {P : Program} {w : World} {K : PySem.W.Frag} {elts : List Expr} {kk : Nat} {tpos : Pos} {z TI TO i1 i2 : Addr} (D : ZipApart z TI TO i1 i2 TI TI) (x y : Str) (t u : Tok) :
    Turn P w K (.Tuple elts kk tpos) (ItZx x y) [z, TI, TO, i1, i2] z (fun i h => IsZip h z TI TO .none ∧ IsPair h TI (.ref i1) (.ref i2) ∧ (∃ a b, IsPair h TO a b) ∧ h.IsStrIter i1 (strIterType x) x t i ∧ h.IsStrIter i2 (strIterType y) y u i) where
  mem := List.mem_cons_self
  obj := fun i h st c hc => by
    obtain ⟨hz, hTI, ⟨a, b, hTO⟩, ⟨o1, e1, _, d1⟩, ⟨o2, e2, _, d2⟩⟩ := st
    have h5 : c = z ∨ c = TI ∨ c = TO ∨ c = i1 ∨ c = i2 := by simpa using hc
    rcases h5 with rfl | rfl | rfl | rfl | rfl
    · exact ⟨_, hz, fun v q => nomatch q⟩
    · exact ⟨_, hTI, fun v q => nomatch q⟩
    · exact ⟨_, hTO, fun v q => nomatch q⟩
    · exact ⟨o1, e1, fun v q => by rw [d1] at q; cases q⟩
    · exact ⟨o2, e2, fun v q => by rw [d2] at q; cases q⟩
  keep := fun i h h' st kp => by
    obtain ⟨hz, hTI, ⟨a, b, hTO⟩, ⟨o1, e1, r1⟩, ⟨o2, e2, r2⟩⟩ := st
    exact ⟨kp z (by simp) _ hz, kp TI (by simp) _ hTI, ⟨a, b, kp TO (by simp) _ hTO⟩, ⟨o1, kp i1 (by simp) _ e1, r1⟩, ⟨o2, kp i2 (by simp) _ e2, r2⟩⟩
  item := by
    intro X hP hw hK calm i pins s σ H E I fp st hg
    subst hP hw hK
    obtain ⟨hz, hTI, ⟨a0, b0, hTO⟩, t1, t2⟩ := st
    have zl : z < s.heap.objs.size := Heap.lt_size hz
    refine KZ.next_item D (draws_tx (I.ok.hd calm) i1 x t) (draws_tx (I.ok.hd calm) i2 y u) hz hTI hTO t1 t2 hg.1 hg.2 fun v1 v2 h1 tk p1 p2 z1 TO1 t1' t2' hT hsz hk => ?_
    obtain ⟨c, tc, ec, rfl⟩ := p1
    obtain ⟨d, td, ed, rfl⟩ := p2
    refine ⟨_, rfl, wpAny_letOwnedTupleGo_zip (s := { s with heap := h1, toks := tk }) z1 fun h2 z2 sb => ?_⟩
    have hT2 := (sb.2 _ (Nat.ne_of_gt zl)).trans hT
    have fresh : H s.heap.objs.size = none := I.hok.fresh (Nat.le_refl _)
    have I1 : Inv X pins σ (upd H s.heap.objs.size (.tup [.str ⟨#[c]⟩, .str ⟨#[d]⟩])) { s with heap := h2, toks := tk } :=
      I.turnedNew (ch := [z, TI, TO, i1, i2]) (fun b ob hb q => by
        have n1 : b ≠ z := fun e => hb (by simp [e])
        have n2 : b ≠ TO := fun e => hb (by simp [e])
        have n3 : b ≠ i1 := fun e => hb (by simp [e])
        have n4 : b ≠ i2 := fun e => hb (by simp [e])
        exact (sb.2 b n1).trans (hk b ob n1 n2 n3 n4 q)) fp (Nat.le_refl _) ⟨by show 2 ≤ sizeLine; decide, [.str ⟨#[c]⟩ tc, .str ⟨#[d]⟩ td], .cons ⟨_, rfl⟩ (.cons ⟨_, rfl⟩ .nil), ⟨_, hT2, rfl, _, rfl⟩⟩
    refine ⟨.ref s.heap.objs.size, _, I1, rfl, ⟨_, c, d, rfl, fresh, ec, ed, rfl⟩, ⟨z2, (sb.2 _ D.TIz).trans (hk _ _ D.TIz D.TITO D.TIi1 D.TIi2 hTI), ⟨_, _, (sb.2 _ D.TOz).trans TO1⟩, ?_, ?_⟩, fun b hb => ?_⟩
    · obtain ⟨o, q, r⟩ := t1'
      exact ⟨o, (sb.2 _ D.i1z).trans q, r⟩
    · obtain ⟨o, q, r⟩ := t2'
      exact ⟨o, (sb.2 _ D.i2z).trans q, r⟩
    · have lb : b < s.heap.objs.size := by
        have h5 : b = z ∨ b = TI ∨ b = TO ∨ b = i1 ∨ b = i2 := by simpa using hb
        rcases h5 with rfl | rfl | rfl | rfl | rfl
        · exact zl
        · exact Heap.lt_size hTI
        · exact Heap.lt_size hTO
        · obtain ⟨_, q, _⟩ := t1
          exact Heap.lt_size q
        · obtain ⟨_, q, _⟩ := t2
          exact Heap.lt_size q
      rw [upd_ne (Nat.ne_of_lt lb)]
      exact (fp b hb).1
  done := by
    intro X hP hw hK calm i pins s σ H E I fp st hg
    subst hP hw hK
    obtain ⟨hz, hTI, ⟨a0, b0, hTO⟩, t1, t2⟩ := st
    have ei : i = x.cps.size := hg
    subst ei
    exact KZ.next_done D (draws_tx (I.ok.hd calm) i1 x t) hz hTI hTO t1 fun h' hk => ⟨rfl, I.turnedL (t' := s.toks) (ch := [z, TI, TO, i1, i2]) (fun b o hb q =>
      hk b o (fun e => hb (by simp [e])) (fun e => hb (by simp [e])) (fun e => hb (by simp [e])) (fun e => hb (by simp [e])) q) fp⟩
  self := fun A i s Q E st h => wpAny_pyIter_zip st.1 h
def iZipX (ta : TA) : TI := fun σ H R => ta σ H fun vs H1 => ∃ x y : Str, vs = [.str x, .str y] ∧ R (ItZx x y) H1
theorem pi_zipTxt {X : Cx} {e e2 : Expr} {ta : TA} {p pos tpos : Pos} {elts : List Expr} {kk : Nat} (hg : Gl X "zip") (hm : X.mg "zip" = none) (ha : PA X [e, e2] ta)
    (hs : starEach [e, e2] X.env = (false, eval e X.env) :: starEach [e2] X.env := by rfl) (hpl : (backTo pos (starEach [e2] X.env)).any (·.1) = false := by rfl) :
    PI X (.Tuple elts kk tpos) (.Call (.Name "zip" p) [e, e2] [] pos) (iZipX ta) := by
  refine ⟨fun pins s σ H R I want => ?_⟩
  refine Call_ (ld_blt I hg hm PyProof.Rows.boot_zip (PyProof.Rows.callWith_type1 (thn (ha.run pos pins s σ H _ I want) fun us s1 ⟨vs, H1, I1, r1, q1⟩ => ?_) hs hpl))
  obtain ⟨x, y, rfl, q⟩ := q1
  obtain ⟨u1, u2, rfl, rx, ry⟩ := vals2 r1
  obtain ⟨t, rfl⟩ := rx
  obtain ⟨u, rfl⟩ := ry
  refine KZ.call_zipS fun h' hz hTI hTO h1 h2 hk => wpAny_pyIter_zip hz ?_
  have I2 : Inv X pins σ H1 { s1 with heap := h' } := I1.kept (t' := s1.toks) hk
  have D : ZipApart (s1.heap.objs.size + 4) (s1.heap.objs.size + 2) (s1.heap.objs.size + 3) s1.heap.objs.size (s1.heap.objs.size + 1) (s1.heap.objs.size + 2) (s1.heap.objs.size + 2) := by
    generalize s1.heap.objs.size = m
    constructor <;> (intro z; have z' : (_ : Nat) = _ := z; omega)
  refine ⟨s1.heap.objs.size + 4, [s1.heap.objs.size + 4, s1.heap.objs.size + 2, s1.heap.objs.size + 3, s1.heap.objs.size, s1.heap.objs.size + 1], _, _, H1, rfl, I2, turn_zipTxt D x y t u, ⟨hz, hTI, ⟨_, _, hTO⟩, h1, h2⟩, fun c hc => ?_, q⟩
  have h5 : c = s1.heap.objs.size + 4 ∨ c = s1.heap.objs.size + 2 ∨ c = s1.heap.objs.size + 3 ∨ c = s1.heap.objs.size ∨ c = s1.heap.objs.size + 1 := by simpa using hc
  have hle : s1.heap.objs.size ≤ c := by
    rcases h5 with rfl | rfl | rfl | rfl | rfl
    · exact Nat.le_add_right _ _
    · exact Nat.le_add_right _ _
    · exact Nat.le_add_right _ _
    · exact Nat.le_refl _
    · exact Nat.le_add_right _ _
  exact I1.fpOk hle (I1.hok.fresh hle)
end KQ
namespace KQ
open PySem PySem.Spec PyProof.Rows L2
abbrev sFrom : Stmt := topS 23
abbrev sBof : Stmt := topS 24
abbrev sLof : Stmt := topS 25
abbrev sHalf : Stmt := topS 26
abbrev sHeld : Stmt := topS 27
abbrev sSof : Stmt := topS 28
abbrev sHprod : Stmt := topS 29
abbrev sPar : Stmt := topS 30
abbrev sCrossg : Stmt := topS 31
theorem scBof : FnScope ["string", "first", "second"] ["string"] (defScope sBof) := ⟨rfl, rfl, rfl, by decide +kernel, rfl, by decide +kernel, by decide +kernel⟩
theorem scHalf : FnScope ["size", "bits"] ["size", "bits"] (defScope sHalf) := ⟨rfl, rfl, rfl, by decide +kernel, rfl, by decide +kernel, by decide +kernel⟩
theorem scHeld : FnScope ["string"] ["string"] (defScope sHeld) := ⟨rfl, rfl, rfl, by decide +kernel, rfl, by decide +kernel, by decide +kernel⟩
theorem scHprod : FnScope ["size", "one", "other", "bits", "power", "other_bits", "other_power", "turned"] ["size", "one", "other"] (defScope sHprod) := ⟨rfl, rfl, rfl, by decide +kernel, rfl, by decide +kernel, by decide +kernel⟩
theorem scPar : FnScope ["number"] ["number"] (defScope sPar) := ⟨rfl, rfl, rfl, by decide +kernel, rfl, by decide +kernel, by decide +kernel⟩
theorem e_c0 : ("0" : Str) = SX.S [48] := by decide +kernel
theorem e_c1 : ("1" : Str) = SX.S [49] := by decide +kernel
theorem e_one : ("1" : Str) = ⟨#[49]⟩ := by decide +kernel
theorem e_Y : ("Y" : Str) = ⟨#[89]⟩ := by decide +kernel
/-- the number of the bits of letters: all of the first kind, then all of the second -/
def bL (R : List Nat) : Nat := nb 0 (R.map lx ++ R.map lz)
def spPar : Sp := fun vs H Q _ => ∃ n : Nat, vs = [.int (n : Nat)] ∧ n < 2 ^ 1000 ∧ Q (.int ((pc n % 2 : Nat) : Int)) H
def spHalf : Sp := fun vs H Q _ => ∃ n b : Nat, vs = [.int (n : Nat), .int (b : Nat)] ∧ n ≤ 1000 ∧ Q (.int ((b % 2 ^ n : Nat) : Int)) H
def spBof (C : Addr) : Sp := fun vs H Q _ => ∃ (a : Addr) (R : List Nat) (p : Nat), vs = [.ref a] ∧ PauliAt C H a R p ∧ (∀ c ∈ R, isL c = true) ∧ R ≠ [] ∧ R.length ≤ 300 ∧ ∀ H', Same H H' → Q (.int (bL R : Nat)) H'
def spHeld (C : Addr) : Sp := fun vs H Q _ => ∃ (a : Addr) (R : List Nat) (p : Nat), vs = [.ref a] ∧ PauliAt C H a R p ∧ (∀ c ∈ R, isL c = true) ∧ R ≠ [] ∧ R.length ≤ 300 ∧
  ∀ H' x, Same H H' → H x = none → H' x = some (.tup [.int (bL R : Nat), .int (((p + R.count 89) % 4 : Nat) : Int)]) → Q (.ref x) H'
def HlAt (H : Hp) (a : Addr) (h : Hl) : Prop := H a = some (.tup [.int (h.1 : Nat), .int (h.2 : Nat)])
def spHprod : Sp := fun vs H Q _ => ∃ (n : Nat) (a b : Addr) (h g : Hl), vs = [.int (n : Nat), .ref a, .ref b] ∧ HlAt H a h ∧ HlAt H b g ∧ h.1 < 2 ^ 1000 ∧ n ≤ 1000 ∧
  ∀ H' x, Same H H' → H x = none → HlAt H' x (hp n h g) → Q (.ref x) H'
theorem lsb_le {n : Nat} (h : n < 2 ^ 1000) : (lsb n).length ≤ 1000 := (lsb_pad 999 n h).1
theorem binT_le {n : Nat} (h : n < 2 ^ 1000) : (binT n).length ≤ sizeLine := by
  rw [bin_eq, mS_len, List.length_reverse]
  exact sizeBig (lsb_le h)
section
variable {P : Program} {w : World} {K : PySem.W.Frag} {mg : Str → Option Value} {base : Heap}
theorem ok_par {f : Addr} {fd : FuncData} {k : Nat} (F : Fun K "parity" "parity" sPar f fd) : FnOk P w K mg base CX0 (k + 1) f fd ["number"] spPar := by
  refine F.ok scPar (fun vs H Q E h => ?_) (fun cdv A outer s H vs Q E hr h => ?_)
  · obtain ⟨n, rfl, _⟩ := h
    rfl
  · obtain ⟨n, rfl, hn, q⟩ := h
    refine ⟨_, pss_one (ps_ret (pe_op op_odd (pe_bm PySem.F.plainAttrs_str PySem.F.slot_str_count PySem.F.type_str_count mt_count (pe_joined1 (pe_fmtB (pv 0))) (pa_cons pe_str pa_nil)) pe_int)), ?_⟩
    have e : Txt.count (binT n) ("1" : Str) = ((pc n : Nat) : Int) := by
      rw [bin_eq, e_one]
      refine ((PyProof.Rows.count_is _ _).trans (cnt_count 49 _)).trans ?_
      rw [List.count_reverse, lsb_pc]
    refine ⟨_, rfl, n, rfl, binT_le hn, rfl, _, _, rfl, rfl, pc n, by rw [e], rfl, q⟩
theorem ok_half {f : Addr} {fd : FuncData} {k : Nat} (F : Fun K "second_half" "second_half" sHalf f fd) : FnOk P w K mg base CX0 (k + 1) f fd ["size", "bits"] spHalf := by
  refine F.ok scHalf (fun vs H Q E h => ?_) (fun cdv A outer s H vs Q E hr h => ?_)
  · obtain ⟨n, b, rfl, _⟩ := h
    rfl
  · obtain ⟨n, b, rfl, hn, q⟩ := h
    refine ⟨_, pss_one (ps_ret (pe_op op_andM (pv 1) (pe_op op_sub (pe_op op_oneShl pe_int (pv 0)) pe_int))), ?_⟩
    refine ⟨_, rfl, _, rfl, n, rfl, rfl, by omega, _, _, rfl, rfl, (b : Int), n, rfl, rfl, ?_⟩
    have e : ((b : Int) % 2 ^ n) = ((b % 2 ^ n : Nat) : Int) := by push_cast; rfl
    rw [e]
    exact q
theorem ok_hprod {f fP : Addr} {fd dP : FuncData} {k : Nat} (F : Fun K "held_product" "held_product" sHprod f fd) (FP : Fun K "parity" "parity" sPar fP dP) (bP : Binds K dP ["number"] []) (gP : mg "parity" = some (.ref fP)) :
    FnOk P w K mg base CX0 (k + 2) f fd ["size", "one", "other"] spHprod := by
  have GP : FnOk P w K mg base CX0 (k + 1) fP dP ["number"] spPar := ok_par FP
  refine F.ok scHprod (fun vs H Q E h => ?_) (fun cdv A outer s H vs Q E hr h => ?_)
  · obtain ⟨n, a, b, h, g, rfl, _⟩ := h
    rfl
  · obtain ⟨n, a, b, h, g, rfl, hA, hB, h1, hn, q⟩ := h
    refine ⟨_, C8.pss_cut (ps_asg (pv 1) (pg_tup rfl (pgs_cons (pg_name (i := 3) scHprod.nd rfl (.inl rfl)) (pgs_cons (pg_name (i := 4) scHprod.nd rfl (.inl rfl)) pgs_nil))))
      (C8.pss_cut (ps_asg (pv 2) (pg_tup rfl (pgs_cons (pg_name (i := 5) scHprod.nd rfl (.inl rfl)) (pgs_cons (pg_name (i := 6) scHprod.nd rfl (.inl rfl)) pgs_nil))))
      (C8.pss_cut (ps_set (i := 7) scHprod.nd rfl (.inl rfl) (pe_call GP hr (by rfl) gP FP.kp bP .nil pass0 (pa_cons (pe_op op_and (pv 3) (pe_op op_shrN (pv 5) (pv 0))) pa_nil)))
      (pss_one (ps_ret (pe_tup (pa_cons (pe_op op_xor (pv 3) (pv 5)) (pa_cons (pe_op op_mod (pe_op op_add (pe_op op_add (pv 4) (pv 6)) (pe_op op_mul pe_int (pv 7))) pe_int) pa_nil))))))), ?_⟩
    refine ⟨fun σ' H' => σ' = [some (.int (n : Nat)), some (.ref a), some (.ref b), some (.int (h.1 : Nat)), some (.int (h.2 : Nat)), none, none, none] ∧ H' = H, ⟨_, rfl, _, _, rfl, .inl (.inl hA), rfl, _, _, rfl, _, _, rfl, rfl, rfl, rfl⟩, ?_⟩
    rintro _ H1 ⟨rfl, rfl⟩
    refine ⟨fun σ' H' => σ' = [some (.int (n : Nat)), some (.ref a), some (.ref b), some (.int (h.1 : Nat)), some (.int (h.2 : Nat)), some (.int (g.1 : Nat)), some (.int (g.2 : Nat)), none] ∧ H' = H1, ⟨_, rfl, _, _, rfl, .inl (.inl hB), rfl, _, _, rfl, _, _, rfl, rfl, rfl, rfl⟩, ?_⟩
    rintro _ H2 ⟨rfl, rfl⟩
    refine ⟨fun σ' H' => σ' = [some (.int (n : Nat)), some (.ref a), some (.ref b), some (.int (h.1 : Nat)), some (.int (h.2 : Nat)), some (.int (g.1 : Nat)), some (.int (g.2 : Nat)), some (.int (tw n h.1 g.1 : Nat))] ∧ H' = H2, ?_, ?_⟩
    · refine ⟨_, rfl, _, rfl, _, rfl, (g.1 : Int), n, rfl, rfl, _, _, rfl, rfl, h.1 &&& (g.1 >>> n), ?_, Nat.lt_of_le_of_lt Nat.and_le_left h1, rfl, rfl⟩
      have e : ((g.1 : Int) / 2 ^ n) = ((g.1 >>> n : Nat) : Int) := by rw [Nat.shiftRight_eq_div_pow]; push_cast; rfl
      show [V.int (Builtin.bitAnd (h.1 : Nat) _)] = _
      rw [e, band]
    rintro _ H3 ⟨rfl, rfl⟩
    refine ⟨_, rfl, _, rfl, _, _, rfl, rfl, _, rfl, _, rfl, _, _, rfl, rfl, _, rfl, _, _, rfl, rfl, .inl ⟨by decide, by decide⟩, _, _, rfl, rfl, _, _, rfl, rfl, (by show (0 : Int) < 4; decide), by show 2 ≤ sizeLine; decide, fun x nx => ?_⟩
    refine q _ x (same_new nx) nx ?_
    unfold HlAt
    rw [upd_same]
    have e2 : ((h.2 : Int) + (g.2 : Int) + 2 * ((tw n h.1 g.1 : Nat) : Int)) % 4 = (((h.2 + g.2 + 2 * tw n h.1 g.1) % 4 : Nat) : Int) := by omega
    show some (HO.tup [V.int (Builtin.bitXor (h.1 : Nat) (g.1 : Nat)), V.int (((h.2 : Int) + (g.2 : Int) + 2 * ((tw n h.1 g.1 : Nat) : Int)) % 4)]) = _
    rw [bxor, e2]
    rfl
theorem ok_bof {f C fI fE : Addr} {fd : FuncData} {k : Nat} (F : Fun K "bits_of" "bits_of" sBof f fd) (N : PCl K mg C fI fE) (B : Bl mg) : FnOk P w K mg base CX0 (k + 1) f fd ["string"] (spBof C) := by
  refine F.ok scBof (fun vs H Q E h => ?_) (fun cdv A outer s H vs Q E hr h => ?_)
  · obtain ⟨a, R, p, rfl, _⟩ := h
    rfl
  · obtain ⟨a, R, p, rfl, hP, hR, h0, hl, q⟩ := h
    refine ⟨_, C8.pss_cut (ps_set (i := 1) scBof.nd rfl (.inl rfl) (pe_bm PySem.F.plainAttrs_str PySem.F.slot_str_translate PySem.F.type_str_translate mt_transD (pe_fld (pv 0) rfl) (pa_cons (pe_disp (pps_cons pe_int pe_str (pps_cons pe_int pe_str (pps_cons pe_int pe_str (pps_cons pe_int pe_str pps_nil)))) (by rfl) (by rfl) (fun z => by cases z) (by decide)) pa_nil)))
      (C8.pss_cut (ps_set (i := 2) scBof.nd rfl (.inl rfl) (pe_bm PySem.F.plainAttrs_str PySem.F.slot_str_translate PySem.F.type_str_translate mt_transD (pe_fld (pv 0) rfl) (pa_cons (pe_disp (pps_cons pe_int pe_str (pps_cons pe_int pe_str (pps_cons pe_int pe_str (pps_cons pe_int pe_str pps_nil)))) (by rfl) (by rfl) (fun z => by cases z) (by decide)) pa_nil)))
      (pss_one (ps_ret (pe_callTy call_int_b (by rfl) B.int bootI (pa_cons (pe_op op_add_str (pv 1) (pv 2)) (pa_cons pe_int pa_nil)))))), ?_⟩
    obtain ⟨dx, fs, e, l1, l2, l3⟩ := id hP
    have look : ∀ (g : Nat → Nat) (kvs : List (Key × V)), (∀ c, isL c = true → valV kvs (.inl (c : Int)) = some (.str (SX.S [48 + g c]))) → (∀ c, g c < 2) → ∀ c ∈ R, 48 + g c < 128 ∧ valV kvs (.inl (c : Int)) = some (.str (SX.S [48 + g c])) := fun g kvs h1 h2 c hc => ⟨by have := h2 c; omega, h1 c (hR c hc)⟩
    have two : ∀ {G : Hp} {p : Addr} {o o' : HO}, Same H G → G p = none → Same H (upd (upd G p o) p o') := fun {G p o o'} sg np b u e => by
      have nb : b ≠ p := ne_of_none (sg _ _ e) np
      rw [upd_ne nb, upd_ne nb]
      exact sg _ _ e
    have tx : ∀ c, isL c = true → valV (mergeK [] [((.inl 73 : Key), V.str ("0" : Str)), (.inl 88, .str ("1" : Str)), (.inl 89, .str ("1" : Str)), (.inl 90, .str ("0" : Str))]) (.inl (c : Int)) = some (.str (SX.S [48 + lx c])) := by
      rw [e_c0, e_c1]
      intro c hc
      rcases isL_iff.mp hc with rfl | rfl | rfl | rfl <;> rfl
    have tz : ∀ c, isL c = true → valV (mergeK [] [((.inl 73 : Key), V.str ("0" : Str)), (.inl 88, .str ("0" : Str)), (.inl 89, .str ("1" : Str)), (.inl 90, .str ("1" : Str))]) (.inl (c : Int)) = some (.str (SX.S [48 + lz c])) := by
      rw [e_c0, e_c1]
      intro c hc
      rcases isL_iff.mp hc with rfl | rfl | rfl | rfl <;> rfl
    refine ⟨fun σ' H' => σ' = [some (.ref a), some (.str (mS (R.map (48 + lx ·)))), none] ∧ Same H H', ?_, ?_⟩
    · refine ⟨_, rfl, a, C, dx, fs, _, rfl, e, N.cl, N.nL, l1, rfl, fun p hp => ?_⟩
      exact ⟨upd_same, [((.inl 73 : Key), V.str ("0" : Str)), (.inl 88, .str ("1" : Str)), (.inl 89, .str ("1" : Str)), (.inl 90, .str ("0" : Str))], rfl, by decide, R, p, _, (48 + lx ·), rfl, rfl, .inl upd_same, look lx _ tx lx_lt, by omega, rfl, two (fun _ _ z => z) hp⟩
    rintro _ H1 ⟨rfl, s1⟩
    refine ⟨fun σ' H' => σ' = [some (.ref a), some (.str (mS (R.map (48 + lx ·)))), some (.str (mS (R.map (48 + lz ·))))] ∧ Same H H', ?_, ?_⟩
    · refine ⟨_, rfl, a, C, dx, fs, _, rfl, s1 _ _ e, N.cl, N.nL, l1, rfl, fun p hp => ?_⟩
      exact ⟨upd_same, [((.inl 73 : Key), V.str ("0" : Str)), (.inl 88, .str ("0" : Str)), (.inl 89, .str ("1" : Str)), (.inl 90, .str ("1" : Str))], rfl, by decide, R, p, _, (48 + lz ·), rfl, rfl, .inl upd_same, look lz _ tz lz_lt, by omega, rfl, two s1 hp⟩
    rintro _ H2 ⟨rfl, s2⟩
    have eb : (R.map (48 + lx ·)) ++ (R.map (48 + lz ·)) = (R.map lx ++ R.map lz).map (48 + ·) := by
      rw [List.map_append, List.map_map, List.map_map] <;> rfl
    refine ⟨_, rfl, _, rfl, _, _, rfl, rfl, by rw [mS_len, mS_len, List.length_map, List.length_map]; exact Nat.le_trans (by omega : _ ≤ 600) (by decide), (R.map lx ++ R.map lz).map (48 + ·), ?_, ?_, ?_, ?_, ?_⟩
    · rw [mS_app, eb]
    · intro z
      apply h0
      cases R with
      | nil => rfl
      | cons c R => cases z
    · rw [List.length_map, List.length_append, List.length_map, List.length_map]
      omega
    · intro c hc
      obtain ⟨b, hb, rfl⟩ := List.mem_map.mp hc
      have : b < 2 := by
        rcases List.mem_append.mp hb with h | h
        · obtain ⟨c, _, rfl⟩ := List.mem_map.mp h; exact lx_lt c
        · obtain ⟨c, _, rfl⟩ := List.mem_map.mp h; exact lz_lt c
      unfold KT.IsB
      omega
    · rw [binN_eq]
      exact q _ s2
theorem ok_held {f fB C fI fE : Addr} {fd dB : FuncData} {k : Nat} (F : Fun K "held_of" "held_of" sHeld f fd) (FB : Fun K "bits_of" "bits_of" sBof fB dB) (bB : Binds K dB ["string"] []) (gB : mg "bits_of" = some (.ref fB)) (N : PCl K mg C fI fE) (B : Bl mg) :
    FnOk P w K mg base CX0 (k + 2) f fd ["string"] (spHeld C) := by
  have GB : FnOk P w K mg base CX0 (k + 1) fB dB ["string"] (spBof C) := ok_bof FB N B
  refine F.ok scHeld (fun vs H Q E h => ?_) (fun cdv A outer s H vs Q E hr h => ?_)
  · obtain ⟨a, R, p, rfl, _⟩ := h
    rfl
  · obtain ⟨a, R, p, rfl, hP, hR, h0, hl, q⟩ := h
    refine ⟨_, pss_one (ps_ret (pe_tup (pa_cons (pe_call GB hr (by rfl) gB FB.kp bB .nil pass0 (pa_cons (pv 0) pa_nil)) (pa_cons (pe_op op_mod (pe_op op_add (pe_fld (pv 0) rfl) (pe_bm PySem.F.plainAttrs_str PySem.F.slot_str_count PySem.F.type_str_count mt_count (pe_fld (pv 0) rfl) (pa_cons pe_str pa_nil))) pe_int) pa_nil)))), ?_⟩
    refine ⟨_, rfl, a, R, p, rfl, hP, hR, h0, hl, fun H1 s1 => ?_⟩
    obtain ⟨dx, fs, e, l1, l2, l3⟩ := id hP
    refine ⟨_, rfl, a, C, dx, fs, _, rfl, s1 _ _ e, N.cl, N.nP, l2, _, rfl, a, C, dx, fs, _, rfl, s1 _ _ e, N.cl, N.nL, l1, rfl, _, _, rfl, rfl, _, _, rfl, rfl, _, _, rfl, rfl, (by show (0 : Int) < 4; decide), by show 2 ≤ sizeLine; decide, fun x nx => ?_⟩
    have off : H x = none := by
      cases z : H x with
      | none => rfl
      | some o => rw [s1 _ _ z] at nx; cases nx
    refine q _ x (s1.trans (same_new nx)) off ?_
    rw [upd_same]
    have ec : Txt.count (mS R) ("Y" : Str) = ((R.count 89 : Nat) : Int) := by
      rw [e_Y]
      exact (PyProof.Rows.count_is _ _).trans (cnt_count 89 R)
    show some (HO.tup [V.int (bL R : Nat), V.int (((p : Int) + Txt.count (mS R) ("Y" : Str)) % 4)]) = _
    rw [ec, show (((p : Int) + ((R.count 89 : Nat) : Int)) % 4) = (((p + R.count 89) % 4 : Nat) : Int) by omega]
end
end KQ
namespace KQ
open PySem PySem.Spec PyProof.Rows L2
theorem pc_cat : ∀ (n a b : Nat), b < 2 ^ n → pc (2 ^ n * a + b) = pc a + pc b
  | 0, a, b, h => by
    have : b = 0 := by omega
    subst this
    rw [pc_zero, show 2 ^ 0 * a + 0 = a by omega, Nat.add_zero]
  | n + 1, a, b, h => by
    have up : 2 ^ (n + 1) = 2 ^ n * 2 := Nat.pow_succ ..
    have e : 2 ^ (n + 1) * a + b = 2 * (2 ^ n * a + b / 2) + b % 2 := by
      rw [up, Nat.mul_add, show 2 ^ n * 2 * a = 2 * (2 ^ n * a) by rw [Nat.mul_comm (2 ^ n) 2, Nat.mul_assoc]]
      omega
    have e2 := pc_two (b / 2) (b % 2) (by omega)
    rw [show 2 * (b / 2) + b % 2 = b by omega] at e2
    rw [e, pc_two _ _ (by omega), pc_cat n a (b / 2) (by omega), e2]
    omega
/-- front and back exchanged -/
def ex (n b : Nat) : Nat := (b % 2 ^ n * 2 ^ n) ||| (b >>> n)
theorem ex_fB (n x z : Nat) : ex n (fB n x z) = fB n z x := by
  unfold ex
  rw [fB_mod, fB_shift, Nat.mul_comm, ← Nat.two_pow_add_eq_or_of_lt (rv_lt n x)]
  rfl
theorem fB_and (n x z x' z' : Nat) : fB n x z &&& fB n x' z' = fB n (x &&& x') (z &&& z') := by
  apply Nat.eq_of_testBit_eq
  intro j
  rw [Nat.testBit_and, fB_bit, fB_bit, fB_bit, rv_and, rv_and]
  split <;> rw [Nat.testBit_and]
theorem pc_fB {n x z : Nat} (hx : x < 2 ^ n) (hz : z < 2 ^ n) : pc (fB n x z) = pc x + pc z := by
  unfold fB
  rw [pc_cat n _ _ (rv_lt n z), pc_rv hx, pc_rv hz]
theorem cross_fB {n x z x' z' : Nat} (hx : x < 2 ^ n) (hz : z < 2 ^ n) : pc (ex n (fB n x z) &&& fB n x' z') = pc (z &&& x') + pc (x &&& z') := by
  rw [ex_fB, fB_and, pc_fB (Nat.lt_of_le_of_lt Nat.and_le_left hz) (Nat.lt_of_le_of_lt Nat.and_le_left hx)]
theorem ex_lt {n b : Nat} (h : b < 2 ^ (2 * n)) : ex n b < 2 ^ (2 * n) := by
  have e : 2 ^ (2 * n) = 2 ^ n * 2 ^ n := by rw [← Nat.pow_add]; congr 1; omega
  unfold ex
  refine Nat.or_lt_two_pow ?_ ?_
  · rw [e]
    exact Nat.mul_lt_mul_of_pos_right (Nat.mod_lt _ (Nat.two_pow_pos n)) (Nat.two_pow_pos n)
  · exact Nat.lt_of_le_of_lt (Nat.shiftRight_le ..) h
/-- the number of letters, by the bits of the law -/
theorem rv_bv {f : Nat → Nat} (hf : ∀ c, f c < 2) (R : List Nat) : rv R.length (bv f R) = nb 0 (R.map f) := by
  unfold rv
  congr 1
  apply List.ext_getElem?
  intro i
  by_cases hi : i < R.length
  · have e := bv_bit hf (List.getElem?_eq_getElem hi)
    rw [List.getElem?_map, List.getElem?_map, List.getElem?_range hi, List.getElem?_eq_getElem hi]
    show some ((bv f R).testBit i).toNat = some (f R[i])
    rw [← e, Nat.testBit_eq_decide_div_mod_eq]
    have : bv f R / 2 ^ i % 2 < 2 := Nat.mod_lt _ (by decide)
    by_cases c : bv f R / 2 ^ i % 2 = 1
    · rw [decide_eq_true c, c]
      rfl
    · rw [decide_eq_false c, show bv f R / 2 ^ i % 2 = 0 by omega]
      rfl
  · rw [List.getElem?_eq_none (by simpa using hi), List.getElem?_eq_none (by simpa using hi)]
theorem bL_fB (R : List Nat) : bL R = fB R.length (bv lx R) (bv lz R) := by
  unfold bL fB
  rw [rv_bv lx_lt, rv_bv lz_lt]
  unfold nb
  rw [List.foldl_append]
  have e := nb_eq (R.map lz) (nb 0 (R.map lx))
  rw [List.length_map, Nat.mul_comm] at e
  exact e
theorem bL_lt (R : List Nat) : bL R < 2 ^ (2 * R.length) := by
  rw [bL_fB]
  exact fB_lt ..
/-- the letters of a number -/
def ltr (x z : Nat) : Nat := if x = 0 then (if z = 0 then 73 else 90) else if z = 0 then 88 else 89
theorem ltr_isL (x z : Nat) : isL (ltr x z) = true := by
  unfold ltr
  refine isL_iff.mpr ?_
  split <;> split <;> omega
def LO (n b : Nat) : List Nat := List.zipWith ltr (rowOf n (b >>> n)) (rowOf n (b % 2 ^ n))
theorem LO_len (n b : Nat) : (LO n b).length = n := by
  unfold LO
  rw [List.length_zipWith, rowOf_len, rowOf_len, Nat.min_self]
theorem zw_isL : ∀ (as bs : List Nat), ∀ c ∈ List.zipWith ltr as bs, isL c = true
  | [], _, c, h => by cases h
  | _ :: _, [], c, h => by cases h
  | a :: as, b :: bs, c, h => by
    rcases List.mem_cons.mp h with rfl | h
    · exact ltr_isL a b
    · exact zw_isL as bs c h
theorem LO_isL (n b : Nat) : ∀ c ∈ LO n b, isL c = true := zw_isL _ _
theorem scCrossg : FnScope ["size", "bits", "others", "exchanged", "number", "other"] ["size", "bits", "others"] (defScope sCrossg) := ⟨rfl, rfl, rfl, by decide +kernel, rfl, by decide +kernel, by decide +kernel⟩
theorem scLof : FnScope ["size", "bits", "first", "second", "one", "other"] ["size", "bits"] (defScope sLof) := ⟨rfl, rfl, rfl, by decide +kernel, rfl, by decide +kernel, by decide +kernel⟩
theorem scFrom : FnScope ["letters", "phase"] ["letters", "phase"] (defScope sFrom) := ⟨rfl, rfl, rfl, by decide +kernel, rfl, by decide +kernel, by decide +kernel⟩
theorem scSof : FnScope ["size", "held", "bits", "power", "letters"] ["size", "held"] (defScope sSof) := ⟨rfl, rfl, rfl, by decide +kernel, rfl, by decide +kernel, by decide +kernel⟩
structure Lets (K : PySem.W.Frag) (w : World) (mg : Str → Option Value) (A : Addr) : Prop where
  g : mg "LETTERS" = some (.ref A)
  at_ : ∀ x z, x < 2 → z < 2 → KDct K w A (mS [48 + x, 48 + z]) (.str (mS [ltr x z]))
def spCrossg (K : PySem.W.Frag) : Sp := fun vs H Q _ => ∃ (n b : Nat) (t : Addr) (os : List Nat), vs = [.int (n : Nat), .int (b : Nat), .ref t] ∧ SqLT K H t (natV os) ∧ n ≤ 300 ∧ b < 2 ^ (2 * n) ∧
  Q (.int (nb 0 (os.map fun o => pc (ex n b &&& o) % 2) : Nat)) H
def spLof : Sp := fun vs H Q _ => ∃ n b : Nat, vs = [.int (n : Nat), .int (b : Nat)] ∧ 1 ≤ n ∧ n ≤ 300 ∧ b < 2 ^ (2 * n) ∧ ∀ H', Same H H' → Q (.str (mS (LO n b))) H'
def spFrom (C : Addr) : Sp := fun vs H Q _ => ∃ (R : List Nat) (i : Int), vs = [.str (mS R), .int i] ∧ (∀ c ∈ R, isL c = true) ∧ R ≠ [] ∧ R.length ≤ 300 ∧ ∀ H' x, Same H H' → PauliAt C H' x R (i % 4).toNat → Q (.ref x) H'
def spSof (C : Addr) : Sp := fun vs H Q _ => ∃ (n : Nat) (a : Addr) (h : Hl), vs = [.int (n : Nat), .ref a] ∧ HlAt H a h ∧ 1 ≤ n ∧ n ≤ 300 ∧ h.1 < 2 ^ (2 * n) ∧
  ∀ H' x, Same H H' → PauliAt C H' x (LO n h.1) (((h.2 : Int) - ((LO n h.1).count 89 : Nat)) % 4).toNat → Q (.ref x) H'
theorem headL_le {q : Nat} (hq : q < 4) : (headL q).length ≤ 2 := by
  match q, hq with
  | 0, _ => decide
  | 1, _ => decide
  | 2, _ => decide
  | 3, _ => decide
theorem own_read {L : List Nat} (hL : ∀ c ∈ L, isL c = true) (h0 : L ≠ []) {q : Nat} (hq : q < 4) : rest (headL q ++ L) = L ∧ ph (headL q ++ L) = q ∧ fine (headL q ++ L) := by
  match q, hq with
  | 0, _ => exact read_head hL h0 0 _ _ rfl
  | 1, _ => exact read_head hL h0 3 _ _ rfl
  | 2, _ => exact read_head hL h0 2 _ _ rfl
  | 3, _ => exact read_head hL h0 5 _ _ rfl
theorem made_same {H H' : Hp} {x dx C : Addr} (nx : H x = none) (nd : H dx = none) (k : ∀ b o, b ≠ x → (upd (upd H dx (.own x)) x (.ins C dx [])) b = some o → H' b = some o) : Same H H' := by
  intro b o e
  have h1 : b ≠ x := ne_of_none e nx
  have h2 : b ≠ dx := ne_of_none e nd
  exact k b o h1 (by rw [upd_ne h1, upd_ne h2]; exact e)
def sgs (L : List Nat) : List Str := L.map fun c => (⟨#[c]⟩ : Str)
theorem join_sgs (L : List Nat) : Txt.join ("" : Str) (sgs L) = mS L := by
  rw [TL.join_eq, e_no]
  exact PyProof.Rows.join_ones L
theorem sgs_len : ∀ L : List Nat, ((sgs L).map (·.length)).sum = L.length
  | [] => rfl
  | c :: L => by
    show 1 + ((sgs L).map (·.length)).sum = L.length + 1
    rw [sgs_len L]
    omega
theorem walk_zipTxt {L M : List Nat} (h : L.length = M.length) : Walk (ItZx (mS L) (mS M)) L.length (fun _ => True) (YPair (fun i => (L[i]?).map fun c => .str ⟨#[c]⟩) (fun i => (M[i]?).map fun c => .str ⟨#[c]⟩)) := by
  have z1 : (mS L).cps.size = L.length := by simp
  have z2 : (mS M).cps.size = M.length := by simp
  refine ⟨fun i _ hi _ => ⟨by rw [z1]; exact hi, by rw [z2]; omega⟩, fun _ _ => z1.symm, fun i H v H' hi _ y => ?_⟩
  obtain ⟨T, c, d, h1, h2, h3, h4, h5⟩ := y
  have h3' : L[i]? = some c := by simpa using h3
  have h4' : M[i]? = some d := by simpa using h4
  exact ⟨T, _, _, h1, h2, h5, by show (L[i]?).map _ = _; rw [h3']; rfl, by show (M[i]?).map _ = _; rw [h4']; rfl⟩
section
variable {P : Program} {w : World} {K : PySem.W.Frag} {mg : Str → Option Value} {base : Heap}
theorem ok_crossg {f fH fP : Addr} {fd dH dP : FuncData} {k : Nat} (F : Fun K "crossing" "crossing" sCrossg f fd) (FH : Fun K "second_half" "second_half" sHalf fH dH) (bH : Binds K dH ["size", "bits"] []) (gH : mg "second_half" = some (.ref fH))
    (FP : Fun K "parity" "parity" sPar fP dP) (bP : Binds K dP ["number"] []) (gP : mg "parity" = some (.ref fP)) : FnOk P w K mg base CX0 (k + 2) f fd ["size", "bits", "others"] (spCrossg K) := by
  have GP : FnOk P w K mg base CX0 (k + 1) fP dP ["number"] spPar := ok_par FP
  have GH : FnOk P w K mg base CX0 (k + 1) fH dH ["size", "bits"] spHalf := ok_half FH
  refine F.ok scCrossg (fun vs H Q E h => ?_) (fun cdv A outer s H vs Q E hr h => ?_)
  · obtain ⟨n, b, t, os, rfl, _⟩ := h
    rfl
  · obtain ⟨n, b, t, os, rfl, hS, hn, hb, q⟩ := h
    refine ⟨_, C8.pss_cut (ps_set (i := 3) scCrossg.nd rfl (.inl rfl) (pe_op op_or (pe_op op_shlN (pe_call GH hr (by rfl) gH FH.kp bH .nil pass0 (pa_cons (pv 0) (pa_cons (pv 1) pa_nil))) (pv 0)) (pe_op op_shrN (pv 1) (pv 0))))
      (C8.pss_cut (ps_set (i := 4) scCrossg.nd rfl (.inl rfl) pe_int)
      (C8.pss_cut (ps_for PassesOwn.never rfl (pi_seq (pv 2)) (pg_name (i := 5) scCrossg.nd rfl (.inl rfl))
        (pss_one (ps_set (i := 4) scCrossg.nd rfl (.inl rfl) (pe_op op_add (pe_op op_mul pe_int (pv 4)) (pe_call GP hr (by rfl) gP FP.kp bP .nil pass0 (pa_cons (pe_op op_and (pv 3) (pv 5)) pa_nil))))))
      (pss_one (ps_ret (pv 4))))), ?_⟩
    refine ⟨fun σ' H' => σ' = [some (.int (n : Nat)), some (.int (b : Nat)), some (.ref t), some (.int (ex n b : Nat)), none, none] ∧ H' = H, ?_, ?_⟩
    · refine ⟨_, rfl, _, rfl, n, b, rfl, by omega, _, rfl, ((b % 2 ^ n : Nat) : Int), n, rfl, rfl, ?_, _, rfl, _, rfl, (b : Int), n, rfl, rfl, _, _, rfl, rfl, ?_, rfl⟩
      · refine ⟨by omega, ?_⟩
        have l1 : b % 2 ^ n < 2 ^ n := Nat.mod_lt _ (Nat.two_pow_pos n)
        have l2 : Builtin.Int.intBits ((b % 2 ^ n : Nat) : Int) ≤ n := by
          unfold Builtin.Int.intBits
          split
          · omega
          · rename_i h0
            rw [Int.natAbs_natCast]
            have : b % 2 ^ n ≠ 0 := fun z => h0 (by rw [z]; rfl)
            exact (Nat.log2_lt this).mpr l1
        have : (2 : Int) ^ 27 = 134217728 := by decide
        omega
      · have e1 : ((b % 2 ^ n : Nat) : Int) * 2 ^ n = ((b % 2 ^ n * 2 ^ n : Nat) : Int) := by push_cast; rfl
        have e2 : ((b : Int) / 2 ^ n) = ((b >>> n : Nat) : Int) := by rw [Nat.shiftRight_eq_div_pow]; push_cast; rfl
        show [_, _, _, some (V.int (Builtin.bitOr (((b % 2 ^ n : Nat) : Int) * 2 ^ n) ((b : Int) / 2 ^ n))), _, _] = _
        rw [e1, e2, bor]
        rfl
    rintro _ H1 ⟨rfl, rfl⟩
    refine ⟨fun σ' H' => σ' = [some (.int (n : Nat)), some (.int (b : Nat)), some (.ref t), some (.int (ex n b : Nat)), some (.int 0), none] ∧ H' = H1, ⟨rfl, rfl⟩, ?_⟩
    rintro _ H2 ⟨rfl, rfl⟩
    refine ⟨fun σ' H' => ∃ v, σ' = [some (.int (n : Nat)), some (.int (b : Nat)), some (.ref t), some (.int (ex n b : Nat)), some (.int (nb 0 (os.map fun o => pc (ex n b &&& o) % 2) : Nat)), v] ∧ H' = H2, ?_, ?_⟩
    · refine ⟨_, rfl, t, _, rfl, hS, fun J S hJ hS0 hSs => for_sq hJ (fun i σ H' => ∃ v : Option V, σ = [some (.int (n : Nat)), some (.int (b : Nat)), some (.ref t), some (.int (ex n b : Nat)), some (.int (nb 0 ((os.take i).map fun o => pc (ex n b &&& o) % 2) : Nat)), v] ∧ H' = H2) ⟨none, rfl, rfl⟩ (fun i σ H' ⟨_, _, e⟩ => by rw [e]; exact hS0) ?_ ?_⟩
      · rintro i y σ H' hi ⟨v, rfl, rfl⟩
        obtain ⟨o, ho, rfl⟩ := natV_at hi
        have lt : ex n b &&& o < 2 ^ 1000 := Nat.lt_of_le_of_lt Nat.and_le_left (Nat.lt_of_lt_of_le (ex_lt hb) (Nat.pow_le_pow_right (by decide) (by omega)))
        refine ⟨_, rfl, _, _, rfl, rfl, .inl ⟨by decide, by decide⟩, _, rfl, _, rfl, _, _, rfl, rfl, ex n b &&& o, ?_, lt, _, _, rfl, rfl, some (.int (o : Nat)), ?_, rfl⟩
        · show [V.int (Builtin.bitAnd (ex n b : Nat) (o : Nat))] = _
          rw [band]
        · rw [take_snoc ho, List.map_append]
          unfold nb
          rw [List.foldl_append]
          rfl
      · rintro σ H' ⟨v, rfl, rfl⟩
        rw [List.take_of_length_le (Nat.le_of_eq (natV_len os).symm)]
        exact ⟨v, rfl, rfl⟩
    rintro _ H3 ⟨v, rfl, rfl⟩
    exact ⟨_, rfl, q⟩
theorem e_two {c d : Nat} : (mS [c] ++ mS [d]) = mS [c, d] := by rw [mS_app] <;> rfl
open PySem.Builtin PySem.Builtin.Str in
theorem pad_ok {n : Nat} (h : n ≤ 300) : PadOk (n : Int) = true := by
  have e1 : (decide ((n : Int) < -(2 ^ 63 : Int)) || decide ((n : Int) ≥ 2 ^ 63)) = false := by
    rw [decide_eq_false (by omega), decide_eq_false (by omega)]
    rfl
  have e2 : tooLong ((n : Int)).toNat = false := PyProof.Rows.short24 (by omega)
  unfold PadOk fitsSsize
  rw [e1, e2]
  rfl
theorem LO_snoc {n b i : Nat} (hi : i < n) : ∃ x z, x < 2 ∧ z < 2 ∧ (txB n (b >>> n))[i]? = some (48 + x) ∧ (txB n (b % 2 ^ n))[i]? = some (48 + z) ∧ (LO n b).take (i + 1) = (LO n b).take i ++ [ltr x z] := by
  have h1 := rowOf_at (W := n) (m := b >>> n) hi
  have h2 := rowOf_at (W := n) (m := b % 2 ^ n) hi
  have lt : ∀ c : Bool, c.toNat < 2 := fun c => by cases c <;> decide
  refine ⟨((b >>> n).testBit (n - 1 - i)).toNat, ((b % 2 ^ n).testBit (n - 1 - i)).toNat, lt _, lt _, ?_, ?_, ?_⟩
  · unfold txB
    rw [List.getElem?_map, h1]
    rfl
  · unfold txB
    rw [List.getElem?_map, h2]
    rfl
  · refine take_snoc ?_
    unfold LO
    rw [List.getElem?_zipWith, h1, h2]
theorem ok_lof {f fH A : Addr} {fd dH : FuncData} {k : Nat} (F : Fun K "letters_of" "letters_of" sLof f fd) (FH : Fun K "second_half" "second_half" sHalf fH dH) (bH : Binds K dH ["size", "bits"] []) (gH : mg "second_half" = some (.ref fH))
    (T : Lets K w mg A) (mz : mg "zip" = none) : FnOk P w K mg base CX0 (k + 2) f fd ["size", "bits"] spLof := by
  have GH : FnOk P w K mg base CX0 (k + 1) fH dH ["size", "bits"] spHalf := ok_half FH
  refine F.ok scLof (fun vs H Q E h => ?_) (fun cdv A' outer s H vs Q E hr h => ?_)
  · obtain ⟨n, b, rfl, _⟩ := h
    rfl
  · obtain ⟨n, b, rfl, n1, hn, hb, q⟩ := h
    refine ⟨_, C8.pss_cut (ps_set (i := 2) scLof.nd rfl (.inl rfl) (pe_bm PySem.F.plainAttrs_str PySem.F.slot_str_zfill PySem.F.type_str_zfill mt_zfill (pe_joined1 (pe_fmtB (pe_op op_shrN (pv 1) (pv 0)))) (pa_cons (pv 0) pa_nil)))
      (C8.pss_cut (ps_set (i := 3) scLof.nd rfl (.inl rfl) (pe_bm PySem.F.plainAttrs_str PySem.F.slot_str_zfill PySem.F.type_str_zfill mt_zfill (pe_joined1 (pe_fmtB (pe_call GH hr (by rfl) gH FH.kp bH .nil pass0 (pa_cons (pv 0) (pa_cons (pv 1) pa_nil))))) (pa_cons (pv 0) pa_nil)))
      (pss_one (ps_ret (pe_bm PySem.F.plainAttrs_str PySem.F.slot_str_join PySem.F.type_str_join mt_join pe_str (pa_cons (pe_lc (own := [("one", 4), ("other", 5)]) (g := gTup K 2 (gCons (gName 4) (gCons (gName 5) gNil))) (by rfl) scLof.nd (pi_zipTxt (by rfl) mz (pa_cons (pv 2) (pa_cons (pv 3) pa_nil)))
        (blkOk_by (own := [("one", 4), ("other", 5)]) (N := ["size", "bits", "first", "second", "one", "other"]) (sc := defScope sLof) (by decide +kernel))
        (fun _ _ _ _ _ => pg_tup rfl (pgs_cons (pg_name (i := 4) scLof.nd rfl (Or.inl rfl)) (pgs_cons (pg_name (i := 5) scLof.nd rfl (Or.inl rfl)) pgs_nil))) (fun _ _ _ _ _ => pts_nil) (fun _ _ _ _ _ => pe_ix (r := rIxD K w) ix_kdict (pe_glob (v := .ref A) (by rfl) T.g rfl) (pe_op op_add_str (pv 4) (pv 5)) (fun _ _ => rfl))) pa_nil))))), ?_⟩
    have h1 : b >>> n < 2 ^ n := by
      rw [Nat.shiftRight_eq_div_pow]
      refine Nat.div_lt_of_lt_mul ?_
      rw [← Nat.pow_add]
      rw [show n + n = 2 * n by omega]
      exact hb
    have h2 : b % 2 ^ n < 2 ^ n := Nat.mod_lt _ (Nat.two_pow_pos n)
    have big : ∀ {x : Nat}, x < 2 ^ n → x < 2 ^ 1000 := fun h => Nat.lt_of_lt_of_le h (Nat.pow_le_pow_right (by decide) (by omega))
    refine ⟨fun σ' H' => σ' = [some (.int (n : Nat)), some (.int (b : Nat)), some (.str (mS (txB n (b >>> n)))), none, none, none] ∧ H' = H, ?_, ?_⟩
    · refine ⟨_, rfl, _, rfl, (b : Int), n, rfl, rfl, b >>> n, ?_, binT_le (big h1), rfl, _, rfl, _, _, rfl, rfl, pad_ok hn, ?_, rfl⟩
      · rw [Nat.shiftRight_eq_div_pow]
        push_cast
        rfl
      · rw [zf_bin n1 h1]
        rfl
    rintro _ H1 ⟨rfl, rfl⟩
    refine ⟨fun σ' H' => σ' = [some (.int (n : Nat)), some (.int (b : Nat)), some (.str (mS (txB n (b >>> n)))), some (.str (mS (txB n (b % 2 ^ n)))), none, none] ∧ H' = H1, ?_, ?_⟩
    · refine ⟨_, rfl, _, rfl, n, b, rfl, by omega, b % 2 ^ n, rfl, binT_le (big h2), rfl, _, rfl, _, _, rfl, rfl, pad_ok hn, ?_, rfl⟩
      rw [zf_bin n1 h2]
      rfl
    rintro _ H2 ⟨rfl, rfl⟩
    refine ⟨rfl, _, rfl, _, rfl, _, _, rfl, fun D nD => ?_⟩
    refine lc_it (walk_zipTxt (L := txB n (b >>> n)) (M := txB n (b % 2 ^ n)) (by rw [txB_len, txB_len])) (fun i Hc => Same H2 Hc ∧ Hc D = some (.lst (((sgs (LO n b)).map V.str).take i))) ⟨same_new nD, upd_same⟩ (fun _ _ _ _ => trivial) ?_ ?_
    · rintro i v Hc H' hi ⟨sc, ec⟩ ⟨T', x, y, rfl, nT, rfl, hx, hy⟩
      rw [txB_len] at hi
      obtain ⟨u, v, hu, hv, g1, g2, g3⟩ := LO_snoc (b := b) hi
      have hx' : ((txB n (b >>> n))[i]?).map (fun c => V.str ⟨#[c]⟩) = some x := hx
      have hy' : ((txB n (b % 2 ^ n))[i]?).map (fun c => V.str ⟨#[c]⟩) = some y := hy
      rw [g1] at hx'
      rw [g2] at hy'
      cases hx'
      cases hy'
      have nTD : T' ≠ D := fun z => by rw [z, ec] at nT; cases nT
      refine ⟨T', _, rfl, .inl (.inl upd_same), rfl, _, _, rfl, _, _, rfl, rfl, rfl, ?_⟩
      refine ⟨_, rfl, _, rfl, _, _, rfl, rfl, by show 1 + 1 ≤ sizeLine; decide, ?_⟩
      refine ⟨A, mS [48 + u, 48 + v], .str (mS [ltr u v]), rfl, by show V.str (mS [48 + u] ++ mS [48 + v]) = _; rw [e_two], T.at_ u v hu hv, _, (upd_ne nTD.symm).trans ec, ?_, ?_, ?_⟩
      · rw [List.length_take]
        exact Nat.lt_of_le_of_lt (by omega : _ ≤ 300) (by decide)
      · intro c o q'
        rw [upd_ne (ne_of_none q' nD), upd_ne (ne_of_none (sc _ _ q') nT)]
        exact sc _ _ q'
      · rw [upd_same]
        unfold sgs
        rw [← List.map_take, ← List.map_take, ← List.map_take, ← List.map_take, g3, List.map_append, List.map_append]
        rfl
    · rintro Hc ⟨sc, ec⟩
      have el : ((sgs (LO n b)).map V.str).length = n := by rw [List.length_map, sgs, List.length_map, LO_len]
      rw [txB_len, List.take_of_length_le (by rw [el]; exact Nat.le_refl _)] at ec
      refine ⟨_, D, sgs (LO n b), rfl, rfl, .inl (SqL.of ec), ?_, ?_⟩
      · rw [sgs_len, LO_len, show ("" : Str).length = 0 from by decide +kernel]
        omega
      · rw [join_sgs]
        exact q _ sc
end
section
variable {P : Program} {w : World} {K : PySem.W.Frag} {mg : Str → Option Value} {base : Heap}
theorem ok_from {f C CT fI fE fC fB hA : Addr} {fd dI dC dB : FuncData} (F : Fun K "string_from" "string_from" sFrom f fd) (N : PCl K mg C fI fE) (FI : Fun K "__init__" "Pauli.__init__" sInit fI dI) (bI : Binds K dI ["self", "text"] [])
    (FC : Fun K "_cut_text" "_cut_text" sCut fC dC) (bC : Binds K dC ["text"] []) (gC : mg "_cut_text" = some (.ref fC)) (TT : BT K mg CT fB dB) (hd : Hd4 K mg hA) (B : Bl mg) : FnOk P w K mg base (L2.CX P w) 6 f fd ["letters", "phase"] (spFrom C) := by
  have GI : FnOk P w K mg base (L2.CX P w) 4 fI dI ["self", "text"] (spInit C CT) := ok_init FI N FC bC gC TT hd B
  refine F.okX scFrom (fun vs H Q E h => ?_) (fun cdv A' outer s H vs Q E hr h => ?_)
  · obtain ⟨R, i, rfl, _⟩ := h
    rfl
  · obtain ⟨R, i, rfl, hR, h0, hl, q⟩ := h
    refine ⟨_, pss_one (ps_ret (pe_make N.mkf GI hr (by rfl) N.g bI .nil (passes_call (takes_of rfl rfl rfl rfl) (fun _ _ _ _ h => h)) (pa_cons (pe_op op_add_str (pe_ix ix_tup (pe_glob (v := .ref hA) (by rfl) hd.g rfl) (pe_op op_mod (pv 1) pe_int) (fun _ _ => rfl)) (pv 0)) pa_nil))), ?_⟩
    have hq4 : (i % 4).toNat < 4 := by omega
    have lh := headL_le hq4
    obtain ⟨u1, u2, u3⟩ := own_read hR h0 hq4
    refine ⟨_, rfl, _, _, rfl, rfl, by show (0 : Int) < 4; decide, hA, _, _, .str (mS (headL (i % 4).toNat)), rfl, rfl, hd.sq _, ?_, ?_⟩
    · have z : i % 4 = (((i % 4).toNat : Nat) : Int) := by omega
      rw [z]
      exact atI_nat (by rw [List.getElem?_map, head_at hq4]; rfl)
    refine ⟨_, rfl, _, _, rfl, rfl, ?_, fun x dx' nx nd ne => ?_⟩
    · rw [mS_len, mS_len]
      exact Nat.le_trans (by omega : _ ≤ 302) (by decide)
    refine ⟨x, dx', .str (mS (headL (i % 4).toNat ++ R)), by rw [← mS_app]; rfl, upd_same, .inl ⟨_, rfl, by rw [List.length_append]; omega, .inl ⟨u3, fun H' PX k => ⟨rfl, ?_⟩⟩⟩⟩
    rw [u1, u2] at PX
    exact q H' x (made_same nx nd k) PX
theorem ok_sof {f fL fS fH C CT fI fE fC fB hA lA : Addr} {fd dL dS dH dI dC dB : FuncData} (F : Fun K "string_of" "string_of" sSof f fd) (FS : Fun K "string_from" "string_from" sFrom fS dS) (bS : Binds K dS ["letters", "phase"] []) (gS : mg "string_from" = some (.ref fS))
    (FL : Fun K "letters_of" "letters_of" sLof fL dL) (bL : Binds K dL ["size", "bits"] []) (gL : mg "letters_of" = some (.ref fL)) (FH : Fun K "second_half" "second_half" sHalf fH dH) (bH : Binds K dH ["size", "bits"] []) (gH : mg "second_half" = some (.ref fH))
    (N : PCl K mg C fI fE) (FI : Fun K "__init__" "Pauli.__init__" sInit fI dI) (bI : Binds K dI ["self", "text"] [])
    (FC : Fun K "_cut_text" "_cut_text" sCut fC dC) (bC : Binds K dC ["text"] []) (gC : mg "_cut_text" = some (.ref fC)) (TT : BT K mg CT fB dB) (hd : Hd4 K mg hA) (T : Lets K w mg lA) (mz : mg "zip" = none) (B : Bl mg) :
    FnOk P w K mg base (L2.CX P w) 7 f fd ["size", "held"] (spSof C) := by
  have GS : FnOk P w K mg base (L2.CX P w) 6 fS dS ["letters", "phase"] (spFrom C) := ok_from FS N FI bI FC bC gC TT hd B
  have GL : FnOk P w K mg base CX0 6 fL dL ["size", "bits"] spLof := ok_lof FL FH bH gH T mz
  refine F.okX scSof (fun vs H Q E h => ?_) (fun cdv A' outer s H vs Q E hr h => ?_)
  · obtain ⟨n, a, h, rfl, _⟩ := h
    rfl
  · obtain ⟨n, a, h, rfl, hA, n1, hn, hb, q⟩ := h
    refine ⟨_, C8.pss_cut (ps_asg (pv 1) (pg_tup rfl (pgs_cons (pg_name (i := 2) scSof.nd rfl (.inl rfl)) (pgs_cons (pg_name (i := 3) scSof.nd rfl (.inl rfl)) pgs_nil))))
      (C8.pss_cut (ps_set (i := 4) scSof.nd rfl (.inl rfl) (pe_call GL hr (by rfl) gL FL.kp bL .nil pass0 (pa_cons (pv 0) (pa_cons (pv 2) pa_nil))))
      (pss_one (ps_ret (pe_call GS hr (by rfl) gS FS.kp bS .nil (passes_call (takes_of rfl rfl rfl rfl) (fun _ _ _ _ h => h)) (pa_cons (pv 4) (pa_cons (pe_op op_sub (pv 3) (pe_bm PySem.F.plainAttrs_str PySem.F.slot_str_count PySem.F.type_str_count mt_count (pv 4) (pa_cons pe_str pa_nil))) pa_nil)))))), ?_⟩
    refine ⟨fun σ' H' => σ' = [some (.int (n : Nat)), some (.ref a), some (.int (h.1 : Nat)), some (.int (h.2 : Nat)), none] ∧ H' = H, ⟨_, rfl, _, _, rfl, .inl (.inl hA), rfl, _, _, rfl, _, _, rfl, rfl, rfl, rfl⟩, ?_⟩
    rintro _ H1 ⟨rfl, rfl⟩
    refine ⟨fun σ' H' => σ' = [some (.int (n : Nat)), some (.ref a), some (.int (h.1 : Nat)), some (.int (h.2 : Nat)), some (.str (mS (LO n h.1)))] ∧ Same H1 H', ?_, ?_⟩
    · exact ⟨_, rfl, _, rfl, n, h.1, rfl, n1, hn, hb, fun H' s' => ⟨rfl, s'⟩⟩
    rintro _ H2 ⟨rfl, s2⟩
    have ec : Txt.count (mS (LO n h.1)) ("Y" : Str) = (((LO n h.1).count 89 : Nat) : Int) := by
      rw [e_Y]
      exact (PyProof.Rows.count_is _ _).trans (cnt_count 89 _)
    refine ⟨_, rfl, _, rfl, _, rfl, rfl, _, _, rfl, rfl, _, _, rfl, rfl, LO n h.1, (h.2 : Int) - (((LO n h.1).count 89 : Nat) : Int), ?_, LO_isL _ _, ?_, by rw [LO_len]; exact hn, fun H' x s' PX => q H' x (s2.trans s') PX⟩
    · rw [← ec]
      rfl
    · intro z
      have := congrArg List.length z
      rw [LO_len] at this
      simp at this
      omega
end
end KQ
namespace KQ
open PySem PySem.Spec PyProof.Rows L2
def RzX (C : Addr) (fs : List (Str × V)) (H : Hp) (E : XK) : Prop := ∀ d H', Same H H' → H' d = some (.xd fs) → E (.ref C) (some d) H'
def spInit1 (C : Addr) (f1 : Str) : Sp := fun vs H Q _ => ∃ (a : Addr) (y0 : V), vs = [.ref a, y0] ∧ H a = some (exo a C none) ∧
  ∀ H' d, H d = none → d ≠ a → H' a = some (exo a C (some d)) → H' d = some (exd d [(f1, y0)]) → (∀ b o, H b = some o → b ≠ a → H' b = some o) → Q .non H'
structure EX2 (K : PySem.W.Frag) (mg : Str → Option Value) (cls q f1 f2 : Str) (st : Stmt) (C fB : Addr) (dB : FuncData) : Prop where
  ox : OexC K C
  ic : PySem.W.findIn K (.ref C) "__init__" = some (some (.ref fB))
  ti : PySem.W.typeIn K (.ref fB) = some (.type "function")
  n0 : PySem.W.findIn K (.ref C) f1 = some none
  n1 : PySem.W.findIn K (.ref C) f2 = some none
  g : mg cls = some (.ref C)
  F : Fun K "__init__" q st fB dB
  b : Binds K dB ["self", f1, f2] []
structure EX1 (K : PySem.W.Frag) (mg : Str → Option Value) (cls q f1 : Str) (st : Stmt) (C fB : Addr) (dB : FuncData) : Prop where
  ox : OexC K C
  ic : PySem.W.findIn K (.ref C) "__init__" = some (some (.ref fB))
  ti : PySem.W.typeIn K (.ref fB) = some (.type "function")
  n0 : PySem.W.findIn K (.ref C) f1 = some none
  g : mg cls = some (.ref C)
  F : Fun K "__init__" q st fB dB
  b : Binds K dB ["self", f1] []
theorem raise1 {C : Addr} {f1 : Str} {y0 : V} {H : Hp} {W : XK} (h : RzX C [(f1, y0)] H W) : ∀ a, H a = none → spInit1 C f1 (.ref a :: ([y0] ++ [])) (upd H a (exo a C none))
    (fun v H2 => v = .non ∧ ∃ (d : Addr) (fs : List (Str × V)), H2 a = some (exo a C (some d)) ∧ H2 d = some (exd d fs) ∧ H d = none ∧ W (.ref C) (some d) (upd (del H2 a) d (.xd fs))) (fun _ _ _ => False) := by
  intro a na
  refine ⟨a, y0, rfl, upd_same, fun H' d nd dne e1 e2 kp => ?_⟩
  have nd' : H d = none := by
    rw [upd_ne dne] at nd
    exact nd
  refine ⟨rfl, d, _, e1, e2, nd', h d _ (fun b o e => ?_) upd_same⟩
  have hba : b ≠ a := ne_of_none e na
  rw [upd_ne (ne_of_none e nd'), del_ne hba]
  exact kp b o (by rw [upd_ne hba]; exact e) hba
abbrev sIBadNumber : Stmt := inClass (topS 8) 0
abbrev sIUnlike : Stmt := inClass (topS 9) 0
theorem scIUnlike : FnScope ["self", "what"] ["self", "what"] (defScope sIUnlike) := ⟨rfl, rfl, rfl, by decide +kernel, rfl, by decide +kernel, by decide +kernel⟩
section
variable {P : Program} {w : World} {K : PySem.W.Frag} {mg : Str → Option Value} {base : Heap}
theorem okIUnlike {C fB : Addr} {dB : FuncData} {k : Nat} (X : EX1 K mg "Unlike" "Unlike.__init__" "what" sIUnlike C fB dB) : FnOk P w K mg base CX0 (k + 1) fB dB ["self", "what"] (spInit1 C "what") := by
  refine X.F.ok scIUnlike (fun vs H Q E h => ?_) (fun cdv A outer s H vs Q E hr h => ?_)
  · obtain ⟨a, y0, rfl, _⟩ := h
    rfl
  · obtain ⟨a, y0, rfl, ha, q⟩ := h
    refine ⟨_, pss_one (ps_ost (pv 0) (pv 1) rfl), ?_⟩
    refine ⟨_, rfl, _, rfl, a, C, rfl, X.ox, X.n0, .inl ⟨ha, fun dx nx dne => ?_⟩⟩
    exact q _ dx nx dne upd_same (by rw [upd_ne dne]; exact upd_same) (fun b o e hb => by rw [upd_ne hb, upd_ne (ne_of_none e nx)]; exact e)
end
end KQ
namespace KQ
open PySem PySem.Spec PyProof.Rows L2
def rSortedPR (K : PySem.W.Frag) : List V → List V → Hp → VK → Prop := fun vs zs H Q => ∃ (a : Addr) (xs : List V) (k : V → Int × Int), vs = [V.ref a] ∧ zs = [.bl true] ∧ SqL K H a xs ∧
  (∀ x ∈ xs, ∃ t, x = V.ref t ∧ H t = some (.tup [.int (k x).1, .int (k x).2])) ∧ ∀ ys p, SrtO.Srtd (ltP k) ys → ys.Perm xs → H p = none → Q (.ref p) (upd H p (.lst ys.reverse))
theorem cr_sortedPR {X : Cx} : CallRK X (.builtin "sorted") [Str.ofString "reverse"] (rSortedPR X.K) := by
  rintro pins s σ H _ _ us ws Q I r rz ⟨a, xs, k, rfl, rfl, hs, hx, q⟩
  obtain ⟨its, rv, hl, hz⟩ := I.list hs
  obtain rfl := Vals.ref1 r
  obtain ⟨w1, rfl, e1⟩ := vals1 rz
  obtain rfl : w1 = Value.bool true := e1
  obtain ⟨f1, f2⟩ := refs_back rv fun x m => let ⟨t, e, _⟩ := hx x m; ⟨t, e⟩
  have pairs : ∀ v ∈ its, Srt.IsPair s.heap v (k (backV v)).1 (k (backV v)).2 := fun v hv => by
    obtain ⟨t, rfl⟩ := f2 v hv
    obtain ⟨t', e, ht⟩ := hx (V.ref t) (f1 ▸ List.mem_map.mpr ⟨_, hv, rfl⟩)
    cases e
    obtain ⟨_, its2, r2, o, ho, hc, n, hd⟩ := I.hok _ _ ht
    obtain ⟨u1, u2, rfl, ⟨t1, rfl⟩, ⟨t2, rfl⟩⟩ := vals2 r2
    exact ⟨t, o, t1, t2, n, rfl, ho, hc, hd⟩
  refine SrtR.sorted_ordK (b := true) (fun _ => rfl) (PyProof.Rows.args_sorted_rev _ _) (fun _ => PyProof.Rows.args_list_sort_rev _ _) (SrtO.swo_lex fun u => k (backV u)) hl.isList (rv.length ▸ hz) (fun h2 h₁ a ha kk => ?_) fun out h1 h2 => ?_
  · refine SrtO.pairs_sortableO (s := { s with heap := h₁ }) (by omega) (fun v hm => (pairs v hm).keeps fun b o e _ => (kk b o e).2) fun o e c => ?_
    cases e.symm.trans ha
    exact absurd (Value.type.inj c) (by decide)
  · have pm : out.Perm its := h2.perm.trans (List.reverse_perm its)
    obtain ⟨n, hn⟩ := PyProof.Rows.sortedAll_at s.heap its out.toArray.reverse
    have back : Vals (out.reverse.map backV) out.reverse := vals_back fun u hu => f2 u (pm.mem_iff.mp (List.mem_reverse.mp hu))
    have pm2 : (out.map backV).Perm xs := f1 ▸ pm.map backV
    have len : (out.reverse.map backV).length ≤ sizeLine := by
      rw [List.length_map, List.length_reverse, pm.length_eq, ← rv.length]
      exact hz
    refine ⟨.ref (s.heap.objs.size + 1), upd H (s.heap.objs.size + 1) (.lst (out.reverse.map backV)), I.laid (t' := s.toks) (fun _ _ => PyProof.Rows.sortedAll_old) (Nat.le_succ _) ⟨len, out.reverse, n, back, ?_⟩, rfl, ?_⟩
    · rw [← List.reverse_toArray]
      exact hn
    · have := q (out.map backV) (s.heap.objs.size + 1) (SrtO.srtd_map h1) pm2 (I.hok.fresh (Nat.le_succ _))
      rwa [← List.map_reverse] at this
end KQ
namespace KQ
open PySem PySem.Spec PyProof.Rows L2
abbrev sChk : Stmt := topS 35
abbrev sLowG : Stmt := topS 37
theorem scChk : FnScope ["size", "rows", "index", "bits", "crossed"] ["size", "rows"] (defScope sChk) := ⟨rfl, rfl, rfl, by decide +kernel, rfl, by decide +kernel, by decide +kernel⟩
theorem scLowG : FnScope ["size", "held", "table", "row"] ["size", "held", "table"] (defScope sLowG) := ⟨rfl, rfl, rfl, by decide +kernel, rfl, by decide +kernel, by decide +kernel⟩
theorem cutV_to (xs : List V) (k : Nat) : cutV xs none (some (k : Int)) = xs.take k := by
  unfold cutV
  rw [HT.sIx_none, HT.sIx_nat, List.drop_zero, Nat.sub_zero]
  by_cases h : k ≤ xs.length
  · rw [Nat.min_eq_left h]
  · rw [Nat.min_eq_right (by omega), List.take_of_length_le (Nat.le_refl _), List.take_of_length_le (by omega)]
section
variable {X : Cx}
theorem flat_ints (ys : List Int) : (ys.map V.int).all flatV = true := by
  rw [List.all_map]
  exact List.all_eq_true.mpr fun _ _ => rfl
end
theorem at_pair0 (a b : V) : atI [a, b] 0 = some a := at_of (j := 0) rfl rfl
theorem at_pair1 (a b : V) : atI [a, b] 1 = some b := at_of (j := 1) rfl rfl
abbrev GLs := List (Addr × Hl)
def HlsAt (H : Hp) (L : GLs) : Prop := ∀ p ∈ L, HlAt H p.1 p.2
def refH (L : GLs) : List V := L.map fun p => V.ref p.1
def hls (L : GLs) : List Hl := L.map (·.2)
theorem HlsAt.same {H H' : Hp} {L : GLs} (s : Same H H') (h : HlsAt H L) : HlsAt H' L := fun p hp => s _ _ (h p hp)
theorem refH_at {L : GLs} {i : Nat} {v : V} (h : (refH L)[i]? = some v) : ∃ p, L[i]? = some p ∧ v = .ref p.1 := by
  unfold refH at h
  rw [List.getElem?_map] at h
  obtain ⟨p, hp, rfl⟩ := Option.map_eq_some_iff.mp h
  exact ⟨p, hp, rfl⟩
theorem rsH_lt {n B : Nat} : ∀ {T : List Hl} {h : Hl}, h.1 < 2 ^ B → (∀ r ∈ T, r.1 < 2 ^ B) → (rsH n T h).1 < 2 ^ B
  | [], h, hh, _ => hh
  | r :: T, h, hh, hT => by
    refine rsH_lt (T := T) (h := lwH n h r) ?_ fun q hq => hT q (List.mem_cons_of_mem _ hq)
    unfold lwH
    split
    · exact Nat.xor_lt_two_pow hh (hT r (List.mem_cons_self ..))
    · exact hh
def spLowG (K : PySem.W.Frag) : Sp := fun vs H Q _ => ∃ (n : Nat) (a t : Addr) (h : Hl) (L : GLs), vs = [.int (n : Nat), .ref a, .ref t] ∧ HlAt H a h ∧ SqL K H t (refH L) ∧ HlsAt H L ∧ h.1 < 2 ^ 1000 ∧ (∀ p ∈ L, p.2.1 < 2 ^ 1000) ∧ n ≤ 1000 ∧
  ∀ H' x, Same H H' → HlAt H' x (rsH n (hls L) h) → Q (.ref x) H'
section
variable {P : Program} {w : World} {K : PySem.W.Frag} {mg : Str → Option Value} {base : Heap}
theorem ok_lowG {f fM fP : Addr} {fd dM dP : FuncData} {k : Nat} (F : Fun K "_lowered" "_lowered" sLowG f fd) (FM : Fun K "held_product" "held_product" sHprod fM dM) (bM : Binds K dM ["size", "one", "other"] []) (gM : mg "held_product" = some (.ref fM))
    (FP : Fun K "parity" "parity" sPar fP dP) (bP : Binds K dP ["number"] []) (gP : mg "parity" = some (.ref fP)) : FnOk P w K mg base CX0 (k + 3) f fd ["size", "held", "table"] (spLowG K) := by
  have GM : FnOk P w K mg base CX0 (k + 2) fM dM ["size", "one", "other"] spHprod := ok_hprod FM FP bP gP
  refine F.ok scLowG (fun vs H Q E h => ?_) (fun cdv A outer s H vs Q E hr h => ?_)
  · obtain ⟨n, a, t, h, L, rfl, _⟩ := h
    rfl
  · obtain ⟨n, a, t, h, L, rfl, hA, hS, hL, hb, hbL, hn, q⟩ := h
    refine ⟨_, C8.pss_cut (ps_for PassesOwn.never rfl (pi_list (pv 2)) (pg_name (i := 3) scLowG.nd rfl (.inl rfl))
        (pss_one (ps_if (pt_cmpR op_lt (pe_op op_xor (pe_ix ix_tup (pv 1) pe_int (fun _ _ => rfl)) (pe_ix ix_tup (pv 3) pe_int (fun _ _ => rfl))) (pe_ix ix_tup (pv 1) pe_int (fun _ _ => rfl)) (nomark _))
          (pss_one (ps_set (i := 1) scLowG.nd rfl (.inl rfl) (pe_call GM hr (by rfl) gM FM.kp bM .nil pass0 (pa_cons (pv 0) (pa_cons (pv 1) (pa_cons (pv 3) pa_nil)))))) pss_nil)))
      (pss_one (ps_ret (pv 1))), ?_⟩
    refine ⟨fun σ' H' => ∃ (x : Addr) (v : Option V), σ' = [some (.int (n : Nat)), some (.ref x), some (.ref t), v] ∧ Same H H' ∧ HlAt H' x (rsH n (hls L) h), ?_, ?_⟩
    · refine ⟨_, rfl, t, rfl, ⟨_, hS⟩, for_list (K := K) (a := t) (xs := refH L) (fun i σ H' => ∃ (x : Addr) (v : Option V), σ = [some (.int (n : Nat)), some (.ref x), some (.ref t), v] ∧ Same H H' ∧ HlAt H' x (rsH n (hls (L.take i)) h))
        ⟨a, none, rfl, fun _ _ e => e, hA⟩ (fun i σ H' _ ⟨_, _, _, s1, _⟩ => Same.seq s1 hS) ?_ ?_⟩
      · rintro i y σ H' hi ⟨x, v, rfl, s1, hx⟩
        obtain ⟨p, hp, rfl⟩ := refH_at hi
        have hm := List.mem_of_getElem? hp
        have hy := hL.same s1 p hm
        have lt : (rsH n (hls (L.take i)) h).1 < 2 ^ 1000 := rsH_lt hb fun r hr => by
          obtain ⟨q', hq', rfl⟩ := List.mem_map.mp hr
          exact hbL q' (List.mem_of_mem_take hq')
        have e : rsH n (hls (L.take (i + 1))) h = lwH n (rsH n (hls (L.take i)) h) p.2 := by
          rw [take_snoc hp]
          unfold hls rsH
          rw [List.map_append, List.foldl_append]
          rfl
        rw [e]
        generalize rsH n (hls (L.take i)) h = g at hx lt
        refine ⟨_, rfl, x, _, _, _, rfl, rfl, .inl (.inl hx), at_pair0 _ _, _, rfl, p.1, _, _, _, rfl, rfl, .inl (.inl hy), at_pair0 _ _, _, _, rfl, rfl, _, rfl, x, _, _, _, rfl, rfl, .inl (.inl hx), at_pair0 _ _, _, _, rfl, rfl, _, rfl, ?_⟩
        rw [bxor]
        unfold lwH
        by_cases c : g.1 ^^^ p.2.1 < g.1
        · rw [decide_eq_true (by omega), if_pos c]
          exact iteT ⟨_, rfl, _, rfl, _, rfl, n, x, p.1, g, p.2, rfl, hx, hy, lt, hn, fun H2 z s2 _ hz => ⟨z, _, rfl, s1.trans s2, hz⟩⟩
        · rw [decide_eq_false (by omega), if_neg c]
          exact iteF ⟨x, _, rfl, s1, hx⟩
      · rintro σ H' ⟨x, v, rfl, s1, hx⟩
        rw [List.take_of_length_le (by unfold refH; rw [List.length_map]; exact Nat.le_refl _)] at hx
        exact ⟨x, v, rfl, s1, hx⟩
    rintro _ H1 ⟨x, v, rfl, s1, hx⟩
    exact ⟨_, rfl, q _ x s1 hx⟩
end
end KQ
namespace KQ
open PySem PySem.Spec PyProof.Rows L2
/-- do the rows i and j meet oddly -/
def xg (n : Nat) (bs : List Nat) (i j : Nat) : Nat := pc (ex n (bs.getD j 0) &&& bs.getD i 0) % 2
theorem inV_one : ∀ cl : List Nat, inV (.int 1) (natV cl) = decide (1 ∈ cl)
  | [] => rfl
  | b :: cl => by
    show (((b : Int) == 1) || inV (.int 1) (natV cl)) = _
    rw [inV_one cl]
    by_cases h : b = 1
    · subst h
      simp
    · have e : ((b : Int) == 1) = false := beq_eq_false_iff_ne.mpr (by omega)
      rw [e, Bool.false_or]
      congr 1
      simp [List.mem_cons, Ne.symm h]
theorem first_at : ∀ {l : List Nat}, 1 ∈ l → ∃ i : Nat, l[i]? = some 1 ∧ ∀ m : Nat, m < i → l[m]? ≠ some 1
  | [], h => by cases h
  | b :: l, h => by
    by_cases e : b = 1
    · exact ⟨0, by rw [e]; rfl, fun m hm => by omega⟩
    · obtain ⟨i, h1, h2⟩ := first_at (l := l) (by
        rcases List.mem_cons.mp h with q | q
        · exact absurd q.symm e
        · exact q)
      refine ⟨i + 1, h1, fun m hm => ?_⟩
      cases m with
      | zero => exact fun z => e (Option.some.inj z)
      | succ m => exact h2 m (by omega)
def spChk (K : PySem.W.Frag) : Sp := fun vs H Q _ => ∃ (n : Nat) (t : Addr) (bs : List Nat), vs = [.int (n : Nat), .ref t] ∧ SqL K H t (natV bs) ∧ n ≤ 300 ∧ bs.length ≤ 100 ∧ (∀ b ∈ bs, b < 2 ^ (2 * n)) ∧
  (∀ i j, i < j → j < bs.length → xg n bs i j = 0) ∧ ∀ H', Same H H' → Q .non H'
section
variable {P : Program} {w : World} {K : PySem.W.Frag} {mg : Str → Option Value} {base : Heap}
theorem ok_chk {f fX fT fH fP : Addr} {fd dX dT dH dP : FuncData} (F : Fun K "_check_commuting" "_check_commuting" sChk f fd) (FX : Fun K "crossing" "crossing" sCrossg fX dX) (bX : Binds K dX ["size", "bits", "others"] []) (gX : mg "crossing" = some (.ref fX))
    (FT : Fun K "bit_tuple" "bit_tuple" sBits fT dT) (bT : Binds K dT ["number", "many"] []) (gT : mg "bit_tuple" = some (.ref fT))
    (FH : Fun K "second_half" "second_half" sHalf fH dH) (bH : Binds K dH ["size", "bits"] []) (gH : mg "second_half" = some (.ref fH))
    (FP : Fun K "parity" "parity" sPar fP dP) (bP : Binds K dP ["number"] []) (gP : mg "parity" = some (.ref fP)) (B : Bl mg) : FnOk P w K mg base (L2.CX P w) 4 f fd ["size", "rows"] (spChk K) := by
  have GX : FnOk P w K mg base CX0 3 fX dX ["size", "bits", "others"] (spCrossg K) := ok_crossg FX FH bH gH FP bP gP
  have GT : FnOk P w K mg base CX0 3 fT dT ["number", "many"] spBits := ok_bits FT B
  refine F.okX scChk (fun vs H Q E h => ?_) (fun cdv A outer s H vs Q E hr h => ?_)
  · obtain ⟨n, t, bs, rfl, _⟩ := h
    rfl
  · obtain ⟨n, t, bs, rfl, hS, hn, hl, hb, qz, q0⟩ := h
    refine ⟨_, C8.pss_cut (ps_for (passes_of rfl) rfl (pi_enum (by rfl) B.enum (pa_cons (pv 1) pa_nil)) (pg_tup rfl (pgs_cons (pg_name (i := 2) scChk.nd rfl (.inl rfl)) (pgs_cons (pg_name (i := 3) scChk.nd rfl (.inl rfl)) pgs_nil)))
        (C8.pss_cut (ps_set (i := 4) scChk.nd rfl (.inl rfl) (pe_call GT hr (by rfl) gT FT.kp bT .nil pass0 (pa_cons (pe_call GX hr (by rfl) gX FX.kp bX .nil pass0 (pa_cons (pv 0) (pa_cons (pv 3) (pa_cons (pe_slice sl_list (pv 1) po_none (po_some (pv 2))) pa_nil)))) (pa_cons (pv 2) pa_nil))))
        (pss_one (ps_if (pt_cmpR op_in_seq pe_int (pv 4) (by rfl))
          pss_never pss_nil))))
      pss_nil, ?_⟩
    refine ⟨fun σ' H' => (∃ v2 v3 v4 : Option V, σ' = [some (.int (n : Nat)), some (.ref t), v2, v3, v4]) ∧ Same H H' ∧ ∀ i j, i < j → j < bs.length → xg n bs i j = 0, ?_, ?_⟩
    · refine ⟨_, rfl, t, _, rfl, hS, L2.for_it (walk_enum (K := K) (a := t) (xs := natV bs)) (fun i σ H' => (∃ v2 v3 v4 : Option V, σ = [some (.int (n : Nat)), some (.ref t), v2, v3, v4]) ∧ Same H H' ∧ ∀ i' j', i' < j' → j' < i → xg n bs i' j' = 0)
        ⟨⟨none, none, none, rfl⟩, fun _ _ e => e, fun i j h1 h2 => by omega⟩ (fun i σ H' _ ⟨_, s1, _⟩ => Same.seq s1 hS) ?_ ?_⟩
      · rintro j x _ H2 H3 hj ⟨⟨v2, v3, v4, rfl⟩, s1, hz⟩ ⟨T, x1, x2, rfl, nT, rfl, g1, g2⟩
        cases Option.some.inj g1
        obtain ⟨b, hb', rfl⟩ := natV_at g2
        have hjl : j < bs.length := (List.getElem?_eq_some_iff.mp hb').1
        have s3 := s1.trans (same_new (o := .tup [.int (j : Nat), .int (b : Nat)]) nT)
        have eT : (upd H2 T (.tup [.int (j : Nat), .int (b : Nat)])) T = some (.tup [.int (j : Nat), .int (b : Nat)]) := upd_same
        generalize upd H2 T (.tup [.int (j : Nat), .int (b : Nat)]) = H3 at s3 eT ⊢
        refine ⟨T, _, rfl, .inl (.inl eT), rfl, _, _, rfl, _, _, rfl, rfl, ?_⟩
        have gb : bs.getD j 0 = b := by rw [List.getD_eq_getElem?_getD, hb']; rfl
        have tl : (bs.take j).length = j := by rw [List.length_take]; omega
        let cl := (bs.take j).map fun o => pc (ex n b &&& o) % 2
        have cll : cl.length = j := by rw [List.length_map, tl]
        have clb : ∀ c ∈ cl, c < 2 := fun c hc => by
          obtain ⟨o, _, rfl⟩ := List.mem_map.mp hc
          exact Nat.mod_lt _ (by decide)
        have cat : ∀ i, i < j → cl[i]? = some (xg n bs i j) := fun i hi => by
          have e : bs[i]? = some (bs.getD i 0) := by rw [List.getD_eq_getElem?_getD, List.getElem?_eq_getElem (by omega : i < bs.length)]; rfl
          show ((bs.take j).map fun o => pc (ex n b &&& o) % 2)[i]? = _
          rw [List.getElem?_map, List.getElem?_take_of_lt hi, e]
          unfold xg
          rw [gb]
          rfl
        have ecl : rowV j (nb 0 cl) = natV cl := by
          have := row_nb cl clb
          rw [cll] at this
          unfold rowV natV
          rw [this]
        refine ⟨fun σ' H' => ∃ p, σ' = [some (.int (n : Nat)), some (.ref t), some (.int (j : Nat)), some (.int (b : Nat)), some (.ref p)] ∧ Same H H' ∧ FzT H' p (natV cl), ?_, ?_⟩
        · refine ⟨_, rfl, _, rfl, _, rfl, _, rfl, _, rfl, t, _, rfl, Same.seq s3 hS, fun p np => ?_⟩
          refine ⟨n, b, p, bs.take j, rfl, ?_, hn, hb b (List.mem_of_getElem? hb'), _, rfl, nb 0 cl, j, rfl, by omega, fun p' H' s4 _ fz => ⟨p', rfl, ?_, ecl ▸ fz⟩⟩
          · rw [cutV_to]
            unfold natV
            rw [List.map_take]
            exact .inl (SqL.of upd_same)
          · exact (s3.trans (same_new np)).trans s4
        rintro _ H4 ⟨p, rfl, s4, fz⟩
        obtain ⟨o, o1, o2, o3⟩ := id fz
        refine ⟨_, rfl, p, natV cl, rfl, .inr (TupIs.sq (.inr fz)), rfl, ?_, ?_⟩
        · rw [natV_int]
          exact flat_ints _
        refine ⟨decide (1 ∈ cl), by show V.bl (inV (.int 1) (natV cl)) = _; rw [inV_one], ?_⟩
        have h1 : ¬ 1 ∈ cl := fun h1 => by
          obtain ⟨i, hi, _⟩ := first_at h1
          have il : i < j := by
            have := (List.getElem?_eq_some_iff.mp hi).1
            omega
          rw [cat i il, qz i j il hjl] at hi
          cases hi
        rw [decide_eq_false h1]
        · refine iteF ⟨⟨_, _, _, rfl⟩, s4, fun i' j' h h' => ?_⟩
          by_cases e : j' < j
          · exact hz i' j' h e
          · have ej : j' = j := by omega
            subst ej
            exact qz i' j' h hjl
      · rintro σ H2 ⟨hv, s1, hz⟩
        rw [natV_len] at hz
        exact ⟨hv, s1, hz⟩
    rintro _ H1 ⟨⟨v2, v3, v4, rfl⟩, s1, hz⟩
    exact q0 _ s1
end
end KQ
namespace KQ
open PySem PySem.Spec PyProof.Rows L2
/-- the numbers of the kept ones among the given -/
def kb (gs : List Hl) (ks : List Nat) : List Nat := ks.map fun k => (gs.getD k (0, 0)).1
theorem atI_ref {L : GLs} {i : Nat} (h : i < L.length) : ∃ p, L[i]? = some p ∧ atI (refH L) (i : Nat) = some (.ref p.1) ∧ (hls L).getD i (0, 0) = p.2 := by
  have e : L[i]? = some L[i] := List.getElem?_eq_getElem h
  refine ⟨L[i], e, atI_nat (by unfold refH; rw [List.getElem?_map, e]; rfl), ?_⟩
  unfold hls
  rw [List.getD_eq_getElem?_getD, List.getElem?_map, e]
  rfl
end KQ
namespace KQ
open PySem PySem.Spec PyProof.Rows L2
/-- is x one of the sums of the numbers -/
def inSp (ns : List Nat) (x : Nat) : Bool := (List.range (2 ^ ns.length)).any fun m => sx ns m == x
theorem inSp_iff {ns : List Nat} {x : Nat} : inSp ns x = true ↔ ∃ m, m < 2 ^ ns.length ∧ sx ns m = x := by
  unfold inSp
  rw [List.any_eq_true]
  constructor
  · rintro ⟨m, hm, e⟩
    exact ⟨m, List.mem_range.mp hm, eq_of_beq e⟩
  · rintro ⟨m, hm, e⟩
    exact ⟨m, List.mem_range.mpr hm, beq_iff_eq.mpr e⟩
theorem inSp_spn {ns : List Nat} {x : Nat} : inSp ns x = true ↔ Spn ns x := by
  rw [inSp_iff]
  constructor
  · rintro ⟨m, _, rfl⟩
    exact sx_spn ns m
  · intro h
    refine h (fun x => ∃ m, m < 2 ^ ns.length ∧ sx ns m = x) ⟨⟨0, Nat.two_pow_pos _, sx_zero ns⟩, ?_⟩ ?_
    · rintro x y ⟨m, hm, rfl⟩ ⟨m', hm', rfl⟩
      exact ⟨m ^^^ m', Nat.xor_lt_two_pow hm hm', sx_lin ns m m'⟩
    · intro a ha
      obtain ⟨i, hi, e⟩ := List.getElem_of_mem ha
      refine ⟨2 ^ i, Nat.pow_lt_pow_right (by decide) hi, ?_⟩
      rw [sx_pow hi, List.getD_eq_getElem?_getD, List.getElem?_eq_getElem hi, ← e]
      rfl
def hsK (gs : List Hl) (ks : List Nat) : List Hl := ks.map (gs.getD · (0, 0))
theorem hsK_fst (gs : List Hl) (ks : List Nat) : (hsK gs ks).map Prod.fst = kb gs ks := by
  unfold hsK kb
  rw [List.map_map]
  rfl
theorem hsK_len (gs : List Hl) (ks : List Nat) : (hsK gs ks).length = ks.length := List.length_map ..
theorem kb_len (gs : List Hl) (ks : List Nat) : (kb gs ks).length = ks.length := List.length_map ..
/-- the indices of the kept ones among the first i -/
def keptL (gs : List Hl) : Nat → List Nat
  | 0 => []
  | i + 1 => if inSp (kb gs (keptL gs i)) (gs.getD i (0, 0)).1 = true then keptL gs i else keptL gs i ++ [i]
theorem keptL_lt (gs : List Hl) : ∀ (i : Nat), ∀ k ∈ keptL gs i, k < i
  | 0, k, h => by cases h
  | i + 1, k, h => by
    unfold keptL at h
    split at h
    · exact Nat.lt_succ_of_lt (keptL_lt gs i k h)
    · rcases List.mem_append.mp h with q | q
      · exact Nat.lt_succ_of_lt (keptL_lt gs i k q)
      · rw [List.mem_singleton.mp q]
        exact Nat.lt_succ_self i
theorem keptL_len (gs : List Hl) : ∀ i, (keptL gs i).length ≤ i
  | 0 => Nat.le_refl _
  | i + 1 => by
    have := keptL_len gs i
    unfold keptL
    split
    · omega
    · rw [List.length_append, List.length_singleton]
      omega
/-- the i-th is not -1 times a product of kept ones ahead of it -/
def Good (n : Nat) (gs : List Hl) (i : Nat) : Prop := ∀ mk, mk < 2 ^ (keptL gs i).length → sx (kb gs (keptL gs i)) mk = (gs.getD i (0, 0)).1 → (pr n (hsK gs (keptL gs i)) mk (keptL gs i).length).2 = (gs.getD i (0, 0)).2
/-- what the table of the first i rests on -/
structure RedAt (n : Nat) (gs : List Hl) (i : Nat) (T : List Hl) : Prop where
  tab : TabG n (hsK gs (keptL gs i)) T
  ind : Indep (kb gs (keptL gs i))
  cs : CS n (hsK gs (keptL gs i))
theorem hsK_mem {gs : List Hl} {ks : List Nat} (h : ∀ k ∈ ks, k < gs.length) : ∀ a ∈ hsK gs ks, a ∈ gs := by
  intro a ha
  obtain ⟨k, hk, rfl⟩ := List.mem_map.mp ha
  exact getD_mem (h k hk)
theorem RedAt.zero (n : Nat) (gs : List Hl) : RedAt n gs 0 [] := ⟨TabG.nil n, fun i x h => (by cases h), ⟨fun a h => (by cases h), fun a h => (by cases h)⟩⟩
theorem RedAt.step {n : Nat} {gs T : List Hl} {i : Nat} (R : RedAt n gs i T) (C : CS n gs) (hi : i < gs.length) :
    ((rsH n T (gs.getD i (0, 0))).1 ≠ 0 → keptL gs (i + 1) = keptL gs i ++ [i] ∧ RedAt n gs (i + 1) (T.map (lwH n · (rsH n T (gs.getD i (0, 0)))) ++ [rsH n T (gs.getD i (0, 0))]) ∧ Good n gs i) ∧
    ((rsH n T (gs.getD i (0, 0))).1 = 0 → keptL gs (i + 1) = keptL gs i ∧ RedAt n gs (i + 1) T ∧ Spn (kb gs (keptL gs i)) (gs.getD i (0, 0)).1 ∧ ((rsH n T (gs.getD i (0, 0))).2 = 0 ↔ Good n gs i)) := by
  have hm := getD_mem hi
  have lt : ∀ k ∈ keptL gs i, k < gs.length := fun k hk => Nat.lt_trans (keptL_lt gs i k hk) hi
  have cg : ∀ a ∈ hsK gs (keptL gs i), Com n (gs.getD i (0, 0)) a := fun a ha => C.com _ hm a (hsK_mem lt a ha)
  have hg := C.sg _ hm
  have out := R.tab.out (g := gs.getD i (0, 0))
  rw [hsK_fst] at out
  refine ⟨fun v0 => ?_, fun v0 => ?_⟩
  · have ns : ¬ Spn (kb gs (keptL gs i)) (gs.getD i (0, 0)).1 := fun z => v0 (out.mpr z)
    have nb : ¬ inSp (kb gs (keptL gs i)) (gs.getD i (0, 0)).1 = true := fun z => ns (inSp_spn.mp z)
    have ek : keptL gs (i + 1) = keptL gs i ++ [i] := by
      show (if _ then _ else _) = _
      rw [if_neg nb]
    have eh : hsK gs (keptL gs (i + 1)) = hsK gs (keptL gs i) ++ [gs.getD i (0, 0)] := by
      rw [ek]
      unfold hsK
      rw [List.map_append]
      rfl
    have eb : kb gs (keptL gs (i + 1)) = kb gs (keptL gs i) ++ [(gs.getD i (0, 0)).1] := by
      rw [ek]
      unfold kb
      rw [List.map_append]
      rfl
    refine ⟨ek, ⟨?_, ?_, ?_⟩, fun mk hm' e => absurd (inSp_iff.mpr ⟨mk, by rw [kb_len]; exact hm', e⟩) nb⟩
    · rw [eh]
      exact R.tab.add R.cs hg cg v0
    · rw [eb]
      exact R.ind.snoc ns
    · rw [eh]
      exact R.cs.snoc hg cg
  · have sp := out.mp v0
    have ek : keptL gs (i + 1) = keptL gs i := by
      show (if _ then _ else _) = _
      rw [if_pos (inSp_spn.mpr sp)]
    refine ⟨ek, ?_, sp, ?_⟩
    · exact ⟨ek ▸ R.tab, ek ▸ R.ind, ek ▸ R.cs⟩
    · obtain ⟨m0, l0, e0, iff⟩ := R.tab.hit R.cs hg cg v0
      rw [pr_fst, hsK_fst] at e0
      rw [hsK_len] at l0 iff
      rw [iff]
      constructor
      · intro h mk hmk e
        have : mk = m0 := indep_one R.ind (by rw [kb_len]; exact hmk) (by rw [kb_len]; exact l0) (e.trans e0.symm)
        rw [this]
        exact h
      · exact fun h => h m0 l0 e0
theorem perm_map_inv {α β : Type} {f : α → β} : ∀ {ys : List β} {l : List α}, ys.Perm (l.map f) → ∃ l' : List α, l'.Perm l ∧ ys = l'.map f
  | [], l, h => by
    have : l.map f = [] := List.Perm.eq_nil h.symm
    have : l = [] := List.map_eq_nil_iff.mp this
    subst this
    exact ⟨[], List.Perm.refl _, rfl⟩
  | y :: ys, l, h => by
    obtain ⟨a, ha, rfl⟩ := List.mem_map.mp (h.mem_iff.mp (List.mem_cons_self ..))
    obtain ⟨s, t, rfl⟩ := List.append_of_mem ha
    have h2 : (f a :: ys).Perm (f a :: (s ++ t).map f) := by
      refine h.trans ?_
      rw [List.map_append, List.map_append, List.map_cons]
      exact List.perm_middle
    obtain ⟨l', p', e'⟩ := perm_map_inv (ys := ys) (l := s ++ t) (h2.cons_inv)
    exact ⟨a :: l', (p'.cons a).trans List.perm_middle.symm, by rw [e']; rfl⟩
end KQ
namespace KQ
open PySem PySem.Spec PyProof.Rows L2
abbrev sRedT : Stmt := topS 36
theorem scRedT : FnScope ["size", "given", "table", "kept", "index", "held", "bits", "power", "row"] ["size", "given"] (defScope sRedT) := ⟨rfl, rfl, rfl, by decide +kernel, rfl, by decide +kernel, by decide +kernel⟩
/-- the two numbers of a told pair -/
def kV2 (H : Hp) : V → Int × Int
  | .ref a => match H a with
    | some (.tup [.int i, .int j]) => (i, j)
    | _ => (0, 0)
  | _ => (0, 0)
theorem kV2_at {H : Hp} {a : Addr} {h : Hl} (e : HlAt H a h) : kV2 H (.ref a) = ((h.1 : Int), (h.2 : Int)) := by
  unfold HlAt at e
  simp only [kV2, e]
theorem hls_len (L : GLs) : (hls L).length = L.length := List.length_map ..
theorem refH_len (L : GLs) : (refH L).length = L.length := List.length_map ..
theorem refH_app (L M : GLs) : refH (L ++ M) = refH L ++ refH M := List.map_append ..
theorem hls_app (L M : GLs) : hls (L ++ M) = hls L ++ hls M := List.map_append ..
theorem HlsAt.put {H : Hp} {L : GLs} {D : Addr} {xs : List V} {o : HO} (e : H D = some (.lst xs)) (h : HlsAt H L) : HlsAt (upd H D o) L := fun p hp => by
  have e2 := h p hp
  unfold HlAt at *
  rw [upd_ne fun z => by rw [z, e] at e2; cases e2]
  exact e2
theorem same_put0 {H H' : Hp} {D : Addr} {o : HO} (s : Same H H') (n : H D = none) : Same H (upd H' D o) := fun b u e => by
  rw [upd_ne (ne_of_none e n)]
  exact s _ _ e
theorem off_same {G H : Hp} {t : Addr} (sg : Same H G) (n : G t = none) : H t = none := by
  cases e : H t with
  | none => rfl
  | some o => rw [sg _ _ e] at n; cases n
def spRedT (K : PySem.W.Frag) : Sp := fun vs H Q _ => ∃ (n : Nat) (tg : Addr) (L : GLs), vs = [.int (n : Nat), .ref tg] ∧ SqL K H tg (refH L) ∧ HlsAt H L ∧ L.length ≤ 100 ∧ n ≤ 300 ∧ CS n (hls L) ∧ (∀ p ∈ L, p.2.1 < 2 ^ (2 * n)) ∧
  (∀ i, i < L.length → Good n (hls L) i) ∧ ∀ H' p M T, Same H H' → H' p = some (.tup (refH M)) → HlsAt H' M → (hls M).Perm T → (hls M).Pairwise (fun a b => b.1 ≤ a.1) → RedAt n (hls L) L.length T → (∀ h ∈ T, h.1 < 2 ^ (2 * n)) → M.length ≤ L.length → Q (.ref p) H'
section
variable {P : Program} {w : World} {K : PySem.W.Frag} {mg : Str → Option Value} {base : Heap}
theorem ok_redT {f fG fM fP : Addr} {fd dG dM dP : FuncData} (F : Fun K "_reduced_table" "_reduced_table" sRedT f fd) (FG : Fun K "_lowered" "_lowered" sLowG fG dG) (bG : Binds K dG ["size", "held", "table"] []) (gG : mg "lowered_groups" = some (.ref fG))
    (FM : Fun K "held_product" "held_product" sHprod fM dM) (bM : Binds K dM ["size", "one", "other"] []) (gM : mg "held_product" = some (.ref fM))
    (FP : Fun K "parity" "parity" sPar fP dP) (bP : Binds K dP ["number"] []) (gP : mg "parity" = some (.ref fP)) (B : Bl mg) : FnOk P w K mg base (L2.CX P w) 4 f fd ["size", "given"] (spRedT K) := by
  have GG : FnOk P w K mg base CX0 3 fG dG ["size", "held", "table"] (spLowG K) := ok_lowG FG FM bM gM FP bP gP
  refine F.okX scRedT (fun vs H Q E h => ?_) (fun cdv A outer s H vs Q E hr h => ?_)
  · obtain ⟨n, tg, L, rfl, _⟩ := h
    rfl
  · obtain ⟨n, tg, L, rfl, hS, hL, ln, hn, hC, hb, qg, q0⟩ := h
    refine ⟨_, C8.pss_cut (ps_set (i := 2) scRedT.nd rfl (.inl rfl) (pe_lst pa_nil))
      (C8.pss_cut (ps_set (i := 3) scRedT.nd rfl (.inl rfl) (pe_lst pa_nil))
      (C8.pss_cut (ps_for (passes_of rfl) rfl (pi_enum (by rfl) B.enum (pa_cons (pv 1) pa_nil)) (pg_tup rfl (pgs_cons (pg_name (i := 4) scRedT.nd rfl (.inl rfl)) (pgs_cons (pg_name (i := 5) scRedT.nd rfl (.inl rfl)) pgs_nil)))
        (C8.pss_cut (ps_asg (pe_call GG hr (by rfl) gG FG.kp bG .nil pass0 (pa_cons (pv 0) (pa_cons (pv 5) (pa_cons (pv 2) pa_nil)))) (pg_tup rfl (pgs_cons (pg_name (i := 6) scRedT.nd rfl (.inr rfl)) (pgs_cons (pg_name (i := 7) scRedT.nd rfl (.inr rfl)) pgs_nil))))
        (pss_one (ps_if (pt_truth (pv 6) (by intro _; rfl))
          (C8.pss_cut (ps_setLc (i := 2) (own := [("row", 8)]) (g := gName 8) (by rfl) scRedT.nd rfl rfl (sw_true rfl rfl rfl (by decide +kernel)) (pi_list (pv 2)) (blkOk_by (own := [("row", 8)]) (N := ["size", "given", "table", "kept", "index", "held", "bits", "power", "row"]) (sc := defScope sRedT) (by decide +kernel))
              (fun _ _ _ _ _ => pg_name (i := 8) scRedT.nd rfl (Or.inl rfl)) (fun _ _ _ _ _ => pts_nil) (fun _ _ _ _ _ => pe_call GG hr (by rfl) gG FG.kp bG .nil pass0 (pa_cons (pv 0) (pa_cons (pv 8) (pa_cons (pe_lst (pa_cons (pe_tup (pa_cons (pv 6) (pa_cons (pv 7) pa_nil))) pa_nil)) pa_nil)))))
          (C8.pss_cut (ps_expr (pe_bm PySem.F.plainAttrs_list PySem.F.slot_list_append PySem.F.type_list_append mt_append (pv 2) (pa_cons (pe_tup (pa_cons (pv 6) (pa_cons (pv 7) pa_nil))) pa_nil)))
          (pss_one (ps_expr (pe_bm PySem.F.plainAttrs_list PySem.F.slot_list_append PySem.F.type_list_append mt_append (pv 3) (pa_cons (pv 4) pa_nil))))))
          (pss_one (ps_if (pt_truth (pv 7) (by intro _; rfl))
            pss_never pss_nil))))))
      (pss_one (ps_ret (pe_callTy call_tuple_of (by rfl) B.tuple bootT (pa_cons (pe_callBK cr_sortedPR (by rfl) B.sorted PyProof.Rows.boot_sorted (pa_cons (pv 2) pa_nil) (pk_cons pe_bl pk_nil)) pa_nil)))))), ?_⟩
    let St : Nat → L2.St → Hp → Prop := fun i σ H' => ∃ (t kk : Addr) (T : GLs) (v4 v5 v6 v7 v8 : Option V), σ = [some (.int (n : Nat)), some (.ref tg), some (.ref t), some (.ref kk), v4, v5, v6, v7, v8] ∧ Same H H' ∧ H t = none ∧ H kk = none ∧ kk ≠ t ∧
      H' t = some (.lst (refH T)) ∧ HlsAt H' T ∧ H' kk = some (.lst (natV (keptL (hls L) i))) ∧ RedAt n (hls L) i (hls T) ∧ (∀ p ∈ T, p.2.1 < 2 ^ (2 * n)) ∧ (∀ i', i' < i → Good n (hls L) i') ∧ T.length ≤ i
    have up : ∀ {x : Nat}, x < 2 ^ (2 * n) → x < 2 ^ 1000 := fun h => Nat.lt_of_lt_of_le h (Nat.pow_le_pow_right (by decide) (by omega))
    have big : ∀ m, m ≤ 100 → m < sizeLine := fun m h => Nat.lt_of_le_of_lt h (by decide)
    refine ⟨fun σ' H' => ∃ t, σ' = [some (.int (n : Nat)), some (.ref tg), some (.ref t), none, none, none, none, none, none] ∧ H t = none ∧ H' = upd H t (.lst []), ⟨by show 0 ≤ sizeLine; decide, fun t nt => ⟨t, rfl, nt, rfl⟩⟩, ?_⟩
    rintro _ _ ⟨t0, rfl, nt0, rfl⟩
    refine ⟨St 0, ⟨by show 0 ≤ sizeLine; decide, fun kk nk => ?_⟩, ?_⟩
    · have ne : kk ≠ t0 := fun z => by rw [z, upd_same] at nk; cases nk
      have nk0 : H kk = none := by rw [upd_ne ne] at nk; exact nk
      exact ⟨t0, kk, [], none, none, none, none, none, rfl, (same_new nt0).trans (same_new nk), nt0, nk0, ne, by rw [upd_ne ne.symm]; exact upd_same, fun p hp => (by cases hp), upd_same, RedAt.zero _ _, fun p hp => (by cases hp), fun i' h => by omega, Nat.le_refl _⟩
    rintro σ0 H1 hst
    refine ⟨St L.length, ?_, ?_⟩
    · obtain ⟨t, kk, T, v4, v5, v6, v7, v8, rfl, s1, _⟩ := id hst
      refine ⟨_, rfl, tg, _, rfl, Same.seq s1 hS, L2.for_it (walk_enum (K := K) (a := tg) (xs := refH L)) St hst (fun i σ H' _ ⟨_, _, _, _, _, _, _, _, _, s1, _⟩ => Same.seq s1 hS) ?_ ?_⟩
      · rintro i x _ H2 H3 hi ⟨t, kk, T, v4, v5, v6, v7, v8, rfl, s2, nt, nk, ne, et, hT, ek, R, bT, hgd, lT⟩ ⟨Tp, x1, x2, rfl, nT, rfl, g1, g2⟩
        cases Option.some.inj g1
        obtain ⟨p, hp, rfl⟩ := refH_at g2
        have il : i < L.length := (List.getElem?_eq_some_iff.mp hp).1
        obtain ⟨p', hp', _, gp⟩ := atI_ref il
        cases hp.symm.trans hp'
        have hpm := List.mem_of_getElem? hp
        have s3 := s2.trans (same_new (o := .tup [.int (i : Nat), .ref p.1]) nT)
        have n3 : Same H2 (upd H2 Tp (.tup [.int (i : Nat), .ref p.1])) := same_new nT
        have eT : (upd H2 Tp (.tup [.int (i : Nat), .ref p.1])) Tp = some (.tup [.int (i : Nat), .ref p.1]) := upd_same
        generalize upd H2 Tp (.tup [.int (i : Nat), .ref p.1]) = H3 at s3 n3 eT ⊢
        refine ⟨Tp, _, rfl, .inl (.inl eT), rfl, _, _, rfl, _, _, rfl, rfl, ?_⟩
        obtain ⟨step1, step0⟩ := R.step hC (by rw [hls_len]; exact il)
        rw [gp] at step1 step0
        have vlt : (rsH n (hls T) p.2).1 < 2 ^ (2 * n) := rsH_lt (hb p hpm) fun r hr => by
          obtain ⟨q', hq', rfl⟩ := List.mem_map.mp hr
          exact bT q' hq'
        refine ⟨fun σ' H' => σ' = [some (.int (n : Nat)), some (.ref tg), some (.ref t), some (.ref kk), some (.int (i : Nat)), some (.ref p.1), some (.int ((rsH n (hls T) p.2).1 : Nat)), some (.int ((rsH n (hls T) p.2).2 : Nat)), v8] ∧ Same H3 H', ?_, ?_⟩
        · refine ⟨_, rfl, _, rfl, _, rfl, n, p.1, t, p.2, T, rfl, s3 _ _ (hL p hpm), SqL.of (n3 _ _ et), hT.same n3, up (hb p hpm), fun q' hq' => up (bT q' hq'), by omega, fun H' z s' hz => ⟨z, _, rfl, .inl (.inl hz), rfl, _, _, rfl, _, _, rfl, rfl, rfl, s'⟩⟩
        rintro _ H4 ⟨rfl, s4⟩
        have s34 := s3.trans s4
        have et4 := s4 _ _ (n3 _ _ et)
        have ek4 := s4 _ _ (n3 _ _ ek)
        have hT4 := (hT.same n3).same s4
        generalize rsH n (hls T) p.2 = v at step1 step0 vlt ⊢
        refine ⟨_, rfl, _, rfl, ?_⟩
        by_cases z : v.1 = 0
        · obtain ⟨k1, R1, sp, iff⟩ := step0 z
          rw [z]
          refine iteF ⟨_, rfl, _, rfl, ?_⟩
          by_cases z2 : v.2 = 0
          · rw [z2]
            refine iteF ⟨t, kk, T, _, _, _, _, _, rfl, s34, nt, nk, ne, et4, hT4, by rw [k1]; exact ek4, R1, bT, fun i' h => ?_, by omega⟩
            by_cases e : i' < i
            · exact hgd i' e
            · have : i' = i := by omega
              rw [this]
              exact iff.mp z2
          · exact absurd (iff.mpr (qg i il)) z2
        · obtain ⟨k1, R1, gd⟩ := step1 z
          have nz : (((v.1 : Nat) : Int) != 0) = true := bne_iff_ne.mpr (by omega)
          rw [nz]
          refine iteT ⟨fun σ' H' => ∃ (D : Addr) (N : GLs), σ' = [some (.int (n : Nat)), some (.ref tg), some (.ref D), some (.ref kk), some (.int (i : Nat)), some (.ref p.1), some (.int (v.1 : Nat)), some (.int (v.2 : Nat)), v8] ∧ Same H4 H' ∧ H4 D = none ∧ H' D = some (.lst (refH N)) ∧ HlsAt H' N ∧ hls N = (hls T).map (lwH n · v), ?_, ?_⟩
          · refine ⟨_, rfl, t, rfl, ⟨_, SqL.of et4⟩, fun D nD => ?_⟩
            refine lc_list (K := K) (a := t) (xs := refH T) (Pv := fun j Hc => Same H4 Hc ∧ ∃ N : GLs, Hc D = some (.lst (refH N)) ∧ HlsAt Hc N ∧ hls N = ((hls T).take j).map (lwH n · v) ∧ N.length ≤ j) ⟨same_new nD, [], upd_same, fun p hp => (by cases hp), rfl, Nat.le_refl _⟩ (fun j Hc _ ⟨sc, _⟩ => SqL.of (sc _ _ et4)) ?_ ?_
            · rintro j y Hc hj ⟨sc, N, eD, hN, eN, lN⟩
              obtain ⟨r, hr', rfl⟩ := refH_at hj
              have hrm := List.mem_of_getElem? hr'
              refine ⟨rfl, _, rfl, _, rfl, _, rfl, _, rfl, by show 2 ≤ sizeLine; decide, fun tp ntp => ⟨by show 1 ≤ sizeLine; decide, fun l nl => ?_⟩⟩
              have n1 : Same Hc (upd Hc tp (.tup [.int (v.1 : Nat), .int (v.2 : Nat)])) := same_new ntp
              have n2 := same_new (o := HO.lst [V.ref tp]) nl
              have e1 : (upd (upd Hc tp (.tup [.int (v.1 : Nat), .int (v.2 : Nat)])) l (.lst [V.ref tp])) tp = some (.tup [.int (v.1 : Nat), .int (v.2 : Nat)]) := n2 _ _ upd_same
              refine ⟨n, r.1, l, r.2, [(tp, v)], rfl, n2 _ _ (n1 _ _ (sc _ _ (hT4 r hrm))), SqL.of upd_same, fun q' hq' => by rw [List.mem_singleton.mp hq']; exact e1, up (bT r hrm), fun q' hq' => by rw [List.mem_singleton.mp hq']; exact up vlt, by omega, fun H' z s' hz => ?_⟩
              have sH := (n1.trans n2).trans s'
              have eD' := sH _ _ eD
              refine ⟨refH N, eD', ?_, same_put0 (sc.trans sH) nD, N ++ [(z, lwH n r.2 v)], ?_, ?_, ?_, ?_⟩
              · rw [refH_len]
                have := (List.getElem?_eq_some_iff.mp hr').1
                exact big _ (by omega)
              · rw [upd_same, refH_app]
                rfl
              · refine HlsAt.put eD' fun q' hq' => ?_
                rcases List.mem_append.mp hq' with h | h
                · exact sH _ _ (hN q' h)
                · rw [List.mem_singleton.mp h]
                  exact hz
              · have e2 : (hls T)[j]? = some r.2 := by unfold hls; rw [List.getElem?_map, hr']; rfl
                rw [hls_app, eN, take_snoc e2, List.map_append]
                rfl
              · rw [List.length_append, List.length_singleton]
                omega
            · rintro Hc ⟨sc, N, eD, hN, eN, lN⟩
              rw [List.take_of_length_le (by rw [hls_len, refH_len]; exact Nat.le_refl _)] at eN
              exact ⟨D, N, rfl, sc, nD, eD, hN, eN⟩
          rintro _ H5 ⟨D, N, rfl, s5, nD, eD, hN, eN⟩
          have lN : N.length = T.length := by
            have := congrArg List.length eN
            rw [List.length_map, hls_len, hls_len] at this
            exact this
          have nD0 : H D = none := off_same s34 nD
          have ek5 := s5 _ _ ek4
          have neD : kk ≠ D := fun z => by rw [z, nD] at ek4; cases ek4
          refine ⟨fun σ' H' => ∃ r, σ' = [some (.int (n : Nat)), some (.ref tg), some (.ref D), some (.ref kk), some (.int (i : Nat)), some (.ref p.1), some (.int (v.1 : Nat)), some (.int (v.2 : Nat)), v8] ∧ Same H H' ∧ H' D = some (.lst (refH (N ++ [(r, v)]))) ∧ HlsAt H' (N ++ [(r, v)]) ∧ H' kk = some (.lst (natV (keptL (hls L) i))), ?_, ?_⟩
          · refine ⟨_, rfl, .inl ⟨rfl, _, SqL.of eD⟩, _, rfl, _, rfl, by show 2 ≤ sizeLine; decide, fun r nr => ?_⟩
            have nr1 : Same H5 (upd H5 r (.tup [.int (v.1 : Nat), .int (v.2 : Nat)])) := same_new nr
            have eD' := nr1 _ _ eD
            refine ⟨D, _, _, rfl, rfl, eD', ?_, r, rfl, same_put0 ((s34.trans s5).trans nr1) nD0, ?_, ?_, ?_⟩
            · rw [refH_len]
              exact big _ (by omega)
            · rw [upd_same, refH_app]
              rfl
            · refine HlsAt.put eD' fun q' hq' => ?_
              rcases List.mem_append.mp hq' with h | h
              · exact nr1 _ _ (hN q' h)
              · rw [List.mem_singleton.mp h]
                exact upd_same
            · rw [upd_ne neD]
              exact nr1 _ _ ek5
          rintro _ H6 ⟨r, rfl, s6, eD6, hN6, ek6⟩
          refine ⟨_, rfl, .inl ⟨rfl, _, SqL.of ek6⟩, _, rfl, kk, _, _, rfl, rfl, ek6, ?_, D, kk, N ++ [(r, v)], _, _, _, _, _, rfl, same_put0 s6 nk, nD0, nk, neD, ?_, HlsAt.put ek6 hN6, ?_, ?_, ?_, ?_, ?_⟩
          · rw [natV_len]
            exact big _ (Nat.le_trans (keptL_len _ i) (by omega))
          · rw [upd_ne neD.symm]
            exact eD6
          · rw [upd_same, k1, natV_app]
            rfl
          · rw [hls_app, eN]
            exact R1
          · intro q' hq'
            rcases List.mem_append.mp hq' with h | h
            · have hm : q'.2 ∈ (hls T).map (lwH n · v) := eN ▸ List.mem_map_of_mem h
              obtain ⟨c, hc, e⟩ := List.mem_map.mp hm
              obtain ⟨q2, hq2, rfl⟩ := List.mem_map.mp hc
              rw [← e]
              unfold lwH
              split
              · exact Nat.xor_lt_two_pow (bT q2 hq2) vlt
              · exact bT q2 hq2
            · rw [List.mem_singleton.mp h]
              exact vlt
          · intro i' h
            by_cases e : i' < i
            · exact hgd i' e
            · have : i' = i := by omega
              rw [this]
              exact gd
          · rw [List.length_append, List.length_singleton]
            omega
      · rintro σ H2 hst
        rw [refH_len] at hst
        exact hst
    rintro _ H2 ⟨t, kk, T, v4, v5, v6, v7, v8, rfl, s2, nt, nk, ne, et, hT, ek, R, bT, hgd, lT⟩
    refine ⟨_, rfl, t, refH T, kV2 H2, rfl, rfl, SqL.of et, fun x hx => ?_, fun ys p srt pm np => ?_⟩
    · obtain ⟨q', hq', rfl⟩ := List.mem_map.mp hx
      refine ⟨q'.1, rfl, ?_⟩
      rw [kV2_at (hT q' hq')]
      exact hT q' hq'
    obtain ⟨T', pT, rfl⟩ := perm_map_inv pm
    refine ⟨p, _, rfl, .inl ⟨SqL.of upd_same, fun l nl => ?_⟩⟩
    have s8 : Same H2 (upd (upd H2 p (.lst (T'.map fun p => V.ref p.1).reverse)) l (.tup (T'.map fun p => V.ref p.1).reverse)) := (same_new np).trans (same_new nl)
    refine q0 _ l T'.reverse (hls T) (s2.trans s8) ?_ ?_ ?_ ?_ R ?_ ?_
    · rw [upd_same]
      unfold refH
      rw [List.map_reverse]
    · intro q' hq'
      exact s8 _ _ (hT q' (pT.mem_iff.mp (List.mem_reverse.mp hq')))
    · unfold hls
      exact ((List.reverse_perm T').trans pT).map _
    · unfold hls
      rw [List.map_reverse, List.pairwise_reverse, List.pairwise_map]
      have h1 := List.pairwise_map.mp srt
      refine h1.imp_of_mem fun {a b} ha hb' h => ?_
      have e1 := kV2_at (hT a (pT.mem_iff.mp ha))
      have e2 := kV2_at (hT b (pT.mem_iff.mp hb'))
      have h2 : SrtO.lexB (kV2 H2 (.ref b.1)) (kV2 H2 (.ref a.1)) = false := h
      rw [e1, e2] at h2
      have h3 := SrtO.lexB_no.mp h2
      simp only at h3
      omega
    · intro h hh
      obtain ⟨q', hq', rfl⟩ := List.mem_map.mp hh
      exact bT q' hq'
    · rw [List.length_reverse, pT.length_eq]
      exact lT
end
end KQ
namespace KQ
open PySem PySem.Spec PyProof.Rows L2
abbrev sIsI : Stmt := topS 13
abbrev sGI : Stmt := inClass (topS 34) 0
theorem scIsI : FnScope ["value"] ["value"] (defScope sIsI) := ⟨rfl, rfl, rfl, by decide +kernel, rfl, by decide +kernel, by decide +kernel⟩
theorem scGI : FnScope ["self", "size", "strings", "string", "given", "bits", "_", "held"] ["self", "size", "strings"] (defScope sGI) := ⟨rfl, rfl, rfl, by decide +kernel, rfl, by decide +kernel, by decide +kernel⟩
/-- values that are told apart -/
def Kd (H : Hp) (v : V) : Prop := (∃ i, v = .int i) ∨ v = .non ∨ (∃ b, v = .bl b) ∨ (∃ x, v = .str x) ∨ ∃ p xs, v = .ref p ∧ H p = some (.lst xs)
def isI : V → Bool
  | .int _ => true
  | _ => false
def spIsI : Sp := fun vs H Q _ => ∃ v, vs = [v] ∧ Kd H v ∧ Q (.bl (isI v)) H
theorem Kd.ty {H : Hp} {v : V} (h : Kd H v) : ∃ n : String, (∀ K, TyX K H v (.type n)) ∧ ((kitB n "int" = some true ∧ kitB n "bool" = some false ∧ isI v = true) ∨ (kitB n "int" = some false ∧ isI v = false) ∨ (kitB n "int" = some true ∧ kitB n "bool" = some true ∧ isI v = false)) := by
  rcases h with ⟨i, rfl⟩ | rfl | ⟨b, rfl⟩ | ⟨x, rfl⟩ | ⟨p, xs, rfl, e⟩
  · exact ⟨_, fun K => .base (.int i), .inl ⟨by decide +kernel, by decide +kernel, rfl⟩⟩
  · exact ⟨_, fun K => .base .non, .inr (.inl ⟨by decide +kernel, rfl⟩)⟩
  · exact ⟨_, fun K => .base (.bl b), .inr (.inr ⟨by decide +kernel, by decide +kernel, rfl⟩)⟩
  · exact ⟨_, fun K => .base (.str x), .inr (.inl ⟨by decide +kernel, rfl⟩)⟩
  · exact ⟨_, fun K => .base (.lst e), .inr (.inl ⟨by decide +kernel, rfl⟩)⟩
structure GCl (K : PySem.W.Frag) (mg : Str → Option Value) (C fI : Addr) : Prop where
  cl : Cls K C
  nS : NoAttr K C "size"
  nH : NoAttr K C "held"
  nB : NoAttr K C "bits"
  nR : NoAttr K C "rows"
  nK : NoAttr K C "rank"
  mkf : Mk K C fI
  g : mg "Group" = some (.ref C)
abbrev PLs := List (Addr × List Nat × Nat)
def PsAt (C : Addr) (H : Hp) (L : PLs) : Prop := ∀ q ∈ L, PauliAt C H q.1 q.2.1 q.2.2
def refP (L : PLs) : List V := L.map fun q => V.ref q.1
def gsOf (L : PLs) : List Hl := L.map fun q => (bL q.2.1, (q.2.2 + q.2.1.count 89) % 4)
structure PsOk (L : PLs) : Prop where
  isl : ∀ q ∈ L, ∀ c ∈ q.2.1, isL c = true
  ne : ∀ q ∈ L, q.2.1 ≠ []
  len : ∀ q ∈ L, q.2.1.length ≤ 300
  ph : ∀ q ∈ L, q.2.2 < 4
  few : L.length ≤ 100
def But (a : Addr) (H H' : Hp) : Prop := ∀ b o, b ≠ a → H b = some o → H' b = some o
theorem yc : ∀ {R : List Nat}, (∀ c ∈ R, isL c = true) → pc (bv lz R &&& bv lx R) = R.count 89
  | [], _ => pc_zero
  | c :: R, h => by
    have ih := yc (R := R) fun d hd => h d (List.mem_cons_of_mem _ hd)
    have e : bv lz (c :: R) &&& bv lx (c :: R) = 2 * (bv lz R &&& bv lx R) + (lz c &&& lx c) := by
      show (lz c + 2 * bv lz R) &&& (lx c + 2 * bv lx R) = _
      rw [Nat.add_comm (lz c), Nat.add_comm (lx c)]
      exact and_two _ _ _ _ (lz_lt c) (lx_lt c)
    rcases isL_iff.mp (h c (List.mem_cons_self ..)) with rfl | rfl | rfl | rfl
    all_goals
      rw [e, pc_two _ _ (by decide), ih, List.count_cons]
      simp [lz, lx]
    omega
theorem gs_sg {R : List Nat} {p : Nat} (hR : ∀ c ∈ R, isL c = true) (hp : p % 2 = 0) : Sg R.length (bL R, (p + R.count 89) % 4) := by
  refine ⟨Nat.mod_lt _ (by decide), ?_⟩
  show (p + R.count 89) % 4 % 2 = tw R.length (bL R) (bL R)
  rw [bL_fB, tw_fB (bv_lt lz_lt R), yc hR]
  omega
theorem xg_com {R R' : List Nat} (h : R.length = R'.length) : pc (ex R.length (bL R) &&& bL R') % 2 = 0 ↔ tw R.length (bL R) (bL R') = tw R.length (bL R') (bL R) := by
  have l1 := bv_lt lx_lt R
  have l2 := bv_lt lz_lt R
  have l3 := bv_lt lx_lt R'
  have l4 := bv_lt lz_lt R'
  rw [← h] at l3 l4
  rw [bL_fB R, bL_fB R', ← h, cross_fB l1 l2, tw_fB l2, tw_fB l4, Nat.and_comm (bv lx R)]
  omega
theorem gs_at {L : PLs} {i : Nat} {q : Addr × List Nat × Nat} (h : L[i]? = some q) : ((gsOf L).map Prod.fst).getD i 0 = bL q.2.1 := by
  unfold gsOf
  rw [List.getD_eq_getElem?_getD, List.getElem?_map, List.getElem?_map, h]
  rfl
theorem gs_cs {n : Nat} {L : PLs} (O : PsOk L) (hn : ∀ q ∈ L, q.2.1.length = n) (hp : ∀ q ∈ L, q.2.2 % 2 = 0) (hx : ∀ i j, i < j → j < L.length → xg n ((gsOf L).map Prod.fst) i j = 0) : CS n (gsOf L) := by
  have key : ∀ i j : Nat, i < j → ∀ q r : Addr × List Nat × Nat, L[i]? = some q → L[j]? = some r → Com n (bL r.2.1, (r.2.2 + r.2.1.count 89) % 4) (bL q.2.1, (q.2.2 + q.2.1.count 89) % 4) := by
    intro i j hij q r hq hr
    have e := hx i j hij (List.getElem?_eq_some_iff.mp hr).1
    unfold xg at e
    rw [gs_at hq, gs_at hr] at e
    have n1 := hn q (List.mem_of_getElem? hq)
    have n2 := hn r (List.mem_of_getElem? hr)
    have := (xg_com (R := r.2.1) (R' := q.2.1) (by omega)).mp (by rw [n2]; exact e)
    rw [n2] at this
    exact this
  refine ⟨fun a ha => ?_, fun a ha b hb => ?_⟩
  · obtain ⟨q, hq, rfl⟩ := List.mem_map.mp ha
    have := gs_sg (O.isl q hq) (hp q hq)
    rw [hn q hq] at this
    exact this
  · obtain ⟨q, hq, rfl⟩ := List.mem_map.mp ha
    obtain ⟨r, hr, rfl⟩ := List.mem_map.mp hb
    obtain ⟨i, hi⟩ := List.getElem?_of_mem hq
    obtain ⟨j, hj⟩ := List.getElem?_of_mem hr
    rcases Nat.lt_trichotomy i j with h | h | h
    · exact (key i j h q r hi hj).symm
    · subst h
      cases hi.symm.trans hj
      exact Com.self _ _
    · exact key j i h r q hj hi
theorem gs_lt {n : Nat} {L : PLs} (hn : ∀ q ∈ L, q.2.1.length = n) : ∀ g ∈ gsOf L, g.1 < 2 ^ (2 * n) := by
  intro g hg
  obtain ⟨q, hq, rfl⟩ := List.mem_map.mp hg
  have := bL_lt q.2.1
  rw [hn q hq] at this
  exact this
theorem bootB : bootBuiltins "bool" = some (.type "bool") := by decide +kernel
section
variable {P : Program} {w : World} {K : PySem.W.Frag} {mg : Str → Option Value} {base : Heap}
theorem ok_isI {f : Addr} {fd : FuncData} {k : Nat} (F : Fun K "is_integer" "is_integer" sIsI f fd) (B : Bl mg) : FnOk P w K mg base CX0 (k + 1) f fd ["value"] spIsI := by
  refine F.ok scIsI (fun vs H Q E h => ?_) (fun cdv A outer s H vs Q E hr h => ?_)
  · obtain ⟨v, rfl, _⟩ := h
    rfl
  · obtain ⟨v, rfl, hk, q⟩ := h
    refine ⟨_, pss_one (ps_ret (pe_and (pe_callB call_isi (by rfl) B.isi PyProof.Rows.boot_isinstance (pa_cons (pv 0) (pa_cons (pe_bltn (v := .ty "int") (by rfl) B.int bootI rfl) pa_nil)))
      (pe_one (pe_not (pe_callB call_isi (by rfl) B.isi PyProof.Rows.boot_isinstance (pa_cons (pv 0) (pa_cons (pe_bltn (v := .ty "bool") (by rfl) B.bool bootB rfl) pa_nil))))))), ?_⟩
    obtain ⟨n, ty, h⟩ := hk.ty
    rcases h with ⟨h1, h2, h3⟩ | ⟨h1, h3⟩ | ⟨h1, h2, h3⟩ <;> rw [h3] at q
    · refine ⟨_, rfl, v, _, _, _, true, rfl, .ty "int", ty K, kit_ty h1, _, rfl, ?_⟩
      exact ⟨_, rfl, v, _, _, _, false, rfl, .ty "bool", ty K, kit_ty h2, _, rfl, q⟩
    · exact ⟨_, rfl, v, _, _, _, false, rfl, .ty "int", ty K, kit_ty h1, _, rfl, q⟩
    · refine ⟨_, rfl, v, _, _, _, true, rfl, .ty "int", ty K, kit_ty h1, _, rfl, ?_⟩
      exact ⟨_, rfl, v, _, _, _, true, rfl, .ty "bool", ty K, kit_ty h2, _, rfl, q⟩
end
end KQ
namespace KQ
open PySem PySem.Spec PyProof.Rows L2
/-- all defs below Group.__init__ -/
structure GEnv (K : PySem.W.Frag) (w : World) (mg : Str → Option Value) (C CT CB fI fE fB fBN hA lA : Addr) (dB dBN : FuncData)
    (fIs fHo fBo fHp fPa fCr fSh fBt fLg fLn fCk fRt fSo fFr fLo fC : Addr) (dI dIs dHo dBo dHp dPa dCr dSh dBt dLg dLn dCk dRt dSo dFr dLo dC : FuncData) : Prop where
  N : PCl K mg C fI fE
  FI : Fun K "__init__" "Pauli.__init__" sInit fI dI
  bI : Binds K dI ["self", "text"] []
  FC : Fun K "_cut_text" "_cut_text" sCut fC dC
  bC : Binds K dC ["text"] []
  gC : mg "_cut_text" = some (.ref fC)
  TT : BT K mg CT fB dB
  XB : EX2 K mg "BadNumber" "BadNumber.__init__" "what" "number" sIBadNumber CB fBN dBN
  hd : Hd4 K mg hA
  lt : Lets K w mg lA
  mz : mg "zip" = none
  B : Bl mg
  FIs : Fun K "is_integer" "is_integer" sIsI fIs dIs
  bIs : Binds K dIs ["value"] []
  gIs : mg "is_integer" = some (.ref fIs)
  FHo : Fun K "held_of" "held_of" sHeld fHo dHo
  bHo : Binds K dHo ["string"] []
  gHo : mg "held_of" = some (.ref fHo)
  FBo : Fun K "bits_of" "bits_of" sBof fBo dBo
  bBo : Binds K dBo ["string"] []
  gBo : mg "bits_of" = some (.ref fBo)
  FHp : Fun K "held_product" "held_product" sHprod fHp dHp
  bHp : Binds K dHp ["size", "one", "other"] []
  gHp : mg "held_product" = some (.ref fHp)
  FPa : Fun K "parity" "parity" sPar fPa dPa
  bPa : Binds K dPa ["number"] []
  gPa : mg "parity" = some (.ref fPa)
  FCr : Fun K "crossing" "crossing" sCrossg fCr dCr
  bCr : Binds K dCr ["size", "bits", "others"] []
  gCr : mg "crossing" = some (.ref fCr)
  FSh : Fun K "second_half" "second_half" sHalf fSh dSh
  bSh : Binds K dSh ["size", "bits"] []
  gSh : mg "second_half" = some (.ref fSh)
  FBt : Fun K "bit_tuple" "bit_tuple" sBits fBt dBt
  bBt : Binds K dBt ["number", "many"] []
  gBt : mg "bit_tuple" = some (.ref fBt)
  FLg : Fun K "_lowered" "_lowered" sLowG fLg dLg
  bLg : Binds K dLg ["size", "held", "table"] []
  gLg : mg "lowered_groups" = some (.ref fLg)
  FLn : Fun K "_lowered" "_lowered" sLow fLn dLn
  bLn : Binds K dLn ["number", "marks", "table"] []
  gLn : mg "lowered_bitnumbers" = some (.ref fLn)
  FCk : Fun K "_check_commuting" "_check_commuting" sChk fCk dCk
  bCk : Binds K dCk ["size", "rows"] []
  gCk : mg "_check_commuting" = some (.ref fCk)
  FRt : Fun K "_reduced_table" "_reduced_table" sRedT fRt dRt
  bRt : Binds K dRt ["size", "given"] []
  gRt : mg "_reduced_table" = some (.ref fRt)
  FSo : Fun K "string_of" "string_of" sSof fSo dSo
  bSo : Binds K dSo ["size", "held"] []
  gSo : mg "string_of" = some (.ref fSo)
  FFr : Fun K "string_from" "string_from" sFrom fFr dFr
  bFr : Binds K dFr ["letters", "phase"] []
  gFr : mg "string_from" = some (.ref fFr)
  FLo : Fun K "letters_of" "letters_of" sLof fLo dLo
  bLo : Binds K dLo ["size", "bits"] []
  gLo : mg "letters_of" = some (.ref fLo)
/-- no field hides a method -/
def NoS (fs : List (Str × V)) : Prop := fs.lookup ("syndrome_of" : Str) = none ∧ fs.lookup ("sign_of" : Str) = none
theorem NoS.put {fs : List (Str × V)} {f : Str} {v : V} (h : NoS fs) (h1 : ¬ ("syndrome_of" : Str) = f) (h2 : ¬ ("sign_of" : Str) = f) : NoS (putF f v fs) := ⟨by rw [lookup_putF, if_neg h1]; exact h.1, by rw [lookup_putF, if_neg h2]; exact h.2⟩
/-- what a group holds -/
def GroupAt (CG C : Addr) (H : Hp) (a : Addr) (n : Nat) (M : GLs) : Prop := ∃ dx fs p b r M', H a = some (.ins CG dx fs) ∧ fs.lookup ("size" : Str) = some (.int (n : Nat)) ∧ fs.lookup ("held" : Str) = some (.ref p) ∧ fs.lookup ("bits" : Str) = some (.ref b) ∧
  fs.lookup ("rows" : Str) = some (.ref r) ∧ fs.lookup ("rank" : Str) = some (.int (M.length : Nat)) ∧ NoS fs ∧ H p = some (.tup (refH M)) ∧ HlsAt H M ∧ H b = some (.tup (natV ((hls M).map Prod.fst))) ∧
  H r = some (.tup (refP M')) ∧ PsAt C H M' ∧ M'.map (·.2) = (hls M).map fun h => (LO n h.1, (((h.2 : Int) - ((LO n h.1).count 89 : Nat)) % 4).toNat)
def spGI (K : PySem.W.Frag) (C CG : Addr) : Sp := fun vs H Q _ => ∃ (a dx : Addr) (n : Nat) (ts : Addr) (L : PLs), vs = [.ref a, .int (n : Nat), .ref ts] ∧ H a = some (.ins CG dx []) ∧ SqL K H ts (refP L) ∧ PsAt C H L ∧ PsOk L ∧ 1 ≤ n ∧ n ≤ 300 ∧ (∀ q ∈ L, q.2.1.length = n) ∧ (∀ q ∈ L, q.2.2 % 2 = 0) ∧
  (∀ i j, i < j → j < L.length → xg n ((gsOf L).map Prod.fst) i j = 0) ∧ (∀ i, i < L.length → Good n (gsOf L) i) ∧
  ∀ H' M T, But a H H' → GroupAt CG C H' a n M → (hls M).Perm T → (hls M).Pairwise (fun a b => b.1 ≤ a.1) → RedAt n (gsOf L) L.length T → Q .non H'
theorem putF_le (f : Str) (v : V) : ∀ fs : List (Str × V), (putF f v fs).length ≤ fs.length + 1
  | [] => Nat.le_refl _
  | (g, x) :: r => by
    unfold putF
    split
    · exact Nat.le_succ _
    · rw [List.length_cons, List.length_cons]
      have := putF_le f v r
      omega
theorem refP_at {L : PLs} {i : Nat} {v : V} (h : (refP L)[i]? = some v) : ∃ q, L[i]? = some q ∧ v = .ref q.1 := by
  unfold refP at h
  rw [List.getElem?_map] at h
  obtain ⟨q, hq, rfl⟩ := Option.map_eq_some_iff.mp h
  exact ⟨q, hq, rfl⟩
theorem refP_len (L : PLs) : (refP L).length = L.length := List.length_map ..
theorem gsOf_len (L : PLs) : (gsOf L).length = L.length := List.length_map ..
theorem PauliAt.same {C : Addr} {H H' : Hp} {a : Addr} {R : List Nat} {p : Nat} (s : Same H H') (h : PauliAt C H a R p) : PauliAt C H' a R p := let ⟨dx, fs, e, r⟩ := h; ⟨dx, fs, s _ _ e, r⟩
theorem PauliAt.put {C : Addr} {H : Hp} {a D : Addr} {R : List Nat} {p : Nat} {xs : List V} {o : HO} (e : H D = some (.lst xs)) (h : PauliAt C H a R p) : PauliAt C (upd H D o) a R p := by
  obtain ⟨dx, fs, e2, r⟩ := h
  refine ⟨dx, fs, ?_, r⟩
  rw [upd_ne fun z => by rw [z, e] at e2; cases e2]
  exact e2
theorem But.of {a : Addr} {H H' : Hp} (s : Same H H') : But a H H' := fun b o _ e => s b o e
theorem But.trans {a : Addr} {H G H' : Hp} (s : But a H G) (t : But a G H') : But a H H' := fun b o n e => t b o n (s b o n e)
theorem But.upd {a : Addr} {H : Hp} {o : HO} : But a H (upd H a o) := fun b u n e => by rw [upd_ne n]; exact e
theorem HlsAt.but {a C dx : Addr} {fs : List (Str × V)} {H H' : Hp} {L : GLs} (ea : H a = some (.ins C dx fs)) (b : But a H H') (h : HlsAt H L) : HlsAt H' L := fun p hp => by
  have e := h p hp
  exact b _ _ (fun z => by unfold HlAt at e; rw [z, ea] at e; cases e) e
section
variable {P : Program} {w : World} {K : PySem.W.Frag} {mg : Str → Option Value} {base : Heap}
set_option linter.unusedVariables false in
theorem ok_ginit {f C CG CT CB fI fE fB fBN hA lA : Addr} {fd dB dBN : FuncData} {fIs fHo fBo fHp fPa fCr fSh fBt fLg fLn fCk fRt fSo fFr fLo fC : Addr} {dI dIs dHo dBo dHp dPa dCr dSh dBt dLg dLn dCk dRt dSo dFr dLo dC : FuncData}
    (F : Fun K "__init__" "Group.__init__" sGI f fd) (G : GCl K mg CG f) (cne : C ≠ CG)
    (T : GEnv K w mg C CT CB fI fE fB fBN hA lA dB dBN fIs fHo fBo fHp fPa fCr fSh fBt fLg fLn fCk fRt fSo fFr fLo fC dI dIs dHo dBo dHp dPa dCr dSh dBt dLg dLn dCk dRt dSo dFr dLo dC) :
    FnOk P w K mg base (L2.CX P w) 8 f fd ["self", "size", "strings"] (spGI K C CG) := by
  have GIs : FnOk P w K mg base CX0 7 fIs dIs ["value"] spIsI := ok_isI T.FIs T.B
  have GHo : FnOk P w K mg base CX0 7 fHo dHo ["string"] (spHeld C) := ok_held T.FHo T.FBo T.bBo T.gBo T.N T.B
  have GCk : FnOk P w K mg base (L2.CX P w) 4 fCk dCk ["size", "rows"] (spChk K) := ok_chk T.FCk T.FCr T.bCr T.gCr T.FBt T.bBt T.gBt T.FSh T.bSh T.gSh T.FPa T.bPa T.gPa T.B
  have GRt : FnOk P w K mg base (L2.CX P w) 4 fRt dRt ["size", "given"] (spRedT K) := ok_redT T.FRt T.FLg T.bLg T.gLg T.FHp T.bHp T.gHp T.FPa T.bPa T.gPa T.B
  have GSo : FnOk P w K mg base (L2.CX P w) 7 fSo dSo ["size", "held"] (spSof C) := ok_sof T.FSo T.FFr T.bFr T.gFr T.FLo T.bLo T.gLo T.FSh T.bSh T.gSh T.N T.FI T.bI T.FC T.bC T.gC T.TT T.hd T.lt T.mz T.B
  refine F.okX scGI (fun vs H Q E h => ?_) (fun cdv A outer s H vs Q E hr h => ?_)
  · obtain ⟨a, dx, n, ts, L, rfl, _⟩ := h
    rfl
  · obtain ⟨a, dx, n, ts, L, rfl, ea, hS, hP, O, n1, hn, hlen, hph, hz, hgood, qG⟩ := h
    have r4 : Room 4 _ := hr.mono (by decide)
    have r5 : Room 5 _ := hr.mono (by decide)
    refine ⟨_, C8.pss_cut (ps_if (PW.pt (pw_or (pt_not (pt_val (pe_call GIs hr (by rfl) T.gIs T.FIs.kp T.bIs .nil pass0 (pa_cons (pv 1) pa_nil)))) (pw_or1 (pt_cmpR op_lt (pv 1) pe_int (nomark _)))))
        pss_never pss_nil)
      (C8.pss_cut (ps_for (passes_of rfl) rfl (pi_list (pv 2)) (pg_name (i := 3) scGI.nd rfl (.inl rfl))
        (pss_one (ps_if (pt_cmpR op_ne (pe_fld (pv 3) rfl) (pv 1) (nomark _)) pss_never pss_nil)))
      (C8.pss_cut (ps_for (passes_of rfl) rfl (pi_list (pv 2)) (pg_name (i := 3) scGI.nd rfl (.inl rfl))
        (pss_one (ps_if (pt_cmpR op_eq (pe_op op_mod (pe_fld (pv 3) rfl) pe_int) pe_int (nomark _)) pss_never pss_nil)))
      (C8.pss_cut (ps_setLc (i := 4) (own := [("string", 3)]) (g := gName 3) (by rfl) scGI.nd rfl rfl (sw_true rfl rfl rfl (by decide +kernel)) (pi_list (pv 2)) (blkOk_by (own := [("string", 3)]) (N := ["self", "size", "strings", "string", "given", "bits", "_", "held"]) (sc := defScope sGI) (by decide +kernel))
          (fun _ _ _ _ _ => pg_name (i := 3) scGI.nd rfl (Or.inl rfl)) (fun _ _ _ _ _ => pts_nil) (fun _ _ _ _ _ => pe_call GHo hr (by rfl) T.gHo T.FHo.kp T.bHo .nil pass0 (pa_cons (pv 3) pa_nil)))
      (C8.pss_cut (ps_expr (pe_call GCk r4 (by rfl) T.gCk T.FCk.kp T.bCk .nil (passes_call (takes_of rfl rfl rfl rfl) (fun _ _ _ _ h => h)) (pa_cons (pv 1) (pa_cons (pe_lc (own := [("bits", 5), ("_", 6)]) (g := gTup K 2 (gCons (gName 5) (gCons (gName 6) gNil))) (by rfl) scGI.nd (pi_list (pv 4)) (blkOk_by (own := [("bits", 5), ("_", 6)]) (N := ["self", "size", "strings", "string", "given", "bits", "_", "held"]) (sc := defScope sGI) (by decide +kernel))
          (fun _ _ _ _ _ => pg_tup rfl (pgs_cons (pg_name (i := 5) scGI.nd rfl (Or.inl rfl)) (pgs_cons (pg_name (i := 6) scGI.nd rfl (Or.inl rfl)) pgs_nil))) (fun _ _ _ _ _ => pts_nil) (fun _ _ _ _ _ => pv 5)) pa_nil))))
      (C8.pss_cut (ps_fld (pv 0) (pv 1) rfl)
      (C8.pss_cut (ps_fld (pv 0) (pe_call GRt r4 (by rfl) T.gRt T.FRt.kp T.bRt .nil (passes_call (takes_of rfl rfl rfl rfl) (fun _ _ _ _ h => h)) (pa_cons (pv 1) (pa_cons (pv 4) pa_nil))) rfl)
      (C8.pss_cut (ps_fld (pv 0) (pe_callTy call_tuple_of (by rfl) T.B.tuple bootT (pa_cons (pe_lc (own := [("bits", 5), ("_", 6)]) (g := gTup K 2 (gCons (gName 5) (gCons (gName 6) gNil))) (by rfl) scGI.nd (pi_tup (pe_fld (pv 0) rfl)) (blkOk_by (own := [("bits", 5), ("_", 6)]) (N := ["self", "size", "strings", "string", "given", "bits", "_", "held"]) (sc := defScope sGI) (by decide +kernel))
          (fun _ _ _ _ _ => pg_tup rfl (pgs_cons (pg_name (i := 5) scGI.nd rfl (Or.inl rfl)) (pgs_cons (pg_name (i := 6) scGI.nd rfl (Or.inl rfl)) pgs_nil))) (fun _ _ _ _ _ => pts_nil) (fun _ _ _ _ _ => pv 5)) pa_nil)) rfl)
      (C8.pss_cut (ps_fld (pv 0) (pe_callTy call_tuple_of (by rfl) T.B.tuple bootT (pa_cons (pe_lc (own := [("held", 7)]) (g := gName 7) (by rfl) scGI.nd (pi_tup (pe_fld (pv 0) rfl)) (blkOk_by (own := [("held", 7)]) (N := ["self", "size", "strings", "string", "given", "bits", "_", "held"]) (sc := defScope sGI) (by decide +kernel))
          (fun _ _ _ _ _ => pg_name (i := 7) scGI.nd rfl (Or.inl rfl)) (fun _ _ _ _ _ => pts_nil) (fun _ _ _ _ _ => pe_call GSo hr (by rfl) T.gSo T.FSo.kp T.bSo .nil passL (pa_cons (pv 1) (pa_cons (pv 7) pa_nil)))) pa_nil)) rfl)
      (pss_one (ps_fld (pv 0) (pe_callB call_len_seq (by rfl) T.B.len PySem.boot_len (pa_cons (pe_fld (pv 0) rfl) pa_nil)) rfl)))))))))), ?_⟩
    have big : ∀ m, m ≤ 100 → m < sizeLine := fun m h => Nat.lt_of_le_of_lt h (by decide)
    refine ⟨fun σ' H' => σ' = [some (.ref a), some (.int (n : Nat)), some (.ref ts), none, none, none, none, none] ∧ H' = H, ?_, ?_⟩
    · refine ⟨_, rfl, _, rfl, .inl ⟨_, rfl⟩, _, rfl, ⟨_, rfl, _, _, rfl, rfl, _, rfl, ?_⟩⟩
      rw [decide_eq_false (by omega)]
      exact ⟨rfl, rfl⟩
    rintro _ H3 ⟨rfl, eH⟩
    subst eH
    have att : ∀ q ∈ L, ∃ dx fs, H3 q.1 = some (.ins C dx fs) ∧ fs.lookup ("phase" : Str) = some (.int (q.2.2 : Int)) ∧ fs.lookup ("size" : Str) = some (.int (q.2.1.length : Int)) := fun q hq => by
      obtain ⟨dx, fs, e, l1, l2, l3, l4⟩ := hP q hq
      exact ⟨dx, fs, e, l2, l3⟩
    refine ⟨fun σ' H' => ∃ v3, σ' = [some (.ref a), some (.int (n : Nat)), some (.ref ts), v3, none, none, none, none] ∧ H' = H3, ?_, ?_⟩
    · refine ⟨_, rfl, ts, rfl, ⟨_, hS⟩, for_list (K := K) (a := ts) (xs := refP L) (fun i σ H' => ∃ v3, σ = [some (.ref a), some (.int (n : Nat)), some (.ref ts), v3, none, none, none, none] ∧ H' = H3)
        ⟨none, rfl, rfl⟩ (fun i σ H' _ ⟨_, _, e⟩ => by rw [e]; exact hS) ?_ (fun σ H' h => h)⟩
      rintro i y σ H' hi ⟨v3, rfl, rfl⟩
      obtain ⟨q, hq, rfl⟩ := refP_at hi
      have hm := List.mem_of_getElem? hq
      obtain ⟨dy, gs, e', l2, l3⟩ := att q hm
      refine ⟨_, rfl, q.1, C, dy, gs, _, rfl, e', T.N.cl, T.N.nS, l3, _, rfl, rfl, false, ?_, iteF ⟨_, rfl, rfl⟩⟩
      rw [hlen q hm, decide_eq_true rfl]
      rfl
    rintro _ H2 ⟨v3, rfl, eH⟩
    subst eH
    refine ⟨fun σ' H' => ∃ v3, σ' = [some (.ref a), some (.int (n : Nat)), some (.ref ts), v3, none, none, none, none] ∧ H' = H2, ?_, ?_⟩
    · refine ⟨_, rfl, ts, rfl, ⟨_, hS⟩, for_list (K := K) (a := ts) (xs := refP L) (fun i σ H' => ∃ v3, σ = [some (.ref a), some (.int (n : Nat)), some (.ref ts), v3, none, none, none, none] ∧ H' = H2)
        ⟨v3, rfl, rfl⟩ (fun i σ H' _ ⟨_, _, e⟩ => by rw [e]; exact hS) ?_ (fun σ H' h => h)⟩
      rintro i y σ H' hi ⟨v3, rfl, rfl⟩
      obtain ⟨q, hq, rfl⟩ := refP_at hi
      have hm := List.mem_of_getElem? hq
      obtain ⟨dy, gs, e', l2, l3⟩ := att q hm
      refine ⟨_, rfl, q.1, C, dy, gs, _, rfl, e', T.N.cl, T.N.nP, l2, _, _, rfl, rfl, (by show (0 : Int) < 2; decide), rfl, false, ?_, iteF ⟨_, rfl, rfl⟩⟩
      have hp := hph q hm
      show V.bl (decide (V.int ((q.2.2 : Int) % 2) = V.int 1)) = _
      refine congrArg V.bl (decide_eq_false fun z => ?_)
      have := V.int.inj z
      omega
    rintro _ H3 ⟨v3, rfl, eH⟩
    subst eH
    refine ⟨fun σ' H' => ∃ (D : Addr) (N : GLs), σ' = [some (.ref a), some (.int (n : Nat)), some (.ref ts), v3, some (.ref D), none, none, none] ∧ Same H3 H' ∧ H3 D = none ∧ H' D = some (.lst (refH N)) ∧ HlsAt H' N ∧ hls N = gsOf L, ?_, ?_⟩
    · refine ⟨_, rfl, ts, rfl, ⟨_, hS⟩, fun D nD => ?_⟩
      refine lc_list (K := K) (a := ts) (xs := refP L) (Pv := fun j Hc => Same H3 Hc ∧ ∃ N : GLs, Hc D = some (.lst (refH N)) ∧ HlsAt Hc N ∧ hls N = (gsOf L).take j ∧ N.length ≤ j) ⟨same_new nD, [], upd_same, fun p hp => (by cases hp), rfl, Nat.le_refl _⟩ (fun j Hc _ ⟨sc, _⟩ => Same.seq sc hS) ?_ ?_
      · rintro j y Hc hj ⟨sc, N, eD, hN, eN, lN⟩
        obtain ⟨q, hq, rfl⟩ := refP_at hj
        have hm := List.mem_of_getElem? hq
        refine ⟨rfl, _, rfl, q.1, q.2.1, q.2.2, rfl, (hP q hm).same sc, O.isl q hm, O.ne q hm, O.len q hm, fun H' x s' nx ex' => ?_⟩
        have eD' := s' _ _ eD
        refine ⟨refH N, eD', ?_, same_put0 (sc.trans s') nD, N ++ [(x, (bL q.2.1, (q.2.2 + q.2.1.count 89) % 4))], ?_, ?_, ?_, ?_⟩
        · rw [refH_len]
          have := (List.getElem?_eq_some_iff.mp hq).1
          have := O.few
          exact big _ (by omega)
        · rw [upd_same, refH_app]
          rfl
        · refine HlsAt.put eD' fun p hp => ?_
          rcases List.mem_append.mp hp with k | k
          · exact s' _ _ (hN p k)
          · rw [List.mem_singleton.mp k]
            exact ex'
        · have e2 : (gsOf L)[j]? = some (bL q.2.1, (q.2.2 + q.2.1.count 89) % 4) := by unfold gsOf; rw [List.getElem?_map, hq]; rfl
          rw [hls_app, eN, take_snoc e2]
          rfl
        · rw [List.length_append, List.length_singleton]
          omega
      · rintro Hc ⟨sc, N, eD, hN, eN, lN⟩
        rw [List.take_of_length_le (by rw [gsOf_len, refP_len]; exact Nat.le_refl _)] at eN
        exact ⟨D, N, rfl, sc, nD, eD, hN, eN⟩
    rintro _ H4 ⟨D, N, rfl, s4, nD, eD, hN, eN⟩
    have lN : N.length = L.length := by
      have := congrArg List.length eN
      rwa [hls_len, gsOf_len] at this
    have hlt := gs_lt hlen
    refine ⟨fun σ' H' => σ' = [some (.ref a), some (.int (n : Nat)), some (.ref ts), v3, some (.ref D), none, none, none] ∧ Same H4 H', ?_, ?_⟩
    · refine ⟨_, rfl, _, rfl, D, rfl, ⟨_, SqL.of eD⟩, fun D2 nD2 => ?_⟩
      refine lc_list (K := K) (a := D) (xs := refH N) (Pv := fun j Hc => Same H4 Hc ∧ Hc D2 = some (.lst (natV (((gsOf L).map Prod.fst).take j)))) ⟨same_new nD2, upd_same⟩ (fun j Hc _ ⟨sc, _⟩ => SqL.of (sc _ _ eD)) ?_ ?_
      · rintro j y Hc hj ⟨sc, ec⟩
        obtain ⟨p, hp, rfl⟩ := refH_at hj
        have hy := hN.same sc p (List.mem_of_getElem? hp)
        refine ⟨p.1, _, rfl, .inl (.inl hy), rfl, _, _, rfl, _, _, rfl, rfl, rfl, _, rfl, _, ec, ?_, same_put0 sc nD2, ?_⟩
        · rw [natV_len, List.length_take, List.length_map, gsOf_len]
          have := O.few
          exact big _ (by omega)
        · have e2 : ((gsOf L).map Prod.fst)[j]? = some p.2.1 := by rw [← eN]; unfold hls; rw [List.getElem?_map, List.getElem?_map, hp]; rfl
          rw [upd_same, take_snoc e2, natV_app]
          rfl
      · rintro Hc ⟨sc, ec⟩
        rw [List.take_of_length_le (by rw [List.length_map, gsOf_len, refH_len, lN]; exact Nat.le_refl _)] at ec
        have s5 := s4.trans sc
        refine ⟨n, D2, (gsOf L).map Prod.fst, rfl, SqL.of ec, hn, by rw [List.length_map, gsOf_len]; exact O.few, fun b hb => ?_, fun i j h1 h2 => hz i j h1 (by rw [List.length_map, gsOf_len] at h2; exact h2), fun H' s' => ⟨rfl, sc.trans s'⟩⟩
        obtain ⟨g, hg, rfl⟩ := List.mem_map.mp hb
        exact hlt g hg
    rintro _ H5 ⟨rfl, s5⟩
    have s35 := s4.trans s5
    have ea5 := s35 _ _ ea
    have eD5 := s5 _ _ eD
    have hN5 := hN.same s5
    have cs := gs_cs O hlen hph hz
    refine ⟨fun σ' H' => σ' = [some (.ref a), some (.int (n : Nat)), some (.ref ts), v3, some (.ref D), none, none, none] ∧ But a H3 H' ∧ H' D = some (.lst (refH N)) ∧ HlsAt H' N ∧ ∃ fs, H' a = some (.ins CG dx fs) ∧ fs.length ≤ 1 ∧ NoS fs ∧ fs.lookup ("size" : Str) = some (.int (n : Nat)), ?_, ?_⟩
    · refine ⟨_, rfl, _, rfl, a, CG, dx, _, rfl, ea5, G.cl, G.nS, by show 0 < 1000; decide, ?_⟩
      have neD : D ≠ a := fun z => by rw [z, ea5] at eD5; cases eD5
      exact ⟨rfl, (But.of s35).trans But.upd, by rw [upd_ne neD]; exact eD5, hN5.but ea5 But.upd, _, upd_same, Nat.le_refl _, NoS.put ⟨rfl, rfl⟩ (by decide +kernel) (by decide +kernel), by rw [lookup_putF, if_pos rfl]⟩
    rintro _ H6 ⟨rfl, b6, eD6, hN6, fs6, ea6, fl6, no6, lk6⟩
    refine ⟨fun σ' H' => σ' = [some (.ref a), some (.int (n : Nat)), some (.ref ts), v3, some (.ref D), none, none, none] ∧ But a H3 H' ∧ ∃ (fs : List (Str × V)) (p : Addr) (M : GLs) (T' : List Hl), H' a = some (.ins CG dx fs) ∧ fs.length ≤ 2 ∧ NoS fs ∧ fs.lookup ("size" : Str) = some (.int (n : Nat)) ∧ fs.lookup ("held" : Str) = some (.ref p) ∧
        H' p = some (.tup (refH M)) ∧ HlsAt H' M ∧ (hls M).Perm T' ∧ (hls M).Pairwise (fun a b => b.1 ≤ a.1) ∧ RedAt n (gsOf L) L.length T' ∧ (∀ h ∈ T', h.1 < 2 ^ (2 * n)) ∧ M.length ≤ L.length, ?_, ?_⟩
    · refine ⟨_, rfl, _, rfl, n, D, N, rfl, SqL.of eD6, hN6, by rw [lN]; exact O.few, hn, by rw [eN]; exact cs, fun p hp => hlt _ (by rw [← eN]; exact List.mem_map_of_mem hp), ?_⟩
      rw [eN, lN]
      refine ⟨hgood, fun H' p M T' s' ep hM pm pw R bT lM => ?_⟩
      have ea' := s' _ _ ea6
      have np : p ≠ a := fun z => by rw [z, ea'] at ep; cases ep
      refine ⟨_, rfl, a, CG, dx, _, rfl, ea', G.cl, G.nH, by omega, rfl, (b6.trans (But.of s')).trans But.upd, _, p, M, T', upd_same, ?_, ?_, ?_, ?_, (upd_ne np).trans ep, hM.but ea' But.upd, pm, pw, R, bT, lM⟩
      · exact Nat.le_trans (putF_le _ _ _) (by omega)
      · exact no6.put (by decide +kernel) (by decide +kernel)
      · rw [lookup_putF, if_neg (by decide +kernel)]
        exact lk6
      · rw [lookup_putF, if_pos rfl]
    rintro _ H7 ⟨rfl, b7, fs7, p, M, T', ea7, fl7, no7, sz7, hd7, ep, hM, pm, pw, R, bT, lM⟩
    have mM : ∀ q ∈ M, q.2.1 < 2 ^ (2 * n) := fun q hq => bT q.2 (pm.mem_iff.mp (List.mem_map_of_mem hq))
    refine ⟨fun σ' H' => σ' = [some (.ref a), some (.int (n : Nat)), some (.ref ts), v3, some (.ref D), none, none, none] ∧ But a H3 H' ∧ ∃ (fs : List (Str × V)) (b : Addr), H' a = some (.ins CG dx fs) ∧ fs.length ≤ 3 ∧ NoS fs ∧ fs.lookup ("size" : Str) = some (.int (n : Nat)) ∧ fs.lookup ("held" : Str) = some (.ref p) ∧ fs.lookup ("bits" : Str) = some (.ref b) ∧
        H' p = some (.tup (refH M)) ∧ HlsAt H' M ∧ H' b = some (.tup (natV ((hls M).map Prod.fst))), ?_, ?_⟩
    · refine ⟨_, rfl, a, CG, dx, fs7, _, rfl, ea7, G.cl, G.nH, hd7, p, rfl, ⟨_, .inl (.inl ep)⟩, fun D2 nD2 => ?_⟩
      refine lc_tup (K := K) (a := p) (xs := refH M) (Pv := fun j Hc => Same H7 Hc ∧ Hc D2 = some (.lst (natV (((hls M).map Prod.fst).take j)))) ⟨same_new nD2, upd_same⟩ (fun j Hc _ ⟨sc, _⟩ => .inl (.inl (sc _ _ ep))) ?_ ?_
      · rintro j y Hc hj ⟨sc, ec⟩
        obtain ⟨q, hq, rfl⟩ := refH_at hj
        have hy := hM.same sc q (List.mem_of_getElem? hq)
        refine ⟨q.1, _, rfl, .inl (.inl hy), rfl, _, _, rfl, _, _, rfl, rfl, rfl, _, rfl, _, ec, ?_, same_put0 sc nD2, ?_⟩
        · rw [natV_len, List.length_take, List.length_map, hls_len]
          have := O.few
          exact big _ (by omega)
        · have e2 : ((hls M).map Prod.fst)[j]? = some q.2.1 := by unfold hls; rw [List.getElem?_map, List.getElem?_map, hq]; rfl
          rw [upd_same, take_snoc e2, natV_app]
          rfl
      · rintro Hc ⟨sc, ec⟩
        rw [List.take_of_length_le (by rw [List.length_map, hls_len, refH_len]; exact Nat.le_refl _)] at ec
        refine ⟨D2, _, rfl, .inl ⟨SqL.of ec, fun l nl => ?_⟩⟩
        have sl := sc.trans (same_new (o := .tup (natV ((hls M).map Prod.fst))) nl)
        have ea' := sl _ _ ea7
        have el : (upd Hc l (.tup (natV ((hls M).map Prod.fst)))) l = some (.tup (natV ((hls M).map Prod.fst))) := upd_same
        have nl' : l ≠ a := ne_of el ea' (fun z => by cases z)
        have np : p ≠ a := fun z => by rw [z, ea7] at ep; cases ep
        refine ⟨_, rfl, a, CG, dx, _, rfl, ea', G.cl, G.nB, by omega, rfl, (b7.trans (But.of sl)).trans But.upd, _, l, upd_same, ?_, ?_, ?_, ?_, ?_, (upd_ne np).trans (sl _ _ ep), (hM.same sl).but ea' But.upd, (upd_ne nl').trans el⟩
        · exact Nat.le_trans (putF_le _ _ _) (by omega)
        · exact no7.put (by decide +kernel) (by decide +kernel)
        · rw [lookup_putF, if_neg (by decide +kernel)]
          exact sz7
        · rw [lookup_putF, if_neg (by decide +kernel)]
          exact hd7
        · rw [lookup_putF, if_pos rfl]
    rintro _ H8 ⟨rfl, b8, fs8, bb, ea8, fl8, no8, sz8, hd8, bt8, ep8, hM8, eb8⟩
    let fo : Hl → List Nat × Nat := fun h => (LO n h.1, (((h.2 : Int) - ((LO n h.1).count 89 : Nat)) % 4).toNat)
    refine ⟨fun σ' H' => σ' = [some (.ref a), some (.int (n : Nat)), some (.ref ts), v3, some (.ref D), none, none, none] ∧ But a H3 H' ∧ ∃ (fs : List (Str × V)) (r : Addr) (M' : PLs), H' a = some (.ins CG dx fs) ∧ fs.length ≤ 4 ∧ NoS fs ∧ fs.lookup ("size" : Str) = some (.int (n : Nat)) ∧ fs.lookup ("held" : Str) = some (.ref p) ∧ fs.lookup ("bits" : Str) = some (.ref bb) ∧
        fs.lookup ("rows" : Str) = some (.ref r) ∧ H' p = some (.tup (refH M)) ∧ HlsAt H' M ∧ H' bb = some (.tup (natV ((hls M).map Prod.fst))) ∧ H' r = some (.tup (refP M')) ∧ PsAt C H' M' ∧ M'.map (·.2) = (hls M).map fo, ?_, ?_⟩
    · refine ⟨_, rfl, a, CG, dx, fs8, _, rfl, ea8, G.cl, G.nH, hd8, p, rfl, ⟨_, .inl (.inl ep8)⟩, fun D2 nD2 => ?_⟩
      refine lc_tup (K := K) (a := p) (xs := refH M) (Pv := fun j Hc => Same H8 Hc ∧ ∃ N' : PLs, Hc D2 = some (.lst (refP N')) ∧ PsAt C Hc N' ∧ N'.map (·.2) = ((hls M).take j).map fo ∧ N'.length ≤ j) ⟨same_new nD2, [], upd_same, fun q hq => (by cases hq), rfl, Nat.le_refl _⟩ (fun j Hc _ ⟨sc, _⟩ => .inl (.inl (sc _ _ ep8))) ?_ ?_
      · rintro j y Hc hj ⟨sc, N', ec, hN', eN', lN'⟩
        obtain ⟨q, hq, rfl⟩ := refH_at hj
        have hm := List.mem_of_getElem? hq
        have hy := hM8.same sc q hm
        refine ⟨rfl, _, rfl, _, rfl, n, q.1, q.2, rfl, hy, n1, hn, mM q hm, fun H' x s' PX => ?_⟩
        have ec' := s' _ _ ec
        refine ⟨refP N', ec', ?_, same_put0 (sc.trans s') nD2, N' ++ [(x, fo q.2)], ?_, ?_, ?_, ?_⟩
        · rw [refP_len]
          have := (List.getElem?_eq_some_iff.mp hq).1
          have := O.few
          exact big _ (by omega)
        · rw [upd_same]
          unfold refP
          rw [List.map_append]
          rfl
        · intro r hr'
          rcases List.mem_append.mp hr' with k | k
          · exact ((hN' r k).same s').put ec'
          · rw [List.mem_singleton.mp k]
            exact PX.put ec'
        · have e2 : (hls M)[j]? = some q.2 := by unfold hls; rw [List.getElem?_map, hq]; rfl
          rw [List.map_append, eN', take_snoc e2, List.map_append]
          rfl
        · rw [List.length_append, List.length_singleton]
          omega
      · rintro Hc ⟨sc, N', ec, hN', eN', lN'⟩
        rw [List.take_of_length_le (by rw [hls_len, refH_len]; exact Nat.le_refl _)] at eN'
        refine ⟨D2, _, rfl, .inl ⟨SqL.of ec, fun l nl => ?_⟩⟩
        have s1 := same_new (o := .tup (refP N')) nl
        have sl := sc.trans s1
        have ea' := sl _ _ ea8
        have el : (upd Hc l (.tup (refP N'))) l = some (.tup (refP N')) := upd_same
        have nl' : l ≠ a := ne_of el ea' (fun z => by cases z)
        have np : p ≠ a := ne_of ep8 ea8 (fun z => by cases z)
        have nb : bb ≠ a := ne_of eb8 ea8 (fun z => by cases z)
        refine ⟨_, rfl, a, CG, dx, _, rfl, ea', G.cl, G.nR, by omega, rfl, (b8.trans (But.of sl)).trans But.upd, _, l, N', upd_same, ?_, ?_, ?_, ?_, ?_, ?_, (upd_ne np).trans (sl _ _ ep8), (hM8.same sl).but ea' But.upd, (upd_ne nb).trans (sl _ _ eb8), (upd_ne nl').trans el, ?_, eN'⟩
        · exact Nat.le_trans (putF_le _ _ _) (by omega)
        · exact no8.put (by decide +kernel) (by decide +kernel)
        · rw [lookup_putF, if_neg (by decide +kernel)]
          exact sz8
        · rw [lookup_putF, if_neg (by decide +kernel)]
          exact hd8
        · rw [lookup_putF, if_neg (by decide +kernel)]
          exact bt8
        · rw [lookup_putF, if_pos rfl]
        · intro r hr'
          obtain ⟨dx', fs', e1, e2⟩ := (hN' r hr').same s1
          refine ⟨dx', fs', (upd_ne (ne_of e1 ea' fun z => ?_)).trans e1, e2⟩
          have z' := HO.ins.inj z
          exact cne z'.1
    rintro _ H9 ⟨rfl, b9, fs9, r, M', ea9, fl9, no9, sz9, hd9, bt9, rw9, ep9, hM9, eb9, er9, hP9, eM9⟩
    refine ⟨_, rfl, a, CG, dx, fs9, _, rfl, ea9, G.cl, G.nR, rw9, ?_⟩
    have lM' : M'.length = M.length := by
      have := congrArg List.length eM9
      rwa [List.length_map, List.length_map, hls_len] at this
    have np : p ≠ a := ne_of ep9 ea9 (fun z => by cases z)
    have nb : bb ≠ a := ne_of eb9 ea9 (fun z => by cases z)
    have nr : r ≠ a := ne_of er9 ea9 (fun z => by cases z)
    refine ⟨r, _, rfl, .inr (.inl (.inl er9)), _, rfl, a, CG, dx, _, rfl, ea9, G.cl, G.nK, by omega, qG _ M T' (b9.trans But.upd) ⟨dx, _, p, bb, r, M', upd_same, ?_, ?_, ?_, ?_, ?_, ?_, (upd_ne np).trans ep9, hM9.but ea9 But.upd, (upd_ne nb).trans eb9, (upd_ne nr).trans er9, ?_, eM9⟩ pm pw R⟩
    · rw [lookup_putF, if_neg (by decide +kernel)]
      exact sz9
    · rw [lookup_putF, if_neg (by decide +kernel)]
      exact hd9
    · rw [lookup_putF, if_neg (by decide +kernel)]
      exact bt9
    · rw [lookup_putF, if_neg (by decide +kernel)]
      exact rw9
    · rw [lookup_putF, if_pos rfl, refP_len, lM']
    · exact no9.put (by decide +kernel) (by decide +kernel)
    · intro q hq
      obtain ⟨dx', fs', e1, e2⟩ := hP9 q hq
      refine ⟨dx', fs', (upd_ne (ne_of e1 ea9 fun z => ?_)).trans e1, e2⟩
      have z' := HO.ins.inj z
      exact cne z'.1
end
end KQ
namespace KQ
abbrev T2 := Nat × Nat
def xr2 (u v : T2) : T2 := (u.1 ^^^ v.1, u.2 ^^^ v.2)
/-- do two strings anticommute -/
def cr2 (u v : T2) : Nat := pc ((u.1 &&& v.2) ^^^ (u.2 &&& v.1)) % 2
def Fit2 (n : Nat) (u : T2) : Prop := u.1 < 2 ^ n ∧ u.2 < 2 ^ n
def gB (kd : PySem.Str) (a b : Nat) (u : T2) : T2 :=
  if kd = "h" then (u.1 ^^^ ((u.1 / 2 ^ a % 2) ^^^ (u.2 / 2 ^ a % 2)) * 2 ^ a, u.2 ^^^ ((u.1 / 2 ^ a % 2) ^^^ (u.2 / 2 ^ a % 2)) * 2 ^ a)
  else if kd = "s" then (u.1, u.2 ^^^ (u.1 / 2 ^ a % 2) * 2 ^ a)
  else if kd = "cx" then (u.1 ^^^ (u.1 / 2 ^ a % 2) * 2 ^ b, u.2 ^^^ (u.2 / 2 ^ b % 2) * 2 ^ a)
  else if kd = "cz" then (u.1, (u.2 ^^^ (u.1 / 2 ^ b % 2) * 2 ^ a) ^^^ (u.1 / 2 ^ a % 2) * 2 ^ b)
  else if kd = "swap" then ((u.1 ^^^ ((u.1 / 2 ^ a % 2) ^^^ (u.1 / 2 ^ b % 2)) * 2 ^ a) ^^^ ((u.1 / 2 ^ a % 2) ^^^ (u.1 / 2 ^ b % 2)) * 2 ^ b, (u.2 ^^^ ((u.2 / 2 ^ a % 2) ^^^ (u.2 / 2 ^ b % 2)) * 2 ^ a) ^^^ ((u.2 / 2 ^ a % 2) ^^^ (u.2 / 2 ^ b % 2)) * 2 ^ b)
  else u
theorem gB_n {kd : PySem.Str} {a b : Nat} {u : T2} (h1 : ¬ kd = "h") (h2 : ¬ kd = "s") (h3 : ¬ kd = "cx") (h4 : ¬ kd = "cz") (h5 : ¬ kd = "swap") : gB kd a b u = u := by
  unfold gB
  rw [if_neg h1, if_neg h2, if_neg h3, if_neg h4, if_neg h5]
theorem gB_h (a b x z : Nat) : gB "h" a b (x, z) = (x ^^^ ((x / 2 ^ a % 2) ^^^ (z / 2 ^ a % 2)) * 2 ^ a, z ^^^ ((x / 2 ^ a % 2) ^^^ (z / 2 ^ a % 2)) * 2 ^ a) := by
  unfold gB
  rw [if_pos rfl]
theorem gB_s (a b x z : Nat) : gB "s" a b (x, z) = (x, z ^^^ (x / 2 ^ a % 2) * 2 ^ a) := by
  unfold gB
  rw [if_neg (by decide +kernel), if_pos rfl]
theorem gB_cx (a b x z : Nat) : gB "cx" a b (x, z) = (x ^^^ (x / 2 ^ a % 2) * 2 ^ b, z ^^^ (z / 2 ^ b % 2) * 2 ^ a) := by
  unfold gB
  rw [if_neg (by decide +kernel), if_neg (by decide +kernel), if_pos rfl]
theorem gB_cz (a b x z : Nat) : gB "cz" a b (x, z) = (x, (z ^^^ (x / 2 ^ b % 2) * 2 ^ a) ^^^ (x / 2 ^ a % 2) * 2 ^ b) := by
  unfold gB
  rw [if_neg (by decide +kernel), if_neg (by decide +kernel), if_neg (by decide +kernel), if_pos rfl]
theorem gB_swap (a b x z : Nat) : gB "swap" a b (x, z) = ((x ^^^ ((x / 2 ^ a % 2) ^^^ (x / 2 ^ b % 2)) * 2 ^ a) ^^^ ((x / 2 ^ a % 2) ^^^ (x / 2 ^ b % 2)) * 2 ^ b, (z ^^^ ((z / 2 ^ a % 2) ^^^ (z / 2 ^ b % 2)) * 2 ^ a) ^^^ ((z / 2 ^ a % 2) ^^^ (z / 2 ^ b % 2)) * 2 ^ b) := by
  unfold gB
  rw [if_neg (by decide +kernel), if_neg (by decide +kernel), if_neg (by decide +kernel), if_neg (by decide +kernel), if_pos rfl]
/-- a bit as a number -/
theorem bt_eq (x a : Nat) : x / 2 ^ a % 2 = (x.testBit a).toNat := by
  rw [Nat.toNat_testBit]
/-- one place alone -/
def pt (c : Bool) (a : Nat) : Nat := c.toNat * 2 ^ a
theorem pt_bit (c : Bool) (a j : Nat) : (pt c a).testBit j = (c && decide (a = j)) := by
  unfold pt
  cases c
  · simp
  · rw [show (true).toNat * 2 ^ a = 2 ^ a by simp, Nat.testBit_two_pow, Bool.true_and]
theorem bx (b c : Bool) : b.toNat ^^^ c.toNat = (b ^^ c).toNat := by cases b <;> cases c <;> rfl
/-- a linear map that keeps what crosses -/
structure Symp (n : Nat) (L : T2 → T2) : Prop where
  fit : ∀ u, Fit2 n u → Fit2 n (L u)
  lin : ∀ u v, L (xr2 u v) = xr2 (L u) (L v)
  cr : ∀ u v, Fit2 n u → Fit2 n v → cr2 (L u) (L v) = cr2 u v
theorem pc_one (x : Nat) (c : Bool) (a : Nat) : pc (x &&& pt c a) % 2 = (x.testBit a && c).toNat := by
  have e : x &&& pt c a = pt (x.testBit a && c) a := by
    apply Nat.eq_of_testBit_eq
    intro j
    rw [Nat.testBit_and, pt_bit, pt_bit]
    by_cases h : a = j
    · subst h
      cases c <;> simp
    · simp [h]
  rw [e]
  cases (x.testBit a && c)
  · unfold pt
    simp [pc_zero]
  · have : ∀ a : Nat, pc (2 ^ a) = 1 := fun a => by
      induction a with
      | zero => rw [show (2 : Nat) ^ 0 = 2 * 0 + 1 from rfl, pc_two _ _ (by decide), pc_zero]
      | succ a ih => rw [Nat.pow_succ, show 2 ^ a * 2 = 2 * 2 ^ a + 0 by omega, pc_two _ _ (by decide), ih]
    unfold pt
    rw [show (true).toNat * 2 ^ a = 2 ^ a by simp, this]
    rfl
theorem cr2_b (u v : T2) : cr2 u v = (pc (u.1 &&& v.2) + pc (u.2 &&& v.1)) % 2 := by
  unfold cr2
  rw [pc_xor]
theorem cr2_xl (u u' v : T2) : cr2 (xr2 u u') v = (cr2 u v + cr2 u' v) % 2 := by
  rw [cr2_b, cr2_b, cr2_b]
  show (pc ((u.1 ^^^ u'.1) &&& v.2) + pc ((u.2 ^^^ u'.2) &&& v.1)) % 2 = _
  rw [Nat.and_xor_distrib_right, Nat.and_xor_distrib_right]
  have h1 := pc_xor (u.1 &&& v.2) (u'.1 &&& v.2)
  have h2 := pc_xor (u.2 &&& v.1) (u'.2 &&& v.1)
  omega
theorem cr2_sym (u v : T2) : cr2 u v = cr2 v u := by
  rw [cr2_b, cr2_b, Nat.and_comm v.1, Nat.and_comm v.2, Nat.add_comm]
theorem cr2_xr (u v v' : T2) : cr2 u (xr2 v v') = (cr2 u v + cr2 u v') % 2 := by
  rw [cr2_sym, cr2_xl, cr2_sym v, cr2_sym v']
theorem cr2_lt (u v : T2) : cr2 u v < 2 := Nat.mod_lt _ (by decide)
/-- crossing a string at one place -/
theorem cr2_pt (u : T2) (p q : Bool) (a b : Nat) : cr2 u (pt p a, pt q b) = ((u.1.testBit b && q) ^^ (u.2.testBit a && p)).toNat := by
  rw [cr2_b]
  show (pc (u.1 &&& pt q b) + pc (u.2 &&& pt p a)) % 2 = _
  have h1 := pc_one u.1 q b
  have h2 := pc_one u.2 p a
  generalize (u.1.testBit b && q) = A at h1 ⊢
  generalize (u.2.testBit a && p) = B at h2 ⊢
  cases A <;> cases B <;> simp at h1 h2 ⊢ <;> omega
/-- a map that adds a string of one or two places -/
theorem bx1 {x y : Bool} : ((x.toNat + y.toNat) % 2) = (x ^^ y).toNat := by cases x <;> cases y <;> rfl
theorem xr2_pt2 (p q r s : Bool) (a b : Nat) (u : T2) : xr2 u (xr2 (pt p a, pt q a) (pt r b, pt s b)) = ((u.1 ^^^ pt p a) ^^^ pt r b, (u.2 ^^^ pt q a) ^^^ pt s b) := by
  unfold xr2
  rw [Nat.xor_assoc, Nat.xor_assoc]
/-- each gate adds to a string, at its places, what their four bits say -/
def gp (kd : PySem.Str) (o t f s : Bool) : (Bool × Bool) × (Bool × Bool) :=
  if kd = "h" then ((o ^^ t, o ^^ t), (false, false))
  else if kd = "s" then ((false, o), (false, false))
  else if kd = "cx" then ((false, s), (o, false))
  else if kd = "cz" then ((false, f), (false, o))
  else if kd = "swap" then ((o ^^ f, t ^^ s), (o ^^ f, t ^^ s))
  else ((false, false), (false, false))
def gA (kd : PySem.Str) (a b : Nat) (u : T2) : (Bool × Bool) × (Bool × Bool) := gp kd (u.1.testBit a) (u.2.testBit a) (u.1.testBit b) (u.2.testBit b)
theorem pt_false (a : Nat) : pt false a = 0 := by unfold pt; simp
theorem gB_add (kd : PySem.Str) (a b : Nat) (u : T2) : gB kd a b u = xr2 u (xr2 (pt (gA kd a b u).1.1 a, pt (gA kd a b u).1.2 a) (pt (gA kd a b u).2.1 b, pt (gA kd a b u).2.2 b)) := by
  rw [xr2_pt2]
  unfold gB gA gp
  split
  · simp only [bt_eq, bx, pt_false, Nat.xor_zero]
    rfl
  split
  · simp only [bt_eq, pt_false, Nat.xor_zero]
    rfl
  split
  · simp only [bt_eq, pt_false, Nat.xor_zero]
    rfl
  split
  · simp only [bt_eq, pt_false, Nat.xor_zero]
    rfl
  split
  · simp only [bt_eq, bx]
    rfl
  · simp only [pt_false, Nat.xor_zero]
theorem gp_lin (kd : PySem.Str) (o t f s o' t' f' s' : Bool) : gp kd (o ^^ o') (t ^^ t') (f ^^ f') (s ^^ s') = (((gp kd o t f s).1.1 ^^ (gp kd o' t' f' s').1.1, (gp kd o t f s).1.2 ^^ (gp kd o' t' f' s').1.2), ((gp kd o t f s).2.1 ^^ (gp kd o' t' f' s').2.1, (gp kd o t f s).2.2 ^^ (gp kd o' t' f' s').2.2)) := by
  unfold gp
  repeat' split
  all_goals first | rfl | (simp only [Prod.mk.injEq]; revert o t f s o' t' f' s'; decide +kernel)
theorem pt_x (c d : Bool) (a : Nat) : pt (c ^^ d) a = pt c a ^^^ pt d a := by
  apply Nat.eq_of_testBit_eq
  intro j
  rw [Nat.testBit_xor, pt_bit, pt_bit, pt_bit]
  cases c <;> cases d <;> simp
theorem gA_lin (kd : PySem.Str) (a b : Nat) (u v : T2) : gA kd a b (xr2 u v) = (((gA kd a b u).1.1 ^^ (gA kd a b v).1.1, (gA kd a b u).1.2 ^^ (gA kd a b v).1.2), ((gA kd a b u).2.1 ^^ (gA kd a b v).2.1, (gA kd a b u).2.2 ^^ (gA kd a b v).2.2)) := by
  unfold gA xr2
  simp only [Nat.testBit_xor]
  exact gp_lin ..
theorem gB_lin (kd : PySem.Str) (a b : Nat) (u v : T2) : gB kd a b (xr2 u v) = xr2 (gB kd a b u) (gB kd a b v) := by
  rw [gB_add, gB_add, gB_add, gA_lin]
  generalize gA kd a b u = g
  generalize gA kd a b v = h
  obtain ⟨⟨g1, g2⟩, g3, g4⟩ := g
  obtain ⟨⟨h1, h2⟩, h3, h4⟩ := h
  simp only [pt_x]
  unfold xr2
  refine Prod.ext ?_ ?_
  · apply Nat.eq_of_testBit_eq
    intro j
    simp only [Nat.testBit_xor]
    generalize u.1.testBit j = b1
    generalize v.1.testBit j = b2
    generalize (pt g1 a).testBit j = b3
    generalize (pt h1 a).testBit j = b4
    generalize (pt g3 b).testBit j = b5
    generalize (pt h3 b).testBit j = b6
    revert b1 b2 b3 b4 b5 b6
    decide +kernel
  · apply Nat.eq_of_testBit_eq
    intro j
    simp only [Nat.testBit_xor]
    generalize u.2.testBit j = b1
    generalize v.2.testBit j = b2
    generalize (pt g2 a).testBit j = b3
    generalize (pt h2 a).testBit j = b4
    generalize (pt g4 b).testBit j = b5
    generalize (pt h4 b).testBit j = b6
    revert b1 b2 b3 b4 b5 b6
    decide +kernel
theorem pt_lt {c : Bool} {a n : Nat} (h : a < n) : pt c a < 2 ^ n := by
  unfold pt
  cases c
  · simp
    exact Nat.two_pow_pos n
  · simp
    exact Nat.pow_lt_pow_right (by decide) h
theorem gB_fit {kd : PySem.Str} {n a b : Nat} (ha : a < n) (hb : b < n) {u : T2} (h : Fit2 n u) : Fit2 n (gB kd a b u) := by
  rw [gB_add, xr2_pt2]
  exact ⟨Nat.xor_lt_two_pow (Nat.xor_lt_two_pow h.1 (pt_lt ha)) (pt_lt hb), Nat.xor_lt_two_pow (Nat.xor_lt_two_pow h.2 (pt_lt ha)) (pt_lt hb)⟩
/-- the two strings' eight bits -/
theorem gp_cr (kd : PySem.Str) (o t f s o' t' f' s' : Bool) :
    let g := gp kd o t f s
    let h := gp kd o' t' f' s'
    (((o && h.1.2) ^^ (t && h.1.1)) ^^ ((f && h.2.2) ^^ (s && h.2.1)) ^^ ((o' && g.1.2) ^^ (t' && g.1.1)) ^^ ((f' && g.2.2) ^^ (s' && g.2.1)) ^^ ((g.1.1 && h.1.2) ^^ (g.1.2 && h.1.1)) ^^ ((g.2.1 && h.2.2) ^^ (g.2.2 && h.2.1))) = false := by
  unfold gp
  repeat' split
  all_goals (revert o t f s o' t' f' s'; decide +kernel)
/-- gates of one place, two unlike places for the others -/
def PlOk (kd : PySem.Str) (a b : Nat) : Prop := a ≠ b ∨ (¬ kd = "cx" ∧ ¬ kd = "cz" ∧ ¬ kd = "swap")
theorem gA_one {kd : PySem.Str} (h : ¬ kd = "cx" ∧ ¬ kd = "cz" ∧ ¬ kd = "swap") (a b : Nat) (u : T2) : (gA kd a b u).2 = (false, false) := by
  unfold gA gp
  split
  · rfl
  split
  · rfl
  rw [if_neg h.1, if_neg h.2.1, if_neg h.2.2]
theorem cr2_add (u d v e : T2) : cr2 (xr2 u d) (xr2 v e) = (cr2 u v + cr2 u e + cr2 v d + cr2 d e) % 2 := by
  rw [cr2_xl, cr2_xr, cr2_xr, cr2_sym v d]
  omega
theorem cr2_two (u : T2) (p q r s : Bool) (a b : Nat) : cr2 u (xr2 (pt p a, pt q a) (pt r b, pt s b)) = (((u.1.testBit a && q) ^^ (u.2.testBit a && p)) ^^ ((u.1.testBit b && s) ^^ (u.2.testBit b && r))).toNat := by
  rw [cr2_xr, cr2_pt, cr2_pt, bx1]
theorem tb_ab {a b : Nat} (h : a ≠ b) (p r : Bool) : (pt p a ^^^ pt r b).testBit a = p ∧ (pt p a ^^^ pt r b).testBit b = r := by
  constructor
  · rw [Nat.testBit_xor, pt_bit, pt_bit, decide_eq_true rfl, decide_eq_false (fun z => h z.symm)]
    simp
  · rw [Nat.testBit_xor, pt_bit, pt_bit, decide_eq_true rfl, decide_eq_false h]
    simp
theorem fin8 {c A B C : Nat} {X Y Z : Bool} (hA : A = X.toNat) (hB : B = Y.toNat) (hC : C = Z.toNat) (h : (X ^^ Y ^^ Z) = false) (hc : c < 2) : (c + A + B + C) % 2 = c := by
  subst hA hB hC
  cases X <;> cases Y <;> cases Z <;> simp at h ⊢ <;> omega
theorem gB_cr {kd : PySem.Str} {a b : Nat} (hp : PlOk kd a b) (u v : T2) : cr2 (gB kd a b u) (gB kd a b v) = cr2 u v := by
  rw [gB_add, gB_add, cr2_add]
  have key := gp_cr kd (u.1.testBit a) (u.2.testBit a) (u.1.testBit b) (u.2.testBit b) (v.1.testBit a) (v.2.testBit a) (v.1.testBit b) (v.2.testBit b)
  simp only at key
  change ((((u.1.testBit a && (gA kd a b v).1.2) ^^ (u.2.testBit a && (gA kd a b v).1.1)) ^^ ((u.1.testBit b && (gA kd a b v).2.2) ^^ (u.2.testBit b && (gA kd a b v).2.1)) ^^ ((v.1.testBit a && (gA kd a b u).1.2) ^^ (v.2.testBit a && (gA kd a b u).1.1)) ^^ ((v.1.testBit b && (gA kd a b u).2.2) ^^ (v.2.testBit b && (gA kd a b u).2.1)) ^^ (((gA kd a b u).1.1 && (gA kd a b v).1.2) ^^ ((gA kd a b u).1.2 && (gA kd a b v).1.1)) ^^ (((gA kd a b u).2.1 && (gA kd a b v).2.2) ^^ ((gA kd a b u).2.2 && (gA kd a b v).2.1))) = false) at key
  have one := fun (h : ¬ kd = "cx" ∧ ¬ kd = "cz" ∧ ¬ kd = "swap") => And.intro (gA_one h a b u) (gA_one h a b v)
  generalize gA kd a b u = g at *
  generalize gA kd a b v = h at *
  obtain ⟨⟨g1, g2⟩, g3, g4⟩ := g
  obtain ⟨⟨h1, h2⟩, h3, h4⟩ := h
  simp only at key ⊢
  have eC : cr2 (xr2 (pt g1 a, pt g2 a) (pt g3 b, pt g4 b)) (xr2 (pt h1 a, pt h2 a) (pt h3 b, pt h4 b)) = (((g1 && h2) ^^ (g2 && h1)) ^^ ((g3 && h4) ^^ (g4 && h3))).toNat := by
    rw [cr2_two]
    unfold xr2
    simp only
    rcases hp with hp | hp
    · obtain ⟨a1, a2⟩ := tb_ab hp g1 g3
      obtain ⟨b1, b2⟩ := tb_ab hp g2 g4
      rw [a1, a2, b1, b2]
    · obtain ⟨o1, o2⟩ := one hp
      injection o1 with o1 o1'
      injection o2 with o2 o2'
      subst o1 o1' o2 o2'
      simp only [pt_false, Nat.xor_zero, pt_bit, decide_true, Bool.and_true, Bool.and_false, Bool.false_and, Bool.xor_false]
  refine fin8 (cr2_two u h1 h2 h3 h4 a b) (cr2_two v g1 g2 g3 g4 a b) eC ?_ (cr2_lt _ _)
  rw [← key]
  generalize (u.1.testBit a && h2) = x1
  generalize (u.2.testBit a && h1) = x2
  generalize (u.1.testBit b && h4) = x3
  generalize (u.2.testBit b && h3) = x4
  generalize (v.1.testBit a && g2) = y1
  generalize (v.2.testBit a && g1) = y2
  generalize (v.1.testBit b && g4) = y3
  generalize (v.2.testBit b && g3) = y4
  generalize ((g1 && h2) ^^ (g2 && h1)) = z1
  generalize ((g3 && h4) ^^ (g4 && h3)) = z2
  clear key one eC
  revert x1 x2 x3 x4 y1 y2 y3 y4 z1 z2
  decide +kernel
theorem Symp.id (n : Nat) : Symp n (fun u => u) := ⟨fun _ h => h, fun _ _ => rfl, fun _ _ _ _ => rfl⟩
theorem Symp.gate {n : Nat} {L : T2 → T2} (S : Symp n L) {kd : PySem.Str} {a b : Nat} (ha : a < n) (hb : b < n) (hp : PlOk kd a b) : Symp n (fun u => gB kd a b (L u)) :=
  ⟨fun u h => gB_fit ha hb (S.fit u h), fun u v => by show gB kd a b (L (xr2 u v)) = _; rw [S.lin, gB_lin], fun u v hu hv => by show cr2 (gB kd a b (L u)) (gB kd a b (L v)) = _; rw [gB_cr hp, S.cr u v hu hv]⟩
theorem xr2_self (u : T2) : xr2 u u = (0, 0) := by
  unfold xr2
  rw [Nat.xor_self, Nat.xor_self]
theorem Symp.zero {n : Nat} {L : T2 → T2} (S : Symp n L) : L (0, 0) = (0, 0) := by
  have := S.lin (0, 0) (0, 0)
  rw [xr2_self, xr2_self] at this
  exact this
/-- what crosses nothing is nothing -/
theorem cr2_all {n : Nat} {u : T2} (hu : Fit2 n u) (h : ∀ v, Fit2 n v → cr2 u v = 0) : u = (0, 0) := by
  refine Prod.ext ?_ ?_
  · apply Nat.eq_of_testBit_eq
    intro j
    show u.1.testBit j = (0 : Nat).testBit j
    rw [Nat.zero_testBit]
    by_cases hj : j < n
    · have := h (pt false j, pt true j) ⟨pt_lt hj, pt_lt hj⟩
      rw [cr2_pt] at this
      cases e : u.1.testBit j
      · rfl
      · rw [e] at this
        simp at this
    · exact Nat.testBit_lt_two_pow (Nat.lt_of_lt_of_le hu.1 (Nat.pow_le_pow_right (by decide) (by omega)))
  · apply Nat.eq_of_testBit_eq
    intro j
    show u.2.testBit j = (0 : Nat).testBit j
    rw [Nat.zero_testBit]
    by_cases hj : j < n
    · have := h (pt true j, pt false j) ⟨pt_lt hj, pt_lt hj⟩
      rw [cr2_pt] at this
      cases e : u.2.testBit j
      · rfl
      · rw [e] at this
        simp at this
    · exact Nat.testBit_lt_two_pow (Nat.lt_of_lt_of_le hu.2 (Nat.pow_le_pow_right (by decide) (by omega)))
theorem cr2_z (v : T2) : cr2 (0, 0) v = 0 := by
  rw [cr2_b]
  show (pc (0 &&& v.2) + pc (0 &&& v.1)) % 2 = 0
  rw [Nat.zero_and, Nat.zero_and, pc_zero]
theorem Symp.inj {n : Nat} {L : T2 → T2} (S : Symp n L) {u : T2} (hu : Fit2 n u) (h : L u = (0, 0)) : u = (0, 0) := cr2_all hu fun v hv => by
  rw [← S.cr u v hu hv, h, cr2_z]
theorem fit2_x {n : Nat} {u v : T2} (hu : Fit2 n u) (hv : Fit2 n v) : Fit2 n (xr2 u v) := ⟨Nat.xor_lt_two_pow hu.1 hv.1, Nat.xor_lt_two_pow hu.2 hv.2⟩
theorem x_zero {x y : Nat} (h : x ^^^ y = 0) : x = y := by
  apply Nat.eq_of_testBit_eq
  intro j
  have := congrArg (Nat.testBit · j) h
  simp only [Nat.testBit_xor, Nat.zero_testBit] at this
  cases e : x.testBit j <;> cases e2 : y.testBit j <;> rw [e, e2] at this <;> first | rfl | cases this
theorem Symp.one {n : Nat} {L : T2 → T2} (S : Symp n L) {u v : T2} (hu : Fit2 n u) (hv : Fit2 n v) (h : L u = L v) : u = v := by
  have := S.inj (fit2_x hu hv) (by rw [S.lin, h, xr2_self])
  have h1 := congrArg Prod.fst this
  have h2 := congrArg Prod.snd this
  exact Prod.ext (x_zero h1) (x_zero h2)
end KQ
namespace KQ
open PySem PySem.Spec PyProof.Rows L2
abbrev sShuf : Stmt := topS 44
abbrev sOnes : Stmt := topS 45
abbrev sCross : Stmt := topS 46
abbrev sProd : Stmt := topS 47
abbrev sLett : Stmt := topS 48
abbrev sText : Stmt := topS 49
abbrev sOfT : Stmt := topS 50
abbrev sGate : Stmt := topS 54
abbrev sCode : Stmt := topS 55
abbrev sLaw : Stmt := topS 64
theorem erase_perm {α : Type} : ∀ {l : List α} {i : Nat} (h : i < l.length), (l[i] :: l.eraseIdx i).Perm l
  | [], _, h => absurd h (Nat.not_lt_zero _)
  | _ :: _, 0, _ => .refl _
  | a :: l, i + 1, h => (List.Perm.swap a _ _).trans ((erase_perm (l := l) (i := i) (Nat.lt_of_succ_lt_succ h)).cons a)
theorem scOnes : FnScope ["_law_number", "_law_count", "_law_lap"] ["_law_number"] (defScope sOnes) := ⟨rfl, rfl, rfl, by decide +kernel, rfl, by decide +kernel, by decide +kernel⟩
theorem scLett : FnScope ["_law_string", "_law_size", "_law_found", "_law_k"] ["_law_string", "_law_size"] (defScope sLett) := ⟨rfl, rfl, rfl, by decide +kernel, rfl, by decide +kernel, by decide +kernel⟩
theorem scOfT : FnScope ["_law_text_here", "_law_sign", "_law_letters_here", "_law_x", "_law_z", "_law_k"] ["_law_text_here"] (defScope sOfT) := ⟨rfl, rfl, rfl, by decide +kernel, rfl, by decide +kernel, by decide +kernel⟩
theorem shr_bit {f : Nat → Nat} (hf : ∀ c, f c < 2) {L : List Nat} {k c : Nat} (h : L[k]? = some c) : ((bv f L : Nat) : Int) / 2 ^ ((0 : Int) + (k : Nat)).toNat % 2 = ((f c : Nat) : Int) := by
  rw [Int.zero_add, Int.toNat_natCast]
  have e := bv_bit hf h
  have : (((bv f L / 2 ^ k % 2 : Nat)) : Int) = ((f c : Nat) : Int) := by rw [e]
  rw [← this]
  push_cast
  rfl
theorem e_XY : ("XY" : Str).cps.toList = [88, 89] := by decide +kernel
theorem e_ZY : ("ZY" : Str).cps.toList = [90, 89] := by decide +kernel
theorem e_IXZY : ("IXZY" : Str) = mS [73, 88, 90, 89] := by decide +kernel
theorem e_some : ("IIXYZ" : Str).cps.toList = [73, 73, 88, 89, 90] := by decide +kernel
theorem e_pm : ("+-" : Str) = mS [43, 45] := by decide +kernel
theorem in_XY (c : Nat) : (if decide (c ∈ ("XY" : Str).cps.toList) then (1 : Int) else 0) = ((lx c : Nat) : Int) := by
  rw [e_XY]
  unfold lx
  by_cases h : c = 88 ∨ c = 89
  · rw [if_pos h, if_pos (decide_eq_true (by simpa using h))]
    rfl
  · rw [if_neg h, if_neg (by simpa using h)]
    rfl
theorem in_ZY (c : Nat) : (if decide (c ∈ ("ZY" : Str).cps.toList) then (1 : Int) else 0) = ((lz c : Nat) : Int) := by
  rw [e_ZY]
  unfold lz
  by_cases h : c = 90 ∨ c = 89
  · rw [if_pos h, if_pos (decide_eq_true (by simpa using h))]
    rfl
  · rw [if_neg h, if_neg (by simpa using h)]
    rfl
def Lts8 (L : List Nat) : Prop := ∀ c ∈ L, isL c = true
theorem Lts8.at {L : List Nat} (h : Lts8 L) {k c : Nat} (e : L[k]? = some c) : isL c = true := h c (List.mem_of_getElem? e)
def spOnes : Sp := fun vs H Q _ => ∃ n : Nat, vs = [.int (n : Int)] ∧ pc n ≤ 63 ∧ Q (.int (pc n : Nat)) H
def spLett : Sp := fun vs H Q _ => ∃ (t : Addr) (L : List Nat) (z : Int), vs = [.ref t, .int (L.length : Int)] ∧ H t = some (.tup [.int (bv lx L : Nat), .int (bv lz L : Nat), .int z]) ∧ Lts8 L ∧ L.length ≤ 60 ∧ Q (.str (mS L)) H
def spOfT : Sp := fun vs H Q _ => ∃ L : List Nat, vs = [.str (mS L)] ∧ Lts8 L ∧ L.length ≤ 60 ∧ ∀ H' t, Same H H' → H t = none → H' t = some (.tup [.int (bv lx L : Nat), .int (bv lz L : Nat), .int 0]) → Q (.ref t) H'
section
variable {P : Program} {w : World} {K : PySem.W.Frag} {mg : Str → Option Value} {base : Heap}
theorem ok_ones {f : Addr} {fd : FuncData} {k : Nat} (F : Fun K "_law_ones" "_law_ones" sOnes f fd) (B : Bl mg) : FnOk P w K mg base CX0 (k + 1) f fd ["_law_number"] spOnes := by
  refine F.ok scOnes (fun vs H Q E h => ?_) (fun cdv A outer s H vs Q E hr h => ?_)
  · obtain ⟨n, rfl, _⟩ := h
    rfl
  · obtain ⟨n, rfl, hn, q⟩ := h
    refine ⟨_, C8.pss_cut (ps_set (i := 1) scOnes.nd rfl (.inl rfl) pe_int)
      (C8.pss_cut (ps_for PassesOwn.never rfl (pi_range1 (by rfl) B.range (pa_cons pe_int pa_nil)) (pg_name (i := 2) scOnes.nd rfl (.inl rfl))
        (pss_cons (ps_if (pt_cmpR op_eq (pv 0) pe_int (nomark _)) (pss_one ps_break) pss_nil)
        (pss_one (ps_par (i := 0) (j := 1) rfl scOnes.nd rfl rfl (by decide) rfl rfl (pa_cons (pe_op op_and (pv 0) (pe_op op_sub (pv 0) pe_int)) (pa_cons (pe_op op_add (pv 1) pe_int) pa_nil)) rfl))))
      (pss_one (ps_ret (pv 1)))), ?_⟩
    refine ⟨fun σ' H' => σ' = [some (.int (n : Int)), some (.int 0), none] ∧ H' = H, ⟨rfl, rfl⟩, ?_⟩
    rintro _ H1 ⟨rfl, rfl⟩
    refine ⟨fun σ' H' => ∃ lap, σ' = [some (.int 0), some (.int (pc n : Nat)), lap] ∧ H' = H1, ?_, ?_⟩
    · refine ⟨64, rfl, by decide, by decide, for_range (n := 64) (fun i σ' H' => ∃ (m : Nat) (lap : Option V), σ' = [some (.int (m : Int)), some (.int (i : Int)), lap] ∧ H' = H1 ∧ pc m + i = pc n) ⟨n, none, rfl, rfl, rfl⟩ ?_ ?_⟩
      · rintro i _ _ hi ⟨m, lap, rfl, rfl, he⟩
        refine ⟨_, rfl, rfl, _, rfl, ite2 (fun e => ?_) (fun e => ?_)⟩
        · have e' : m = 0 := by have := V.int.inj (of_decide_eq_true e); omega
          subst e'
          rw [pc_zero] at he
          exact ⟨_, by rw [← he, Nat.zero_add]; rfl, rfl⟩
        · have e' : m ≠ 0 := fun z => e (decide_eq_true (by rw [z]; rfl))
          have em : ((m : Nat) : Int) - 1 = ((m - 1 : Nat) : Int) := by omega
          refine ⟨_, rfl, _, rfl, _, _, rfl, rfl, _, _, rfl, rfl, _, rfl, _, _, rfl, rfl, _, _, rfl, m &&& (m - 1), some (.int (0 + (i : Int))), ?_, rfl, ?_⟩
          · show [some (V.int (Builtin.bitAnd (m : Int) ((m : Int) - 1))), some (V.int ((i : Int) + 1)), some (V.int (0 + (i : Int)))] = _
            rw [em, band]
            rfl
          · have := pc_step m (by omega)
            omega
      · rintro _ _ ⟨m, lap, rfl, rfl, he⟩
        omega
    rintro _ H2 ⟨lap, rfl, rfl⟩
    exact ⟨_, rfl, q⟩
theorem ok_lett {f : Addr} {fd : FuncData} {k : Nat} (F : Fun K "_law_letters" "_law_letters" sLett f fd) (B : Bl mg) : FnOk P w K mg base CX0 (k + 1) f fd ["_law_string", "_law_size"] spLett := by
  refine F.ok scLett (fun vs H Q E h => ?_) (fun cdv A outer s H vs Q E hr h => ?_)
  · obtain ⟨t, L, z, rfl, _⟩ := h
    rfl
  · obtain ⟨t, L, z, rfl, et, hL, hl, q⟩ := h
    refine ⟨_, C8.pss_cut (ps_set (i := 2) scLett.nd rfl (.inl rfl) pe_str)
      (C8.pss_cut (ps_for PassesOwn.never rfl (pi_range1 (by rfl) B.range (pa_cons (pv 1) pa_nil)) (pg_name (i := 3) scLett.nd rfl (.inl rfl))
        (pss_one (ps_set (i := 2) scLett.nd rfl (.inl rfl) (pe_op op_add_str (pv 2) (pe_ix ix_str pe_str (pe_op op_add
          (pe_op op_mod (pe_callTy call_int1 (by rfl) B.int bootI (pa_cons (pe_op op_shr (pe_ix ix_tup (pv 0) pe_int (fun _ _ => rfl)) (pv 3)) pa_nil)) pe_int)
          (pe_op op_mul pe_int (pe_op op_mod (pe_callTy call_int1 (by rfl) B.int bootI (pa_cons (pe_op op_shr (pe_ix ix_tup (pv 0) pe_int (fun _ _ => rfl)) (pv 3)) pa_nil)) pe_int))) (fun _ _ => rfl))))))
      (pss_one (ps_ret (pv 2)))), ?_⟩
    have sq : SqT K H t [.int (bv lx L : Nat), .int (bv lz L : Nat), .int z] := .inl (.inl et)
    have j0 : atI [V.int (bv lx L : Nat), V.int (bv lz L : Nat), V.int z] 0 = some (.int (bv lx L : Nat)) := at_of (j := 0) rfl rfl
    have j1 : atI [V.int (bv lx L : Nat), V.int (bv lz L : Nat), V.int z] 1 = some (.int (bv lz L : Nat)) := at_of (j := 1) rfl rfl
    refine ⟨fun σ' H' => σ' = [some (.ref t), some (.int (L.length : Int)), some (.str (mS [])), none] ∧ H' = H, ⟨by rw [show mS [] = ("" : Str) from e_no.symm]; rfl, rfl⟩, ?_⟩
    rintro _ H1 ⟨rfl, rfl⟩
    refine ⟨fun σ' H' => ∃ lap, σ' = [some (.ref t), some (.int (L.length : Int)), some (.str (mS L)), lap] ∧ H' = H1, ?_, ?_⟩
    · refine ⟨_, rfl, _, rfl, by omega, by omega, for_range (n := L.length) (fun i σ' H' => ∃ lap, σ' = [some (.ref t), some (.int (L.length : Int)), some (.str (mS (L.take i))), lap] ∧ H' = H1) ⟨none, rfl, rfl⟩ ?_ ?_⟩
      · rintro i _ _ hi ⟨lap, rfl, rfl⟩
        have hx : L[i]? = some L[i] := List.getElem?_eq_getElem hi
        have hc := hL.at hx
        have b0 := shr_bit lx_lt hx
        have b1 := shr_bit lz_lt hx
        refine ⟨_, rfl, _, rfl, t, _, _, _, rfl, rfl, sq, j0, _, rfl, _, _, rfl, rfl, by show (0 : Int) ≤ 0 + (i : Int); omega, .inl ⟨_, rfl, _, _, rfl, rfl, by show (0 : Int) < 2; decide, ?_⟩⟩
        refine ⟨_, rfl, t, _, _, _, rfl, rfl, sq, j1, _, rfl, _, _, rfl, rfl, by show (0 : Int) ≤ 0 + (i : Int); omega, .inl ⟨_, rfl, _, _, rfl, rfl, by show (0 : Int) < 2; decide, _, _, rfl, rfl, .inl ⟨by decide, by decide⟩, ?_⟩⟩
        refine ⟨_, _, rfl, rfl, _, _, L[i], rfl, rfl, by show (4 : Nat) ≤ sizeLine; decide, ?_, _, _, rfl, rfl, ?_, ?_⟩
        · show atI _ (((bv lx L : Nat) : Int) / 2 ^ ((0 : Int) + (i : Nat)).toNat % 2 + 2 * (((bv lz L : Nat) : Int) / 2 ^ ((0 : Int) + (i : Nat)).toNat % 2)) = _
          rw [b0, b1, e_IXZY]
          have e2 : ((lx L[i] : Nat) : Int) + 2 * ((lz L[i] : Nat) : Int) = ((lx L[i] + 2 * lz L[i] : Nat) : Int) := by omega
          rw [e2]
          exact atI_nat (letter_back hc)
        · rw [mS_len, List.length_take]
          exact Nat.le_trans (by show _ + 1 ≤ 61; omega) (by decide : 61 ≤ sizeLine)
        · refine ⟨some (.int (0 + (i : Int))), ?_, rfl⟩
          show [_, _, some (V.str (mS (L.take i) ++ mS [L[i]])), _] = _
          rw [mS_app]
          have e3 : L.take (i + 1) = L.take i ++ [L[i]] := by rw [List.take_succ, hx]; rfl
          rw [e3]
      · rintro _ _ ⟨lap, rfl, rfl⟩
        rw [List.take_of_length_le (Nat.le_refl _)]
        exact ⟨_, rfl, rfl⟩
    rintro _ H2 ⟨lap, rfl, rfl⟩
    exact ⟨_, rfl, q⟩
end
theorem bootL : bootBuiltins "list" = some (.type "list") := by decide +kernel
theorem same_upd {H H' : Hp} {p : Addr} {o : HO} (s : Same H H') (np : H p = none) : Same H (upd H' p o) := fun b u e => by
  rw [upd_ne (ne_of_none e np)]
  exact s _ _ e
theorem none_back {H H' : Hp} {p : Addr} (s : Same H H') (np : H' p = none) : H p = none := by
  cases e : H p with
  | none => rfl
  | some o => rw [s _ _ e] at np; cases np
theorem cut_one (L : List Nat) : cutS (mS L) none (some 1) = mS (L.take 1) := cut_to L 1
theorem take_one (L : List Nat) (c : Nat) : decide (V.str (mS (L.take 1)) = V.str (mS [c])) = decide (L.head? = some c) := by
  cases L with
  | nil =>
    rw [decide_eq_false (fun z => by cases mS_inj (V.str.inj z)), decide_eq_false (fun z => by cases z)]
  | cons a L =>
    show decide (V.str (mS [a]) = V.str (mS [c])) = decide (some a = some c)
    by_cases h : a = c
    · subst h
      rw [decide_eq_true rfl, decide_eq_true rfl]
    · rw [decide_eq_false (fun z => h (List.cons.inj (mS_inj (V.str.inj z))).1), decide_eq_false (fun z => h (Option.some.inj z))]
theorem Lts8.strip {L : List Nat} (h : Lts8 L) : L.dropWhile (#[43, 45] : Array Nat).contains = L := by
  cases L with
  | nil => rfl
  | cons a M =>
    have := isL_iff.mp (h a List.mem_cons_self)
    rw [List.dropWhile_cons_of_neg]
    rcases this with rfl | rfl | rfl | rfl <;> simp
theorem Lts8.head {L : List Nat} (h : Lts8 L) : ¬ L.head? = some 45 := by
  cases L with
  | nil => exact fun z => by cases z
  | cons a M =>
    intro z
    have := isL_iff.mp (h a List.mem_cons_self)
    have e := Option.some.inj z
    omega
section
variable {P : Program} {w : World} {K : PySem.W.Frag} {mg : Str → Option Value} {base : Heap}
theorem ok_oft {f : Addr} {fd : FuncData} {k : Nat} (F : Fun K "_law_of_text" "_law_of_text" sOfT f fd) (B : Bl mg) : FnOk P w K mg base CX0 (k + 1) f fd ["_law_text_here"] spOfT := by
  refine F.ok scOfT (fun vs H Q E h => ?_) (fun cdv A outer s H vs Q E hr h => ?_)
  · obtain ⟨L, rfl, _⟩ := h
    rfl
  · obtain ⟨L, rfl, hL, hl, q⟩ := h
    refine ⟨_, C8.pss_cut (ps_par (i := 1) (j := 2) rfl scOfT.nd rfl rfl (by decide) rfl rfl (pa_cons (pe_callTy call_int1 (by rfl) B.int bootI (pa_cons (pe_cmpR op_eq (pe_slice sl_str (pv 0) po_none (po_some pe_int)) pe_str (nomark _)) pa_nil))
        (pa_cons (pe_bm PySem.F.plainAttrs_str PySem.F.slot_str_lstrip PySem.F.type_str_lstrip mt_lstripChars (pv 0) (pa_cons pe_str pa_nil)) pa_nil)) rfl)
      (C8.pss_cut (ps_asg (pe_tup (pa_cons pe_int (pa_cons pe_int pa_nil))) (pg_tup rfl (pgs_cons (pg_name (i := 3) scOfT.nd rfl (.inl rfl)) (pgs_cons (pg_name (i := 4) scOfT.nd rfl (.inl rfl)) pgs_nil))))
      (C8.pss_cut (ps_for PassesOwn.never rfl (pi_range1 (by rfl) B.range (pa_cons (pe_callB call_len_str (by rfl) B.len PySem.boot_len (pa_cons (pv 2) pa_nil)) pa_nil)) (pg_name (i := 5) scOfT.nd rfl (.inl rfl))
        (pss_cons (ps_set (i := 3) scOfT.nd rfl (.inl rfl) (pe_op op_add (pv 3) (pe_op op_mul (pe_op op_shl pe_int (pv 5)) (pe_callTy call_int1 (by rfl) B.int bootI (pa_cons (pe_cmpR op_in_sign (pe_ix ix_str (pv 2) (pv 5) (fun _ _ => rfl)) pe_str (by rfl)) pa_nil)))))
        (pss_one (ps_set (i := 4) scOfT.nd rfl (.inl rfl) (pe_op op_add (pv 4) (pe_op op_mul (pe_op op_shl pe_int (pv 5)) (pe_callTy call_int1 (by rfl) B.int bootI (pa_cons (pe_cmpR op_in_sign (pe_ix ix_str (pv 2) (pv 5) (fun _ _ => rfl)) pe_str (by rfl)) pa_nil))))))))
      (pss_one (ps_ret (pe_tup (pa_cons (pv 3) (pa_cons (pv 4) (pa_cons (pv 1) pa_nil)))))))), ?_⟩
    have hz : (mS L).length ≤ sizeLine := by rw [mS_len]; exact sizeBig (by omega)
    refine ⟨fun σ' H' => σ' = [some (.str (mS L)), some (.int 0), some (.str (mS L)), none, none, none] ∧ H' = H, ?_, ?_⟩
    · refine ⟨_, rfl, _, rfl, _, rfl, hz, rfl, .inr ⟨_, rfl, _, rfl, rfl, _, _, rfl, rfl, hz, _, _, rfl, ?_⟩⟩
      rw [cut_one, show ("-" : Str) = mS [45] from e_minus, take_one, decide_eq_false hL.head, e_pm, lstrip_eq, hL.strip]
      exact ⟨rfl, rfl⟩
    rintro _ H1 ⟨rfl, rfl⟩
    refine ⟨fun σ' H' => σ' = [some (.str (mS L)), some (.int 0), some (.str (mS L)), some (.int 0), some (.int 0), none] ∧ Same H1 H', ⟨by show 2 ≤ sizeLine; decide, fun r nr => ⟨r, _, rfl, .inl (.inl upd_same), rfl, _, _, rfl, _, _, rfl, rfl, rfl, same_new nr⟩⟩, ?_⟩
    rintro _ H2 ⟨rfl, s12⟩
    refine ⟨fun σ' H' => ∃ lap, σ' = [some (.str (mS L)), some (.int 0), some (.str (mS L)), some (.int (bv lx L : Nat)), some (.int (bv lz L : Nat)), lap] ∧ H' = H2, ?_, ?_⟩
    · refine ⟨_, rfl, _, rfl, hz, _, rfl, by rw [mS_len]; omega, by rw [mS_len]; omega, for_range (n := (mS L).length) (fun i σ' H' => ∃ lap, σ' = [some (.str (mS L)), some (.int 0), some (.str (mS L)), some (.int (bv lx (L.take i) : Nat)), some (.int (bv lz (L.take i) : Nat)), lap] ∧ H' = H2) ⟨none, rfl, rfl⟩ ?_ ?_⟩
      · rintro i _ _ hi ⟨lap, rfl, rfl⟩
        rw [mS_len] at hi
        have hx : L[i]? = some L[i] := List.getElem?_eq_getElem hi
        have hat : atI (mS L).cps.toList ((0 : Int) + (i : Nat)) = some L[i] := by
          rw [Int.zero_add]
          exact atI_nat hx
        have cp : CPow 1 ((0 : Int) + (i : Nat)) := ⟨by omega, by omega, by decide⟩
        have cm : ∀ (m : Int) (b : Bool), CMul m (if b then 1 else 0) := fun m b => .inr (by cases b <;> decide)
        refine ⟨_, rfl, _, rfl, _, _, rfl, rfl, cp, _, rfl, _, rfl, _, _, L[i], rfl, rfl, hz, hat, _, _, rfl, rfl, .inr ⟨_, rfl, _, _, rfl, rfl, cm _ _, _, _, rfl, rfl, ?_⟩⟩
        refine ⟨_, rfl, _, rfl, _, _, rfl, rfl, cp, _, rfl, _, rfl, _, _, L[i], rfl, rfl, hz, hat, _, _, rfl, rfl, .inr ⟨_, rfl, _, _, rfl, rfl, cm _ _, _, _, rfl, rfl, ?_⟩⟩
        refine ⟨some (.int (0 + (i : Int))), ?_, rfl⟩
        show [_, _, _, some (V.int (((bv lx (L.take i) : Nat) : Int) + 1 * 2 ^ ((0 : Int) + (i : Nat)).toNat * (if decide (L[i] ∈ ("XY" : Str).cps.toList) then 1 else 0))), some (V.int (((bv lz (L.take i) : Nat) : Int) + 1 * 2 ^ ((0 : Int) + (i : Nat)).toNat * (if decide (L[i] ∈ ("ZY" : Str).cps.toList) then 1 else 0))), _] = _
        rw [in_XY, in_ZY, bv_take lx hx, bv_take lz hx, Int.zero_add, Int.toNat_natCast, Int.one_mul]
        push_cast
        rfl
      · rintro _ _ ⟨lap, rfl, rfl⟩
        rw [mS_len, List.take_of_length_le (Nat.le_refl _)]
        exact ⟨_, rfl, rfl⟩
    rintro _ H3 ⟨lap, rfl, rfl⟩
    exact ⟨_, rfl, _, rfl, _, rfl, by show 3 ≤ sizeLine; decide, fun p np => q _ p (s12.trans (same_new np)) (s12.free np) upd_same⟩
def spPickS : Sp := fun vs H Q _ => ∃ (p c : Addr) (z : Str) (n : Nat), vs = [.ref p, .str z] ∧ PenAt H p c n ∧ n < 1000000 ∧ z.cps.toList ≠ [] ∧ z.length ≤ 1000 ∧
  ∀ (i ch : Nat) H', z.cps.toList[i]? = some ch → PenAt H' p c (n + 1) → (∀ b, b ≠ p → H' b = H b) → Q (.str ⟨#[ch]⟩) H'
theorem ok_pickS {f fD : Addr} {fd fdD : FuncData} {k : Nat} (F : Fun K "_law_pick" "_law_pick" sPick f fd) (FD : Fun K "_law_draw" "_law_draw" sDraw fD fdD) (bD : Binds K fdD ["_law_pen_here", "_law_many"] []) (gD : mg "_law_draw" = some (.ref fD)) (B : Bl mg) :
    FnOk P w K mg base CX0 (k + 2) f fd ["_law_pen_here", "_law_some"] spPickS := by
  have GD : FnOk P w K mg base CX0 (k + 1) fD fdD ["_law_pen_here", "_law_many"] spDraw := ok_draw FD B.int B.len
  refine F.ok scPick (fun vs H Q E h => ?_) (fun cdv A outer s H vs Q E hr h => ?_)
  · obtain ⟨p, c, z, n, rfl, _⟩ := h
    rfl
  · obtain ⟨p, c, z, n, rfl, hP, hn, h0, hl, q⟩ := h
    refine ⟨_, pss_one (ps_ret (pe_ix ix_str (pv 1) (pe_call GD hr (by rfl) gD FD.kp bD .nil pass0 (pa_cons (pv 0) (pa_cons (pe_callB call_len_str (by rfl) B.len PySem.boot_len (pa_cons (pv 1) pa_nil)) pa_nil))) (fun _ _ => rfl))), ?_⟩
    have hlen : z.cps.toList.length = z.length := by simp [Str.length]
    have hpos : 0 < z.cps.toList.length := List.length_pos_iff.mpr h0
    refine ⟨_, rfl, _, rfl, _, rfl, _, rfl, sizeBig hl, p, c, n, _, rfl, hP, hn, by omega, ?_, fun r H' r0 r1 hP' hk => ?_⟩
    · have e : (z.length : Int).natAbs = z.length := by omega
      rw [e]
      exact Nat.lt_of_le_of_lt hl (by decide)
    · obtain ⟨j, rfl⟩ : ∃ j : Nat, r = (j : Int) := ⟨r.toNat, by omega⟩
      have hj : j < z.cps.toList.length := by omega
      have hx : z.cps.toList[j]? = some z.cps.toList[j] := List.getElem?_eq_getElem hj
      exact ⟨_, _, _, rfl, rfl, sizeBig hl, atI_nat hx, q j _ H' hx hP' hk⟩
end
theorem scShuf : FnScope ["_law_pen_here", "_law_some", "_law_rest", "_law_found", "_law_lap"] ["_law_pen_here", "_law_some"] (defScope sShuf) := ⟨rfl, rfl, rfl, by decide +kernel, rfl, by decide +kernel, by decide +kernel⟩
def KB (p : Addr) (H H' : Hp) : Prop := ∀ b o, H b = some o → b ≠ p → H' b = some o
theorem KB.refl (p : Addr) (H : Hp) : KB p H H := fun _ _ e _ => e
theorem KB.trans {p : Addr} {H H1 H2 : Hp} (a : KB p H H1) (b : KB p H1 H2) : KB p H H2 := fun c o e n => b c o (a c o e n) n
theorem KB.of {p : Addr} {H H' : Hp} (s : Same H H') : KB p H H' := fun b o e _ => s b o e
theorem KB.eq {p : Addr} {H H' : Hp} (k : ∀ b, b ≠ p → H' b = H b) : KB p H H' := fun b o e n => (k b n).trans e
theorem KB.up {p : Addr} {H H' : Hp} {r : Addr} {o : HO} (k : KB p H H') (n : H r = none) : KB p H (upd H' r o) := fun b u e hb => by
  rw [upd_ne (ne_of_none e n)]
  exact k b u e hb
theorem KB.sm {p : Addr} {H H1 H2 : Hp} (a : KB p H H1) (b : Same H1 H2) : KB p H H2 := a.trans (KB.of b)
def spShuf (K : PySem.W.Frag) : Sp := fun vs H Q _ => ∃ (p c q : Addr) (n : Nat) (xs : List V), vs = [.ref p, .ref q] ∧ PenAt H p c n ∧ n + 140 < 1000000 ∧ SqL K H q xs ∧ xs.length ≤ 130 ∧
  ∀ H' r ys, ys.Perm xs → ys.length = xs.length → (∀ y ∈ ys, y ∈ xs) → PenAt H' p c (n + xs.length) → KB p H H' → H r = none → H' r = some (.lst ys) → Q (.ref r) H'
section
variable {P : Program} {w : World} {K : PySem.W.Frag} {mg : Str → Option Value} {base : Heap}
theorem ok_shuf {f fD : Addr} {fd fdD : FuncData} {k : Nat} (F : Fun K "_law_shuffled" "_law_shuffled" sShuf f fd) (FD : Fun K "_law_draw" "_law_draw" sDraw fD fdD) (bD : Binds K fdD ["_law_pen_here", "_law_many"] []) (gD : mg "_law_draw" = some (.ref fD)) (B : Bl mg) :
    FnOk P w K mg base CX0 (k + 2) f fd ["_law_pen_here", "_law_some"] (spShuf K) := by
  have GD : FnOk P w K mg base CX0 (k + 1) fD fdD ["_law_pen_here", "_law_many"] spDraw := ok_draw FD B.int B.len
  refine F.ok scShuf (fun vs H Q E h => ?_) (fun cdv A outer s H vs Q E hr h => ?_)
  · obtain ⟨p, c, q, n, xs, rfl, _⟩ := h
    rfl
  · obtain ⟨p, c, q0, n, xs, rfl, hP, hn, hS, hl, q⟩ := h
    refine ⟨_, C8.pss_cut (ps_par (i := 2) (j := 3) rfl scShuf.nd rfl rfl (by decide) rfl rfl (pa_cons (pe_callTy call_list_of (by rfl) B.list bootL (pa_cons (pv 1) pa_nil)) (pa_cons (pe_lst pa_nil) pa_nil)) rfl)
      (C8.pss_cut (ps_for PassesOwn.never rfl (pi_range1 (by rfl) B.range (pa_cons (pe_callB call_len_seq (by rfl) B.len PySem.boot_len (pa_cons (pv 1) pa_nil)) pa_nil)) (pg_name (i := 4) scShuf.nd rfl (.inl rfl))
        (pss_one (ps_expr (pe_bm PySem.F.plainAttrs_list PySem.F.slot_list_append PySem.F.type_list_append mt_append (pv 3) (pa_cons (pe_bm PySem.F.plainAttrs_list PySem.F.slot_list_pop PySem.F.type_list_pop mt_popAt (pv 2)
          (pa_cons (pe_call GD hr (by rfl) gD FD.kp bD .nil pass0 (pa_cons (pv 0) (pa_cons (pe_callB call_len_seq (by rfl) B.len PySem.boot_len (pa_cons (pv 2) pa_nil)) pa_nil))) pa_nil)) pa_nil)))))
      (pss_one (ps_ret (pv 3)))), ?_⟩
    obtain ⟨kv, hkv⟩ : ∃ kv, H p = some (.dK kv) := by
      obtain ⟨ns, a0, d0, f0, ep, _⟩ := hP
      exact ⟨_, ep⟩
    refine ⟨fun σ' H' => ∃ r1 r2, σ' = [some (.ref p), some (.ref q0), some (.ref r1), some (.ref r2), none] ∧ Same H H' ∧ H' r1 = some (.lst xs) ∧ H' r2 = some (.lst []) ∧ H r1 = none ∧ H r2 = none ∧ r1 ≠ r2, ?_, ?_⟩
    · refine ⟨_, rfl, q0, _, rfl, .inl hS, fun r1 n1 => ⟨by show 0 ≤ sizeLine; decide, fun r2 n2 => ?_⟩⟩
      have h12 : r1 ≠ r2 := fun z => by rw [← z, upd_same] at n2; cases n2
      exact ⟨_, _, rfl, r1, r2, rfl, same_upd (same_new n1) (none_back (same_new n1) n2), by rw [upd_ne h12, upd_same], upd_same, n1, none_back (same_new n1) n2, h12⟩
    rintro _ H1 ⟨r1, r2, rfl, s1, e1, e2, n1, n2, h12⟩
    have p1 : r1 ≠ p := fun z => by rw [z, hkv] at n1; cases n1
    have p2 : r2 ≠ p := fun z => by rw [z, hkv] at n2; cases n2
    refine ⟨fun σ' H' => ∃ (lap : Option V) (ys : List V), σ' = [some (.ref p), some (.ref q0), some (.ref r1), some (.ref r2), lap] ∧ ys.Perm xs ∧ ys.length = xs.length ∧ (∀ y ∈ ys, y ∈ xs) ∧ PenAt H' p c (n + xs.length) ∧ KB p H H' ∧ H' r2 = some (.lst ys), ?_, ?_⟩
    rotate_left
    · rintro _ H2 ⟨lap, ys, rfl, pm, l2, m2, hP2, k2, e3⟩
      exact ⟨_, rfl, q _ r2 ys pm l2 m2 hP2 k2 n2 e3⟩
    refine ⟨_, rfl, _, _, rfl, .inl (s1.seq hS), xs.length, rfl, by omega, by omega, ?_⟩
    rw [Int.toNat_natCast]
    refine for_range (lo := 0) (n := xs.length) (fun i σ' H' => ∃ (lap : Option V) (ys zs : List V), σ' = [some (.ref p), some (.ref q0), some (.ref r1), some (.ref r2), lap] ∧ (ys ++ zs).Perm xs ∧ zs.length + i = xs.length ∧ ys.length = i ∧ (∀ y ∈ ys, y ∈ xs) ∧ (∀ y ∈ zs, y ∈ xs) ∧ PenAt H' p c (n + i) ∧ KB p H H' ∧ H' r1 = some (.lst zs) ∧ H' r2 = some (.lst ys))
      ⟨none, [], xs, rfl, .refl _, rfl, rfl, (fun _ z => by cases z), fun _ z => z, hP.ext s1, KB.of s1, e1, e2⟩ ?_ ?_
    · rintro i _ H2 hi ⟨lap, ys, zs, rfl, pm, hz, hy, my, mz, hP2, k2, f1, f2⟩
      have zpos : 0 < zs.length := by omega
      refine ⟨_, rfl, .inl ⟨rfl, _, SqL.of f2⟩, _, rfl, .inl ⟨rfl, _, SqL.of f1⟩, _, rfl, _, rfl, _, _, rfl, .inl (SqL.of f1), p, c, n + i, (zs.length : Nat), rfl, hP2, by omega, by omega, ?_, fun y H3 y0 y1 hP3 k3 => ?_⟩
      · rw [Int.natAbs_natCast]
        exact Nat.lt_of_le_of_lt (show zs.length ≤ 130 by omega) (by decide)
      obtain ⟨j, rfl⟩ : ∃ j : Nat, y = (j : Int) := ⟨y.toNat, by omega⟩
      have hj : j < zs.length := by omega
      have hzj : zs[j]? = some zs[j] := List.getElem?_eq_getElem hj
      have g1 : H3 r1 = some (.lst zs) := (k3 r1 p1).trans f1
      have g2 : H3 r2 = some (.lst ys) := (k3 r2 p2).trans f2
      refine ⟨r1, zs, (j : Int), j, zs[j], rfl, rfl, g1, by omega, by omega, ?_, hzj, ?_⟩
      · unfold seqIndex?
        have e1 : ¬ ((j : Int) < 0) := by omega
        simp [e1, hj]
      refine ⟨r2, ys, zs[j], rfl, rfl, by rw [upd_ne h12.symm]; exact g2, Nat.lt_of_le_of_lt (show ys.length ≤ 130 by omega) (by decide), ?_⟩
      refine ⟨_, ys ++ [zs[j]], zs.eraseIdx j, rfl, ?_, ?_, ?_, fun y hy' => ?_, fun y hy' => mz y (List.mem_of_mem_eraseIdx hy'), ?_, ?_, ?_, upd_same⟩
      · rw [List.append_assoc]
        exact (List.Perm.append_left ys (erase_perm hj)).trans pm
      · rw [List.length_eraseIdx, if_pos hj]
        omega
      · rw [List.length_append, hy]
        rfl
      · rcases List.mem_append.mp hy' with z | z
        · exact my y z
        · rw [List.mem_singleton.mp z]
          exact mz _ (List.getElem_mem hj)
      · refine PenAt.same hP3 (by rw [upd_ne p2.symm, upd_ne p1.symm]) ?_
        obtain ⟨ns, a0, d0, f0, ep, ec, _⟩ := hP
        rw [upd_ne (ne_of_none ec n2), upd_ne (ne_of_none ec n1)]
      · exact ((k2.trans (KB.eq k3)).up n1).up n2
      · rw [upd_ne h12, upd_same]
    · rintro _ H2 ⟨lap, ys, zs, rfl, pm, hz, hy, my, mz, hP2, k2, f1, f2⟩
      have z0 : zs = [] := List.eq_nil_of_length_eq_zero (by omega)
      rw [z0, List.append_nil] at pm
      exact ⟨lap, ys, rfl, pm, hy, my, hP2, k2, f2⟩
end
end KQ
namespace KQ
open PySem PySem.Spec PyProof.Rows L2
theorem scCross : FnScope ["_law_one", "_law_two"] ["_law_one", "_law_two"] (defScope sCross) := ⟨rfl, rfl, rfl, by decide +kernel, rfl, by decide +kernel, by decide +kernel⟩
theorem scProd : FnScope ["_law_one", "_law_two", "_law_x", "_law_z", "_law_power"] ["_law_one", "_law_two"] (defScope sProd) := ⟨rfl, rfl, rfl, by decide +kernel, rfl, by decide +kernel, by decide +kernel⟩
theorem scText : FnScope ["_law_string", "_law_size"] ["_law_string", "_law_size"] (defScope sText) := ⟨rfl, rfl, rfl, by decide +kernel, rfl, by decide +kernel, by decide +kernel⟩
theorem pc_le : ∀ (k n : Nat), n < 2 ^ k → pc n ≤ k
  | 0, n, h => by
    have : n = 0 := by simpa using h
    subst this
    rw [pc_zero]
    exact Nat.le_refl _
  | k + 1, n, h => by
    have e : n = 2 * (n / 2) + n % 2 := by omega
    have l1 : n % 2 < 2 := Nat.mod_lt _ (by decide)
    rw [Nat.pow_succ] at h
    have := pc_le k (n / 2) (by omega)
    rw [e, pc_two _ _ l1]
    omega
def KeepP (p : Addr) (H H' : Hp) : Prop := ∀ q o, q ≠ p → H q = some o → H' q = some o
theorem KeepP.refl (p : Addr) (H : Hp) : KeepP p H H := fun _ _ _ e => e
theorem KeepP.trans {p : Addr} {H H1 H2 : Hp} (a : KeepP p H H1) (b : KeepP p H1 H2) : KeepP p H H2 := fun q o n e => b q o n (a q o n e)
theorem KeepP.of_same {p : Addr} {H H' : Hp} (s : Same H H') : KeepP p H H' := fun q o _ e => s q o e
theorem KeepP.of_eq {p : Addr} {H H' : Hp} (s : ∀ b, b ≠ p → H' b = H b) : KeepP p H H' := fun q o n e => (s q n).trans e
theorem pen_upd {H : Hp} {p c y : Addr} {n : Nat} {o : HO} (h : PenAt H p c n) (hp : y ≠ p) (hc : y ≠ c) : PenAt (upd H y o) p c n := h.same (upd_ne (Ne.symm hp)) (upd_ne (Ne.symm hc))
theorem pen_sm {H H' : Hp} {p c : Addr} {n : Nat} (h : PenAt H p c n) (s : Same H H') : PenAt H' p c n := by
  obtain ⟨ns, a, d, f, e1, e2, r⟩ := h
  exact ⟨ns, a, d, f, s _ _ e1, s _ _ e2, r⟩
theorem pen_get {H : Hp} {p c : Addr} {n : Nat} (h : PenAt H p c n) : (∃ o, H p = some o) ∧ ∃ o, H c = some o := by
  obtain ⟨ns, a, d, f, e1, e2, r⟩ := h
  exact ⟨⟨_, e1⟩, ⟨_, e2⟩⟩
theorem pen_off {H : Hp} {p c y : Addr} {n : Nat} {o : HO} (h : PenAt H p c n) (hy : H y = some o) (d : ∀ kv, o ≠ .dK kv) : y ≠ p := by
  obtain ⟨ns, a, d', f, hp, _⟩ := h
  exact ne_of hy hp (d _)
def signs1 (L : List Nat) : List Str := L.map fun c => (⟨#[c]⟩ : Str)
theorem join_signs (L : List Nat) : Txt.join ("" : Str) (signs1 L) = mS L := by
  rw [TL.join_eq, e_no]
  exact PyProof.Rows.join_ones L
theorem signs_len : ∀ L : List Nat, ((signs1 L).map (·.length)).sum = L.length
  | [] => rfl
  | c :: L => by
    show 1 + ((signs1 L).map (·.length)).sum = L.length + 1
    rw [signs_len L]
    omega
def spSome : Sp := fun vs H Q _ => ∃ (p c : Addr) (n m : Nat), vs = [.ref p, .int (m : Int)] ∧ PenAt H p c n ∧ n + m < 1000000 ∧ m ≤ 60 ∧
  ∀ (L : List Nat) (t : Addr) (H' : Hp), L.length = m → Lts8 L → H' t = some (.tup [.int (bv lx L : Nat), .int (bv lz L : Nat), .int 0]) → PenAt H' p c (n + m) → KeepP p H H' → Q (.ref t) H'
abbrev T3 := Nat × Nat × Nat
def TrAt (H : Hp) (a : Addr) (t : T3) : Prop := H a = some (.tup [.int (t.1 : Nat), .int (t.2.1 : Nat), .int (t.2.2 : Nat)])
def Fit (n : Nat) (t : T3) : Prop := t.1 < 2 ^ n ∧ t.2.1 < 2 ^ n ∧ t.2.2 < 2
def crN (t u : T3) : Nat := pc ((t.1 &&& u.2.1) ^^^ (t.2.1 &&& u.1)) % 2
def lpP (t u : T3) : Int := (pc (t.1 &&& t.2.1) : Int) + (pc (u.1 &&& u.2.1) : Int) - (pc ((t.1 ^^^ u.1) &&& (t.2.1 ^^^ u.2.1)) : Int) + 2 * (pc (t.2.1 &&& u.1) : Int)
def lpr (t u : T3) : T3 := (t.1 ^^^ u.1, t.2.1 ^^^ u.2.1, (((lpP t u + 2 * ((t.2.2 : Int) + (u.2.2 : Int))) % 4) / 2).toNat)
theorem lpr_fit {n : Nat} {t u : T3} (h : Fit n t) (k : Fit n u) : Fit n (lpr t u) := by
  refine ⟨Nat.xor_lt_two_pow h.1 k.1, Nat.xor_lt_two_pow h.2.1 k.2.1, ?_⟩
  show (((lpP t u + 2 * ((t.2.2 : Int) + (u.2.2 : Int))) % 4) / 2).toNat < 2
  omega
def spCr : Sp := fun vs H Q _ => ∃ (a b : Addr) (t u : T3), vs = [.ref a, .ref b] ∧ TrAt H a t ∧ TrAt H b u ∧ Fit 60 t ∧ Fit 60 u ∧ Q (.int (crN t u : Nat)) H
def spProd : Sp := fun vs H Q _ => ∃ (a b : Addr) (t u : T3), vs = [.ref a, .ref b] ∧ TrAt H a t ∧ TrAt H b u ∧ Fit 60 t ∧ Fit 60 u ∧ ∀ H' r, Same H H' → H r = none → TrAt H' r (lpr t u) → Q (.ref r) H'
/-- the letters of x and z -/
def LT (n x z : Nat) : List Nat := (List.range n).map fun k => ltr (x.testBit k).toNat (z.testBit k).toNat
theorem LT_len (n x z : Nat) : (LT n x z).length = n := by rw [LT, List.length_map, List.length_range]
theorem LT_lts (n x z : Nat) : Lts8 (LT n x z) := by
  intro c hc
  obtain ⟨k, _, rfl⟩ := List.mem_map.mp hc
  exact ltr_isL _ _
theorem lx_ltr (a b : Bool) : lx (ltr a.toNat b.toNat) = a.toNat := by cases a <;> cases b <;> decide
theorem lz_ltr (a b : Bool) : lz (ltr a.toNat b.toNat) = b.toNat := by cases a <;> cases b <;> decide
theorem bv_bits {f : Nat → Nat} (x : Nat) (h : Nat → Nat) (hf : ∀ k, f (h k) = (x.testBit k).toNat) : ∀ n, bv f ((List.range n).map h) = x % 2 ^ n
  | 0 => by
    show 0 = x % 1
    omega
  | n + 1 => by
    rw [List.range_succ, List.map_append, List.map_cons, List.map_nil, bv_app, bv_bits x h hf n, List.length_map, List.length_range, hf, Nat.mod_pow_succ, Nat.toNat_testBit]
theorem lx_LT {n x : Nat} (z : Nat) (h : x < 2 ^ n) : bv lx (LT n x z) = x := by
  rw [LT, bv_bits x _ (fun k => lx_ltr _ _), Nat.mod_eq_of_lt h]
theorem lz_LT {n z : Nat} (x : Nat) (h : z < 2 ^ n) : bv lz (LT n x z) = z := by
  rw [LT, bv_bits z _ (fun k => lz_ltr _ _), Nat.mod_eq_of_lt h]
def TX (n : Nat) (t : T3) : List Nat := (if t.2.2 = 0 then [] else [45]) ++ LT n t.1 t.2.1
def spText : Sp := fun vs H Q _ => ∃ (a : Addr) (n : Nat) (t : T3), vs = [.ref a, .int (n : Nat)] ∧ TrAt H a t ∧ Fit n t ∧ n ≤ 60 ∧ Q (.str (mS (TX n t))) H
theorem tri0 (a b c : V) : atI [a, b, c] 0 = some a := at_of (j := 0) rfl rfl
theorem tri1 (a b c : V) : atI [a, b, c] 1 = some b := at_of (j := 1) rfl rfl
theorem tri2 (a b c : V) : atI [a, b, c] 2 = some c := at_of (j := 2) rfl rfl
section
variable {P : Program} {w : World} {K : PySem.W.Frag} {mg : Str → Option Value} {base : Heap}
theorem ok_cr {f fO : Addr} {fd dO : FuncData} {k : Nat} (F : Fun K "_law_crosses" "_law_crosses" sCross f fd) (FO : Fun K "_law_ones" "_law_ones" sOnes fO dO) (bO : Binds K dO ["_law_number"] []) (gO : mg "_law_ones" = some (.ref fO)) (B : Bl mg) : FnOk P w K mg base CX0 (k + 2) f fd ["_law_one", "_law_two"] spCr := by
  have GO : FnOk P w K mg base CX0 (k + 1) fO dO ["_law_number"] spOnes := ok_ones FO B
  refine F.ok scCross (fun vs H Q E h => ?_) (fun cdv A outer s H vs Q E hr h => ?_)
  · obtain ⟨a, b, t, u, rfl, _⟩ := h
    rfl
  · obtain ⟨a, b, t, u, rfl, et, eu, ft, fu, q⟩ := h
    refine ⟨_, pss_one (ps_ret (pe_op op_mod (pe_callTy call_int1 (by rfl) B.int bootI (pa_cons (pe_call GO hr (by rfl) gO FO.kp bO .nil pass0 (pa_cons (pe_op op_xor (pe_op op_and (pe_ix ix_tup (pv 0) pe_int (fun _ _ => rfl)) (pe_ix ix_tup (pv 1) pe_int (fun _ _ => rfl))) (pe_op op_and (pe_ix ix_tup (pv 0) pe_int (fun _ _ => rfl)) (pe_ix ix_tup (pv 1) pe_int (fun _ _ => rfl)))) pa_nil)) pa_nil)) pe_int)), ?_⟩
    have sq : SqT K H a [.int (t.1 : Nat), .int (t.2.1 : Nat), .int (t.2.2 : Nat)] := .inl (.inl et)
    have sq' : SqT K H b [.int (u.1 : Nat), .int (u.2.1 : Nat), .int (u.2.2 : Nat)] := .inl (.inl eu)
    have le := pc_le 60 _ (Nat.xor_lt_two_pow (Nat.lt_of_le_of_lt (Nat.and_le_left (m := u.2.1)) ft.1) (Nat.lt_of_le_of_lt (Nat.and_le_left (m := u.1)) ft.2.1))
    refine ⟨_, rfl, a, _, _, _, rfl, rfl, sq, tri0 _ _ _, _, rfl, b, _, _, _, rfl, rfl, sq', tri1 _ _ _, _, _, rfl, rfl, _, rfl, a, _, _, _, rfl, rfl, sq, tri1 _ _ _, _, rfl, b, _, _, _, rfl, rfl, sq', tri0 _ _ _, _, _, rfl, rfl, _, _, rfl, rfl, (t.1 &&& u.2.1) ^^^ (t.2.1 &&& u.1), ?_, by omega, .inl ⟨_, rfl, _, _, rfl, rfl, by show (0 : Int) < 2; decide, ?_⟩⟩
    · show [V.int (Builtin.bitXor (Builtin.bitAnd (t.1 : Nat) (u.2.1 : Nat)) (Builtin.bitAnd (t.2.1 : Nat) (u.1 : Nat)))] = _
      rw [band, band, bxor]
    · have e : ((pc ((t.1 &&& u.2.1) ^^^ (t.2.1 &&& u.1)) : Nat) : Int) % 2 = ((crN t u : Nat) : Int) := by
        unfold crN
        omega
      show Q (V.int (((pc ((t.1 &&& u.2.1) ^^^ (t.2.1 &&& u.1)) : Nat) : Int) % 2)) H
      rw [e]
      exact q
theorem ok_prod {f fO : Addr} {fd dO : FuncData} {k : Nat} (F : Fun K "_law_product" "_law_product" sProd f fd) (FO : Fun K "_law_ones" "_law_ones" sOnes fO dO) (bO : Binds K dO ["_law_number"] []) (gO : mg "_law_ones" = some (.ref fO)) (B : Bl mg) : FnOk P w K mg base CX0 (k + 2) f fd ["_law_one", "_law_two"] spProd := by
  have GO : FnOk P w K mg base CX0 (k + 1) fO dO ["_law_number"] spOnes := ok_ones FO B
  refine F.ok scProd (fun vs H Q E h => ?_) (fun cdv A outer s H vs Q E hr h => ?_)
  · obtain ⟨a, b, t, u, rfl, _⟩ := h
    rfl
  · obtain ⟨a, b, t, u, rfl, et, eu, ft, fu, q⟩ := h
    refine ⟨_, C8.pss_cut (ps_par (i := 2) (j := 3) rfl scProd.nd rfl rfl (by decide) rfl rfl (pa_cons (pe_op op_xor (pe_ix ix_tup (pv 0) pe_int (fun _ _ => rfl)) (pe_ix ix_tup (pv 1) pe_int (fun _ _ => rfl))) (pa_cons (pe_op op_xor (pe_ix ix_tup (pv 0) pe_int (fun _ _ => rfl)) (pe_ix ix_tup (pv 1) pe_int (fun _ _ => rfl))) pa_nil)) rfl)
      (C8.pss_cut (ps_set (i := 4) scProd.nd rfl (.inl rfl) (pe_op op_add (pe_call GO hr (by rfl) gO FO.kp bO .nil pass0 (pa_cons (pe_op op_and (pe_ix ix_tup (pv 0) pe_int (fun _ _ => rfl)) (pe_ix ix_tup (pv 0) pe_int (fun _ _ => rfl))) pa_nil)) (pe_call GO hr (by rfl) gO FO.kp bO .nil pass0 (pa_cons (pe_op op_and (pe_ix ix_tup (pv 1) pe_int (fun _ _ => rfl)) (pe_ix ix_tup (pv 1) pe_int (fun _ _ => rfl))) pa_nil))))
      (C8.pss_cut (ps_set (i := 4) scProd.nd rfl (.inl rfl) (pe_op op_add (pe_op op_sub (pv 4) (pe_call GO hr (by rfl) gO FO.kp bO .nil pass0 (pa_cons (pe_op op_and (pv 2) (pv 3)) pa_nil))) (pe_op op_mul pe_int (pe_call GO hr (by rfl) gO FO.kp bO .nil pass0 (pa_cons (pe_op op_and (pe_ix ix_tup (pv 0) pe_int (fun _ _ => rfl)) (pe_ix ix_tup (pv 1) pe_int (fun _ _ => rfl))) pa_nil)))))
      (pss_one (ps_ret (pe_tup (pa_cons (pv 2) (pa_cons (pv 3) (pa_cons (pe_op op_fdiv (pe_op op_mod (pe_callTy call_int1 (by rfl) B.int bootI (pa_cons (pe_op op_add (pv 4) (pe_op op_mul pe_int (pe_op op_add (pe_ix ix_tup (pv 0) pe_int (fun _ _ => rfl)) (pe_ix ix_tup (pv 1) pe_int (fun _ _ => rfl))))) pa_nil)) pe_int) pe_int) pa_nil)))))))), ?_⟩
    have sq : ∀ {G : Hp}, Same H G → SqT K G a [.int (t.1 : Nat), .int (t.2.1 : Nat), .int (t.2.2 : Nat)] := fun sg => .inl (.inl (sg _ _ et))
    have sq' : ∀ {G : Hp}, Same H G → SqT K G b [.int (u.1 : Nat), .int (u.2.1 : Nat), .int (u.2.2 : Nat)] := fun sg => .inl (.inl (sg _ _ eu))
    have s0 : Same H H := fun _ _ e => e
    have lt : ∀ {x y : Nat}, x < 2 ^ 60 → pc (x &&& y) ≤ 63 := fun {x y} h => Nat.le_trans (pc_le 60 _ (Nat.lt_of_le_of_lt Nat.and_le_left h)) (by decide)
    refine ⟨fun σ' H' => σ' = [some (.ref a), some (.ref b), some (.int (t.1 ^^^ u.1 : Nat)), some (.int (t.2.1 ^^^ u.2.1 : Nat)), none] ∧ H' = H, ?_, ?_⟩
    · refine ⟨_, rfl, a, _, _, _, rfl, rfl, sq s0, tri0 _ _ _, _, rfl, b, _, _, _, rfl, rfl, sq' s0, tri0 _ _ _, _, _, rfl, rfl, _, rfl, a, _, _, _, rfl, rfl, sq s0, tri1 _ _ _, _, rfl, b, _, _, _, rfl, rfl, sq' s0, tri1 _ _ _, _, _, rfl, rfl, _, _, rfl, ?_, rfl⟩
      show [_, _, some (V.int (Builtin.bitXor (t.1 : Nat) (u.1 : Nat))), some (V.int (Builtin.bitXor (t.2.1 : Nat) (u.2.1 : Nat))), _] = _
      rw [bxor, bxor]
    rintro _ H1 ⟨rfl, eH⟩
    have eH' := eH.symm
    subst eH'
    refine ⟨fun σ' H' => σ' = [some (.ref a), some (.ref b), some (.int (t.1 ^^^ u.1 : Nat)), some (.int (t.2.1 ^^^ u.2.1 : Nat)), some (.int ((pc (t.1 &&& t.2.1) : Int) + (pc (u.1 &&& u.2.1) : Int)))] ∧ H' = H, ?_, ?_⟩
    · refine ⟨_, rfl, a, _, _, _, rfl, rfl, sq s0, tri0 _ _ _, _, rfl, a, _, _, _, rfl, rfl, sq s0, tri1 _ _ _, _, _, rfl, rfl, t.1 &&& t.2.1, ?_, lt ft.1, ?_⟩
      · show [V.int (Builtin.bitAnd (t.1 : Nat) (t.2.1 : Nat))] = _
        rw [band]
      refine ⟨_, rfl, b, _, _, _, rfl, rfl, sq' s0, tri0 _ _ _, _, rfl, b, _, _, _, rfl, rfl, sq' s0, tri1 _ _ _, _, _, rfl, rfl, u.1 &&& u.2.1, ?_, lt fu.1, _, _, rfl, rfl, rfl, rfl⟩
      show [V.int (Builtin.bitAnd (u.1 : Nat) (u.2.1 : Nat))] = _
      rw [band]
    rintro _ H1 ⟨rfl, eH⟩
    have eH' := eH.symm
    subst eH'
    refine ⟨fun σ' H' => σ' = [some (.ref a), some (.ref b), some (.int (t.1 ^^^ u.1 : Nat)), some (.int (t.2.1 ^^^ u.2.1 : Nat)), some (.int (lpP t u))] ∧ H' = H, ?_, ?_⟩
    · refine ⟨_, rfl, _, rfl, _, rfl, _, _, rfl, rfl, (t.1 ^^^ u.1) &&& (t.2.1 ^^^ u.2.1), ?_, lt (Nat.xor_lt_two_pow ft.1 fu.1), _, _, rfl, rfl, ?_⟩
      · show [V.int (Builtin.bitAnd (t.1 ^^^ u.1 : Nat) (t.2.1 ^^^ u.2.1 : Nat))] = _
        rw [band]
      refine ⟨_, rfl, a, _, _, _, rfl, rfl, sq s0, tri1 _ _ _, _, rfl, b, _, _, _, rfl, rfl, sq' s0, tri0 _ _ _, _, _, rfl, rfl, t.2.1 &&& u.1, ?_, lt ft.2.1, _, _, rfl, rfl, .inl ⟨by decide, by decide⟩, _, _, rfl, rfl, rfl, rfl⟩
      show [V.int (Builtin.bitAnd (t.2.1 : Nat) (u.1 : Nat))] = _
      rw [band]
    rintro _ H1 ⟨rfl, eH⟩
    have eH' := eH.symm
    subst eH'
    refine ⟨_, rfl, _, rfl, _, rfl, _, rfl, a, _, _, _, rfl, rfl, sq s0, tri2 _ _ _, _, rfl, b, _, _, _, rfl, rfl, sq' s0, tri2 _ _ _, _, _, rfl, rfl, _, _, rfl, rfl, .inl ⟨by decide, by decide⟩, _, _, rfl, rfl, .inl ⟨_, rfl, _, _, rfl, rfl, by show (0 : Int) < 4; decide, _, _, rfl, rfl, ?_, by show 3 ≤ sizeLine; decide, fun r nr => q _ r (same_new nr) nr ?_⟩⟩
    · show CDiv ((lpP t u + 2 * ((t.2.2 : Int) + (u.2.2 : Int))) % 4) 2
      exact ⟨by decide, by decide⟩
    · unfold TrAt
      rw [upd_same]
      show some (HO.tup [V.int (t.1 ^^^ u.1 : Nat), V.int (t.2.1 ^^^ u.2.1 : Nat), V.int ((lpP t u + 2 * ((t.2.2 : Int) + (u.2.2 : Int))) % 4 / 2)]) = some (HO.tup [V.int (t.1 ^^^ u.1 : Nat), V.int (t.2.1 ^^^ u.2.1 : Nat), V.int ((((lpP t u + 2 * ((t.2.2 : Int) + (u.2.2 : Int))) % 4 / 2).toNat : Nat) : Int)])
      rw [Int.toNat_of_nonneg (by omega)]
theorem ok_text {f fL : Addr} {fd dL : FuncData} {k : Nat} (F : Fun K "_law_text" "_law_text" sText f fd) (FL : Fun K "_law_letters" "_law_letters" sLett fL dL) (bL : Binds K dL ["_law_string", "_law_size"] []) (gL : mg "_law_letters" = some (.ref fL)) (B : Bl mg) : FnOk P w K mg base CX0 (k + 2) f fd ["_law_string", "_law_size"] spText := by
  have GL : FnOk P w K mg base CX0 (k + 1) fL dL ["_law_string", "_law_size"] spLett := ok_lett FL B
  refine F.ok scText (fun vs H Q E h => ?_) (fun cdv A outer s H vs Q E hr h => ?_)
  · obtain ⟨a, n, t, rfl, _⟩ := h
    rfl
  · obtain ⟨a, n, t, rfl, et, ft, hn, q⟩ := h
    refine ⟨_, pss_one (ps_ret (pe_op op_add_str (pe_ifExp (pt_truth (pe_ix ix_tup (pv 0) pe_int (fun _ _ => rfl)) (by intro _; rfl)) pe_str pe_str) (pe_call GL hr (by rfl) gL FL.kp bL .nil pass0 (pa_cons (pv 0) (pa_cons (pv 1) pa_nil))))), ?_⟩
    have el : TrAt H a (bv lx (LT n t.1 t.2.1), bv lz (LT n t.1 t.2.1), t.2.2) := by rw [lx_LT _ ft.1, lz_LT _ ft.2.1]; exact et
    have ln := LT_len n t.1 t.2.1
    have lm : (mS (LT n t.1 t.2.1)).length = n := by rw [mS_len]; exact ln
    refine ⟨_, rfl, a, _, _, _, rfl, rfl, .inl (.inl et), tri2 _ _ _, _, rfl, ?_⟩
    by_cases z : t.2.2 = 0
    · rw [z]
      refine iteF ⟨_, rfl, _, rfl, a, LT n t.1 t.2.1, _, by rw [ln]; rfl, el, LT_lts _ _ _, by omega, _, _, rfl, rfl, ?_, ?_⟩
      · rw [e_no]
        show 0 + (mS (LT n t.1 t.2.1)).length ≤ sizeLine
        rw [lm]
        exact Nat.le_trans (by omega : 0 + n ≤ 60) (by decide)
      · have : (("" : Str) ++ mS (LT n t.1 t.2.1)) = mS (TX n t) := by
          rw [e_no, TX, if_pos z]
          exact mS_app [] _
        rw [this]
        exact q
    · have nz : (((t.2.2 : Nat) : Int) != 0) = true := bne_iff_ne.mpr (by omega)
      rw [nz]
      refine iteT ⟨_, rfl, _, rfl, a, LT n t.1 t.2.1, _, by rw [ln]; rfl, el, LT_lts _ _ _, by omega, _, _, rfl, rfl, ?_, ?_⟩
      · rw [e_minus]
        show 1 + (mS (LT n t.1 t.2.1)).length ≤ sizeLine
        rw [lm]
        exact Nat.le_trans (by omega : 1 + n ≤ 61) (by decide)
      · have : (("-" : Str) ++ mS (LT n t.1 t.2.1)) = mS (TX n t) := by
          rw [e_minus, TX, if_neg z]
          exact mS_app [45] _
        rw [this]
        exact q
end
end KQ
namespace KQ
open PySem PySem.Spec PyProof.Rows L2
theorem scGate : FnScope ["_law_string", "_law_kind", "_law_places", "_law_x", "_law_z", "_law_sign", "_law_a", "_law_one", "_law_two", "_law_turn", "_law_b", "_law_first", "_law_second", "_law_other_here"] ["_law_string", "_law_kind", "_law_places"] (defScope sGate) := ⟨rfl, rfl, rfl, by decide +kernel, rfl, by decide +kernel, by decide +kernel⟩
def G1 (k : Str) : Prop := k = "h" ∨ k = "s" ∨ k = "x" ∨ k = "z"
def G2 (k : Str) : Prop := k = "cx" ∨ k = "cz" ∨ k = "swap"
def spGate (K : PySem.W.Frag) : Sp := fun vs H Q _ => ∃ (s q : Addr) (kd : Str) (n : Nat) (t : T3) (ps : List Nat), vs = [.ref s, .str kd, .ref q] ∧ TrAt H s t ∧ Fit n t ∧ n ≤ 60 ∧ SqL K H q (natV ps) ∧ (∀ a ∈ ps, a < n) ∧ 1 ≤ ps.length ∧ (G1 kd ∨ (G2 kd ∧ 2 ≤ ps.length)) ∧
  ∀ H' r u, Same H H' → H r = none → TrAt H' r u → Fit n u → gB kd (ps.getD 0 0) (ps.getD 1 0) (t.1, t.2.1) = (u.1, u.2.1) → Q (.ref r) H'
theorem bitl (x a : Nat) : x / 2 ^ a % 2 < 2 := Nat.mod_lt _ (by decide)
theorem sh_lt {i a n : Nat} (h : i < 2) (ha : a < n) : i * 2 ^ a < 2 ^ n := by
  have : 2 ^ a * 2 ≤ 2 ^ n := by
    rw [← Nat.pow_succ]
    exact Nat.pow_le_pow_right (by decide) ha
  rcases (by omega : i = 0 ∨ i = 1) with rfl | rfl
  · rw [Nat.zero_mul]; exact Nat.two_pow_pos n
  · rw [Nat.one_mul]; have := Nat.two_pow_pos a; omega
theorem x_lt {i j : Nat} (h : i < 2) (k : j < 2) : i ^^^ j < 2 := Nat.xor_lt_two_pow (n := 1) h k
theorem m_lt {i j : Nat} (h : i < 2) (k : j < 2) : i * j < 2 := by
  rcases (by omega : i = 0 ∨ i = 1) with rfl | rfl <;> omega
theorem csh {i a : Nat} (h : i < 2) (ha : a ≤ 60) : CShl (i : Int) (a : Int) := by
  refine ⟨by omega, ?_⟩
  have : (2 : Int) ^ 27 = 134217728 := by decide
  have : Builtin.Int.intBits (i : Int) ≤ 1 := by
    rcases (by omega : i = 0 ∨ i = 1) with rfl | rfl <;> decide
  omega
theorem i_sh (i a : Nat) : (i : Int) * 2 ^ a = ((i * 2 ^ a : Nat) : Int) := by push_cast; rfl
theorem i_div (x a : Nat) : ((x : Int) / 2 ^ a % 2) = ((x / 2 ^ a % 2 : Nat) : Int) := by push_cast; rfl
section
variable {P : Program} {w : World} {K : PySem.W.Frag} {mg : Str → Option Value} {base : Heap}
theorem ok_gate {f : Addr} {fd : FuncData} {k : Nat} (F : Fun K "_law_gate" "_law_gate" sGate f fd) (B : Bl mg) : FnOk P w K mg base CX0 (k + 1) f fd ["_law_string", "_law_kind", "_law_places"] (spGate K) := by
  refine F.ok scGate (fun vs H Q E h => ?_) (fun cdv A outer s0 H vs Q E hr h => ?_)
  · obtain ⟨s, q, kd, n, t, ps, rfl, _⟩ := h
    rfl
  · obtain ⟨s, q, kd, n, t, ps, rfl, et, ft, hn, hS, hps, hp1, hk, w⟩ := h
    have hu := hu_of hr
    refine ⟨_, (C8.pss_cut (ps_asg (pv 0) (pg_tup rfl (pgs_cons (pg_name (i := 3) scGate.nd rfl (.inl rfl)) (pgs_cons (pg_name (i := 4) scGate.nd rfl (.inl rfl)) (pgs_cons (pg_name (i := 5) scGate.nd rfl (.inl rfl)) pgs_nil)))))
      (C8.pss_cut (ps_set (i := 6) scGate.nd rfl (.inl rfl) (pe_ix ix_list (pv 2) pe_int (fun _ _ => rfl)))
      (C8.pss_cut (ps_par (i := 7) (j := 8) rfl scGate.nd rfl rfl (by decide) rfl rfl (pa_cons (pe_op op_mod (pe_callTy call_int1 (by rfl) B.int bootI (pa_cons (pe_op op_shrN (pv 3) (pv 6)) pa_nil)) pe_int) (pa_cons (pe_op op_mod (pe_callTy call_int1 (by rfl) B.int bootI (pa_cons (pe_op op_shrN (pv 4) (pv 6)) pa_nil)) pe_int) pa_nil)) rfl)
      (C8.pss_cut (ps_if (pt_cmpR op_in_seq (pv 1) (pe_lst (pa_cons pe_str (pa_cons pe_str (pa_cons pe_str pa_nil)))) (by with_unfolding_all rfl)) (pss_one (ps_ret (pe_tup (pa_cons (pv 3) (pa_cons (pv 4) (pa_cons (pe_op op_xor (pv 5) (pe_dget hu (pe_disp (pps_cons pe_str (pv 8) (pps_cons pe_str (pe_op op_xor (pv 7) (pv 8)) (pps_cons pe_str (pv 7) pps_nil))) (by rfl) (by rfl) (fun z => by cases z) (by decide)) (pv 1) (fun _ _ => rfl))) pa_nil)))))) pss_nil)
      (C8.pss_cut (ps_if (pt_cmpR op_in_seq (pv 1) (pe_lst (pa_cons pe_str (pa_cons pe_str pa_nil))) (by with_unfolding_all rfl)) (C8.pss_cut (ps_set (i := 9) scGate.nd rfl (.inl rfl) (pe_op op_shlN (pe_op op_xor (pv 7) (pv 8)) (pv 6))) (pss_one (ps_ret (pe_ifExp (pt_cmpR op_eq (pv 1) pe_str (nomark _)) (pe_tup (pa_cons (pe_op op_xor (pv 3) (pv 9)) (pa_cons (pe_op op_xor (pv 4) (pv 9)) (pa_cons (pe_op op_xor (pv 5) (pe_op op_mul (pv 7) (pv 8))) pa_nil)))) (pe_tup (pa_cons (pv 3) (pa_cons (pe_op op_xor (pv 4) (pe_op op_shlN (pv 7) (pv 6))) (pa_cons (pe_op op_xor (pv 5) (pe_op op_mul (pv 7) (pv 8))) pa_nil)))))))) pss_nil)
      (C8.pss_cut (ps_set (i := 10) scGate.nd rfl (.inl rfl) (pe_ix ix_list (pv 2) pe_int (fun _ _ => rfl)))
      (C8.pss_cut (ps_par (i := 11) (j := 12) rfl scGate.nd rfl rfl (by decide) rfl rfl (pa_cons (pe_op op_mod (pe_callTy call_int1 (by rfl) B.int bootI (pa_cons (pe_op op_shrN (pv 3) (pv 10)) pa_nil)) pe_int) (pa_cons (pe_op op_mod (pe_callTy call_int1 (by rfl) B.int bootI (pa_cons (pe_op op_shrN (pv 4) (pv 10)) pa_nil)) pe_int) pa_nil)) rfl)
      (C8.pss_cut (ps_if (pt_cmpR op_eq (pv 1) pe_str (nomark _)) (pss_one (ps_ret (pe_tup (pa_cons (pe_op op_xor (pv 3) (pe_op op_shlN (pv 7) (pv 10))) (pa_cons (pe_op op_xor (pv 4) (pe_op op_shlN (pv 12) (pv 6))) (pa_cons (pe_op op_xor (pv 5) (pe_op op_mul (pe_op op_mul (pv 7) (pv 12)) (pe_op op_sub pe_int (pe_op op_xor (pv 11) (pv 8))))) pa_nil)))))) pss_nil)
      (C8.pss_cut (ps_if (pt_cmpR op_eq (pv 1) pe_str (nomark _)) (pss_one (ps_ret (pe_tup (pa_cons (pv 3) (pa_cons (pe_op op_xor (pe_op op_xor (pv 4) (pe_op op_shlN (pv 11) (pv 6))) (pe_op op_shlN (pv 7) (pv 10))) (pa_cons (pe_op op_xor (pv 5) (pe_op op_mul (pe_op op_mul (pv 7) (pv 11)) (pe_op op_xor (pv 8) (pv 12)))) pa_nil)))))) pss_nil)
      (C8.pss_cut (ps_par (i := 9) (j := 13) rfl scGate.nd rfl rfl (by decide) rfl rfl (pa_cons (pe_op op_xor (pv 7) (pv 11)) (pa_cons (pe_op op_xor (pv 8) (pv 12)) pa_nil)) rfl)
      (pss_one (ps_ret (pe_tup (pa_cons (pe_op op_xor (pe_op op_xor (pv 3) (pe_op op_shlN (pv 9) (pv 6))) (pe_op op_shlN (pv 9) (pv 10))) (pa_cons (pe_op op_xor (pe_op op_xor (pv 4) (pe_op op_shlN (pv 13) (pv 6))) (pe_op op_shlN (pv 13) (pv 10))) (pa_cons (pv 5) pa_nil)))))))))))))))), ?_⟩
    have fin : ∀ {X Z S : Int} {G : Hp} {r : Addr} (u : T3), Same H G → G r = none → X = (u.1 : Nat) → Z = (u.2.1 : Nat) → S = (u.2.2 : Nat) → Fit n u → gB kd (ps.getD 0 0) (ps.getD 1 0) (t.1, t.2.1) = (u.1, u.2.1) → Q (.ref r) (upd G r (.tup [.int X, .int Z, .int S])) := by
      intro X Z S G r u sg nr e1 e2 e3 fu gu
      refine w _ r u (sg.trans (same_new nr)) (off_same sg nr) ?_ fu gu
      unfold TrAt
      rw [upd_same, e1, e2, e3]
    have s0 : Same H H := fun _ _ e => e
    obtain ⟨x, z, sg⟩ := t
    obtain ⟨fx, fz, fs⟩ := ft
    obtain ⟨a, ps', rfl⟩ : ∃ a ps', ps = a :: ps' := by
      cases ps with
      | nil => simp at hp1
      | cons a ps' => exact ⟨a, ps', rfl⟩
    have ha : a < n := hps a (List.mem_cons_self ..)
    refine ⟨fun σ' H' => σ' = [some (.ref s), some (.str kd), some (.ref q), some (.int (x : Nat)), some (.int (z : Nat)), some (.int (sg : Nat)), none, none, none, none, none, none, none, none] ∧ H' = H, ⟨_, rfl, _, _, rfl, .inl (.inl et), rfl, _, _, rfl, _, _, rfl, _, _, rfl, rfl, rfl, rfl⟩, ?_⟩
    rintro _ H1 ⟨rfl, eH⟩
    have eH' := eH.symm
    subst eH'
    refine ⟨fun σ' H' => σ' = [some (.ref s), some (.str kd), some (.ref q), some (.int (x : Nat)), some (.int (z : Nat)), some (.int (sg : Nat)), some (.int (a : Nat)), none, none, none, none, none, none, none] ∧ H' = H, ⟨_, rfl, q, _, _, _, rfl, rfl, hS, at_of (j := 0) rfl rfl, rfl, rfl⟩, ?_⟩
    rintro _ H1 ⟨rfl, eH⟩
    have eH' := eH.symm
    subst eH'
    refine ⟨fun σ' H' => σ' = [some (.ref s), some (.str kd), some (.ref q), some (.int (x : Nat)), some (.int (z : Nat)), some (.int (sg : Nat)), some (.int (a : Nat)), some (.int (x / 2 ^ a % 2 : Nat)), some (.int (z / 2 ^ a % 2 : Nat)), none, none, none, none, none] ∧ H' = H, ?_, ?_⟩
    · refine ⟨_, rfl, _, rfl, (x : Int), a, rfl, rfl, .inl ⟨_, rfl, _, _, rfl, rfl, (by show (0 : Int) < 2; decide), _, rfl, _, rfl, (z : Int), a, rfl, rfl, .inl ⟨_, rfl, _, _, rfl, rfl, (by show (0 : Int) < 2; decide), _, _, rfl, ?_, rfl⟩⟩⟩
      show [_, _, _, _, _, _, _, some (V.int ((x : Int) / 2 ^ a % 2)), some (V.int ((z : Int) / 2 ^ a % 2)), _, _, _, _, _] = _
      rw [i_div, i_div]
    rintro _ H1 ⟨rfl, eH⟩
    have eH' := eH.symm
    subst eH'
    have l1 := bitl x a
    have l2 := bitl z a
    generalize ho : x / 2 ^ a % 2 = one at l1 ⊢
    generalize ht : z / 2 ^ a % 2 = two at l2 ⊢
    have nxy : ¬ ("x" : Str) = "y" := by decide +kernel
    have nxz : ¬ ("x" : Str) = "z" := by decide +kernel
    have nyz : ¬ ("y" : Str) = "z" := by decide +kernel
    have nyx : ¬ ("y" : Str) = "x" := by decide +kernel
    have nzx : ¬ ("z" : Str) = "x" := by decide +kernel
    have nzy : ¬ ("z" : Str) = "y" := by decide +kernel
    have mg3 : ∀ u v w : V, mergeK [] [((.inr "x" : Key), u), (.inr "y", v), (.inr "z", w)] = [((.inr "x" : Key), u), (.inr "y", v), (.inr "z", w)] := fun u v w => by
      simp [mergeK, putK, nxy, nxz, nyz, nyx, nzx, nzy]
    have vx : ∀ u v w : V, valV [((.inr "x" : Key), u), (.inr "y", v), (.inr "z", w)] (.inr "x") = some u := fun u v w => valV_pos rfl
    have vz : ∀ u v w : V, valV [((.inr "x" : Key), u), (.inr "y", v), (.inr "z", w)] (.inr "z") = some w := fun u v w => by
      simp [valV, List.find?, nxz, nyz]
    by_cases k3 : kd = "x" ∨ kd = "z"
    · refine ⟨fun _ _ => False, ?_, fun _ _ z => z.elim⟩
      refine ⟨_, rfl, by show 3 ≤ sizeLine; decide, fun l nl => ⟨l, _, rfl, .inl (SqL.of upd_same), rfl, rfl, true, ?_, ?_⟩⟩
      · rcases k3 with rfl | rfl <;> decide +kernel
      refine iteT ?_
      refine ⟨_, rfl, _, rfl, _, rfl, fun p hp => ?_⟩
      refine ⟨_, rfl, _, rfl, _, rfl, _, _, rfl, rfl, _, rfl, ?_⟩
      have sl : Same H (upd (upd (upd H l (.lst [V.str "x", V.str "y", V.str "z"])) p (.dK [])) p (.dK (mergeK [] [((.inr "x" : Key), V.int (two : Nat)), (.inr "y", V.int (Builtin.bitXor (one : Nat) (two : Nat))), (.inr "z", V.int (one : Nat))]))) := (same_new nl).trans (by
        rw [upd_upd]
        exact same_new hp)
      rcases k3 with rfl | rfl
      · refine ⟨upd_same, [((.inr "x" : Key), V.int (two : Nat)), (.inr "y", V.int (Builtin.bitXor (one : Nat) (two : Nat))), (.inr "z", V.int (one : Nat))], rfl, by show 3 ≤ 15; decide, _, rfl, p, .int (two : Nat), rfl, ?_, _, _, rfl, rfl, by show 3 ≤ sizeLine; decide, fun r nr => fin (x, z, sg ^^^ two) sl nr rfl rfl (bxor _ _) ⟨fx, fz, x_lt fs l2⟩ (gB_n (by decide +kernel) (by decide +kernel) (by decide +kernel) (by decide +kernel) (by decide +kernel))⟩
        have := DGet.k (k := (.inr "x" : Key)) (upd_same (H := upd (upd H l (.lst [V.str "x", V.str "y", V.str "z"])) p (.dK [])) (a := p) (o := .dK (mergeK [] [((.inr "x" : Key), V.int (two : Nat)), (.inr "y", V.int (Builtin.bitXor (one : Nat) (two : Nat))), (.inr "z", V.int (one : Nat))])))
        rw [mg3, vx] at this
        rw [mg3]
        exact this
      · refine ⟨upd_same, [((.inr "x" : Key), V.int (two : Nat)), (.inr "y", V.int (Builtin.bitXor (one : Nat) (two : Nat))), (.inr "z", V.int (one : Nat))], rfl, by show 3 ≤ 15; decide, _, rfl, p, .int (one : Nat), rfl, ?_, _, _, rfl, rfl, by show 3 ≤ sizeLine; decide, fun r nr => fin (x, z, sg ^^^ one) sl nr rfl rfl (bxor _ _) ⟨fx, fz, x_lt fs l1⟩ (gB_n (by decide +kernel) (by decide +kernel) (by decide +kernel) (by decide +kernel) (by decide +kernel))⟩
        have := DGet.k (k := (.inr "z" : Key)) (upd_same (H := upd (upd H l (.lst [V.str "x", V.str "y", V.str "z"])) p (.dK [])) (a := p) (o := .dK (mergeK [] [((.inr "x" : Key), V.int (two : Nat)), (.inr "y", V.int (Builtin.bitXor (one : Nat) (two : Nat))), (.inr "z", V.int (one : Nat))])))
        rw [mg3, vz] at this
        rw [mg3]
        exact this
    have k3' : ∀ {b : V}, b = .str kd → inV b [V.str "x", V.str "y", V.str "z"] = false := fun {b} e => by
      rcases hk with (rfl | rfl | rfl | rfl) | ⟨rfl | rfl | rfl, _⟩ <;> first | (exact absurd (by simp) k3) | (rw [e]; decide +kernel)
    refine ⟨fun σ' H' => σ' = [some (.ref s), some (.str kd), some (.ref q), some (.int (x : Nat)), some (.int (z : Nat)), some (.int (sg : Nat)), some (.int (a : Nat)), some (.int (one : Nat)), some (.int (two : Nat)), none, none, none, none, none] ∧ Same H H', ?_, ?_⟩
    · refine ⟨_, rfl, by show 3 ≤ sizeLine; decide, fun l nl => ⟨l, _, rfl, .inl (SqL.of upd_same), rfl, rfl, false, ?_, iteF ⟨rfl, same_new nl⟩⟩⟩
      exact congrArg V.bl (k3' rfl)
    rintro _ H1 ⟨rfl, s1⟩
    by_cases k4 : kd = "h" ∨ kd = "s"
    · refine ⟨fun _ _ => False, ?_, fun _ _ z => z.elim⟩
      refine ⟨_, rfl, by show 2 ≤ sizeLine; decide, fun l nl => ⟨l, _, rfl, .inl (SqL.of upd_same), rfl, rfl, true, ?_, ?_⟩⟩
      · rcases k4 with rfl | rfl <;> decide +kernel
      have s2 := s1.trans (same_new (o := .lst [V.str "h", V.str "s"]) nl)
      generalize upd H1 l (.lst [V.str "h", V.str "s"]) = H2 at s2 ⊢
      have lx1 := x_lt l1 l2
      refine iteT ⟨fun σ' H' => σ' = [some (.ref s), some (.str kd), some (.ref q), some (.int (x : Nat)), some (.int (z : Nat)), some (.int (sg : Nat)), some (.int (a : Nat)), some (.int (one : Nat)), some (.int (two : Nat)), some (.int ((one ^^^ two) * 2 ^ a : Nat)), none, none, none, none] ∧ H' = H2, ?_, ?_⟩
      · refine ⟨_, rfl, _, rfl, _, _, rfl, rfl, _, rfl, ((one ^^^ two : Nat) : Int), a, ?_, rfl, csh lx1 (by omega), ?_, rfl⟩
        · show V.int (Builtin.bitXor (one : Nat) (two : Nat)) = _
          rw [bxor]
        · rw [i_sh]
          rfl
      rintro _ H3 ⟨rfl, eH⟩
      subst eH
      have lt := sh_lt lx1 ha
      have lm := m_lt l1 l2
      have em : ((one : Int) * (two : Int)) = ((one * two : Nat) : Int) := by push_cast; rfl
      rcases k4 with rfl | rfl
      · refine ⟨_, rfl, rfl, true, by decide +kernel, iteT ?_⟩
        refine ⟨_, rfl, _, rfl, _, _, rfl, rfl, _, rfl, _, rfl, _, _, rfl, rfl, _, rfl, _, rfl, _, rfl, _, _, rfl, rfl, .inl ⟨by omega, by omega⟩, _, _, rfl, rfl, by show 3 ≤ sizeLine; decide, fun r nr => fin (x ^^^ (one ^^^ two) * 2 ^ a, z ^^^ (one ^^^ two) * 2 ^ a, sg ^^^ one * two) s2 nr (bxor _ _) (bxor _ _) ?_ ⟨Nat.xor_lt_two_pow fx lt, Nat.xor_lt_two_pow fz lt, x_lt fs lm⟩ (by subst ho ht; exact gB_h ..)⟩
        show Builtin.bitXor (sg : Nat) ((one : Int) * (two : Int)) = _
        rw [em, bxor]
      · refine ⟨_, rfl, rfl, false, by decide +kernel, iteF ?_⟩
        refine ⟨_, rfl, _, rfl, _, rfl, _, rfl, (one : Int), a, rfl, rfl, csh l1 (by omega), _, _, rfl, rfl, _, rfl, _, rfl, _, rfl, _, _, rfl, rfl, .inl ⟨by omega, by omega⟩, _, _, rfl, rfl, by show 3 ≤ sizeLine; decide, fun r nr => fin (x, z ^^^ one * 2 ^ a, sg ^^^ one * two) s2 nr rfl ?_ ?_ ⟨fx, Nat.xor_lt_two_pow fz (sh_lt l1 ha), x_lt fs lm⟩ (by subst ho ht; exact gB_s ..)⟩
        · show Builtin.bitXor (z : Nat) ((one : Int) * 2 ^ a) = _
          rw [i_sh, bxor]
        · show Builtin.bitXor (sg : Nat) ((one : Int) * (two : Int)) = _
          rw [em, bxor]
    have k2 : G2 kd ∧ 2 ≤ (a :: ps').length := by
      rcases hk with (h | h | h | h) | h
      · exact absurd (.inl h) k4
      · exact absurd (.inr h) k4
      · exact absurd (.inl h) k3
      · exact absurd (.inr h) k3
      · exact h
    obtain ⟨kg, hp2⟩ := k2
    have k4' : ∀ {b : V}, b = .str kd → inV b [V.str "h", V.str "s"] = false := fun {b} e => by
      rcases kg with rfl | rfl | rfl <;> (rw [e]; decide +kernel)
    refine ⟨fun σ' H' => σ' = [some (.ref s), some (.str kd), some (.ref q), some (.int (x : Nat)), some (.int (z : Nat)), some (.int (sg : Nat)), some (.int (a : Nat)), some (.int (one : Nat)), some (.int (two : Nat)), none, none, none, none, none] ∧ Same H H', ?_, ?_⟩
    · refine ⟨_, rfl, by show 2 ≤ sizeLine; decide, fun l nl => ⟨l, _, rfl, .inl (SqL.of upd_same), rfl, rfl, false, ?_, iteF ⟨rfl, s1.trans (same_new nl)⟩⟩⟩
      exact congrArg V.bl (k4' rfl)
    rintro _ H2 ⟨rfl, s2⟩
    obtain ⟨b, ps2, rfl⟩ : ∃ b ps2, ps' = b :: ps2 := by
      cases ps' with
      | nil => simp at hp2
      | cons b ps2 => exact ⟨b, ps2, rfl⟩
    have hb : b < n := hps b (List.mem_cons_of_mem _ (List.mem_cons_self ..))
    refine ⟨fun σ' H' => σ' = [some (.ref s), some (.str kd), some (.ref q), some (.int (x : Nat)), some (.int (z : Nat)), some (.int (sg : Nat)), some (.int (a : Nat)), some (.int (one : Nat)), some (.int (two : Nat)), none, some (.int (b : Nat)), none, none, none] ∧ H' = H2, ⟨_, rfl, q, _, _, _, rfl, rfl, Same.seq s2 hS, at_of (j := 1) rfl rfl, rfl, rfl⟩, ?_⟩
    rintro _ H3 ⟨rfl, eH⟩
    subst eH
    refine ⟨fun σ' H' => σ' = [some (.ref s), some (.str kd), some (.ref q), some (.int (x : Nat)), some (.int (z : Nat)), some (.int (sg : Nat)), some (.int (a : Nat)), some (.int (one : Nat)), some (.int (two : Nat)), none, some (.int (b : Nat)), some (.int (x / 2 ^ b % 2 : Nat)), some (.int (z / 2 ^ b % 2 : Nat)), none] ∧ H' = H3, ?_, ?_⟩
    · refine ⟨_, rfl, _, rfl, (x : Int), b, rfl, rfl, .inl ⟨_, rfl, _, _, rfl, rfl, (by show (0 : Int) < 2; decide), _, rfl, _, rfl, (z : Int), b, rfl, rfl, .inl ⟨_, rfl, _, _, rfl, rfl, (by show (0 : Int) < 2; decide), _, _, rfl, ?_, rfl⟩⟩⟩
      show [_, _, _, _, _, _, _, _, _, _, _, some (V.int ((x : Int) / 2 ^ b % 2)), some (V.int ((z : Int) / 2 ^ b % 2)), _] = _
      rw [i_div, i_div]
    rintro _ H4 ⟨rfl, eH⟩
    subst eH
    have l3 := bitl x b
    have l4 := bitl z b
    generalize hf : x / 2 ^ b % 2 = fst at l3 ⊢
    generalize hs : z / 2 ^ b % 2 = snd at l4 ⊢
    have bits : ∀ u : Nat, u < 2 → u = 0 ∨ u = 1 := fun u h => by omega
    by_cases kc : kd = "cx"
    · subst kc
      obtain ⟨v, hv, ev⟩ : ∃ v : Nat, v < 2 ∧ ((one : Int) * (snd : Int)) * (1 - Builtin.bitXor (fst : Nat) (two : Nat)) = (v : Int) := by
        rw [bxor]
        rcases bits one l1 with rfl | rfl <;> rcases bits snd l4 with rfl | rfl <;> rcases bits fst l3 with rfl | rfl <;> rcases bits two l2 with rfl | rfl <;> first | exact ⟨0, by decide, by decide⟩ | exact ⟨1, by decide, by decide⟩
      refine ⟨fun _ _ => False, ?_, fun _ _ z => z.elim⟩
      refine ⟨_, rfl, rfl, true, by decide +kernel, iteT ?_⟩
      refine ⟨_, rfl, _, rfl, _, rfl, (one : Int), b, rfl, rfl, csh l1 (by omega), _, _, rfl, rfl, _, rfl, _, rfl, _, rfl, (snd : Int), a, rfl, rfl, csh l4 (by omega), _, _, rfl, rfl, _, rfl, _, rfl, _, rfl, _, _, rfl, rfl, .inl ⟨by omega, by omega⟩, _, rfl, _, rfl, _, _, rfl, rfl, _, _, rfl, rfl, _, _, rfl, rfl, ?_, _, _, rfl, rfl, by show 3 ≤ sizeLine; decide, fun r nr => fin (x ^^^ one * 2 ^ b, z ^^^ snd * 2 ^ a, sg ^^^ v) s2 nr ?_ ?_ ?_ ⟨Nat.xor_lt_two_pow fx (sh_lt l1 hb), Nat.xor_lt_two_pow fz (sh_lt l4 ha), x_lt fs hv⟩ (by subst ho hs; exact gB_cx ..)⟩
      · refine .inl ?_
        have : (one : Int) * (snd : Int) = ((one * snd : Nat) : Int) := by push_cast; rfl
        have := m_lt l1 l4
        constructor <;> (show _; omega)
      · show Builtin.bitXor (x : Nat) ((one : Int) * 2 ^ b) = _
        rw [i_sh, bxor]
      · show Builtin.bitXor (z : Nat) ((snd : Int) * 2 ^ a) = _
        rw [i_sh, bxor]
      · show Builtin.bitXor (sg : Nat) (((one : Int) * (snd : Int)) * (1 - Builtin.bitXor (fst : Nat) (two : Nat))) = _
        rw [ev, bxor]
    refine ⟨fun σ' H' => σ' = [some (.ref s), some (.str kd), some (.ref q), some (.int (x : Nat)), some (.int (z : Nat)), some (.int (sg : Nat)), some (.int (a : Nat)), some (.int (one : Nat)), some (.int (two : Nat)), none, some (.int (b : Nat)), some (.int (fst : Nat)), some (.int (snd : Nat)), none] ∧ H' = H4, ?_, ?_⟩
    · refine ⟨_, rfl, rfl, false, ?_, iteF ⟨rfl, rfl⟩⟩
      rcases kg with rfl | rfl | rfl
      · exact absurd rfl kc
      · decide +kernel
      · decide +kernel
    rintro _ H5 ⟨rfl, eH⟩
    subst eH
    by_cases kz : kd = "cz"
    · subst kz
      obtain ⟨v, hv, ev⟩ : ∃ v : Nat, v < 2 ∧ ((one : Int) * (fst : Int)) * Builtin.bitXor (two : Nat) (snd : Nat) = (v : Int) := by
        rw [bxor]
        rcases bits one l1 with rfl | rfl <;> rcases bits snd l4 with rfl | rfl <;> rcases bits fst l3 with rfl | rfl <;> rcases bits two l2 with rfl | rfl <;> first | exact ⟨0, by decide, by decide⟩ | exact ⟨1, by decide, by decide⟩
      refine ⟨fun _ _ => False, ?_, fun _ _ z => z.elim⟩
      refine ⟨_, rfl, rfl, true, by decide +kernel, iteT ?_⟩
      refine ⟨_, rfl, _, rfl, _, rfl, _, rfl, (fst : Int), a, rfl, rfl, csh l3 (by omega), _, _, rfl, rfl, _, rfl, _, rfl, (one : Int), b, rfl, rfl, csh l1 (by omega), _, _, rfl, rfl, _, rfl, _, rfl, _, rfl, _, _, rfl, rfl, .inl ⟨by omega, by omega⟩, _, rfl, _, rfl, _, _, rfl, rfl, _, _, rfl, rfl, ?_, _, _, rfl, rfl, by show 3 ≤ sizeLine; decide, fun r nr => fin (x, (z ^^^ fst * 2 ^ a) ^^^ one * 2 ^ b, sg ^^^ v) s2 nr rfl ?_ ?_ ⟨fx, Nat.xor_lt_two_pow (Nat.xor_lt_two_pow fz (sh_lt l3 ha)) (sh_lt l1 hb), x_lt fs hv⟩ (by subst ho hf; exact gB_cz ..)⟩
      · refine .inl ?_
        have : (one : Int) * (fst : Int) = ((one * fst : Nat) : Int) := by push_cast; rfl
        have := m_lt l1 l3
        constructor <;> (show _; omega)
      · show Builtin.bitXor (Builtin.bitXor (z : Nat) ((fst : Int) * 2 ^ a)) ((one : Int) * 2 ^ b) = _
        rw [i_sh, i_sh, bxor, bxor]
      · show Builtin.bitXor (sg : Nat) (((one : Int) * (fst : Int)) * Builtin.bitXor (two : Nat) (snd : Nat)) = _
        rw [ev, bxor]
    refine ⟨fun σ' H' => σ' = [some (.ref s), some (.str kd), some (.ref q), some (.int (x : Nat)), some (.int (z : Nat)), some (.int (sg : Nat)), some (.int (a : Nat)), some (.int (one : Nat)), some (.int (two : Nat)), none, some (.int (b : Nat)), some (.int (fst : Nat)), some (.int (snd : Nat)), none] ∧ H' = H5, ?_, ?_⟩
    · refine ⟨_, rfl, rfl, false, ?_, iteF ⟨rfl, rfl⟩⟩
      rcases kg with rfl | rfl | rfl
      · exact absurd rfl kc
      · exact absurd rfl kz
      · decide +kernel
    rintro _ H6 ⟨rfl, eH⟩
    subst eH
    have ks : kd = "swap" := by
      rcases kg with h | h | h
      · exact absurd h kc
      · exact absurd h kz
      · exact h
    have lu := x_lt l1 l3
    have lv := x_lt l2 l4
    refine ⟨fun σ' H' => σ' = [some (.ref s), some (.str kd), some (.ref q), some (.int (x : Nat)), some (.int (z : Nat)), some (.int (sg : Nat)), some (.int (a : Nat)), some (.int (one : Nat)), some (.int (two : Nat)), some (.int (one ^^^ fst : Nat)), some (.int (b : Nat)), some (.int (fst : Nat)), some (.int (snd : Nat)), some (.int (two ^^^ snd : Nat))] ∧ H' = H6, ?_, ?_⟩
    · refine ⟨_, rfl, _, rfl, _, _, rfl, rfl, _, rfl, _, rfl, _, _, rfl, rfl, _, _, rfl, ?_, rfl⟩
      show [_, _, _, _, _, _, _, _, _, some (V.int (Builtin.bitXor (one : Nat) (fst : Nat))), _, _, _, some (V.int (Builtin.bitXor (two : Nat) (snd : Nat)))] = _
      rw [bxor, bxor]
    rintro _ H7 ⟨rfl, eH⟩
    subst eH
    generalize hu9 : one ^^^ fst = u at lu ⊢
    generalize hv9 : two ^^^ snd = v at lv ⊢
    refine ⟨_, rfl, _, rfl, _, rfl, (u : Int), a, rfl, rfl, csh lu (by omega), _, _, rfl, rfl, _, rfl, _, rfl, (u : Int), b, rfl, rfl, csh lu (by omega), _, _, rfl, rfl, _, rfl, _, rfl, _, rfl, (v : Int), a, rfl, rfl, csh lv (by omega), _, _, rfl, rfl, _, rfl, _, rfl, (v : Int), b, rfl, rfl, csh lv (by omega), _, _, rfl, rfl, _, rfl, by show 3 ≤ sizeLine; decide, fun r nr => fin ((x ^^^ u * 2 ^ a) ^^^ u * 2 ^ b, (z ^^^ v * 2 ^ a) ^^^ v * 2 ^ b, sg) s2 nr ?_ ?_ rfl ⟨Nat.xor_lt_two_pow (Nat.xor_lt_two_pow fx (sh_lt lu ha)) (sh_lt lu hb), Nat.xor_lt_two_pow (Nat.xor_lt_two_pow fz (sh_lt lv ha)) (sh_lt lv hb), fs⟩ (by subst hu9 hv9; subst ho ht hf hs; rw [ks]; exact gB_swap ..)⟩
    · show Builtin.bitXor (Builtin.bitXor (x : Nat) ((u : Int) * 2 ^ a)) ((u : Int) * 2 ^ b) = _
      rw [i_sh, i_sh, bxor, bxor]
    · show Builtin.bitXor (Builtin.bitXor (z : Nat) ((v : Int) * 2 ^ a)) ((v : Int) * 2 ^ b) = _
      rw [i_sh, i_sh, bxor, bxor]
end
end KQ
namespace KQ
open PySem PySem.Spec PyProof.Rows L2
theorem fold_rep (c : Nat) : ∀ (n : Nat) (a : Array Nat), (List.replicate n (#[c] : Array Nat)).foldl (· ++ ·) a = a ++ (List.replicate n c).toArray
  | 0, a => by simp
  | n + 1, a => by
    rw [List.replicate_succ, List.foldl_cons, fold_rep c n, List.replicate_succ]
    apply Array.ext'
    simp
/-- one sign, n times -/
theorem op_mul_sign {X : Cx} : OpR X (binaryOp .Mult) (fun x y H Q => ∃ c n : Nat, x = .str ⟨#[c]⟩ ∧ y = .int (n : Int) ∧ 0 < n ∧ n ≤ 10000 ∧ Q (.str ⟨(List.replicate n c).toArray⟩) H) := by
  intro pins s σ H x y v u Q I rx ry want
  obtain ⟨c, n, rfl, rfl, h0, hn, q⟩ := want
  obtain ⟨t, rfl⟩ := rx
  obtain ⟨t', rfl⟩ := ry
  have n1 : ¬ (n : Int) < 1 := by omega
  have len1 : (⟨#[c]⟩ : Str).length = 1 := rfl
  refine PySem.P.mul_str ?_ (fun _ _ => ?_) (fun _ _ => ?_) ?_
  · rw [decide_eq_false (by omega : ¬ (n : Int) < -(2 ^ 63)), decide_eq_false (by omega : ¬ (n : Int) ≥ 2 ^ 63)]
    rfl
  · rw [len1]
    intro z
    have h1 : (1 : Int) ≤ (2 ^ 63 - 1) / (n : Int) := (Int.le_ediv_iff_mul_le (by omega)).mpr (by omega)
    have z' : (2 ^ 63 - 1) / (n : Int) < 1 := z
    omega
  · rw [len1, Nat.one_mul, Int.toNat_natCast]
    show decide (n > 2 ^ 24) = false
    exact decide_eq_false (by omega)
  · rw [if_neg n1]
    by_cases e : n = 1
    · subst e
      rw [if_pos (show (((1 : Nat) : Int) == 1 || (⟨#[c]⟩ : Str).length == 0) = true from rfl)]
      exact ⟨.str ⟨#[c]⟩, H, I, ⟨t, rfl⟩, q⟩
    · have ne : ((n : Int) == 1 || (⟨#[c]⟩ : Str).length == 0) = false := by
        have h1 : ((n : Int) == 1) = false := beq_eq_false_iff_ne.mpr (by omega)
        rw [h1]
        rfl
      rw [ne]
      rw [if_neg Bool.false_ne_true, Int.toNat_natCast]
      have key : (List.replicate n (⟨#[c]⟩ : Str).cps).foldl (· ++ ·) #[] = (List.replicate n c).toArray := by
        rw [fold_rep]
        simp
      rw [key]
      refine ⟨?_, ⟨.str ⟨(List.replicate n c).toArray⟩, H, I.tok _, ⟨_, rfl⟩, q⟩⟩
      show (List.replicate n c).toArray.size ≤ sizeLine
      rw [List.size_toArray, List.length_replicate]
      exact Nat.le_trans hn (by decide)
theorem op_mul_sign0 {X : Cx} : OpR X (binaryOp .Mult) (fun x y H Q => ∃ c n : Nat, x = .str ⟨#[c]⟩ ∧ y = .int (n : Int) ∧ n ≤ 10000 ∧ Q (.str ⟨(List.replicate n c).toArray⟩) H) := by
  intro pins s σ H x y v u Q I rx ry want
  obtain ⟨c, n, rfl, rfl, hn, q⟩ := want
  by_cases h0 : 0 < n
  · exact op_mul_sign pins s σ H _ _ v u Q I rx ry ⟨c, n, rfl, rfl, h0, hn, q⟩
  · obtain rfl : n = 0 := by omega
    obtain ⟨t, rfl⟩ := rx
    obtain ⟨t', rfl⟩ := ry
    refine PySem.P.mul_str ?_ (fun _ _ => ?_) (fun _ _ => ?_) ?_
    · rfl
    · rename_i h1 _
      exact absurd (show ((0 : Nat) : Int) < 1 by decide) h1
    · rename_i h1 _
      exact absurd (show ((0 : Nat) : Int) < 1 by decide) h1
    · rw [if_pos (show ((0 : Nat) : Int) < 1 by decide)]
      exact ⟨Nat.zero_le _, ⟨.str Str.empty, H, I.tok _, ⟨_, rfl⟩, q⟩⟩
end KQ
namespace KQ
open PySem PySem.Spec PyProof.Rows L2
theorem scCode : FnScope ["_law_pen_here", "_law_size", "_law_rank", "_law_gauged", "_law_marks", "_law_pairs", "_law_gates", "_law_lap", "_law_string", "_law_x", "_law_z", "_law_rows", "_law_other_here", "_law_gauge", "_law_kind", "_law_places", "_law_k"] ["_law_pen_here", "_law_size", "_law_rank", "_law_gauged"] (defScope sCode) := ⟨rfl, rfl, rfl, by decide +kernel, rfl, by decide +kernel, by decide +kernel⟩
instance (k : Str) : Decidable (G2 k) := inferInstanceAs (Decidable (_ ∨ _ ∨ _))
abbrev RLs := List (Addr × T3)
def refR (R : RLs) : List V := R.map fun r => V.ref r.1
def RsAt (n : Nat) (H : Hp) (R : RLs) : Prop := ∀ r ∈ R, TrAt H r.1 r.2 ∧ Fit n r.2
abbrev PrLs := List (Addr × (Addr × T3) × (Addr × T3))
def refQ (R : PrLs) : List V := R.map fun r => V.ref r.1
def QsAt (n : Nat) (H : Hp) (R : PrLs) : Prop := ∀ r ∈ R, H r.1 = some (.tup [.ref r.2.1.1, .ref r.2.2.1]) ∧ TrAt H r.2.1.1 r.2.1.2 ∧ Fit n r.2.1.2 ∧ TrAt H r.2.2.1 r.2.2.2 ∧ Fit n r.2.2.2
abbrev GtLs := List (Addr × Str × Addr × List Nat)
def refG (G : GtLs) : List V := G.map fun g => V.ref g.1
def GtAt (n : Nat) (gl : Addr) (H : Hp) (G : GtLs) : Prop := ∀ g ∈ G, H g.1 = some (.tup [.str g.2.1, .ref g.2.2.1]) ∧ H g.2.2.1 = some (.lst (natV g.2.2.2)) ∧ g.2.2.1 ≠ gl ∧ (∀ a ∈ g.2.2.2, a < n) ∧ 1 ≤ g.2.2.2.length ∧ (G1 g.2.1 ∨ (G2 g.2.1 ∧ 2 ≤ g.2.2.2.length)) ∧ g.2.2.2.Nodup
theorem refR_at {R : RLs} {i : Nat} {v : V} (h : (refR R)[i]? = some v) : ∃ r, R[i]? = some r ∧ v = .ref r.1 := by
  unfold refR at h
  rw [List.getElem?_map] at h
  obtain ⟨q, hq, rfl⟩ := Option.map_eq_some_iff.mp h
  exact ⟨q, hq, rfl⟩
theorem refR_len (R : RLs) : (refR R).length = R.length := List.length_map ..
theorem refQ_at {R : PrLs} {i : Nat} {v : V} (h : (refQ R)[i]? = some v) : ∃ r, R[i]? = some r ∧ v = .ref r.1 := by
  unfold refQ at h
  rw [List.getElem?_map] at h
  obtain ⟨q, hq, rfl⟩ := Option.map_eq_some_iff.mp h
  exact ⟨q, hq, rfl⟩
theorem refQ_len (R : PrLs) : (refQ R).length = R.length := List.length_map ..
theorem refG_at {R : GtLs} {i : Nat} {v : V} (h : (refG R)[i]? = some v) : ∃ r, R[i]? = some r ∧ v = .ref r.1 := by
  unfold refG at h
  rw [List.getElem?_map] at h
  obtain ⟨q, hq, rfl⟩ := Option.map_eq_some_iff.mp h
  exact ⟨q, hq, rfl⟩
theorem refG_len (R : GtLs) : (refG R).length = R.length := List.length_map ..
theorem RsAt.same {n : Nat} {H H' : Hp} {R : RLs} (s : Same H H') (h : RsAt n H R) : RsAt n H' R := fun r hr => ⟨s _ _ (h r hr).1, (h r hr).2⟩
theorem RsAt.put {n : Nat} {H : Hp} {R : RLs} {D : Addr} {xs : List V} {o : HO} (e : H D = some (.lst xs)) (h : RsAt n H R) : RsAt n (upd H D o) R := fun r hr => by
  obtain ⟨e2, f⟩ := h r hr
  refine ⟨?_, f⟩
  unfold TrAt at *
  rw [upd_ne fun z => by rw [z, e] at e2; cases e2]
  exact e2
theorem RsAt.kb {n : Nat} {H H' : Hp} {R : RLs} {p : Addr} {kv : List (Key × V)} (hp : H p = some (.dK kv)) (k : KB p H H') (h : RsAt n H R) : RsAt n H' R := fun r hr => by
  obtain ⟨e2, f⟩ := h r hr
  refine ⟨k _ _ e2 fun z => ?_, f⟩
  unfold TrAt at e2
  rw [z, hp] at e2
  cases e2
theorem QsAt.same {n : Nat} {H H' : Hp} {R : PrLs} (s : Same H H') (h : QsAt n H R) : QsAt n H' R := fun r hr => let ⟨a, b, c, d, e⟩ := h r hr; ⟨s _ _ a, s _ _ b, c, s _ _ d, e⟩
theorem QsAt.put {n : Nat} {H : Hp} {R : PrLs} {D : Addr} {xs : List V} {o : HO} (e : H D = some (.lst xs)) (h : QsAt n H R) : QsAt n (upd H D o) R := fun r hr => by
  obtain ⟨a, b, c, d, f⟩ := h r hr
  unfold TrAt at *
  refine ⟨?_, ?_, c, ?_, f⟩
  · rw [upd_ne fun z => by rw [z, e] at a; cases a]; exact a
  · rw [upd_ne fun z => by rw [z, e] at b; cases b]; exact b
  · rw [upd_ne fun z => by rw [z, e] at d; cases d]; exact d
theorem QsAt.kb {n : Nat} {H H' : Hp} {R : PrLs} {p : Addr} {kv : List (Key × V)} (hp : H p = some (.dK kv)) (k : KB p H H') (h : QsAt n H R) : QsAt n H' R := fun r hr => by
  obtain ⟨a, b, c, d, f⟩ := h r hr
  unfold TrAt at b d
  exact ⟨k _ _ a fun z => (by rw [z, hp] at a; cases a), k _ _ b fun z => (by rw [z, hp] at b; cases b), c, k _ _ d fun z => (by rw [z, hp] at d; cases d), f⟩
def LK (k c : Nat) : List Nat := List.replicate k 73 ++ [c]
theorem LK_len (k c : Nat) : (LK k c).length = k + 1 := by simp [LK]
theorem LK_lts (k : Nat) {c : Nat} (h : isL c = true) : Lts8 (LK k c) := by
  intro d hd
  rcases List.mem_append.mp hd with q | q
  · rw [List.eq_of_mem_replicate q]
    exact isL_iff.mpr (.inl rfl)
  · rw [List.mem_singleton.mp q]
    exact h
theorem oft_fit {size : Nat} {L : List Nat} (h : L.length ≤ size) : Fit size (bv lx L, bv lz L, 0) := by
  have up : ∀ {x : Nat}, x < 2 ^ L.length → x < 2 ^ size := fun k => Nat.lt_of_lt_of_le k (Nat.pow_le_pow_right (by decide) h)
  exact ⟨up (bv_lt lx_lt L), up (bv_lt lz_lt L), by show 0 < 2; decide⟩
theorem e_Zc : ("Z" : Str) = ⟨#[90]⟩ := by decide +kernel
theorem e_Xc : ("X" : Str) = ⟨#[88]⟩ := by decide +kernel
theorem LK_txt (k c : Nat) : ((⟨(List.replicate k 73).toArray⟩ : Str) ++ (⟨#[c]⟩ : Str)) = mS (LK k c) := mS_app _ [c]
theorem LK_small (k : Nat) (h : k ≤ 25) (x : Str) (hx : x.length = 1) : ((⟨(List.replicate k 73).toArray⟩ : Str)).length + x.length ≤ sizeLine := by
  rw [hx]
  refine Nat.le_trans ?_ (by decide : 26 ≤ sizeLine)
  show (List.replicate k 73).toArray.size + 1 ≤ 26
  simp
  omega
theorem kb_lst {H H' : Hp} {p c x : Addr} {n : Nat} {xs : List V} (P : PenAt H p c n) (k : KB p H H') (e : H x = some (.lst xs)) : H' x = some (.lst xs) := by
  obtain ⟨ns, a, d, f, hp, _⟩ := P
  exact k _ _ e fun z => by rw [z, hp] at e; cases e
theorem kb_rs {H H' : Hp} {p c : Addr} {n m : Nat} {R : RLs} (P : PenAt H p c n) (k : KB p H H') (h : RsAt m H R) : RsAt m H' R := by
  obtain ⟨ns, a, d, f, hp, _⟩ := P
  exact h.kb hp k
theorem kb_qs {H H' : Hp} {p c : Addr} {n m : Nat} {R : PrLs} (P : PenAt H p c n) (k : KB p H H') (h : QsAt m H R) : QsAt m H' R := by
  obtain ⟨ns, a, d, f, hp, _⟩ := P
  exact h.kb hp k
theorem kb_gt {H H' : Hp} {p c gl : Addr} {n m : Nat} {R : GtLs} (P : PenAt H p c n) (k : KB p H H') (h : GtAt m gl H R) : GtAt m gl H' R := by
  obtain ⟨ns, a, d, f, hp, _⟩ := P
  intro g hg
  obtain ⟨e1, e2, r⟩ := h g hg
  exact ⟨k _ _ e1 fun z => (by rw [z, hp] at e1; cases e1), k _ _ e2 fun z => (by rw [z, hp] at e2; cases e2), r⟩
theorem code_kv (u v w x : V) : mergeK [] [((.inr "size" : Key), u), (.inr "rows", v), (.inr "gauge", w), (.inr "hidden", x)] = [((.inr "size" : Key), u), (.inr "rows", v), (.inr "gauge", w), (.inr "hidden", x)] := by
  have h1 : ¬ ("size" : Str) = "rows" := by decide +kernel
  have h2 : ¬ ("size" : Str) = "gauge" := by decide +kernel
  have h3 : ¬ ("size" : Str) = "hidden" := by decide +kernel
  have h4 : ¬ ("rows" : Str) = "gauge" := by decide +kernel
  have h5 : ¬ ("rows" : Str) = "hidden" := by decide +kernel
  have h6 : ¬ ("gauge" : Str) = "hidden" := by decide +kernel
  simp [mergeK, putK, h1, h2, h3, h4, h5, h6]
def bz (r : Addr × T3) : T2 := (r.2.1, r.2.2.1)
def bz2 (s : Addr × (Addr × T3) × (Addr × T3)) : T2 × T2 := (bz s.2.1, bz s.2.2)
def mk0 (i : Nat) : List T2 := (List.range i).map fun k => (0, 2 ^ k)
def pr0 (rank i : Nat) : List (T2 × T2) := (List.range i).map fun k => ((2 ^ (rank + k), 0), (0, 2 ^ (rank + k)))
def L2p (L : T2 → T2) (q : T2 × T2) : T2 × T2 := (L q.1, L q.2)
def MkB (R : RLs) (i : Nat) : Prop := R.length = i ∧ R.map bz = mk0 i
def PrB (S : PrLs) (rank i : Nat) : Prop := S.length = i ∧ S.map bz2 = pr0 rank i
theorem bv_LK {f : Nat → Nat} (h : f 73 = 0) (c : Nat) : ∀ i, bv f (LK i c) = f c * 2 ^ i
  | 0 => by
    show f c + 2 * 0 = _
    simp
  | i + 1 => by
    have := bv_LK h c i
    show f 73 + 2 * bv f (LK i c) = _
    rw [this, h, Nat.pow_succ, Nat.zero_add, Nat.mul_comm 2, Nat.mul_assoc]
theorem MkB.snoc {R : RLs} {i : Nat} (h : MkB R i) (t : Addr) : MkB (R ++ [(t, (bv lx (LK i 90), bv lz (LK i 90), 0))]) (i + 1) := by
  refine ⟨by rw [List.length_append, h.1]; rfl, ?_⟩
  unfold mk0
  rw [List.map_append, h.2, List.range_succ, List.map_append]
  show _ ++ [(bv lx (LK i 90), bv lz (LK i 90))] = _
  rw [bv_LK (by decide), bv_LK (by decide), show lx 90 = 0 by decide, show lz 90 = 1 by decide, Nat.zero_mul, Nat.one_mul]
  rfl
theorem PrB.snoc {S : PrLs} {rank i : Nat} (h : PrB S rank i) (r t u : Addr) : PrB (S ++ [(r, (t, (bv lx (LK (rank + i) 88), bv lz (LK (rank + i) 88), 0)), (u, (bv lx (LK (rank + i) 90), bv lz (LK (rank + i) 90), 0)))]) rank (i + 1) := by
  refine ⟨by rw [List.length_append, h.1]; rfl, ?_⟩
  unfold pr0
  rw [List.map_append, h.2, List.range_succ, List.map_append]
  show _ ++ [((bv lx (LK (rank + i) 88), bv lz (LK (rank + i) 88)), (bv lx (LK (rank + i) 90), bv lz (LK (rank + i) 90)))] = _
  rw [bv_LK (by decide), bv_LK (by decide), bv_LK (by decide), bv_LK (by decide), show lx 90 = 0 by decide, show lz 90 = 1 by decide, show lx 88 = 1 by decide, show lz 88 = 0 by decide, Nat.zero_mul, Nat.one_mul]
  rfl
/-- numbers with ascending top bits -/
def MsOk (ms : List Nat) (i : Nat) : Prop := ms.length = i ∧ ∀ (k m : Nat), ms[k]? = some m → 2 ^ k ≤ m ∧ m < 2 ^ (k + 1)
theorem MsOk.nil : MsOk [] 0 := ⟨rfl, fun k m h => by cases h⟩
theorem MsOk.snoc {ms : List Nat} {i m : Nat} (h : MsOk ms i) (h1 : 2 ^ i ≤ m) (h2 : m < 2 ^ (i + 1)) : MsOk (ms ++ [m]) (i + 1) := by
  refine ⟨by rw [List.length_append, h.1]; rfl, fun k x hx => ?_⟩
  by_cases hk : k < ms.length
  · rw [List.getElem?_append_left hk] at hx
    exact h.2 k x hx
  · have lk := (List.getElem?_eq_some_iff.mp hx).1
    rw [List.length_append, List.length_singleton] at lk
    have ek : k = ms.length := by omega
    rw [ek, List.getElem?_append_right (Nat.le_refl _), Nat.sub_self] at hx
    injection hx with hx
    rw [ek, h.1, ← hx]
    exact ⟨h1, h2⟩
theorem MsOk.lt {ms : List Nat} {i m : Nat} (h : MsOk ms i) (hm : m ∈ ms) : m < 2 ^ i := by
  obtain ⟨k, hk⟩ := List.getElem?_of_mem hm
  have := (List.getElem?_eq_some_iff.mp hk).1
  have := h.1
  exact Nat.lt_of_lt_of_le (h.2 k m hk).2 (Nat.pow_le_pow_right (by decide) (by omega))
theorem top_x {i m k : Nat} (h1 : 2 ^ i ≤ m) (h2 : m < 2 ^ (i + 1)) (hk : k < 2 ^ i) : 2 ^ i ≤ m ^^^ k ∧ m ^^^ k < 2 ^ (i + 1) := by
  have hd := Nat.div_add_mod m (2 ^ i)
  have h3 : m / 2 ^ i = 1 := by
    rw [Nat.pow_succ] at h2
    exact Nat.div_eq_of_lt_le (by omega) (by omega)
  rw [h3] at hd
  have hm : m = 2 ^ i * 1 + m % 2 ^ i := hd.symm
  have hr : m % 2 ^ i < 2 ^ i := Nat.mod_lt _ (Nat.two_pow_pos i)
  have hx : m % 2 ^ i ^^^ k < 2 ^ i := Nat.xor_lt_two_pow hr hk
  have e : m ^^^ k = 2 ^ i * 1 + (m % 2 ^ i ^^^ k) := by
    apply Nat.eq_of_testBit_eq
    intro j
    rw [Nat.testBit_xor]
    by_cases hj : j < i
    · rw [Nat.testBit_two_pow_mul_add _ hx, if_pos hj, Nat.testBit_xor, Nat.testBit_mod_two_pow, decide_eq_true hj, Bool.true_and]
    · rw [Nat.testBit_two_pow_mul_add _ hx, if_neg hj, Nat.testBit_lt_two_pow (Nat.lt_of_lt_of_le hk (Nat.pow_le_pow_right (by decide) (by omega))), Bool.xor_false]
      conv => lhs; rw [hm]
      rw [Nat.testBit_two_pow_mul_add _ hr, if_neg hj]
  rw [Nat.pow_succ, e]
  omega
theorem gate_pl {kd : Str} {ps : List Nat} {n : Nat} (hps : ∀ a ∈ ps, a < n) (h1 : 1 ≤ ps.length) (h : G1 kd ∨ (G2 kd ∧ 2 ≤ ps.length)) (nd : ps.Nodup) : ps.getD 0 0 < n ∧ ps.getD 1 0 < n ∧ PlOk kd (ps.getD 0 0) (ps.getD 1 0) := by
  match ps, h1 with
  | [a], _ =>
    have := hps a (List.mem_cons_self ..)
    refine ⟨this, by show 0 < n; omega, .inr ?_⟩
    rcases h with h | ⟨_, h⟩
    · rcases h with rfl | rfl | rfl | rfl <;> decide +kernel
    · simp at h
  | a :: b :: r, _ =>
    refine ⟨hps a (List.mem_cons_self ..), hps b (List.mem_cons_of_mem _ (List.mem_cons_self ..)), .inl ?_⟩
    show a ≠ b
    rw [List.nodup_cons] at nd
    intro z
    exact nd.1 (z ▸ List.mem_cons_self ..)
theorem cutV_from (xs : List V) (k : Nat) : cutV xs (some (k : Int)) none = xs.drop k := by
  unfold cutV
  rw [HT.sIx_none, HT.sIx_nat]
  by_cases h : k ≤ xs.length
  · rw [Nat.min_eq_left h, List.take_of_length_le (by rw [List.length_drop]; omega)]
  · rw [Nat.min_eq_right (by omega), Nat.sub_self, List.take_zero, List.drop_of_length_le (by omega)]
def flatQ (S : PrLs) : RLs := S.flatMap fun s => [s.2.1, s.2.2]
theorem flatQ_len (S : PrLs) : (flatQ S).length = 2 * S.length := by
  induction S with
  | nil => rfl
  | cons s S ih =>
    show ([s.2.1, s.2.2] ++ flatQ S).length = 2 * (S.length + 1)
    rw [List.length_append, ih]
    show 2 + 2 * S.length = _
    omega
theorem flatQ_app (S T : PrLs) : flatQ (S ++ T) = flatQ S ++ flatQ T := List.flatMap_append ..
/-- rows and pairs of a drawn code -/
structure CodeL (size rank : Nat) (R : RLs) (S : PrLs) (L : T2 → T2) (ms : List Nat) : Prop where
  symp : Symp size L
  asc : MsOk ms rank
  rows : (R.map bz).Perm (ms.map fun m => L (0, m))
  pairs : S.map bz2 = (pr0 rank (size - rank)).map (L2p L)
def spCode (K : PySem.W.Frag) : Sp := fun vs H Q _ => ∃ (p c : Addr) (n size rank gd : Nat), vs = [.ref p, .int (size : Nat), .int (rank : Nat), .int (gd : Nat)] ∧ PenAt H p c n ∧ n + 5000 < 1000000 ∧ 1 ≤ size ∧ size ≤ 25 ∧ rank + gd ≤ size ∧
  ∀ H' d lr lg lh R S L ms n', KB p H H' → PenAt H' p c n' → n' ≤ n + 5000 → H d = none → H' d = some (.dK [(.inr "size", .int (size : Nat)), (.inr "rows", .ref lr), (.inr "gauge", .ref lg), (.inr "hidden", .ref lh)]) → H' lr = some (.lst (refR R)) → RsAt size H' R → R.length = rank → H' lg = some (.lst (refR (flatQ (S.take gd)))) → H' lh = some (.lst (refQ (S.drop gd))) → QsAt size H' S → CodeL size rank R S L ms → Q (.ref d) H'
section
variable {P : Program} {w : World} {K : PySem.W.Frag} {mg : Str → Option Value} {base : Heap}
theorem ok_code {f fD fP fS fT fG fM fO : Addr} {fd dD dP dS dT dG dM dO : FuncData} {k : Nat} (F : Fun K "_law_drawn_code" "_law_drawn_code" sCode f fd) (FD : Fun K "_law_draw" "_law_draw" sDraw fD dD) (bD : Binds K dD ["_law_pen_here", "_law_many"] []) (gD : mg "_law_draw" = some (.ref fD))
    (FP : Fun K "_law_pick" "_law_pick" sPick fP dP) (bP : Binds K dP ["_law_pen_here", "_law_some"] []) (gP : mg "_law_pick" = some (.ref fP)) (FS : Fun K "_law_shuffled" "_law_shuffled" sShuf fS dS) (bS : Binds K dS ["_law_pen_here", "_law_some"] []) (gS : mg "_law_shuffled" = some (.ref fS))
    (FT : Fun K "_law_of_text" "_law_of_text" sOfT fT dT) (bT : Binds K dT ["_law_text_here"] []) (gT : mg "_law_of_text" = some (.ref fT)) (FG : Fun K "_law_gate" "_law_gate" sGate fG dG) (bG : Binds K dG ["_law_string", "_law_kind", "_law_places"] []) (gG : mg "_law_gate" = some (.ref fG))
    (FM : Fun K "_law_product" "_law_product" sProd fM dM) (bM : Binds K dM ["_law_one", "_law_two"] []) (gM : mg "_law_product" = some (.ref fM)) (FO : Fun K "_law_ones" "_law_ones" sOnes fO dO) (bO : Binds K dO ["_law_number"] []) (gO : mg "_law_ones" = some (.ref fO)) (B : Bl mg) :
    FnOk P w K mg base CX0 (k + 3) f fd ["_law_pen_here", "_law_size", "_law_rank", "_law_gauged"] (spCode K) := by
  have GD : FnOk P w K mg base CX0 (k + 1) fD dD ["_law_pen_here", "_law_many"] spDraw := ok_draw FD B.int B.len
  have GP : FnOk P w K mg base CX0 (k + 2) fP dP ["_law_pen_here", "_law_some"] (spPick K) := ok_pick FP FD bD gD B.int B.len
  have GS : FnOk P w K mg base CX0 (k + 2) fS dS ["_law_pen_here", "_law_some"] (spShuf K) := ok_shuf FS FD bD gD B
  have GT : FnOk P w K mg base CX0 (k + 1) fT dT ["_law_text_here"] spOfT := ok_oft FT B
  have GG : FnOk P w K mg base CX0 (k + 1) fG dG ["_law_string", "_law_kind", "_law_places"] (spGate K) := ok_gate FG B
  have GM : FnOk P w K mg base CX0 (k + 2) fM dM ["_law_one", "_law_two"] spProd := ok_prod FM FO bO gO B
  refine F.ok scCode (fun vs H Q E h => ?_) (fun cdv A outer s H vs Q E hr h => ?_)
  · obtain ⟨p, c, n, size, rank, gd, rfl, _⟩ := h
    rfl
  · obtain ⟨p, c, n, size, rank, gd, rfl, hP, hn, z1, z25, hrg, q⟩ := h
    have hrk : rank ≤ size := by omega
    have r2 : Room (k + 2) _ := hr
    have r1 : Room (k + 1) _ := hr.mono (by omega)
    refine ⟨_, (C8.pss_cut (ps_setLc (i := 4) (own := [("_law_k", 16)]) (g := gName 16) (by rfl) scCode.nd rfl rfl (sw_true rfl rfl rfl (by decide +kernel)) (pi_range1 (by rfl) B.range (pa_cons (pv 2) pa_nil)) (blkOk_by (own := [("_law_k", 16)]) (N := ["_law_pen_here", "_law_size", "_law_rank", "_law_gauged", "_law_marks", "_law_pairs", "_law_gates", "_law_lap", "_law_string", "_law_x", "_law_z", "_law_rows", "_law_other_here", "_law_gauge", "_law_kind", "_law_places", "_law_k"]) (sc := defScope sCode) (by decide +kernel)) (fun _ _ _ _ _ => pg_name (i := 16) scCode.nd rfl (Or.inl rfl)) (fun _ _ _ _ _ => pts_nil) (fun _ _ _ _ _ => (pe_call GT r1 (by rfl) gT FT.kp bT .nil pass0 (pa_cons (pe_op op_add_str (pe_op op_mul_sign0 pe_str (pv 16)) pe_str) pa_nil))))
      (C8.pss_cut (ps_setLc (i := 5) (own := [("_law_k", 16)]) (g := gName 16) (by rfl) scCode.nd rfl rfl (sw_true rfl rfl rfl (by decide +kernel)) (pi_range2 (by rfl) B.range (pa_cons (pv 2) (pa_cons (pv 1) pa_nil))) (blkOk_by (own := [("_law_k", 16)]) (N := ["_law_pen_here", "_law_size", "_law_rank", "_law_gauged", "_law_marks", "_law_pairs", "_law_gates", "_law_lap", "_law_string", "_law_x", "_law_z", "_law_rows", "_law_other_here", "_law_gauge", "_law_kind", "_law_places", "_law_k"]) (sc := defScope sCode) (by decide +kernel)) (fun _ _ _ _ _ => pg_name (i := 16) scCode.nd rfl (Or.inl rfl)) (fun _ _ _ _ _ => pts_nil) (fun _ _ _ _ _ => (pe_tup (pa_cons (pe_call GT r1 (by rfl) gT FT.kp bT .nil pass0 (pa_cons (pe_op op_add_str (pe_op op_mul_sign0 pe_str (pv 16)) pe_str) pa_nil)) (pa_cons (pe_call GT r1 (by rfl) gT FT.kp bT .nil pass0 (pa_cons (pe_op op_add_str (pe_op op_mul_sign0 pe_str (pv 16)) pe_str) pa_nil)) pa_nil)))))
      (C8.pss_cut (ps_set (i := 6) scCode.nd rfl (.inl rfl) (pe_lst pa_nil))
      (C8.pss_cut (ps_for PassesOwn.never rfl (pi_range1 (by rfl) B.range (pa_cons (pe_op op_add pe_int (pe_call GD r1 (by rfl) gD FD.kp bD .nil pass0 (pa_cons (pv 0) (pa_cons (pe_op op_mul pe_int (pv 1)) pa_nil)))) pa_nil)) (pg_name (i := 7) scCode.nd rfl (.inl rfl)) (C8.pss_cut (ps_set (i := 14) scCode.nd rfl (.inr rfl) (pe_call GP r2 (by rfl) gP FP.kp bP .nil pass0 (pa_cons (pv 0) (pa_cons (pe_lst (pa_cons pe_str (pa_cons pe_str (pa_cons pe_str (pa_cons pe_str (pa_cons pe_str (pa_cons pe_str (pa_cons pe_str (pa_cons pe_str pa_nil))))))))) pa_nil)))) (C8.pss_cut (ps_set (i := 15) scCode.nd rfl (.inr rfl) (pe_slice sl_list (pe_call GS r2 (by rfl) gS FS.kp bS .nil pass0 (pa_cons (pv 0) (pa_cons (pe_listRg rfl (by rfl) B.list (prg_1 (by rfl) B.range (pv 1))) pa_nil))) po_none (po_some (pe_ifExp (pt_cmpR op_in_seq (pv 14) (pe_lst (pa_cons pe_str (pa_cons pe_str (pa_cons pe_str pa_nil)))) (by with_unfolding_all rfl)) pe_int pe_int)))) (pss_one (ps_if (PW.pt (pw_or (pt_cmpR op_gt (pe_callB call_len_seq (by rfl) B.len PySem.boot_len (pa_cons (pv 15) pa_nil)) pe_int (nomark _)) (pw_or1 (pt_cmpR op_notIn_seq (pv 14) (pe_lst (pa_cons pe_str (pa_cons pe_str (pa_cons pe_str pa_nil)))) (by with_unfolding_all rfl))))) (pss_one (ps_expr (pe_bm PySem.F.plainAttrs_list PySem.F.slot_list_append PySem.F.type_list_append mt_append (pv 6) (pa_cons (pe_tup (pa_cons (pv 14) (pa_cons (pv 15) pa_nil))) pa_nil)))) pss_nil)))))
      (C8.pss_cut (ps_for PassesOwn.never rfl (pi_list (pv 6)) (pg_tup rfl (pgs_cons (pg_name (i := 14) scCode.nd rfl (.inr rfl)) (pgs_cons (pg_name (i := 15) scCode.nd rfl (.inr rfl)) pgs_nil))) (C8.pss_cut (ps_setLc (i := 4) (own := [("_law_string", 8)]) (g := gName 8) (by rfl) scCode.nd rfl rfl (sw_true rfl rfl rfl (by decide +kernel)) (pi_list (pv 4)) (blkOk_by (own := [("_law_string", 8)]) (N := ["_law_pen_here", "_law_size", "_law_rank", "_law_gauged", "_law_marks", "_law_pairs", "_law_gates", "_law_lap", "_law_string", "_law_x", "_law_z", "_law_rows", "_law_other_here", "_law_gauge", "_law_kind", "_law_places", "_law_k"]) (sc := defScope sCode) (by decide +kernel)) (fun _ _ _ _ _ => pg_name (i := 8) scCode.nd rfl (Or.inl rfl)) (fun _ _ _ _ _ => pts_nil) (fun _ _ _ _ _ => (pe_call GG r1 (by rfl) gG FG.kp bG .nil pass0 (pa_cons (pv 8) (pa_cons (pv 14) (pa_cons (pv 15) pa_nil)))))) (pss_one (ps_setLc (i := 5) (own := [("_law_x", 9), ("_law_z", 10)]) (g := gTup K 2 (gCons (gName 9) (gCons (gName 10) gNil))) (by rfl) scCode.nd rfl rfl (sw_true rfl rfl rfl (by decide +kernel)) (pi_list (pv 5)) (blkOk_by (own := [("_law_x", 9), ("_law_z", 10)]) (N := ["_law_pen_here", "_law_size", "_law_rank", "_law_gauged", "_law_marks", "_law_pairs", "_law_gates", "_law_lap", "_law_string", "_law_x", "_law_z", "_law_rows", "_law_other_here", "_law_gauge", "_law_kind", "_law_places", "_law_k"]) (sc := defScope sCode) (by decide +kernel)) (fun _ _ _ _ _ => pg_tup rfl (pgs_cons (pg_name (i := 9) scCode.nd rfl (Or.inl rfl)) (pgs_cons (pg_name (i := 10) scCode.nd rfl (Or.inl rfl)) pgs_nil))) (fun _ _ _ _ _ => pts_nil) (fun _ _ _ _ _ => (pe_tup (pa_cons (pe_call GG r1 (by rfl) gG FG.kp bG .nil pass0 (pa_cons (pv 9) (pa_cons (pv 14) (pa_cons (pv 15) pa_nil)))) (pa_cons (pe_call GG r1 (by rfl) gG FG.kp bG .nil pass0 (pa_cons (pv 10) (pa_cons (pv 14) (pa_cons (pv 15) pa_nil)))) pa_nil))))))))
      (C8.pss_cut (ps_set (i := 11) scCode.nd rfl (.inl rfl) (pe_lst pa_nil))
      (C8.pss_cut (ps_for PassesOwn.never rfl (pi_list (pv 4)) (pg_name (i := 8) scCode.nd rfl (.inl rfl)) (C8.pss_cut (ps_for PassesOwn.never rfl (pi_list (pe_slice sl_list (pe_call GS r2 (by rfl) gS FS.kp bS .nil pass0 (pa_cons (pv 0) (pa_cons (pv 11) pa_nil))) po_none (po_some (pe_call GD r1 (by rfl) gD FD.kp bD .nil pass0 (pa_cons (pv 0) (pa_cons pe_int pa_nil)))))) (pg_name (i := 12) scCode.nd rfl (.inl rfl)) (pss_one (ps_set (i := 8) scCode.nd rfl (.inl rfl) (pe_call GM r2 (by rfl) gM FM.kp bM .nil pass0 (pa_cons (pv 8) (pa_cons (pv 12) pa_nil)))))) (pss_one (ps_expr (pe_bm PySem.F.plainAttrs_list PySem.F.slot_list_append PySem.F.type_list_append mt_append (pv 11) (pa_cons (pe_tup (pa_cons (pe_ix ix_tup (pv 8) pe_int (fun _ _ => rfl)) (pa_cons (pe_ix ix_tup (pv 8) pe_int (fun _ _ => rfl)) (pa_cons (pe_call GD r1 (by rfl) gD FD.kp bD .nil pass0 (pa_cons (pv 0) (pa_cons pe_int pa_nil))) pa_nil)))) pa_nil))))))
      (C8.pss_cut (ps_set (i := 13) scCode.nd rfl (.inl rfl) (pe_lst pa_nil))
      (C8.pss_cut (ps_for PassesOwn.never rfl (pi_list (pe_slice sl_list (pv 5) po_none (po_some (pv 3)))) (pg_tup rfl (pgs_cons (pg_name (i := 9) scCode.nd rfl (.inl rfl)) (pgs_cons (pg_name (i := 10) scCode.nd rfl (.inl rfl)) pgs_nil))) (pss_one (ps_set (i := 13) scCode.nd rfl (.inl rfl) (pe_op op_cat (pv 13) (pe_lst (pa_cons (pv 9) (pa_cons (pv 10) pa_nil)))))))
      (pss_one (ps_ret (pe_disp (pps_cons pe_str (pv 1) (pps_cons pe_str (pe_call GS r2 (by rfl) gS FS.kp bS .nil pass0 (pa_cons (pv 0) (pa_cons (pv 11) pa_nil))) (pps_cons pe_str (pv 13) (pps_cons pe_str (pe_slice sl_list (pv 5) (po_some (pv 3)) po_none) pps_nil)))) (by rfl) (by rfl) (fun z => by cases z) (by decide))))))))))))), ?_⟩
    obtain ⟨pp, pc0⟩ := hP.some
    refine ⟨fun σ' H' => ∃ (m : Addr) (R : RLs), σ' = [some (.ref p), some (.int (size : Nat)), some (.int (rank : Nat)), some (.int (gd : Nat)), some (.ref m), none, none, none, none, none, none, none, none, none, none, none, none] ∧ Same H H' ∧ H m = none ∧ H' m = some (.lst (refR R)) ∧ RsAt size H' R ∧ MkB R rank, ?_, ?_⟩
    · refine ⟨_, rfl, _, rfl, by omega, by omega, fun D nD => ?_⟩
      rw [Int.toNat_natCast]
      refine lc_range (lo := 0) (n := rank) (Pv := fun i Hc => Same H Hc ∧ ∃ R : RLs, Hc D = some (.lst (refR R)) ∧ RsAt size Hc R ∧ MkB R i) ⟨same_new nD, [], upd_same, fun r hr => (by cases hr), rfl, rfl⟩ ?_ ?_
      · rintro i Hc hi ⟨sc, R, eD, hR, lR⟩
        refine ⟨rfl, _, rfl, 73, i, by rw [e_I], by show V.int (0 + (i : Nat)) = _; rw [Int.zero_add], by omega, _, _, rfl, rfl, LK_small i (by omega) _ (by decide +kernel), LK i 90, by rw [e_Zc, LK_txt]; rfl, LK_lts i (isL_iff.mpr (by omega)), by rw [LK_len]; omega, fun H' t s' nt et => ?_⟩
        have eD' := s' _ _ eD
        refine ⟨refR R, eD', ?_, same_put0 (sc.trans s') nD, R ++ [(t, (bv lx (LK i 90), bv lz (LK i 90), 0))], ?_, RsAt.put eD' fun r hr' => ?_, ?_⟩
        · rw [refR_len]
          have := lR.1
          exact Nat.lt_of_le_of_lt (by omega : _ ≤ 100) (by decide)
        · rw [upd_same]
          unfold refR
          rw [List.map_append]
          rfl
        · rcases List.mem_append.mp hr' with k' | k'
          · exact hR.same s' r k'
          · rw [List.mem_singleton.mp k']
            exact ⟨et, oft_fit (by rw [LK_len]; omega)⟩
        · exact lR.snoc t
      · rintro Hc ⟨sc, R, eD, hR, lR⟩
        exact ⟨D, R, rfl, sc, nD, eD, hR, lR⟩
    rintro _ H1 ⟨m, R, rfl, s1, nm, em, hR, lR⟩
    refine ⟨fun σ' H' => ∃ (q : Addr) (S : PrLs), σ' = [some (.ref p), some (.int (size : Nat)), some (.int (rank : Nat)), some (.int (gd : Nat)), some (.ref m), some (.ref q), none, none, none, none, none, none, none, none, none, none, none] ∧ Same H1 H' ∧ H1 q = none ∧ H' q = some (.lst (refQ S)) ∧ QsAt size H' S ∧ PrB S rank (size - rank), ?_, ?_⟩
    · refine ⟨_, rfl, _, rfl, _, _, rfl, ⟨by omega, by omega, by omega, by omega⟩, fun D nD => ?_⟩
      refine lc_range (lo := (rank : Int)) (n := ((size : Int) - (rank : Int)).toNat) (Pv := fun i Hc => Same H1 Hc ∧ ∃ S : PrLs, Hc D = some (.lst (refQ S)) ∧ QsAt size Hc S ∧ PrB S rank i) ⟨same_new nD, [], upd_same, fun r hr => (by cases hr), rfl, rfl⟩ ?_ ?_
      · rintro i Hc hi ⟨sc, S, eD, hS, lS⟩
        have ei : V.int ((rank : Int) + (i : Nat)) = V.int ((rank + i : Nat) : Int) := by push_cast; rfl
        refine ⟨rfl, _, rfl, 73, rank + i, by rw [e_I], ei, by omega, _, _, rfl, rfl, LK_small (rank + i) (by omega) _ (by decide +kernel), LK (rank + i) 88, by rw [e_Xc, LK_txt]; rfl, LK_lts _ (isL_iff.mpr (by omega)), by rw [LK_len]; omega, fun H2 t2 s2 n2 e2 => ?_⟩
        refine ⟨_, rfl, 73, rank + i, by rw [e_I], ei, by omega, _, _, rfl, rfl, LK_small (rank + i) (by omega) _ (by decide +kernel), LK (rank + i) 90, by rw [e_Zc, LK_txt]; rfl, LK_lts _ (isL_iff.mpr (by omega)), by rw [LK_len]; omega, fun H3 t3 s3 n3 e3 => ?_⟩
        refine ⟨by show 2 ≤ sizeLine; decide, fun r nr => ?_⟩
        have n4 : Same H3 (upd H3 r (.tup [.ref t2, .ref t3])) := same_new nr
        have sr := (s2.trans s3).trans n4
        have eD' := sr _ _ eD
        have f : Fit size (bv lx (LK (rank + i) 88), bv lz (LK (rank + i) 88), 0) := oft_fit (by rw [LK_len]; omega)
        have g : Fit size (bv lx (LK (rank + i) 90), bv lz (LK (rank + i) 90), 0) := oft_fit (by rw [LK_len]; omega)
        refine ⟨refQ S, eD', ?_, same_put0 (sc.trans sr) nD, S ++ [(r, (t2, (bv lx (LK (rank + i) 88), bv lz (LK (rank + i) 88), 0)), (t3, (bv lx (LK (rank + i) 90), bv lz (LK (rank + i) 90), 0)))], ?_, QsAt.put eD' fun r' hr' => ?_, ?_⟩
        · rw [refQ_len]
          have := lS.1
          exact Nat.lt_of_le_of_lt (by omega : _ ≤ 100) (by decide)
        · rw [upd_same]
          unfold refQ
          rw [List.map_append]
          rfl
        · rcases List.mem_append.mp hr' with k' | k'
          · exact hS.same sr r' k'
          · rw [List.mem_singleton.mp k']
            exact ⟨upd_same, n4 _ _ (s3 _ _ e2), f, n4 _ _ e3, g⟩
        · exact lS.snoc r t2 t3
      · rintro Hc ⟨sc, S, eD, hS, lS⟩
        exact ⟨D, S, rfl, sc, nD, eD, hS, by rw [show size - rank = ((size : Int) - (rank : Int)).toNat by omega]; exact lS⟩
    rintro _ H2 ⟨qa, S, rfl, s2, nq, eq, hS, lS⟩
    have em2 := s2 _ _ em
    have hR2 := hR.same s2
    have s12 := s1.trans s2
    refine ⟨fun σ' H' => ∃ (g : Addr), σ' = [some (.ref p), some (.int (size : Nat)), some (.int (rank : Nat)), some (.int (gd : Nat)), some (.ref m), some (.ref qa), some (.ref g), none, none, none, none, none, none, none, none, none, none] ∧ Same H2 H' ∧ H2 g = none ∧ H' g = some (.lst []), ⟨by show 0 ≤ sizeLine; decide, fun g ng => ⟨g, rfl, same_new ng, ng, upd_same⟩⟩, ?_⟩
    rintro _ H3 ⟨g, rfl, s3, ng, eg⟩
    have s13 := s12.trans s3
    have em3 := s3 _ _ em2
    have hR3 := hR2.same s3
    have eq3 := s3 _ _ eq
    have hS3 := hS.same s3
    have P3 : PenAt H3 p c n := hP.ext s13
    have ng1 : H g = none := off_same s12 ng
    refine ⟨fun σ' H' => ∃ (v7 v14 v15 : Option V) (G : GtLs) (n' : Nat), σ' = [some (.ref p), some (.int (size : Nat)), some (.int (rank : Nat)), some (.int (gd : Nat)), some (.ref m), some (.ref qa), some (.ref g), v7, none, none, none, none, none, none, v14, v15, none] ∧ KB p H H' ∧ PenAt H' p c n' ∧ n' ≤ n + 4000 ∧ H' g = some (.lst (refG G)) ∧ GtAt size g H' G ∧ H' m = some (.lst (refR R)) ∧ RsAt size H' R ∧ H' qa = some (.lst (refQ S)) ∧ QsAt size H' S ∧ G.length ≤ 200, ?_, ?_⟩
    · have sz5 : (5 : Int) * (size : Int) = ((5 * size : Nat) : Int) := by push_cast; rfl
      refine ⟨_, rfl, _, rfl, _, _, rfl, rfl, .inl ⟨by decide, by decide⟩, p, c, n, 5 * (size : Int), rfl, P3, by omega, by omega, ?_, fun r0 H4 hr0 hr1 hP4 k4 => ?_⟩
      · have : (5 * (size : Int)).natAbs ≤ 125 := by omega
        exact Nat.lt_of_le_of_lt this (by decide)
      have kb4 : KB p H H4 := (KB.of s13).trans (KB.eq k4)
      have kk : KB p H3 H4 := KB.eq k4
      obtain ⟨j, hj⟩ : ∃ j : Nat, 2 + r0 = (j : Int) := ⟨(2 + r0).toNat, by omega⟩
      have hj' : j ≤ 126 := by omega
      refine ⟨_, _, rfl, rfl, 2 + r0, rfl, by omega, by omega, ?_⟩
      rw [hj, Int.toNat_natCast]
      refine for_range (lo := 0) (n := j) (fun i σ' H' => ∃ (v7 v14 v15 : Option V) (G : GtLs), σ' = [some (.ref p), some (.int (size : Nat)), some (.int (rank : Nat)), some (.int (gd : Nat)), some (.ref m), some (.ref qa), some (.ref g), v7, none, none, none, none, none, none, v14, v15, none] ∧ KB p H H' ∧ PenAt H' p c (n + 1 + (size + 1) * i) ∧ H' g = some (.lst (refG G)) ∧ GtAt size g H' G ∧ H' m = some (.lst (refR R)) ∧ RsAt size H' R ∧ H' qa = some (.lst (refQ S)) ∧ QsAt size H' S ∧ G.length ≤ i)
        ⟨none, none, none, [], rfl, kb4, hP4, kb_lst P3 kk eg, (fun _ h => by cases h), kb_lst P3 kk em3, kb_rs P3 kk hR3, kb_lst P3 kk eq3, kb_qs P3 kk hS3, Nat.le_refl _⟩ ?_ ?_
      rotate_left
      · rintro _ H6 ⟨v7, v14, v15, G, rfl, kb6, P6, eg6, hG6, em6, hR6, eq6, hS6, lG⟩
        have : (size + 1) * j ≤ 26 * 126 := Nat.mul_le_mul (by omega) hj'
        exact ⟨v7, v14, v15, G, _, rfl, kb6, P6, by omega, eg6, hG6, em6, hR6, eq6, hS6, by omega⟩
      rintro i _ H6 hi ⟨v7, v14, v15, G, rfl, kb6, P6, eg6, hG6, em6, hR6, eq6, hS6, lG⟩
      have hsi : (size + 1) * i ≤ 26 * 126 := Nat.mul_le_mul (by omega) (by omega)
      refine ⟨fun σ' H' => ∃ kd : Str, σ' = [some (.ref p), some (.int (size : Nat)), some (.int (rank : Nat)), some (.int (gd : Nat)), some (.ref m), some (.ref qa), some (.ref g), some (.int (0 + (i : Nat))), none, none, none, none, none, none, some (.str kd), v15, none] ∧ KB p H6 H' ∧ PenAt H' p c (n + 1 + (size + 1) * i + 1) ∧ (G1 kd ∨ G2 kd), ?_, ?_⟩
      · refine ⟨_, rfl, by show 8 ≤ sizeLine; decide, fun r nr => ⟨p, c, r, _, _, rfl, P6.ext (same_new nr), by omega, .inl (SqL.of upd_same), by simp, by show 8 ≤ 1000; decide, fun j v H7 hj hP7 k7 => ?_⟩⟩
        have kb : KB p H6 H7 := (KB.of (same_new nr)).trans (KB.eq k7)
        have := List.mem_of_getElem? hj
        simp only [List.mem_cons, List.mem_nil_iff, or_false] at this
        rcases this with rfl | rfl | rfl | rfl | rfl | rfl | rfl | rfl
        · exact ⟨_, rfl, kb, hP7, .inl (.inl rfl)⟩
        · exact ⟨_, rfl, kb, hP7, .inl (.inr (.inl rfl))⟩
        · exact ⟨_, rfl, kb, hP7, .inr (.inl rfl)⟩
        · exact ⟨_, rfl, kb, hP7, .inr (.inl rfl)⟩
        · exact ⟨_, rfl, kb, hP7, .inr (.inr (.inl rfl))⟩
        · exact ⟨_, rfl, kb, hP7, .inr (.inr (.inr rfl))⟩
        · exact ⟨_, rfl, kb, hP7, .inl (.inr (.inr (.inl rfl)))⟩
        · exact ⟨_, rfl, kb, hP7, .inl (.inr (.inr (.inr rfl)))⟩
      rintro _ H7 ⟨kd, rfl, kb7, P7, hkd⟩
      have eg7 := kb_lst P6 kb7 eg6
      have hG7 := kb_gt P6 kb7 hG6
      have in2 : inV (V.str kd) [V.str "cx", V.str "cz", V.str "swap"] = decide (G2 kd) := by
        rcases hkd with (rfl | rfl | rfl | rfl) | (rfl | rfl | rfl)
        · rw [decide_eq_false (by unfold G2; decide +kernel)]; decide +kernel
        · rw [decide_eq_false (by unfold G2; decide +kernel)]; decide +kernel
        · rw [decide_eq_false (by unfold G2; decide +kernel)]; decide +kernel
        · rw [decide_eq_false (by unfold G2; decide +kernel)]; decide +kernel
        · rw [decide_eq_true (by unfold G2; decide +kernel)]; decide +kernel
        · rw [decide_eq_true (by unfold G2; decide +kernel)]; decide +kernel
        · rw [decide_eq_true (by unfold G2; decide +kernel)]; decide +kernel
      refine ⟨fun σ' H' => ∃ (pl : Addr) (ps : List Nat), σ' = [some (.ref p), some (.int (size : Nat)), some (.int (rank : Nat)), some (.int (gd : Nat)), some (.ref m), some (.ref qa), some (.ref g), some (.int (0 + (i : Nat))), none, none, none, none, none, none, some (.str kd), some (.ref pl), none] ∧ KB p H7 H' ∧ PenAt H' p c (n + 1 + (size + 1) * (i + 1)) ∧ H' pl = some (.lst (natV ps)) ∧ pl ≠ g ∧ (∀ a ∈ ps, a < size) ∧ 1 ≤ ps.length ∧ ps.length ≤ 2 ∧ ps.Nodup, ?_, ?_⟩
      · refine ⟨_, rfl, _, rfl, _, rfl, ?_, fun q0 nq0 => ?_⟩
        · exact ⟨by decide, by decide, by omega, by omega, by omega⟩
        have eV : rgV 0 (size : Int) = natV (List.range size) := by
          unfold rgV natV
          rw [show ((size : Int) - 0).toNat = size by omega]
          refine List.map_congr_left fun j _ => ?_
          show V.int (0 + (j : Int)) = _
          rw [Int.zero_add]
        rw [eV]
        refine ⟨p, c, q0, _, _, rfl, P7.ext (same_new nq0), by omega, SqL.of upd_same, by rw [natV_len, List.length_range]; omega, fun H8 r ys pm hl hm hP8 k8 nr er => ?_⟩
        rw [natV_len, List.length_range] at hl hP8
        have kb8 : KB p H7 H8 := (KB.of (same_new nq0)).trans k8
        have nr7 : H7 r = none := off_same (same_new nq0) nr
        obtain ⟨us, rfl⟩ : ∃ us : List Nat, ys = natV us := by
          refine ⟨ys.map fun v => match v with | .int i => i.toNat | _ => 0, ?_⟩
          unfold natV
          rw [List.map_map]
          refine (List.map_id ys).symm.trans (List.map_congr_left fun y hy => ?_)
          obtain ⟨j, _, rfl⟩ := List.mem_map.mp (hm y hy)
          rfl
        have lus : us.length = size := by rw [← hl, natV_len]
        have hus : ∀ a ∈ us, a < size := fun a ha => by
          have := hm (.int (a : Nat)) (List.mem_map.mpr ⟨a, ha, rfl⟩)
          obtain ⟨j, hj, e⟩ := List.mem_map.mp this
          have := V.int.inj e
          have := List.mem_range.mp hj
          omega
        have ndu : us.Nodup := by
          have h1 : (natV (List.range size)).Nodup := List.pairwise_map.mpr (List.nodup_range.imp fun {a b} h z => h (by have := V.int.inj z; omega))
          have h2 := (pm.nodup_iff).mpr h1
          exact (List.pairwise_map.mp h2).imp fun {a b} h z => h (by rw [z])
        have ePen : n + 1 + (size + 1) * (i + 1) = n + 1 + (size + 1) * i + 1 + size := by rw [Nat.mul_succ]; omega
        have take2 : ∀ (t : Nat) (H9 : Hp) (r2 : Addr), 1 ≤ t → t ≤ 2 → Same H8 H9 → H9 r2 = none → KB p H7 (upd H9 r2 (.lst (natV (us.take t)))) ∧ PenAt (upd H9 r2 (.lst (natV (us.take t)))) p c (n + 1 + (size + 1) * (i + 1)) ∧ r2 ≠ g ∧ (∀ a ∈ us.take t, a < size) ∧ 1 ≤ (us.take t).length ∧ (us.take t).length ≤ 2 ∧ (us.take t).Nodup := by
          intro t H9 r2 t1 t2 s9 nr2
          refine ⟨(kb8.sm s9).sm (same_new nr2), ?_, ?_, fun a ha => hus a (List.mem_of_mem_take ha), by rw [List.length_take]; omega, by rw [List.length_take]; omega, ndu.sublist (List.take_sublist t us)⟩
          · rw [ePen]
            exact (hP8.ext s9).ext (same_new nr2)
          · exact fun z => by
              have e := s9 _ _ (kb_lst P7 kb8 eg7)
              rw [z, e] at nr2
              cases nr2
        have cut : ∀ t : Nat, cutV (natV us) none (some (t : Int)) = natV (us.take t) := fun t => by
          rw [cutV_to]
          unfold natV
          rw [List.map_take]
        by_cases g2 : G2 kd
        · refine ⟨_, rfl, by show 3 ≤ sizeLine; decide, fun l nl => ⟨l, _, rfl, .inl (SqL.of upd_same), rfl, rfl, true, (by show V.bl (inV (V.str kd) [V.str "cx", V.str "cz", V.str "swap"]) = _; rw [in2, decide_eq_true g2]), iteT ⟨2, rfl, r, _, rfl, SqL.of ((same_new nl) _ _ er), fun r2 nr2 => ?_⟩⟩⟩
          obtain ⟨a1, a2, a3, a4, a5, a6⟩ := take2 2 _ r2 (by omega) (by omega) (same_new nl) nr2
          rw [show (some (2 : Int)) = some ((2 : Nat) : Int) from rfl, cut]
          exact ⟨r2, us.take 2, rfl, a1, a2, upd_same, a3, a4, a5, a6⟩
        · refine ⟨_, rfl, by show 3 ≤ sizeLine; decide, fun l nl => ⟨l, _, rfl, .inl (SqL.of upd_same), rfl, rfl, false, (by show V.bl (inV (V.str kd) [V.str "cx", V.str "cz", V.str "swap"]) = _; rw [in2, decide_eq_false g2]), iteF ⟨1, rfl, r, _, rfl, SqL.of ((same_new nl) _ _ er), fun r2 nr2 => ?_⟩⟩⟩
          obtain ⟨a1, a2, a3, a4, a5, a6⟩ := take2 1 _ r2 (by omega) (by omega) (same_new nl) nr2
          rw [show (some (1 : Int)) = some ((1 : Nat) : Int) from rfl, cut]
          exact ⟨r2, us.take 1, rfl, a1, a2, upd_same, a3, a4, a5, a6⟩
      rintro _ H8 ⟨pl, ps, rfl, kb8, P8, epl, plg, hps, lp1, lp2, ndp⟩
      have kb68 := kb7.trans kb8
      have eg8 := kb_lst P6 kb68 eg6
      have hG8 := kb_gt P6 kb68 hG6
      have em8 := kb_lst P6 kb68 em6
      have hR8 := kb_rs P6 kb68 hR6
      have eq8 := kb_lst P6 kb68 eq6
      have hS8 := kb_qs P6 kb68 hS6
      have kbH8 := kb6.trans kb68
      have hpk : ∃ kv, H8 p = some (.dK kv) := let ⟨ns, a, d, f, hp, _⟩ := P8; ⟨_, hp⟩
      have fin : ∀ H9, Same H8 H9 → (G1 kd ∨ (G2 kd ∧ 2 ≤ ps.length)) → ∀ r, H9 r = none → KB p H (upd (upd H9 r (.tup [.str kd, .ref pl])) g (.lst (refG G ++ [.ref r]))) ∧ PenAt (upd (upd H9 r (.tup [.str kd, .ref pl])) g (.lst (refG G ++ [.ref r]))) p c (n + 1 + (size + 1) * (i + 1)) ∧ GtAt size g (upd (upd H9 r (.tup [.str kd, .ref pl])) g (.lst (refG G ++ [.ref r]))) (G ++ [(r, kd, pl, ps)]) := by
        intro H9 s9 cond r nr
        have n1 : Same H9 (upd H9 r (.tup [.str kd, .ref pl])) := same_new nr
        have s8r := s9.trans n1
        have egr := s8r _ _ eg8
        have gp : g ≠ p := fun z => by
          obtain ⟨kv, hp⟩ := hpk
          rw [z, hp] at eg8
          cases eg8
        have gc : g ≠ c := fun z => by
          obtain ⟨ns, a, d, f, hp, hc, _⟩ := hP
          rw [z] at ng1
          rw [hc] at ng1
          cases ng1
        refine ⟨?_, ?_, ?_⟩
        · exact (kbH8.sm s8r).up ng1
        · exact PenAt.same (P8.ext s8r) (upd_ne gp.symm) (upd_ne gc.symm)
        · intro x hx
          have tupne : ∀ {y : Addr} {xs : List V}, (upd H9 r (.tup [.str kd, .ref pl])) y = some (.tup xs) → y ≠ g := fun {y xs} e z => by
            rw [z, egr] at e
            cases e
          rcases List.mem_append.mp hx with h | h
          · obtain ⟨e1, e2, e3, e4⟩ := hG8 x h
            have e1' := s8r _ _ e1
            exact ⟨by rw [upd_ne (tupne e1')]; exact e1', by rw [upd_ne e3]; exact s8r _ _ e2, e3, e4⟩
          · rw [List.mem_singleton.mp h]
            have e1' : (upd H9 r (.tup [.str kd, .ref pl])) r = some (.tup [.str kd, .ref pl]) := upd_same
            exact ⟨by rw [upd_ne (tupne e1')]; exact e1', by rw [upd_ne plg]; exact s8r _ _ epl, plg, hps, lp1, cond, ndp⟩
      have nog : ∀ {H9 : Hp} {r : Addr} {xs : List V} (x : Addr), Same H8 H9 → H9 r = none → H8 x = some (.lst xs) → x ≠ g → (upd (upd H9 r (.tup [.str kd, .ref pl])) g (.lst (refG G ++ [.ref r]))) x = some (.lst xs) := fun {H9 r xs} x s9 nr e ne => by
        rw [upd_ne ne, upd_ne (ne_of_none (s9 _ _ e) nr)]
        exact s9 _ _ e
      have mg : m ≠ g := fun z => by rw [z] at em2; rw [em2] at ng; cases ng
      have qg : qa ≠ g := fun z => by rw [z] at eq; rw [eq] at ng; cases ng
      have lG100 : (refG G).length < sizeLine := by
        rw [refG_len]
        exact Nat.lt_of_le_of_lt (by omega : _ ≤ 200) (by decide)
      refine ⟨_, rfl, pl, _, rfl, .inl (SqL.of epl), _, _, rfl, rfl, _, rfl, ite2 (fun z => ?_) (fun z => ?_)⟩
      · have l2 : 2 ≤ ps.length := by
          have := of_decide_eq_true z
          rw [natV_len] at this
          omega
        have cond : G1 kd ∨ (G2 kd ∧ 2 ≤ ps.length) := hkd.elim .inl fun h => .inr ⟨h, l2⟩
        refine ⟨_, rfl, .inl ⟨rfl, _, SqL.of eg8⟩, _, rfl, _, rfl, by show 2 ≤ sizeLine; decide, fun r nr => ⟨g, _, _, rfl, rfl, (upd_ne (ne_of_none eg8 nr)).trans eg8, lG100, ?_⟩⟩
        obtain ⟨a1, a2, a3⟩ := fin H8 (fun _ _ e => e) cond r nr
        refine ⟨_, _, _, G ++ [(r, kd, pl, ps)], rfl, a1, a2, ?_, a3, nog m (fun _ _ e => e) nr em8 mg, RsAt.put ((same_new nr) _ _ eg8) (hR8.same (same_new nr)), nog qa (fun _ _ e => e) nr eq8 qg, QsAt.put ((same_new nr) _ _ eg8) (hS8.same (same_new nr)), ?_⟩
        · rw [upd_same]
          unfold refG
          rw [List.map_append]
          rfl
        · rw [List.length_append, List.length_singleton]
          omega
      · refine ⟨_, rfl, by show 3 ≤ sizeLine; decide, fun l nl => ⟨l, _, rfl, .inl (SqL.of upd_same), rfl, rfl, !decide (G2 kd), (by show V.bl (!inV (V.str kd) [V.str "cx", V.str "cz", V.str "swap"]) = _; rw [in2]), ?_⟩⟩
        have sl := same_new (o := .lst [V.str "cx", V.str "cz", V.str "swap"]) nl
        generalize upd H8 l (.lst [V.str "cx", V.str "cz", V.str "swap"]) = H9 at sl ⊢
        have eg9 := sl _ _ eg8
        by_cases g2 : G2 kd
        · rw [decide_eq_true g2]
          exact iteF ⟨_, _, _, G, rfl, kbH8.sm sl, P8.ext sl, eg9, (fun x hx => let ⟨e1, e2, e3⟩ := hG8 x hx; ⟨sl _ _ e1, sl _ _ e2, e3⟩), sl _ _ em8, hR8.same sl, sl _ _ eq8, hS8.same sl, by omega⟩
        · rw [decide_eq_false g2]
          have cond : G1 kd ∨ (G2 kd ∧ 2 ≤ ps.length) := hkd.elim .inl fun h => absurd h g2
          refine iteT ⟨_, rfl, .inl ⟨rfl, _, SqL.of eg9⟩, _, rfl, _, rfl, by show 2 ≤ sizeLine; decide, fun r nr => ⟨g, _, _, rfl, rfl, (upd_ne (ne_of_none eg9 nr)).trans eg9, lG100, ?_⟩⟩
          obtain ⟨a1, a2, a3⟩ := fin H9 sl cond r nr
          refine ⟨_, _, _, G ++ [(r, kd, pl, ps)], rfl, a1, a2, ?_, a3, nog m sl nr em8 mg, RsAt.put ((same_new nr) _ _ eg9) ((hR8.same sl).same (same_new nr)), nog qa sl nr eq8 qg, QsAt.put ((same_new nr) _ _ eg9) ((hS8.same sl).same (same_new nr)), ?_⟩
          · rw [upd_same]
            unfold refG
            rw [List.map_append]
            rfl
          · rw [List.length_append, List.length_singleton]
            omega
    rintro _ H4 ⟨v7, v14, v15, G, n4, rfl, k4, P4, ln4, eg4, hG, em4, hR4, eq4, hS4, lG⟩
    refine ⟨fun σ' H' => ∃ (v7 v8 v9 v10 v14 v15 : Option V) (m' qa' : Addr) (R' : RLs) (S' : PrLs), σ' = [some (.ref p), some (.int (size : Nat)), some (.int (rank : Nat)), some (.int (gd : Nat)), some (.ref m'), some (.ref qa'), some (.ref g), v7, v8, v9, v10, none, none, none, v14, v15, none] ∧ Same H4 H' ∧ H' m' = some (.lst (refR R')) ∧ RsAt size H' R' ∧ R'.length = rank ∧ H' qa' = some (.lst (refQ S')) ∧ QsAt size H' S' ∧ S'.length ≤ 25 ∧ ∃ L, Symp size L ∧ R'.map bz = (mk0 rank).map L ∧ S'.map bz2 = (pr0 rank (size - rank)).map (L2p L), ?_, ?_⟩
    · refine ⟨_, rfl, g, rfl, ⟨_, SqL.of eg4⟩, for_list (K := K) (a := g) (xs := refG G) (fun i σ' H' => ∃ (v7 v8 v9 v10 v14 v15 : Option V) (m' qa' : Addr) (R' : RLs) (S' : PrLs), σ' = [some (.ref p), some (.int (size : Nat)), some (.int (rank : Nat)), some (.int (gd : Nat)), some (.ref m'), some (.ref qa'), some (.ref g), v7, v8, v9, v10, none, none, none, v14, v15, none] ∧ Same H4 H' ∧ H' m' = some (.lst (refR R')) ∧ RsAt size H' R' ∧ R'.length = rank ∧ H' qa' = some (.lst (refQ S')) ∧ QsAt size H' S' ∧ S'.length ≤ 25 ∧ ∃ L, Symp size L ∧ R'.map bz = (mk0 rank).map L ∧ S'.map bz2 = (pr0 rank (size - rank)).map (L2p L))
        ⟨v7, none, none, none, v14, v15, m, qa, R, S, rfl, fun _ _ e => e, em4, hR4, lR.1, eq4, hS4, by have := lS.1; omega, fun u => u, Symp.id size, by rw [lR.2, List.map_id'], by rw [lS.2]; exact (List.map_id _).symm⟩ (fun i σ' H' _ ⟨_, _, _, _, _, _, _, _, _, _, _, s', _⟩ => SqL.of (s' _ _ eg4)) ?_ ?_⟩
      rotate_left
      · rintro σ' H' h
        exact h
      rintro i y σ' H5 hi ⟨v7, v8, v9, v10, v14, v15, m', qa', R', S', rfl, s5, em5, hR5, lR5, eq5, hS5, lS5, L, sL, eL1, eL2⟩
      obtain ⟨gt, hgt, rfl⟩ := refG_at hi
      obtain ⟨e1, e2, e3, e4, e5, e6, e7⟩ := hG gt (List.mem_of_getElem? hgt)
      have e1' := s5 _ _ e1
      have e2' := s5 _ _ e2
      obtain ⟨ga, kd, pl, ps⟩ := gt
      refine ⟨ga, _, rfl, .inl (.inl e1'), rfl, _, _, rfl, _, _, rfl, rfl, ?_⟩
      refine ⟨fun σ' H' => ∃ (v8 v9 v10 : Option V) (m2 : Addr) (R2 : RLs), σ' = [some (.ref p), some (.int (size : Nat)), some (.int (rank : Nat)), some (.int (gd : Nat)), some (.ref m2), some (.ref qa'), some (.ref g), v7, v8, v9, v10, none, none, none, some (.str kd), some (.ref pl), none] ∧ Same H5 H' ∧ H' m2 = some (.lst (refR R2)) ∧ RsAt size H' R2 ∧ R2.length = rank ∧ R2.map bz = (R'.map bz).map (gB kd (ps.getD 0 0) (ps.getD 1 0)), ?_, ?_⟩
      · refine ⟨_, rfl, m', rfl, ⟨_, SqL.of em5⟩, fun D nD => ?_⟩
        refine lc_list (K := K) (a := m') (xs := refR R') (Pv := fun j Hc => Same H5 Hc ∧ ∃ N : RLs, Hc D = some (.lst (refR N)) ∧ RsAt size Hc N ∧ N.length = j ∧ N.map bz = ((R'.take j).map bz).map (gB kd (ps.getD 0 0) (ps.getD 1 0))) ⟨same_new nD, [], upd_same, fun r hr => (by cases hr), rfl, rfl⟩ (fun j Hc _ ⟨sc, _⟩ => SqL.of (sc _ _ em5)) ?_ ?_
        · rintro j y Hc hj ⟨sc, N, eD, hN, lN, bN⟩
          obtain ⟨r, hr', rfl⟩ := refR_at hj
          obtain ⟨et, ft⟩ := hR5.same sc r (List.mem_of_getElem? hr')
          have jl := (List.getElem?_eq_some_iff.mp hr').1
          refine ⟨rfl, _, rfl, _, rfl, _, rfl, r.1, pl, kd, size, r.2, ps, rfl, et, ft, by omega, SqL.of (sc _ _ e2'), e4, e5, e6, fun H' x u s' nx ex' fx gu => ?_⟩
          have eD' := s' _ _ eD
          refine ⟨refR N, eD', ?_, same_put0 (sc.trans s') nD, N ++ [(x, u)], ?_, RsAt.put eD' fun r' h' => ?_, ?_, ?_⟩
          · rw [refR_len]
            exact Nat.lt_of_le_of_lt (by omega : _ ≤ 100) (by decide)
          · rw [upd_same]
            unfold refR
            rw [List.map_append]
            rfl
          · rcases List.mem_append.mp h' with k' | k'
            · exact hN.same s' r' k'
            · rw [List.mem_singleton.mp k']
              exact ⟨ex', fx⟩
          · rw [List.length_append, List.length_singleton, lN]
          · rw [List.map_append, bN, take_snoc hr', List.map_append, List.map_append]
            exact congrArg (_ ++ [·]) gu.symm
        · rintro Hc ⟨sc, N, eD, hN, lN, bN⟩
          rw [refR_len] at lN bN
          rw [List.take_length] at bN
          exact ⟨_, _, _, D, N, rfl, sc, eD, hN, lN.trans lR5, bN⟩
      rintro _ H6 ⟨v8, v9, v10, m2, R2, rfl, s6, em6, hR6, lR6, bR6⟩
      have eq6 := s6 _ _ eq5
      have hS6 := hS5.same s6
      have e26 := s6 _ _ e2'
      refine ⟨_, rfl, qa', rfl, ⟨_, SqL.of eq6⟩, fun D nD => ?_⟩
      refine lc_list (K := K) (a := qa') (xs := refQ S') (Pv := fun j Hc => Same H6 Hc ∧ ∃ N : PrLs, Hc D = some (.lst (refQ N)) ∧ QsAt size Hc N ∧ N.length = j ∧ N.map bz2 = ((S'.take j).map bz2).map (L2p (gB kd (ps.getD 0 0) (ps.getD 1 0)))) ⟨same_new nD, [], upd_same, fun r hr => (by cases hr), rfl, rfl⟩ (fun j Hc _ ⟨sc, _⟩ => SqL.of (sc _ _ eq6)) ?_ ?_
      · rintro j y Hc hj ⟨sc, N, eD, hN, lN, bN⟩
        obtain ⟨r, hr', rfl⟩ := refQ_at hj
        obtain ⟨er, et, ft, ez, fz⟩ := hS6.same sc r (List.mem_of_getElem? hr')
        have jl := (List.getElem?_eq_some_iff.mp hr').1
        refine ⟨r.1, _, rfl, .inl (.inl er), rfl, _, _, rfl, _, _, rfl, rfl, rfl, _, rfl, _, rfl, _, rfl, r.2.1.1, pl, kd, size, r.2.1.2, ps, rfl, et, ft, by omega, SqL.of (sc _ _ e26), e4, e5, e6, fun H7 x u s7 nx ex' fx gu => ?_⟩
        refine ⟨_, rfl, _, rfl, _, rfl, r.2.2.1, pl, kd, size, r.2.2.2, ps, rfl, s7 _ _ ez, fz, by omega, SqL.of (s7 _ _ (sc _ _ e26)), e4, e5, e6, fun H8 x2 u2 s8 nx2 ex2 fx2 gu2 => ⟨by show 2 ≤ sizeLine; decide, fun t nt => ?_⟩⟩
        have n9 : Same H8 (upd H8 t (.tup [.ref x, .ref x2])) := same_new nt
        have s79 := (s7.trans s8).trans n9
        have eD' := s79 _ _ eD
        refine ⟨refQ N, eD', ?_, same_put0 (sc.trans s79) nD, N ++ [(t, (x, u), (x2, u2))], ?_, QsAt.put eD' fun r' h' => ?_, ?_, ?_⟩
        · rw [refQ_len]
          exact Nat.lt_of_le_of_lt (by omega : _ ≤ 100) (by decide)
        · rw [upd_same]
          unfold refQ
          rw [List.map_append]
          rfl
        · rcases List.mem_append.mp h' with k' | k'
          · exact hN.same s79 r' k'
          · rw [List.mem_singleton.mp k']
            exact ⟨upd_same, n9 _ _ (s8 _ _ ex'), fx, n9 _ _ ex2, fx2⟩
        · rw [List.length_append, List.length_singleton, lN]
        · rw [List.map_append, bN, take_snoc hr', List.map_append, List.map_append]
          refine congrArg (_ ++ [·]) (Prod.ext ?_ ?_)
          · exact gu.symm
          · exact gu2.symm
      · rintro Hc ⟨sc, N, eD, hN, lN, bN⟩
        rw [refQ_len] at lN bN
        rw [List.take_length] at bN
        obtain ⟨pa, pb, pk⟩ := gate_pl e4 e5 e6 e7
        exact ⟨_, _, _, _, _, _, m2, D, R2, N, rfl, (s5.trans s6).trans sc, sc _ _ em6, hR6.same sc, lR6, eD, hN, by omega, _, sL.gate pa pb pk, by rw [bR6, eL1, List.map_map]; rfl, by rw [bN, eL2, List.map_map]; rfl⟩
    rintro _ H5 ⟨v7, v8, v9, v10, v14, v15, m', qa', R', S', rfl, s5, em5, hR5, lR5, eq5, hS5, lS5, L, sL, eL1, eL2⟩
    have k5 : KB p H H5 := k4.sm s5
    have P5 : PenAt H5 p c n4 := P4.ext s5
    have off_kb : ∀ {H' : Hp} {t : Addr} {k : Nat}, KB p H H' → PenAt H' p c k → H' t = none → H t = none := fun {H' t k} kb P nt => by
      obtain ⟨ns, a, d, f, hp, _⟩ := P
      cases e : H t with
      | none => rfl
      | some o =>
        have : H' t = some o := kb _ _ e (fun z => by rw [z, hp] at nt; cases nt)
        rw [nt] at this
        cases this
    refine ⟨fun σ' H' => ∃ rw' : Addr, σ' = [some (.ref p), some (.int (size : Nat)), some (.int (rank : Nat)), some (.int (gd : Nat)), some (.ref m'), some (.ref qa'), some (.ref g), v7, v8, v9, v10, some (.ref rw'), none, none, v14, v15, none] ∧ H5 rw' = none ∧ H' = upd H5 rw' (.lst []), ⟨by show 0 ≤ sizeLine; decide, fun t nt => ⟨t, rfl, nt, rfl⟩⟩, ?_⟩
    rintro _ H6 ⟨rw', rfl, nrw, eH⟩
    have s6 : Same H5 H6 := eH ▸ same_new nrw
    have erw : H6 rw' = some (.lst []) := eH ▸ upd_same
    have nrwH : H rw' = none := off_kb k5 P5 nrw
    have mrw : m' ≠ rw' := ne_of_none em5 nrw
    have qrw : qa' ≠ rw' := ne_of_none eq5 nrw
    refine ⟨fun σ' H' => ∃ (v8 v12 : Option V) (W : RLs) (n' : Nat), σ' = [some (.ref p), some (.int (size : Nat)), some (.int (rank : Nat)), some (.int (gd : Nat)), some (.ref m'), some (.ref qa'), some (.ref g), v7, v8, v9, v10, some (.ref rw'), v12, none, v14, v15, none] ∧ KB p H H' ∧ PenAt H' p c n' ∧ n' ≤ n4 + 30 * rank ∧ H' m' = some (.lst (refR R')) ∧ RsAt size H' R' ∧ H' rw' = some (.lst (refR W)) ∧ RsAt size H' W ∧ W.length = rank ∧ H' qa' = some (.lst (refQ S')) ∧ QsAt size H' S' ∧ ∃ ms, MsOk ms rank ∧ W.map bz = ms.map fun m => L (0, m), ?_, ?_⟩
    · refine ⟨_, rfl, m', rfl, ⟨_, SqL.of (s6 _ _ em5)⟩, for_list (K := K) (a := m') (xs := refR R') (fun i σ' H' => ∃ (v8 v12 : Option V) (W : RLs) (n' : Nat), σ' = [some (.ref p), some (.int (size : Nat)), some (.int (rank : Nat)), some (.int (gd : Nat)), some (.ref m'), some (.ref qa'), some (.ref g), v7, v8, v9, v10, some (.ref rw'), v12, none, v14, v15, none] ∧ KB p H H' ∧ PenAt H' p c n' ∧ n' ≤ n4 + 30 * i ∧ H' m' = some (.lst (refR R')) ∧ RsAt size H' R' ∧ H' rw' = some (.lst (refR W)) ∧ RsAt size H' W ∧ W.length = i ∧ H' qa' = some (.lst (refQ S')) ∧ QsAt size H' S' ∧ ∃ ms, MsOk ms i ∧ W.map bz = ms.map fun m => L (0, m))
        ⟨v8, none, [], n4, rfl, k5.sm s6, P5.ext s6, by omega, s6 _ _ em5, hR5.same s6, erw, (fun _ h => by cases h), rfl, s6 _ _ eq5, hS5.same s6, [], MsOk.nil, rfl⟩ (fun i σ' H' _ ⟨_, _, _, _, _, _, _, _, e, _⟩ => SqL.of e) ?_ ?_⟩
      rotate_left
      · rintro σ' H' ⟨a1, a2, a3, a4, a5, a6, a7, a8, a9, a10, a11, a12, a13, a14, a15, ms, a16, a17⟩
        rw [refR_len, lR5] at a8 a13 a16
        exact ⟨a1, a2, a3, a4, a5, a6, a7, a8, a9, a10, a11, a12, a13, a14, a15, ms, a16, a17⟩
      rintro i y σ' H7 hi ⟨v8, v12, W, n', rfl, k7, P7, ln7, em7, hR7, erw7, hW7, lW7, eq7, hS7, ms, hms, bW⟩
      obtain ⟨r, hr', rfl⟩ := refR_at hi
      have ir : i < rank := by rw [← lR5]; exact (List.getElem?_eq_some_iff.mp hr').1
      obtain ⟨et, ft⟩ := hR7 r (List.mem_of_getElem? hr')
      have br : bz r = L (0, 2 ^ i) := by
        have e := congrArg (·[i]?) eL1
        simp only [List.getElem?_map, hr'] at e
        unfold mk0 at e
        rw [List.getElem?_map, List.getElem?_range ir] at e
        exact Option.some.inj e
      have hlow : ∀ w1 ∈ W, ∃ m, m < 2 ^ i ∧ bz w1 = L (0, m) := fun w1 h1 => by
        have : bz w1 ∈ ms.map fun m => L (0, m) := bW ▸ List.mem_map_of_mem h1
        obtain ⟨m, hm, e⟩ := List.mem_map.mp this
        exact ⟨m, hms.lt hm, e.symm⟩
      refine ⟨fun σ' H' => ∃ (v12 : Option V) (sa : Addr) (u : T3) (n'' mm : Nat), σ' = [some (.ref p), some (.int (size : Nat)), some (.int (rank : Nat)), some (.int (gd : Nat)), some (.ref m'), some (.ref qa'), some (.ref g), v7, some (.ref sa), v9, v10, some (.ref rw'), v12, none, v14, v15, none] ∧ KB p H7 H' ∧ PenAt H' p c n'' ∧ n'' ≤ n' + 27 ∧ TrAt H' sa u ∧ Fit size u ∧ 2 ^ i ≤ mm ∧ mm < 2 ^ (i + 1) ∧ (u.1, u.2.1) = L (0, mm), ?_, ?_⟩
      · refine ⟨_, rfl, _, rfl, p, c, rw', n', refR W, rfl, P7, by omega, SqL.of erw7, by rw [refR_len]; omega, fun H8 r8 ys _ hl hm hP8 k8 nr8 er8 => ?_⟩
        rw [refR_len] at hP8
        refine ⟨_, rfl, p, c, _, 2, rfl, hP8, by omega, by decide, by decide, fun r0 H9 hr0 hr1 hP9 k9 => ?_⟩
        have kb9 : KB p H7 H9 := k8.trans (KB.eq k9)
        have er9 : H9 r8 = some (.lst ys) := kb_lst hP8 (KB.eq k9) er8
        obtain ⟨j0, hj0⟩ : ∃ j : Nat, r0 = (j : Int) := ⟨r0.toNat, by omega⟩
        refine ⟨r0, rfl, r8, ys, rfl, SqL.of er9, fun q nq => ⟨q, rfl, ⟨_, SqL.of upd_same⟩, ?_⟩⟩
        rw [hj0, cutV_to]
        have n10 : Same H9 (upd H9 q (.lst (ys.take j0))) := same_new nq
        have e10 : (upd H9 q (.lst (ys.take j0))) q = some (.lst (ys.take j0)) := upd_same
        have hW9 := kb_rs P7 kb9 hW7
        have ft9 := kb_rs P7 kb9 hR7
        obtain ⟨et9, _⟩ := ft9 r (List.mem_of_getElem? hr')
        generalize upd H9 q (.lst (ys.take j0)) = H10 at n10 e10 ⊢
        refine for_list (K := K) (a := q) (xs := ys.take j0) (fun _ σ' H' => ∃ (v12 : Option V) (sa : Addr) (u : T3) (mm : Nat), σ' = [some (.ref p), some (.int (size : Nat)), some (.int (rank : Nat)), some (.int (gd : Nat)), some (.ref m'), some (.ref qa'), some (.ref g), v7, some (.ref sa), v9, v10, some (.ref rw'), v12, none, v14, v15, none] ∧ Same H10 H' ∧ TrAt H' sa u ∧ Fit size u ∧ 2 ^ i ≤ mm ∧ mm < 2 ^ (i + 1) ∧ (u.1, u.2.1) = L (0, mm))
          ⟨v12, r.1, r.2, 2 ^ i, rfl, fun _ _ e => e, n10 _ _ et9, ft, Nat.le_refl _, Nat.pow_lt_pow_right (by decide) (by omega), br⟩ (fun i σ' H' _ ⟨_, _, _, _, _, s', _⟩ => SqL.of (s' _ _ e10)) ?_ ?_
        · rintro i2 y σ' H11 hi2 ⟨v12, sa, u, mm, rfl, s11, eu, fu, mm1, mm2, bu⟩
          have ym : y ∈ refR W := hm y (List.mem_of_mem_take (List.mem_of_getElem? hi2))
          obtain ⟨w1, hw1, rfl⟩ := List.mem_map.mp ym
          obtain ⟨ew, fw⟩ := (hW9.same (n10.trans s11)) w1 hw1
          have up60 : ∀ {t : T3}, Fit size t → Fit 60 t := fun h => ⟨Nat.lt_of_lt_of_le h.1 (Nat.pow_le_pow_right (by decide) (by omega)), Nat.lt_of_lt_of_le h.2.1 (Nat.pow_le_pow_right (by decide) (by omega)), h.2.2⟩
          obtain ⟨ml, hml, bw⟩ := hlow w1 hw1
          obtain ⟨t1, t2⟩ := top_x mm1 mm2 hml
          exact ⟨_, rfl, _, rfl, sa, w1.1, u, w1.2, rfl, eu, ew, up60 fu, up60 fw, fun H12 x s12 nx ex' => ⟨_, x, lpr u w1.2, mm ^^^ ml, rfl, s11.trans s12, ex', lpr_fit fu fw, t1, t2, by
            have e := sL.lin (0, mm) (0, ml)
            rw [← bu, ← bw] at e
            rw [show ((0 : Nat), mm ^^^ ml) = xr2 (0, mm) (0, ml) by unfold xr2; rw [Nat.xor_self], e]
            rfl⟩⟩
        · rintro σ' H11 ⟨v12, sa, u, mm, rfl, s11, eu, fu, mm1, mm2, bu⟩
          exact ⟨v12, sa, u, _, mm, rfl, (kb9.sm n10).sm s11, (hP9.ext n10).ext s11, by omega, eu, fu, mm1, mm2, bu⟩
      rintro _ H8 ⟨v12', sa, u, n8, mm, rfl, k8, P8, ln8, eu, fu, mm1, mm2, bu⟩
      have erw8 := kb_lst P7 k8 erw7
      have sq : ∀ {G : Hp}, TrAt G sa u → SqT K G sa [.int (u.1 : Nat), .int (u.2.1 : Nat), .int (u.2.2 : Nat)] := fun e => .inl (.inl e)
      refine ⟨_, rfl, .inl ⟨rfl, _, SqL.of erw8⟩, _, rfl, sa, _, _, _, rfl, rfl, sq eu, tri0 _ _ _, _, rfl, sa, _, _, _, rfl, rfl, sq eu, tri1 _ _ _, _, rfl, p, c, n8, 2, rfl, P8, by omega, by decide, by decide, fun r0 H9 hr0 hr1 hP9 k9 => ⟨by show 3 ≤ sizeLine; decide, fun x nx => ?_⟩⟩
      have kb9 : KB p H7 H9 := k8.trans (KB.eq k9)
      have n10 : Same H9 (upd H9 x (.tup [.int (u.1 : Nat), .int (u.2.1 : Nat), .int r0])) := same_new nx
      have kb10 := kb9.sm n10
      have erw10 := kb_lst P7 kb10 erw7
      have P10 := hP9.ext n10
      have ex10 : (upd H9 x (.tup [.int (u.1 : Nat), .int (u.2.1 : Nat), .int r0])) x = some (.tup [.int (u.1 : Nat), .int (u.2.1 : Nat), .int r0]) := upd_same
      generalize upd H9 x (.tup [.int (u.1 : Nat), .int (u.2.1 : Nat), .int r0]) = H10 at n10 kb10 erw10 P10 ex10 ⊢
      have rp : rw' ≠ p := fun z => by
        obtain ⟨ns, a, d, f, hp, _⟩ := P10
        rw [z, hp] at erw10
        cases erw10
      have rc : rw' ≠ c := fun z => by
        obtain ⟨ns, a, d, f, hp, hc, _⟩ := hP
        rw [z, hc] at nrwH
        cases nrwH
      refine ⟨rw', _, _, rfl, rfl, erw10, ?_, _, _, W ++ [(x, (u.1, u.2.1, r0.toNat))], n8 + 1, rfl, (k7.trans kb10).up nrwH, P10.same (upd_ne rp.symm) (upd_ne rc.symm), by omega, ?_, RsAt.put erw10 (kb_rs P7 kb10 hR7), ?_, RsAt.put erw10 fun r' h' => ?_, ?_, ?_, QsAt.put erw10 (kb_qs P7 kb10 hS7), ms ++ [mm], hms.snoc mm1 mm2, by rw [List.map_append, bW, List.map_append]; exact congrArg (_ ++ [·]) bu⟩
      · rw [refR_len]
        exact Nat.lt_of_le_of_lt (by omega : _ ≤ 100) (by decide)
      · rw [upd_ne mrw]
        exact kb_lst P7 kb10 em7
      · rw [upd_same]
        unfold refR
        rw [List.map_append]
        rfl
      · rcases List.mem_append.mp h' with k' | k'
        · exact kb_rs P7 kb10 hW7 r' k'
        · rw [List.mem_singleton.mp k']
          refine ⟨?_, fu.1, fu.2.1, by show r0.toNat < 2; omega⟩
          have : r0 = ((r0.toNat : Nat) : Int) := by omega
          rw [this] at ex10
          exact ex10
      · rw [List.length_append, List.length_singleton, lW7]
      · rw [upd_ne qrw]
        exact kb_lst P7 kb10 eq7
    rintro _ H7 ⟨v8, v12, W, n7, rfl, k7, P7, ln7, em7, hR7, erw7, hW7, lW7, eq7, hS7, ms, hms, bW⟩
    refine ⟨fun σ' H' => ∃ ga : Addr, σ' = [some (.ref p), some (.int (size : Nat)), some (.int (rank : Nat)), some (.int (gd : Nat)), some (.ref m'), some (.ref qa'), some (.ref g), v7, v8, v9, v10, some (.ref rw'), v12, some (.ref ga), v14, v15, none] ∧ Same H7 H' ∧ H' ga = some (.lst []), ⟨by show 0 ≤ sizeLine; decide, fun t nt => ⟨t, rfl, same_new nt, upd_same⟩⟩, ?_⟩
    rintro _ H8 ⟨ga, rfl, s8, ega⟩
    refine ⟨fun σ' H' => ∃ (v9 v10 : Option V) (ga : Addr), σ' = [some (.ref p), some (.int (size : Nat)), some (.int (rank : Nat)), some (.int (gd : Nat)), some (.ref m'), some (.ref qa'), some (.ref g), v7, v8, v9, v10, some (.ref rw'), v12, some (.ref ga), v14, v15, none] ∧ Same H8 H' ∧ H' ga = some (.lst (refR (flatQ (S'.take gd)))), ?_, ?_⟩
    · refine ⟨_, rfl, _, rfl, gd, rfl, qa', _, rfl, SqL.of (s8 _ _ eq7), fun q nq => ⟨q, rfl, ⟨_, SqL.of upd_same⟩, ?_⟩⟩
      have ec : cutV (refQ S') none (some (gd : Nat)) = refQ (S'.take gd) := (cutV_to (refQ S') gd).trans (by unfold refQ; rw [List.map_take])
      rw [ec]
      have sq9 : Same H8 (upd H8 q (.lst (refQ (S'.take gd)))) := same_new nq
      have eq9 : (upd H8 q (.lst (refQ (S'.take gd)))) q = some (.lst (refQ (S'.take gd))) := upd_same
      generalize upd H8 q (.lst (refQ (S'.take gd))) = Hq at sq9 eq9 ⊢
      refine for_list (K := K) (a := q) (xs := refQ (S'.take gd)) (fun i σ' H' => ∃ (v9 v10 : Option V) (ga : Addr), σ' = [some (.ref p), some (.int (size : Nat)), some (.int (rank : Nat)), some (.int (gd : Nat)), some (.ref m'), some (.ref qa'), some (.ref g), v7, v8, v9, v10, some (.ref rw'), v12, some (.ref ga), v14, v15, none] ∧ Same Hq H' ∧ H' ga = some (.lst (refR (flatQ ((S'.take gd).take i)))))
        ⟨v9, v10, ga, rfl, fun _ _ e => e, sq9 _ _ ega⟩ (fun i σ' H' _ ⟨_, _, _, _, s', _⟩ => SqL.of (s' _ _ eq9)) ?_ ?_
      rotate_left
      · rintro σ' H' ⟨v9, v10, ga, e, s', e'⟩
        rw [refQ_len, List.take_length] at e'
        exact ⟨v9, v10, ga, e, sq9.trans s', e'⟩
      rintro i y σ' H9 hi ⟨v9, v10, ga, rfl, s9, ega9⟩
      obtain ⟨r, hr', rfl⟩ := refQ_at hi
      obtain ⟨er, _⟩ := hS7 r (List.mem_of_mem_take (List.mem_of_getElem? hr'))
      have il : i < (S'.take gd).length := (List.getElem?_eq_some_iff.mp hr').1
      have er9 := s9 _ _ (sq9 _ _ (s8 _ _ er))
      refine ⟨r.1, _, rfl, .inl (.inl er9), rfl, _, _, rfl, _, _, rfl, rfl, ?_⟩
      refine ⟨_, rfl, _, rfl, _, rfl, by show 2 ≤ sizeLine; decide, fun t nt => ?_⟩
      have n6 := same_new (o := .lst [V.ref r.2.1.1, V.ref r.2.2.1]) nt
      refine ⟨ga, t, _, [V.ref r.2.1.1, V.ref r.2.2.1], rfl, rfl, n6 _ _ ega9, upd_same, ?_, fun x nx => ?_⟩
      · rw [refR_len, flatQ_len, List.length_take]
        rw [List.length_take] at il
        exact Nat.le_trans (by show 2 * _ + 2 ≤ 100; omega) (by decide)
      have n7 := n6.trans (same_new (o := .lst (refR (flatQ ((S'.take gd).take i)) ++ [V.ref r.2.1.1, V.ref r.2.2.1])) nx)
      refine ⟨_, _, x, rfl, s9.trans n7, ?_⟩
      rw [upd_same, take_snoc hr', flatQ_app]
      unfold refR
      rw [List.map_append]
      rfl
    rintro _ H9 ⟨v9, v10, ga, rfl, s9, ega9⟩
    have s79 := s8.trans s9
    have k9 := k7.sm s79
    have P9 := P7.ext s79
    have erw9 := s79 _ _ erw7
    have hW9 := hW7.same s79
    have eq9 := s79 _ _ eq7
    have hS9 := hS7.same s79
    intro d nd
    have hpk : ∃ kv, H9 p = some (.dK kv) := let ⟨ns, a, d, f, hp, _⟩ := P9; ⟨_, hp⟩
    have hck : ∃ o, H9 c = some o := let ⟨ns, a, d, f, hp, hc, _⟩ := P9; ⟨_, hc⟩
    have dp : d ≠ p := fun z => by
      obtain ⟨kv, hp⟩ := hpk
      rw [z, hp] at nd
      cases nd
    have dc : d ≠ c := fun z => by
      obtain ⟨o, hc⟩ := hck
      rw [z, hc] at nd
      cases nd
    have nd0 : H d = none := off_kb k9 P9 nd
    have n1 : Same H9 (upd H9 d (.dK [])) := same_new nd
    refine ⟨_, rfl, _, rfl, _, rfl, p, c, rw', n7, refR W, rfl, P9.ext n1, by omega, SqL.of (n1 _ _ erw9), by rw [refR_len]; omega, fun H10 lr ys pm hl hm hP10 k10 nlr elr => ?_⟩
    rw [refR_len] at hP10 hl
    have kb10 : KB p H9 H10 := (KB.of n1).trans k10
    have ed10 : H10 d = some (.dK []) := k10 _ _ upd_same dp
    have ega10 := kb_lst P9 kb10 ega9
    have eq10 := kb_lst P9 kb10 eq9
    obtain ⟨R2, pR2, rfl⟩ := perm_map_inv pm
    have hR2 : ∀ r ∈ R2, r ∈ W := fun r h => pR2.mem_iff.mp h
    have hS10 := kb_qs P9 kb10 hS9
    refine ⟨_, rfl, _, rfl, _, rfl, gd, rfl, qa', _, rfl, SqL.of eq10, fun lh nlh => ?_⟩
    have n2 := same_new (o := .lst (cutV (refQ S') (some (gd : Nat)) none)) nlh
    have kb11 := kb10.sm n2
    have ed11 := n2 _ _ ed10
    have hW11 := kb_rs P9 kb11 hW9
    have elr11 := n2 _ _ elr
    have P11 := hP10.ext n2
    have ega11 := n2 _ _ ega10
    have hS11 := hS10.same n2
    have elh11 : (upd H10 lh (.lst (cutV (refQ S') (some (gd : Nat)) none))) lh = some (.lst (refQ (S'.drop gd))) := by
      rw [upd_same, cutV_from (refQ S') gd]
      unfold refQ
      rw [List.map_drop]
    generalize upd H10 lh (.lst (cutV (refQ S') (some (gd : Nat)) none)) = H11 at n2 kb11 ed11 hW11 elr11 P11 ega11 hS11 elh11 ⊢
    refine ⟨ed11, [((.inr "size" : Key), V.int (size : Nat)), (.inr "rows", .ref lr), (.inr "gauge", .ref ga), (.inr "hidden", .ref lh)], rfl, by show 4 ≤ 15; decide, ?_⟩
    rw [code_kv]
    have lne : ∀ {y : Addr} {xs : List V}, H11 y = some (.lst xs) → y ≠ d := fun {y xs} e z => by rw [z, ed11] at e; cases e
    refine q _ d lr ga lh R2 S' L ms (n7 + W.length) ((k9.trans kb11).up nd0) (P11.same (upd_ne dp.symm) (upd_ne dc.symm)) (by omega) nd0 upd_same ?_ (fun r hr' => ?_) ?_ ((upd_ne (lne ega11)).trans ega11) ((upd_ne (lne elh11)).trans elh11) (fun q' hq' => ?_) ⟨sL, hms, bW ▸ pR2.map bz, eL2⟩
    · rw [upd_ne fun z => by rw [z, ed11] at elr11; cases elr11]
      exact elr11
    · obtain ⟨e1, e2⟩ := hW11 r (hR2 r hr')
      refine ⟨?_, e2⟩
      unfold TrAt at *
      rw [upd_ne fun z => by rw [z, ed11] at e1; cases e1]
      exact e1
    · rw [pR2.length_eq]
      exact lW7
    · obtain ⟨a, b, c', d', e'⟩ := hS11 q' hq'
      unfold TrAt at *
      have tne : ∀ {y : Addr} {xs : List V}, H11 y = some (.tup xs) → y ≠ d := fun {y xs} e z => by rw [z, ed11] at e; cases e
      exact ⟨(upd_ne (tne a)).trans a, (upd_ne (tne b)).trans b, c', (upd_ne (tne d')).trans d', e'⟩
end
end KQ
namespace KQ
/-- the program's numbers of a string of the law -/
def phi (n : Nat) (t : T3) : Hl := (fB n t.1 t.2.1, (2 * t.2.2 + pc (t.1 &&& t.2.1)) % 4)
theorem phi_sg {n : Nat} {t : T3} (h : Fit n t) : Sg n (phi n t) := by
  refine ⟨Nat.mod_lt _ (by decide), ?_⟩
  show (2 * t.2.2 + pc (t.1 &&& t.2.1)) % 4 % 2 = tw n (fB n t.1 t.2.1) (fB n t.1 t.2.1)
  rw [tw_fB h.2.1, Nat.and_comm t.2.1]
  omega
theorem pc_and_x (a b c d : Nat) : pc ((a ^^^ b) &&& (c ^^^ d)) % 2 = (pc (a &&& c) + pc (a &&& d) + pc (b &&& c) + pc (b &&& d)) % 2 := by
  rw [Nat.and_xor_distrib_right, pc_xor, Nat.and_xor_distrib_left, Nat.and_xor_distrib_left]
  have h1 := pc_xor (a &&& c) (a &&& d)
  have h2 := pc_xor (b &&& c) (b &&& d)
  omega
theorem crN_com {n : Nat} {t u : T3} (h : Fit n t) (k : Fit n u) : crN t u = 0 ↔ Com n (phi n t) (phi n u) := by
  unfold Com phi crN
  show pc ((t.1 &&& u.2.1) ^^^ (t.2.1 &&& u.1)) % 2 = 0 ↔ tw n (fB n t.1 t.2.1) (fB n u.1 u.2.1) = tw n (fB n u.1 u.2.1) (fB n t.1 t.2.1)
  rw [tw_fB h.2.1, tw_fB k.2.1, pc_xor, Nat.and_comm u.2.1]
  omega
theorem phi_mul {n : Nat} {t u : T3} (h : Fit n t) (k : Fit n u) (c : Com n (phi n t) (phi n u)) : phi n (lpr t u) = hp n (phi n t) (phi n u) := by
  unfold Com at c
  have c' : tw n (fB n t.1 t.2.1) (fB n u.1 u.2.1) = tw n (fB n u.1 u.2.1) (fB n t.1 t.2.1) := c
  rw [tw_fB h.2.1, tw_fB k.2.1] at c'
  have px := pc_and_x t.1 u.1 t.2.1 u.2.1
  unfold phi hp lpr
  refine Prod.ext ?_ ?_
  · exact (fB_xor n t.1 t.2.1 u.1 u.2.1).symm
  · show (2 * (((lpP t u + 2 * ((t.2.2 : Int) + (u.2.2 : Int))) % 4) / 2).toNat + pc ((t.1 ^^^ u.1) &&& (t.2.1 ^^^ u.2.1))) % 4 = ((2 * t.2.2 + pc (t.1 &&& t.2.1)) % 4 + (2 * u.2.2 + pc (u.1 &&& u.2.1)) % 4 + 2 * tw n (fB n t.1 t.2.1) (fB n u.1 u.2.1)) % 4
    rw [tw_fB h.2.1]
    unfold lpP
    rw [Nat.and_comm t.1 u.2.1, Nat.and_comm u.1 t.2.1] at px
    generalize pc ((t.1 ^^^ u.1) &&& (t.2.1 ^^^ u.2.1)) = P at *
    generalize pc (t.1 &&& t.2.1) = A at *
    generalize pc (u.1 &&& u.2.1) = B at *
    generalize pc (t.2.1 &&& u.1) = C at *
    generalize pc (u.2.1 &&& t.1) = D at *
    omega
theorem phi_bits {n : Nat} {t u : T3} (h : Fit n t) (k : Fit n u) : (phi n t).1 = (phi n u).1 ↔ t.1 = u.1 ∧ t.2.1 = u.2.1 := by
  constructor
  · exact fun e => fB_inj h.1 h.2.1 k.1 k.2.1 e
  · rintro ⟨e1, e2⟩
    unfold phi
    rw [e1, e2]
theorem phi_sign {n : Nat} {t u : T3} (h : Fit n t) (k : Fit n u) (e1 : t.1 = u.1) (e2 : t.2.1 = u.2.1) : (phi n t).2 = (phi n u).2 ↔ t.2.2 = u.2.2 := by
  unfold phi
  show (2 * t.2.2 + pc (t.1 &&& t.2.1)) % 4 = (2 * u.2.2 + pc (u.1 &&& u.2.1)) % 4 ↔ _
  rw [e1, e2]
  have := h.2.2
  have := k.2.2
  omega
theorem phi_zero (n : Nat) : phi n (0, 0, 0) = (0, 0) := by
  unfold phi fB
  have e : rv n 0 = 0 := by
    apply Nat.eq_of_testBit_eq
    intro j
    rw [rv_bit, Nat.zero_testBit, Nat.zero_testBit, Bool.and_false]
  show (2 ^ n * rv n 0 + rv n 0, (2 * 0 + pc (0 &&& 0)) % 4) = (0, 0)
  rw [e, Nat.zero_and, pc_zero, Nat.mul_zero]
theorem zfit (n : Nat) : Fit n (0, 0, 0) := ⟨Nat.two_pow_pos _, Nat.two_pow_pos _, by show 0 < 2; decide⟩
/-- the program's letters of the law's text -/
theorem bL_LT {n : Nat} {t : T3} (h : Fit n t) : bL (LT n t.1 t.2.1) = (phi n t).1 := by
  rw [bL_fB, LT_len, lx_LT _ h.1, lz_LT _ h.2.1]
  rfl
theorem cnt_LT {n : Nat} {t : T3} (h : Fit n t) : (LT n t.1 t.2.1).count 89 = pc (t.1 &&& t.2.1) := by
  rw [← yc (LT_lts n t.1 t.2.1), lx_LT _ h.1, lz_LT _ h.2.1, Nat.and_comm]
end KQ
namespace KQ
open PySem PySem.Spec PyProof.Rows L2
structure Bse (n : Nat) (bs : List Hl) : Prop where
  cs : CS n bs
  ind : Indep (bs.map Prod.fst)
def InG (n : Nat) (bs : List Hl) (h : Hl) : Prop := ∃ m, m < 2 ^ bs.length ∧ h = pr n bs m bs.length
theorem InG.zero (n : Nat) (bs : List Hl) : InG n bs (0, 0) := ⟨0, Nat.two_pow_pos _, (pr_zero _).symm⟩
theorem InG.hp {n : Nat} {bs : List Hl} (C : CS n bs) {h g : Hl} (a : InG n bs h) (b : InG n bs g) : InG n bs (hp n h g) := by
  obtain ⟨m, hm, rfl⟩ := a
  obtain ⟨k, hk, rfl⟩ := b
  exact ⟨m ^^^ k, Nat.xor_lt_two_pow hm hk, (pr_xor C m k (Nat.le_refl _)).symm⟩
theorem InG.sg {n : Nat} {bs : List Hl} (C : CS n bs) {h : Hl} (a : InG n bs h) : Sg n h := by
  obtain ⟨m, _, rfl⟩ := a
  exact pr_sg C m (Nat.le_refl _)
theorem InG.com {n : Nat} {bs : List Hl} (C : CS n bs) {h g : Hl} (a : InG n bs h) (b : InG n bs g) : Com n h g := by
  obtain ⟨m, _, rfl⟩ := a
  obtain ⟨k, _, rfl⟩ := b
  exact pr_com k (fun x hx => (pr_com m (fun y hy => C.com x hx y hy) (Nat.le_refl _)).symm) (Nat.le_refl _)
theorem InG.one {n : Nat} {bs : List Hl} (B : Bse n bs) {h g : Hl} (a : InG n bs h) (b : InG n bs g) (e : h.1 = g.1) : h = g := by
  obtain ⟨m, hm, rfl⟩ := a
  obtain ⟨k, hk, rfl⟩ := b
  rw [pr_fst, pr_fst] at e
  have : m = k := indep_one B.ind (by rw [List.length_map]; exact hm) (by rw [List.length_map]; exact hk) e
  rw [this]
theorem pr_pow {n : Nat} {bs : List Hl} {i : Nat} (hb : (bs.getD i (0, 0)).2 < 4) : ∀ k, i < k → pr n bs (2 ^ i) k = bs.getD i (0, 0)
  | 0, h => absurd h (Nat.not_lt_zero _)
  | k + 1, h => by
    unfold pr
    by_cases e : k = i
    · subst e
      rw [if_pos (by rw [Nat.testBit_two_pow_self]), pr_bits (m' := 0) (fun j hj => by rw [Nat.testBit_two_pow, Nat.zero_testBit, decide_eq_false (by omega)]), pr_zero, hp_zl hb]
    · rw [if_neg (by rw [Nat.testBit_two_pow, decide_eq_false (fun z => e z.symm)]; decide)]
      exact pr_pow hb k (by omega)
theorem InG.mem {n : Nat} {bs : List Hl} (C : CS n bs) {h : Hl} (m : h ∈ bs) : InG n bs h := by
  obtain ⟨i, hi⟩ := List.getElem?_of_mem m
  have il := (List.getElem?_eq_some_iff.mp hi).1
  have e : bs.getD i (0, 0) = h := by rw [List.getD_eq_getElem?_getD, hi]; rfl
  exact ⟨2 ^ i, Nat.pow_lt_pow_right (by decide) il, by rw [pr_pow (by rw [e]; exact (C.sg h m).1) _ il, e]⟩
theorem InG.pr {n : Nat} {bs : List Hl} (C : CS n bs) {hs : List Hl} (h : ∀ a ∈ hs, InG n bs a) (m : Nat) : ∀ k, k ≤ hs.length → InG n bs (pr n hs m k)
  | 0, _ => InG.zero n bs
  | k + 1, hk => by
    unfold KQ.pr
    split
    · exact (InG.pr C h m k (by omega)).hp C (h _ (getD_mem (by omega)))
    · exact InG.pr C h m k (by omega)
theorem good_of {n : Nat} {bs : List Hl} (B : Bse n bs) {gs : List Hl} (h : ∀ g ∈ gs, InG n bs g) {i : Nat} (hi : i < gs.length) : Good n gs i := by
  intro mk hk e
  have lt : ∀ k ∈ keptL gs i, k < gs.length := fun k hk => Nat.lt_trans (keptL_lt gs i k hk) hi
  have a : InG n bs (KQ.pr n (hsK gs (keptL gs i)) mk (keptL gs i).length) := InG.pr B.cs (fun a ha => h a (hsK_mem lt a ha)) mk _ (by rw [hsK_len]; exact Nat.le_refl _)
  have e1 : (KQ.pr n (hsK gs (keptL gs i)) mk (keptL gs i).length).1 = sx (kb gs (keptL gs i)) mk := by
    have := pr_fst (n := n) (hs := hsK gs (keptL gs i)) mk
    rw [hsK_len, hsK_fst] at this
    exact this
  exact congrArg Prod.snd (a.one B (h _ (getD_mem hi)) (e1.trans e))
theorem low2 {size m : Nat} (h : m < 2 ^ size) : Fit2 size (0, m) := ⟨Nat.two_pow_pos _, h⟩
theorem fbL {L : T2 → T2} {n : Nat} (s : Symp n L) (k k' : Nat) : fB n (L (0, k)).1 (L (0, k)).2 ^^^ fB n (L (0, k')).1 (L (0, k')).2 = fB n (L (0, k ^^^ k')).1 (L (0, k ^^^ k')).2 := by
  have e := s.lin (0, k) (0, k')
  have e' : xr2 ((0 : Nat), k) (0, k') = (0, k ^^^ k') := by unfold xr2; rw [Nat.xor_self]
  rw [e'] at e
  rw [e, fB_xor]
  rfl
theorem fbL_one {L : T2 → T2} {n : Nat} (s : Symp n L) {m k : Nat} (hm : m < 2 ^ n) (hk : k < 2 ^ n) (e : fB n (L (0, m)).1 (L (0, m)).2 = fB n (L (0, k)).1 (L (0, k)).2) : m = k := by
  have f1 := s.fit _ (low2 hm)
  have f2 := s.fit _ (low2 hk)
  obtain ⟨e1, e2⟩ := fB_inj f1.1 f1.2 f2.1 f2.2 e
  exact congrArg Prod.snd (s.one (low2 hm) (low2 hk) (Prod.ext e1 e2))
theorem fbL_zero {L : T2 → T2} {n : Nat} (s : Symp n L) : (0 : Nat) = fB n (L (0, 0)).1 (L (0, 0)).2 := by
  rw [s.zero]
  exact (congrArg Prod.fst (phi_zero n)).symm
theorem indep_L {L : T2 → T2} {n rank : Nat} (s : Symp n L) (hr : rank ≤ n) {ms : List Nat} (asc : MsOk ms rank) : Indep (ms.map fun m => fB n (L (0, m)).1 (L (0, m)).2) := by
  intro i x hx sp
  rw [List.getElem?_map] at hx
  obtain ⟨m, hm, rfl⟩ := Option.map_eq_some_iff.mp hx
  have hmi := asc.2 i m hm
  have il : i < ms.length := (List.getElem?_eq_some_iff.mp hm).1
  have lr := asc.1
  have pw : 2 ^ i ≤ 2 ^ n := Nat.pow_le_pow_right (by decide) (by omega)
  have pw1 : 2 ^ (i + 1) ≤ 2 ^ n := Nat.pow_le_pow_right (by decide) (by omega)
  have sub : Sub (fun y => ∃ k, k < 2 ^ i ∧ y = fB n (L (0, k)).1 (L (0, k)).2) := by
    refine ⟨⟨0, Nat.two_pow_pos _, fbL_zero s⟩, ?_⟩
    rintro x y ⟨k, hk, rfl⟩ ⟨k', hk', rfl⟩
    exact ⟨k ^^^ k', Nat.xor_lt_two_pow hk hk', fbL s k k'⟩
  have mem : ∀ a ∈ (ms.map fun m => fB n (L (0, m)).1 (L (0, m)).2).take i, ∃ k, k < 2 ^ i ∧ a = fB n (L (0, k)).1 (L (0, k)).2 := by
    intro a ha
    rw [← List.map_take] at ha
    obtain ⟨k, hk, ek⟩ := List.mem_map.mp ha
    obtain ⟨j, hj⟩ := List.getElem?_of_mem hk
    have jl : j < (ms.take i).length := (List.getElem?_eq_some_iff.mp hj).1
    rw [List.length_take] at jl
    have ji : j < i := by omega
    rw [List.getElem?_take_of_lt ji] at hj
    have h2 := (asc.2 j k hj).2
    have pj : 2 ^ (j + 1) ≤ 2 ^ i := Nat.pow_le_pow_right (by decide) (by omega)
    exact ⟨k, Nat.lt_of_lt_of_le h2 pj, ek.symm⟩
  obtain ⟨k, hk, e⟩ := sp _ sub mem
  have := fbL_one s (Nat.lt_of_lt_of_le hmi.2 pw1) (Nat.lt_of_lt_of_le hk pw) e
  subst this
  exact absurd hmi.1 (Nat.not_le_of_lt hk)
/-- a drawn code's rows -/
theorem code_base {size rank : Nat} {R : RLs} {S : PrLs} {L : T2 → T2} {ms : List Nat} (hr : rank ≤ size) (hR : ∀ r ∈ R, Fit size r.2) (c : CodeL size rank R S L ms) : ∃ bs, Bse size bs ∧ bs.length = rank ∧ ∀ r ∈ R, InG size bs (phi size r.2) := by
  obtain ⟨R0, p0, e0⟩ := perm_map_inv c.rows.symm
  have mem : ∀ {r}, r ∈ R0 ↔ r ∈ R := p0.mem_iff
  have at0 : ∀ r ∈ R0, ∃ m ∈ ms, bz r = L (0, m) := fun r h => by
    have : bz r ∈ ms.map fun m => L (0, m) := e0 ▸ List.mem_map_of_mem h
    obtain ⟨m, hm, e⟩ := List.mem_map.mp this
    exact ⟨m, hm, e.symm⟩
  have msl : ∀ m ∈ ms, Fit2 size (0, m) := fun m hm => low2 (Nat.lt_of_lt_of_le (c.asc.lt hm) (Nat.pow_le_pow_right (by decide) hr))
  have crz : ∀ m m' : Nat, cr2 (0, m) (0, m') = 0 := fun m m' => by
    rw [cr2_b]
    show (pc (0 &&& m') + pc (m &&& 0)) % 2 = 0
    rw [Nat.zero_and, Nat.and_zero, pc_zero]
  have C : CS size (R0.map fun r => phi size r.2) := by
    refine ⟨fun a ha => ?_, fun a ha b hb => ?_⟩
    · obtain ⟨r, h, rfl⟩ := List.mem_map.mp ha
      exact phi_sg (hR r (mem.mp h))
    · obtain ⟨r, h, rfl⟩ := List.mem_map.mp ha
      obtain ⟨q, k, rfl⟩ := List.mem_map.mp hb
      refine (crN_com (hR r (mem.mp h)) (hR q (mem.mp k))).mp ?_
      obtain ⟨m, hm, e⟩ := at0 r h
      obtain ⟨m', hm', e'⟩ := at0 q k
      have e3 : cr2 (bz r) (bz q) = 0 := by rw [e, e', c.symp.cr _ _ (msl m hm) (msl m' hm'), crz]
      exact e3
  have len : (R0.map fun r => phi size r.2).length = rank := by
    have := congrArg List.length e0
    rw [List.length_map, List.length_map] at this
    rw [List.length_map, ← this, c.asc.1]
  have eF : (R0.map fun r => phi size r.2).map Prod.fst = ms.map fun m => fB size (L (0, m)).1 (L (0, m)).2 := by
    have h1 : (R0.map fun r => phi size r.2).map Prod.fst = (R0.map bz).map fun v => fB size v.1 v.2 := by
      rw [List.map_map, List.map_map]
      exact List.map_congr_left fun r _ => rfl
    rw [h1, ← e0, List.map_map]
    exact List.map_congr_left fun m _ => rfl
  have ind : Indep ((R0.map fun r => phi size r.2).map Prod.fst) := by
    rw [eF]
    exact indep_L c.symp hr c.asc
  exact ⟨_, ⟨C, ind⟩, len, fun r h => InG.mem C (List.mem_map_of_mem (mem.mpr h))⟩
/-- rows of one signed group -/
def Grpd (n : Nat) (R : RLs) : Prop := ∃ bs, Bse n bs ∧ bs.length ≤ n ∧ ∀ r ∈ R, InG n bs (phi n r.2)
def gsT (n : Nat) (R : RLs) : List Hl := R.map fun r => phi n r.2
theorem gsT_in {n : Nat} {bs : List Hl} {R : RLs} (h : ∀ r ∈ R, InG n bs (phi n r.2)) : ∀ g ∈ gsT n R, InG n bs g := fun g hg => by
  obtain ⟨r, hr, rfl⟩ := List.mem_map.mp hg
  exact h r hr
end KQ
namespace KQ
open PySem PySem.Spec PyProof.Rows L2
abbrev sPau : Stmt := topS 59
theorem scPau : FnScope ["_law_string", "_law_size"] ["_law_string", "_law_size"] (defScope sPau) := ⟨rfl, rfl, rfl, by decide +kernel, rfl, by decide +kernel, by decide +kernel⟩
/-- head and letters of a row's text -/
def base (n : Nat) (t : T3) : List Nat × List Nat := (if t.2.2 = 0 then [] else [45], LT n t.1 t.2.1)
def Hd4L (h : List Nat) : Prop := h = [] ∨ h = [45] ∨ h = [105] ∨ h = [45, 105]
def phH (h : List Nat) : Nat := if h = [] then 0 else if h = [45] then 2 else if h = [105] then 1 else 3
theorem read_tx {h L : List Nat} (hh : Hd4L h) (hL : Lts8 L) (h0 : L ≠ []) : rest (h ++ L) = L ∧ ph (h ++ L) = phH h ∧ fine (h ++ L) := by
  rcases hh with rfl | rfl | rfl | rfl
  · exact read_head hL h0 0 _ _ rfl
  · exact read_head hL h0 2 _ _ rfl
  · exact read_head hL h0 3 _ _ rfl
  · exact read_head hL h0 5 _ _ rfl
theorem base_hd (n : Nat) (t : T3) : Hd4L (base n t).1 := by
  unfold base
  by_cases z : t.2.2 = 0
  · exact .inl (if_pos z)
  · exact .inr (.inl (if_neg z))
theorem base_ph {n : Nat} {t : T3} (h : Fit n t) : phH (base n t).1 = 2 * t.2.2 := by
  unfold base phH
  have := h.2.2
  by_cases z : t.2.2 = 0
  · simp [z]
  · have : t.2.2 = 1 := by omega
    simp [this]
def spPau (C : Addr) : Sp := fun vs H Q _ => ∃ (a : Addr) (n : Nat) (t : T3), vs = [.ref a, .int (n : Nat)] ∧ TrAt H a t ∧ Fit n t ∧ 1 ≤ n ∧ n ≤ 60 ∧ ∀ H' x, Same H H' → PauliAt C H' x (LT n t.1 t.2.1) (2 * t.2.2) → Q (.ref x) H'
section
variable {P : Program} {w : World} {K : PySem.W.Frag} {mg : Str → Option Value} {base : Heap}
theorem ok_pau {f fT fL C CT fI fE fC fB hA : Addr} {fd dT dL dI dC dB : FuncData} (F : Fun K "_law_pauli" "_law_pauli" sPau f fd) (FT : Fun K "_law_text" "_law_text" sText fT dT) (bT : Binds K dT ["_law_string", "_law_size"] []) (gT : mg "_law_text" = some (.ref fT))
    (FL : Fun K "_law_letters" "_law_letters" sLett fL dL) (bL' : Binds K dL ["_law_string", "_law_size"] []) (gL : mg "_law_letters" = some (.ref fL)) (N : PCl K mg C fI fE) (FI : Fun K "__init__" "Pauli.__init__" sInit fI dI) (bI : Binds K dI ["self", "text"] [])
    (FC : Fun K "_cut_text" "_cut_text" sCut fC dC) (bC : Binds K dC ["text"] []) (gC : mg "_cut_text" = some (.ref fC)) (TT : BT K mg CT fB dB) (hd : Hd4 K mg hA) (B : Bl mg) : FnOk P w K mg base (L2.CX P w) 6 f fd ["_law_string", "_law_size"] (spPau C) := by
  have GI : FnOk P w K mg base (L2.CX P w) 4 fI dI ["self", "text"] (spInit C CT) := ok_init FI N FC bC gC TT hd B
  have GT : FnOk P w K mg base CX0 5 fT dT ["_law_string", "_law_size"] spText := ok_text FT FL bL' gL B
  refine F.okX scPau (fun vs H Q E h => ?_) (fun cdv A outer s H vs Q E hr h => ?_)
  · obtain ⟨a, n, t, rfl, _⟩ := h
    rfl
  · obtain ⟨a, n, t, rfl, et, ft, n1, hn, q⟩ := h
    refine ⟨_, pss_one (ps_ret (pe_make N.mkf GI hr (by rfl) N.g bI .nil (passes_call (takes_of rfl rfl rfl rfl) (fun _ _ _ _ h => h)) (pa_cons (pe_call GT hr (by rfl) gT FT.kp bT .nil pass0 (pa_cons (pv 0) (pa_cons (pv 1) pa_nil))) pa_nil))), ?_⟩
    refine ⟨_, rfl, _, rfl, a, n, t, rfl, et, ft, hn, fun x dx nx ndx ne => ?_⟩
    have L0 : LT n t.1 t.2.1 ≠ [] := fun z => by
      have := LT_len n t.1 t.2.1
      rw [z] at this
      simp at this
      omega
    obtain ⟨u1, u2, u3⟩ := read_tx (base_hd n t) (LT_lts n t.1 t.2.1) L0
    have s0 : Same H (upd (upd H dx (.own x)) x (.ins C dx [])) := (same_new ndx).trans (same_new (by rw [upd_ne (Ne.symm ne)]; exact nx))
    refine ⟨x, dx, _, rfl, upd_same, .inl ⟨_, rfl, ?_, .inl ⟨u3, fun H' PX k => ⟨rfl, ?_⟩⟩⟩⟩
    · show ((KQ.base n t).1 ++ LT n t.1 t.2.1).length ≤ 1000
      rw [List.length_append, LT_len]
      have : (KQ.base n t).1.length ≤ 2 := by
        rcases base_hd n t with e | e | e | e <;> rw [e] <;> decide
      omega
    · have PX' : PauliAt C H' x (rest ((KQ.base n t).1 ++ LT n t.1 t.2.1)) (ph ((KQ.base n t).1 ++ LT n t.1 t.2.1)) := PX
      rw [u1, u2, base_ph ft] at PX'
      exact q H' x (fun b o e => k b o (ne_of_none e nx) (s0 _ _ e)) PX'
end
end KQ
namespace KQ
open PySem PySem.Spec PyProof.Rows L2
def kk (p : T2) : List L2.Key := [.inl (p.1 : Int), .inl (p.2 : Int)]
theorem kk_inj {p q : T2} (h : kk p = kk q) : p = q := by
  unfold kk at h
  injection h with h1 h2
  injection h2 with h2 _
  have e1 : (p.1 : Int) = q.1 := Sum.inl.inj h1
  have e2 : (p.2 : Int) = q.2 := Sum.inl.inj h2
  exact Prod.ext (by omega) (by omega)
/-- the smallest set of pairs with these and 0, closed under xor -/
def SpP (ss : List T2) (p : T2) : Prop := ∀ S : T2 → Prop, S (0, 0) → (∀ a b, S a → S b → S (xr2 a b)) → (∀ s ∈ ss, S s) → S p
theorem SpP.zero (ss : List T2) : SpP ss (0, 0) := fun _ z _ _ => z
theorem SpP.x {ss : List T2} {a b : T2} (h : SpP ss a) (k : SpP ss b) : SpP ss (xr2 a b) := fun S z x m => x _ _ (h S z x m) (k S z x m)
theorem SpP.mem {ss : List T2} {a : T2} (h : a ∈ ss) : SpP ss a := fun _ _ _ m => m a h
theorem SpP.le {ss tt : List T2} {a : T2} (h : SpP ss a) (k : ∀ s ∈ ss, SpP tt s) : SpP tt a := h _ (SpP.zero tt) (fun _ _ => SpP.x) k
theorem xr2_z (a : T2) : xr2 a (0, 0) = a := by unfold xr2; rw [Nat.xor_zero, Nat.xor_zero]
theorem xr2_assoc (a b c : T2) : xr2 (xr2 a b) c = xr2 a (xr2 b c) := by unfold xr2; rw [Nat.xor_assoc, Nat.xor_assoc]
theorem xr2_comm (a b : T2) : xr2 a b = xr2 b a := by unfold xr2; rw [Nat.xor_comm, Nat.xor_comm a.2]
theorem xr2_back (a s : T2) : xr2 (xr2 a s) s = a := by rw [xr2_assoc, xr2_self, xr2_z]
theorem xr2_inj {a b s : T2} (h : xr2 a s = xr2 b s) : a = b := by
  have := congrArg (xr2 · s) h
  simp only [xr2_back] at this
  exact this
theorem SpP.snoc {ss : List T2} {s p : T2} : SpP (ss ++ [s]) p ↔ SpP ss p ∨ SpP ss (xr2 p s) := by
  constructor
  · intro h
    refine h (fun p => SpP ss p ∨ SpP ss (xr2 p s)) (.inl (SpP.zero ss)) (fun a b ha hb => ?_) fun t ht => ?_
    · rcases ha with ha | ha <;> rcases hb with hb | hb
      · exact .inl (ha.x hb)
      · exact .inr (by rw [xr2_assoc]; exact ha.x hb)
      · exact .inr (by rw [xr2_comm a b, xr2_assoc]; exact hb.x ha)
      · have := ha.x hb
        rw [xr2_comm b s, xr2_assoc, ← xr2_assoc s s, xr2_self, xr2_comm (0, 0), xr2_z] at this
        exact .inl this
    · rcases List.mem_append.mp ht with k | k
      · exact .inl (SpP.mem k)
      · rw [List.mem_singleton.mp k]
        exact .inr (by rw [xr2_self]; exact SpP.zero ss)
  · rintro (h | h)
    · exact h.le fun t ht => SpP.mem (List.mem_append_left _ ht)
    · have := (h.le (tt := ss ++ [s]) fun t ht => SpP.mem (List.mem_append_left _ ht)).x (SpP.mem (List.mem_append_right _ (List.mem_singleton.mpr rfl)))
      rwa [xr2_back] at this
/-- the keys that the law has found: all products, each once -/
structure AllP (ss ps : List T2) : Prop where
  nd : ps.Nodup
  iff : ∀ p, p ∈ ps ↔ SpP ss p
theorem AllP.nil : AllP [] [(0, 0)] := ⟨List.nodup_cons.mpr ⟨fun h => (by cases h), List.nodup_nil⟩, fun p => ⟨fun h => by rw [List.mem_singleton.mp h]; exact SpP.zero [], fun h => h (fun p => p ∈ [(0, 0)]) (List.mem_singleton.mpr rfl) (fun a b ha hb => by rw [List.mem_singleton.mp ha, List.mem_singleton.mp hb]; exact List.mem_singleton.mpr rfl) (fun _ z => by cases z)⟩⟩
theorem AllP.same {ss ps : List T2} (A : AllP ss ps) {s : T2} (h : s ∈ ps) : AllP (ss ++ [s]) ps := ⟨A.nd, fun p => by
  rw [A.iff p, SpP.snoc]
  refine ⟨.inl, fun k => k.elim id fun k => ?_⟩
  have := k.x ((A.iff s).mp h)
  rwa [xr2_back] at this⟩
theorem AllP.new {ss ps : List T2} (A : AllP ss ps) {s p : T2} (h : s ∉ ps) (hp : p ∈ ps) : xr2 p s ∉ ps := fun z => by
  refine h ((A.iff s).mpr ?_)
  have := ((A.iff _).mp z).x ((A.iff p).mp hp)
  rwa [xr2_comm p s, xr2_back] at this
theorem AllP.more {ss ps : List T2} (A : AllP ss ps) {s : T2} (h : s ∉ ps) : AllP (ss ++ [s]) (ps ++ ps.map (xr2 · s)) := by
  refine ⟨List.nodup_append.mpr ⟨A.nd, List.Pairwise.map _ (fun a b h e => h (xr2_inj e)) A.nd, fun a ha b hb e => ?_⟩, fun p => ?_⟩
  · obtain ⟨c, hc, rfl⟩ := List.mem_map.mp hb
    exact A.new h hc (e ▸ ha)
  · rw [List.mem_append, SpP.snoc, A.iff p]
    refine or_congr Iff.rfl ⟨fun k => ?_, fun k => ?_⟩
    · obtain ⟨c, hc, rfl⟩ := List.mem_map.mp k
      rw [xr2_back]
      exact (A.iff c).mp hc
    · exact List.mem_map.mpr ⟨xr2 p s, (A.iff _).mpr k, xr2_back p s⟩
theorem SpP.fit {n : Nat} {ss : List T2} {p : T2} (h : ∀ s ∈ ss, Fit2 n s) (hp : SpP ss p) : Fit2 n p := hp (Fit2 n) ⟨Nat.two_pow_pos _, Nat.two_pow_pos _⟩ (fun _ _ a b => ⟨Nat.xor_lt_two_pow a.1 b.1, Nat.xor_lt_two_pow a.2 b.2⟩) h
end KQ
namespace KQ
open PySem PySem.Spec PyProof.Rows L2
def tDispT1 (tk tv : TE) : TE := fun σ H Q => ∀ d, H d = none → tk σ (upd H d (.dT [])) fun y H1 => tv σ H1 fun z H2 => ∃ (b : Addr) (ks : List L2.Key), y = .ref b ∧ H2 b = some (.tup (ks.map kV)) ∧ H2 d = some (.dT []) ∧ Q (.ref d) (upd H2 d (.dT [(ks, z)]))
theorem pe_dispT1 {X : Cx} {pos : Pos} {k v : Expr} {tk tv : TE} (hu : X.A.units + 1 < cLine) (hk : PE X k tk) (hv : PE X v tv) : PE X (.Dict [some k] [v] pos) (tDispT1 tk tv) := by
  refine ⟨fun pins s σ H Q I h => ?_⟩
  have fresh := I.hok.fresh (Nat.le_refl s.heap.objs.size)
  have I1 := I.laid (a := s.heap.objs.size) (o := .dT []) (h' := s.heap.push { cls := .type "dict", data := .dict #[] }) (t' := s.toks) (fun _ _ z => Heap.get?_push_of_some _ z) (Nat.le_refl _) (dt_empty s.heap I.big)
  have shape : (evalEachOpt [some k] X.env).zip ((evalEach [v] X.env).map fun u => do let x ← u; standAt pos; pure x) = [(eval k X.env, (do let x ← eval v X.env; standAt pos; pure x))].map fun p => (some p.1, p.2) := rfl
  rw [arm_eval_Dict, shape, dictDisplay_pairs _ (by simp) (by show 1 < 17; decide)]
  refine wpAny_bind (wpAny_standAt (wpAny_bind (wpAny_subDictH (knd := tupleKind (mixKind X.prog X.w)) (Q := fun d s' => wpAny (model X.prog X.w) X.A (pure (Value.ref d)) (EP X pins σ Q) X.xe s') ?_ (by show 1 ≤ 15; decide) ?_)))
  · exact Nat.lt_of_succ_lt hu
  refine evalPairs_cons (thn (hk.run pins _ σ _ _ I1 (h _ fresh)) fun u s1 ⟨y, H1, I2, r1, q1⟩ => wpAny_bind (thn (hv.run pins s1 σ H1 _ I2 q1) fun w2 s2 ⟨z, H2, I3, r2, b, ks, ey, eb, ed, q2⟩ => wpAny_bind (wpAny_standAt (wpAny_pure (evalPairs_nil ?_)))))
  subst ey
  obtain rfl : u = Value.ref b := r1
  obtain ⟨_, hd, xs, rel, dd⟩ := dt_of I3.hok ed
  cases rel
  refine ⟨[(ks, b, w2)], ⟨rfl, rfl, key_of I3.hok eb, trivial⟩, dd, fun h' tk' dd' hs => wpAny_pure ⟨.ref s.heap.objs.size, _, ?_, rfl, q2⟩⟩
  obtain ⟨q, es, ep, hq, h2, h3, h4, _, h5⟩ := dd'
  refine d_write I3 (by rw [ed]; exact True.intro) hs ⟨q, hq⟩ ⟨by show 1 ≤ sizeLine; decide, hd, [(ks, b, w2)], .cons ⟨rfl, ?_, r2⟩ .nil, q, es, ep, hq, h2, h3, h4, h5⟩
  rw [upd_ne (ne_of eb ed (fun z => nomatch z))]
  exact eb
end KQ
namespace KQ
open PySem PySem.Spec PyProof.Rows L2
theorem desc_eq : ∀ {T U : List Nat}, T.Pairwise (· > ·) → U.Pairwise (· > ·) → (∀ x, x ∈ T ↔ x ∈ U) → T = U
  | [], [], _, _, _ => rfl
  | [], u :: U, _, _, h => absurd ((h u).mpr (List.mem_cons_self ..)) List.not_mem_nil
  | t :: T, [], _, _, h => absurd ((h t).mp (List.mem_cons_self ..)) List.not_mem_nil
  | t :: T, u :: U, hT, hU, h => by
    obtain ⟨t1, t2⟩ := List.pairwise_cons.mp hT
    obtain ⟨u1, u2⟩ := List.pairwise_cons.mp hU
    have e : t = u := by
      rcases List.mem_cons.mp ((h t).mp (List.mem_cons_self ..)) with k | k
      · exact k
      · rcases List.mem_cons.mp ((h u).mpr (List.mem_cons_self ..)) with m | m
        · exact m.symm
        · have a := u1 t k
          have b := t1 u m
          omega
    subst e
    refine congrArg (t :: ·) (desc_eq t2 u2 fun x => ⟨fun hx => ?_, fun hx => ?_⟩)
    · rcases List.mem_cons.mp ((h x).mp (List.mem_cons_of_mem _ hx)) with k | k
      · have := t1 x hx
        omega
      · exact k
    · rcases List.mem_cons.mp ((h x).mpr (List.mem_cons_of_mem _ hx)) with k | k
      · have := u1 x hx
        omega
      · exact k
theorem red_sub {T U : List Nat} (RT : Red T) (RU : Red U) (s : ∀ x, Spn T x ↔ Spn U x) {a : Nat} (ha : a ∈ T) : a ∈ U := by
  obtain ⟨b, hb, e⟩ := top_mem RU.ec ((s a).mp (spn_mem ha)) (RT.nz a ha)
  have z : a ^^^ b = 0 := by
    refine Classical.byContradiction fun ne => ?_
    have hs : Spn T (a ^^^ b) := (spn_sub T).2 _ _ (spn_mem ha) ((s b).mpr (spn_mem hb))
    obtain ⟨c, hc, ec⟩ := top_mem RT.ec hs ne
    obtain ⟨d, hd, ed⟩ := top_mem RU.ec ((s _).mp hs) ne
    have top := bit_top ne
    rw [Nat.testBit_xor] at top
    by_cases h1 : c = a
    · rw [← ec, h1, bit_top (RT.nz a ha), ← e, bit_top (RU.nz b hb)] at top
      cases top
    · by_cases h2 : d = b
      · rw [← ed, h2, bit_top (RU.nz b hb), e, bit_top (RT.nz a ha)] at top
        cases top
      · have p := RT.bit hc ha h1
        have q := RU.bit hd hb h2
        rw [ec] at p
        rw [ed] at q
        rw [p, q] at top
        cases top
  have : a = b := by
    have := congrArg (· ^^^ b) z
    simpa [Nat.xor_assoc] using this
  rw [this]
  exact hb
theorem red_uniq {T U : List Nat} (RT : Red T) (RU : Red U) (dT : T.Pairwise (· > ·)) (dU : U.Pairwise (· > ·)) (s : ∀ x, Spn T x ↔ Spn U x) : T = U :=
  desc_eq dT dU fun _ => ⟨fun h => red_sub RT RU s h, fun h => red_sub RU RT (fun x => (s x).symm) h⟩
def bN (n : Nat) (t : T3) : Nat := fB n t.1 t.2.1
def bw (n : Nat) (W : List T3) : List Nat := W.map (bN n)
/-- the bit of a string in a column, the first x ahead -/
def cb (n : Nat) (t : T3) (c : Nat) : Bool := (bN n t).testBit (2 * n - 1 - c)
theorem bt_lpr (n : Nat) (a b : T3) : bN n (lpr a b) = bN n a ^^^ bN n b := (fB_xor ..).symm
theorem cb_lpr (n : Nat) (a b : T3) (c : Nat) : cb n (lpr a b) c = (cb n a c ^^ cb n b c) := by
  unfold cb
  rw [bt_lpr, Nat.testBit_xor]
/-- the law's table while it is reduced -/
structure RI (n : Nat) (bs : List Hl) (R W : List T3) (t p : Nat) (cs : List Nat) : Prop where
  len : W.length = R.length
  inG : ∀ r ∈ W, InG n bs (phi n r)
  fit : ∀ r ∈ W, Fit n r
  spn : ∀ x, Spn (bw n W) x ↔ Spn (bw n R) x
  lc : cs.length = p
  pm : p ≤ W.length
  inc : cs.Pairwise (· < ·)
  lt : ∀ c ∈ cs, c < t
  piv : ∀ (i : Nat) c, cs[i]? = some c → ∀ (j : Nat) r, W[j]? = some r → cb n r c = decide (j = i)
  lead : ∀ (i : Nat) c, cs[i]? = some c → ∀ r, W[i]? = some r → ∀ c' < c, cb n r c' = false
  low : ∀ (j : Nat) r, p ≤ j → W[j]? = some r → ∀ c < t, cb n r c = false
theorem RI.zero {n : Nat} {bs : List Hl} {R : List T3} (hG : ∀ r ∈ R, InG n bs (phi n r)) (hF : ∀ r ∈ R, Fit n r) : RI n bs R R 0 0 [] :=
  ⟨rfl, hG, hF, fun _ => Iff.rfl, rfl, Nat.zero_le _, List.Pairwise.nil, fun _ h => (by cases h), fun _ _ h => (by cases h), fun _ _ h => (by cases h), fun _ _ _ _ c hc => absurd hc (Nat.not_lt_zero c)⟩
theorem RI.skip {n t p : Nat} {bs : List Hl} {R W : List T3} {cs : List Nat} (h : RI n bs R W t p cs) (z : ∀ (j : Nat) r, p ≤ j → W[j]? = some r → cb n r t = false) : RI n bs R W (t + 1) p cs :=
  ⟨h.len, h.inG, h.fit, h.spn, h.lc, h.pm, h.inc, fun c hc => Nat.lt_succ_of_lt (h.lt c hc), h.piv, h.lead, fun j r hj hr c hc => by
    rcases Nat.lt_succ_iff_lt_or_eq.mp hc with k | k
    · exact h.low j r hj hr c k
    · rw [k]; exact z j r hj hr⟩
/-- two rows behind the place change places -/
theorem RI.swap {n t p f : Nat} {bs : List Hl} {R W : List T3} {cs : List Nat} (h : RI n bs R W t p cs) (pf : p ≤ f) {a b : T3} (ha : W[p]? = some a) (hb : W[f]? = some b) : RI n bs R ((W.set p b).set f a) t p cs := by
  have lp := (List.getElem?_eq_some_iff.mp ha).1
  have lf := (List.getElem?_eq_some_iff.mp hb).1
  have at' : ∀ {j : Nat} {r : T3}, ((W.set p b).set f a)[j]? = some r → (j = f ∧ r = a) ∨ (j ≠ f ∧ j = p ∧ r = b) ∨ (j ≠ f ∧ j ≠ p ∧ W[j]? = some r) := fun {j r} e => by
    by_cases h1 : j = f
    · subst h1
      rw [List.getElem?_set_self (by rw [List.length_set]; exact lf)] at e
      exact .inl ⟨rfl, (Option.some.inj e).symm⟩
    · rw [List.getElem?_set_ne (Ne.symm h1)] at e
      by_cases h2 : j = p
      · subst h2
        rw [List.getElem?_set_self lp] at e
        exact .inr (.inl ⟨h1, rfl, (Option.some.inj e).symm⟩)
      · rw [List.getElem?_set_ne (Ne.symm h2)] at e
        exact .inr (.inr ⟨h1, h2, e⟩)
  have mem : ∀ {r : T3}, r ∈ (W.set p b).set f a → r ∈ W := fun {r} hr => by
    obtain ⟨j, hj⟩ := List.getElem?_of_mem hr
    rcases at' hj with ⟨_, e⟩ | ⟨_, _, e⟩ | ⟨_, _, e⟩
    · rw [e]; exact List.mem_of_getElem? ha
    · rw [e]; exact List.mem_of_getElem? hb
    · exact List.mem_of_getElem? e
  have back : ∀ {r : T3}, r ∈ W → r ∈ (W.set p b).set f a := fun {r} hr => by
    obtain ⟨j, hj⟩ := List.getElem?_of_mem hr
    have lf' : f < (W.set p b).length := by rw [List.length_set]; exact lf
    by_cases h1 : j = f
    · subst h1
      rw [hb] at hj
      obtain rfl := Option.some.inj hj
      by_cases h2 : p = j
      · subst h2
        rw [ha] at hb
        obtain rfl := Option.some.inj hb
        exact List.mem_of_getElem? (i := p) (List.getElem?_set_self lf')
      · exact List.mem_of_getElem? (i := p) (by rw [List.getElem?_set_ne (Ne.symm h2)]; exact List.getElem?_set_self lp)
    · by_cases h2 : j = p
      · subst h2
        rw [ha] at hj
        obtain rfl := Option.some.inj hj
        exact List.mem_of_getElem? (i := f) (List.getElem?_set_self lf')
      · exact List.mem_of_getElem? (i := j) (by rw [List.getElem?_set_ne (Ne.symm h1), List.getElem?_set_ne (Ne.symm h2)]; exact hj)
  have ci : ∀ {i c : Nat}, cs[i]? = some c → i < p := fun e => by
    have := (List.getElem?_eq_some_iff.mp e).1
    rwa [h.lc] at this
  refine ⟨by rw [List.length_set, List.length_set]; exact h.len, fun r hr => h.inG r (mem hr), fun r hr => h.fit r (mem hr), fun x => ?_, h.lc, by rw [List.length_set, List.length_set]; exact h.pm, h.inc, h.lt, fun i c hc j r hr => ?_, fun i c hc r hr => ?_, fun j r hj hr => ?_⟩
  · rw [← h.spn x]
    refine spn_iff_of (fun y hy => ?_) (fun y hy => ?_) x
    · obtain ⟨r, hr, rfl⟩ := List.mem_map.mp hy
      exact spn_mem (List.mem_map_of_mem (mem hr))
    · obtain ⟨r, hr, rfl⟩ := List.mem_map.mp hy
      exact spn_mem (List.mem_map_of_mem (back hr))
  · have ip := ci hc
    rcases at' hr with ⟨e1, e2⟩ | ⟨_, e1, e2⟩ | ⟨_, _, e⟩
    · rw [e2, h.piv i c hc p a ha, decide_eq_false (by omega), decide_eq_false (by omega)]
    · rw [e2, h.piv i c hc f b hb, decide_eq_false (by omega), decide_eq_false (by omega)]
    · exact h.piv i c hc j r e
  · have ip := ci hc
    rcases at' hr with ⟨e1, e2⟩ | ⟨_, e1, e2⟩ | ⟨_, _, e⟩
    · omega
    · omega
    · exact h.lead i c hc r e
  · rcases at' hr with ⟨e1, e2⟩ | ⟨_, e1, e2⟩ | ⟨_, _, e⟩
    · rw [e2]; exact h.low p a (Nat.le_refl _) ha
    · rw [e2]; exact h.low f b pf hb
    · exact h.low j r hj e
/-- a row is multiplied by the row at the place -/
theorem RI.mul {n t p j : Nat} {bs : List Hl} {R W : List T3} {cs : List Nat} (C : CS n bs) (h : RI n bs R W t p cs) (jp : j ≠ p) {a b : T3} (ha : W[j]? = some a) (hb : W[p]? = some b) : RI n bs R (W.set j (lpr a b)) t p cs := by
  have lj := (List.getElem?_eq_some_iff.mp ha).1
  have ga := h.inG a (List.mem_of_getElem? ha)
  have gb := h.inG b (List.mem_of_getElem? hb)
  have fa := h.fit a (List.mem_of_getElem? ha)
  have fb := h.fit b (List.mem_of_getElem? hb)
  have at' : ∀ {i : Nat} {r : T3}, (W.set j (lpr a b))[i]? = some r → (i = j ∧ r = lpr a b) ∨ (i ≠ j ∧ W[i]? = some r) := fun {i r} e => by
    by_cases h1 : i = j
    · subst h1
      rw [List.getElem?_set_self lj] at e
      exact .inl ⟨rfl, (Option.some.inj e).symm⟩
    · rw [List.getElem?_set_ne (Ne.symm h1)] at e
      exact .inr ⟨h1, e⟩
  have ci : ∀ {i c : Nat}, cs[i]? = some c → i < p := fun e => by
    have := (List.getElem?_eq_some_iff.mp e).1
    rwa [h.lc] at this
  have mem : ∀ {r : T3}, r ∈ W.set j (lpr a b) → r ∈ W ∨ r = lpr a b := fun {r} hr => by
    obtain ⟨i, hi⟩ := List.getElem?_of_mem hr
    rcases at' hi with ⟨_, e⟩ | ⟨_, e⟩
    · exact .inr e
    · exact .inl (List.mem_of_getElem? e)
  have pin : b ∈ W.set j (lpr a b) := List.mem_of_getElem? (i := p) (by rw [List.getElem?_set_ne jp]; exact hb)
  have jin : lpr a b ∈ W.set j (lpr a b) := List.mem_of_getElem? (i := j) (List.getElem?_set_self lj)
  refine ⟨by rw [List.length_set]; exact h.len, fun r hr => ?_, fun r hr => ?_, fun x => ?_, h.lc, by rw [List.length_set]; exact h.pm, h.inc, h.lt, fun i c hc k r hr => ?_, fun i c hc r hr c' hc' => ?_, fun k r hk hr c hc => ?_⟩
  · rcases mem hr with e | e
    · exact h.inG r e
    · rw [e, phi_mul fa fb (ga.com C gb)]
      exact ga.hp C gb
  · rcases mem hr with e | e
    · exact h.fit r e
    · rw [e]; exact lpr_fit fa fb
  · rw [← h.spn x]
    refine spn_iff_of (fun y hy => ?_) (fun y hy => ?_) x
    · obtain ⟨r, hr, rfl⟩ := List.mem_map.mp hy
      rcases mem hr with e | e
      · exact spn_mem (List.mem_map_of_mem e)
      · rw [e, bt_lpr]
        exact (spn_sub _).2 _ _ (spn_mem (List.mem_map_of_mem (List.mem_of_getElem? ha))) (spn_mem (List.mem_map_of_mem (List.mem_of_getElem? hb)))
    · obtain ⟨r, hr, rfl⟩ := List.mem_map.mp hy
      obtain ⟨i, hi⟩ := List.getElem?_of_mem hr
      by_cases h1 : i = j
      · subst h1
        rw [ha] at hi
        obtain rfl := Option.some.inj hi
        have := (spn_sub (bw n (W.set i (lpr a b)))).2 _ _ (spn_mem (List.mem_map_of_mem (f := bN n) jin)) (spn_mem (List.mem_map_of_mem (f := bN n) pin))
        rwa [bt_lpr, Nat.xor_assoc, Nat.xor_self, Nat.xor_zero] at this
      · exact spn_mem (List.mem_map_of_mem (List.mem_of_getElem? (i := i) (by rw [List.getElem?_set_ne (Ne.symm h1)]; exact hi)))
  · have ip := ci hc
    rcases at' hr with ⟨e1, e2⟩ | ⟨_, e⟩
    · rw [e2, cb_lpr, h.piv i c hc j a ha, h.piv i c hc p b hb, decide_eq_false (show p ≠ i by omega), Bool.xor_false, e1]
    · exact h.piv i c hc k r e
  · have ip := ci hc
    have ct := h.lt c (List.mem_of_getElem? hc)
    rcases at' hr with ⟨e1, e2⟩ | ⟨_, e⟩
    · rw [e2, cb_lpr, h.lead i c hc a (by rw [e1]; exact ha) c' hc', h.low p b (Nat.le_refl _) hb c' (by omega)]
      rfl
    · exact h.lead i c hc r e c' hc'
  · rcases at' hr with ⟨e1, e2⟩ | ⟨_, e⟩
    · rw [e2, cb_lpr, h.low j a (by omega) ha c hc, h.low p b (Nat.le_refl _) hb c hc]
      rfl
    · exact h.low k r hk e c hc
/-- a column is done -/
theorem RI.next {n t p : Nat} {bs : List Hl} {R W : List T3} {cs : List Nat} (h : RI n bs R W t p cs) {b : T3} (hb : W[p]? = some b) (o : cb n b t = true) (z : ∀ (j : Nat) r, j ≠ p → W[j]? = some r → cb n r t = false) : RI n bs R W (t + 1) (p + 1) (cs ++ [t]) := by
  have lp := (List.getElem?_eq_some_iff.mp hb).1
  have at' : ∀ {i c : Nat}, (cs ++ [t])[i]? = some c → (i < p ∧ cs[i]? = some c) ∨ (i = p ∧ c = t) := fun {i c} e => by
    by_cases k : i < cs.length
    · rw [List.getElem?_append_left k] at e
      exact .inl ⟨by rw [← h.lc]; exact k, e⟩
    · rw [List.getElem?_append_right (by omega)] at e
      have := (List.getElem?_eq_some_iff.mp e).1
      rw [List.length_singleton] at this
      have i0 : i - cs.length = 0 := by omega
      rw [i0] at e
      have := h.lc
      exact .inr ⟨by omega, (Option.some.inj e).symm⟩
  refine ⟨h.len, h.inG, h.fit, h.spn, by rw [List.length_append, h.lc]; rfl, lp, List.pairwise_append.mpr ⟨h.inc, List.pairwise_singleton _ _, fun c hc d hd => by rw [List.mem_singleton.mp hd]; exact h.lt c hc⟩, fun c hc => ?_, fun i c hc j r hr => ?_, fun i c hc r hr c' hc' => ?_, fun j r hj hr c hc => ?_⟩
  · rcases List.mem_append.mp hc with k | k
    · exact Nat.lt_succ_of_lt (h.lt c k)
    · rw [List.mem_singleton.mp k]; exact Nat.lt_succ_self t
  · rcases at' hc with ⟨_, e⟩ | ⟨e1, e2⟩
    · exact h.piv i c e j r hr
    · rw [e1, e2]
      by_cases k : j = p
      · subst k
        rw [hb] at hr
        obtain rfl := Option.some.inj hr
        rw [o, decide_eq_true rfl]
      · rw [z j r k hr, decide_eq_false k]
  · rcases at' hc with ⟨_, e⟩ | ⟨e1, e2⟩
    · exact h.lead i c e r hr c' hc'
    · rw [e1] at hr
      rw [e2] at hc'
      exact h.low p r (Nat.le_refl _) hr c' hc'
  · rcases Nat.lt_succ_iff_lt_or_eq.mp hc with k | k
    · exact h.low j r (by omega) hr c k
    · rw [k]; exact z j r (by omega) hr
theorem cb_log {n c : Nat} {r : T3} (hc : c < 2 * n) (f : Fit n r) (o : cb n r c = true) (z : ∀ c' < c, cb n r c' = false) : (bN n r).log2 = 2 * n - 1 - c ∧ ∀ j, 2 * n - 1 - c < j → (bN n r).testBit j = false := by
  have hi : ∀ j, 2 * n - 1 - c < j → (bN n r).testBit j = false := fun j hj => by
    by_cases k : j < 2 * n
    · have := z (2 * n - 1 - j) (by omega)
      unfold cb at this
      rwa [show 2 * n - 1 - (2 * n - 1 - j) = j by omega] at this
    · exact bit_high (fB_lt n r.1 r.2.1) (by omega)
  exact ⟨log_of_bits o hi, hi⟩
/-- the rows ahead of the place, when all columns are done -/
theorem RI.fin {n p : Nat} {bs : List Hl} {R W : List T3} {cs : List Nat} (h : RI n bs R W (2 * n) p cs) : Red (bw n (W.take p)) ∧ (bw n (W.take p)).Pairwise (· > ·) ∧ (∀ x, Spn (bw n (W.take p)) x ↔ Spn (bw n R) x) ∧ ∀ r ∈ W.take p, InG n bs (phi n r) ∧ Fit n r := by
  have at' : ∀ {i : Nat} {r : T3}, (W.take p)[i]? = some r → ∃ c, cs[i]? = some c ∧ W[i]? = some r ∧ i < p := fun {i r} e => by
    have li := (List.getElem?_eq_some_iff.mp e).1
    rw [List.length_take] at li
    rw [List.getElem?_take, if_pos (by omega)] at e
    exact ⟨cs[i]'(by rw [h.lc]; omega), List.getElem?_eq_getElem _, e, by omega⟩
  have lg : ∀ {i c : Nat} {r : T3}, cs[i]? = some c → W[i]? = some r → cb n r c = true ∧ (bN n r).log2 = 2 * n - 1 - c ∧ ∀ j, 2 * n - 1 - c < j → (bN n r).testBit j = false := fun {i c r} hc hr => by
    have o := h.piv i c hc i r hr
    rw [decide_eq_true rfl] at o
    exact ⟨o, cb_log (h.lt c (List.mem_of_getElem? hc)) (h.fit r (List.mem_of_getElem? hr)) o (h.lead i c hc r hr)⟩
  have two : ∀ {i j : Nat} {a b : T3}, i < j → (W.take p)[i]? = some a → (W.take p)[j]? = some b → (bN n b).testBit (bN n a).log2 = false ∧ (bN n a).testBit (bN n b).log2 = false ∧ bN n a > bN n b := fun {i j a b} hij ha hb => by
    obtain ⟨c, hc, ea, _⟩ := at' ha
    obtain ⟨d, hd, eb, _⟩ := at' hb
    obtain ⟨oa, la, za⟩ := lg hc ea
    obtain ⟨ob, lb, zb⟩ := lg hd eb
    have p1 := h.piv i c hc j b eb
    have p2 := h.piv j d hd i a ea
    rw [decide_eq_false (by omega)] at p1 p2
    have cd : c < d := by
      have h1 := (List.getElem?_eq_some_iff.mp hc)
      have h2 := (List.getElem?_eq_some_iff.mp hd)
      have := List.pairwise_iff_getElem.mp h.inc i j h1.1 h2.1 hij
      rwa [h1.2, h2.2] at this
    refine ⟨by rw [la]; exact p1, by rw [lb]; exact p2, bit_lt (2 * n - 1 - c) p1 oa fun k hk => ?_⟩
    have d2 := h.lt d (List.mem_of_getElem? hd)
    rw [za k hk, zb k (by omega)]
  refine ⟨⟨fun x hx => ?_, ?_⟩, ?_, fun x => ?_, fun r hr => ?_⟩
  · obtain ⟨r, hr, rfl⟩ := List.mem_map.mp hx
    obtain ⟨i, hi⟩ := List.getElem?_of_mem hr
    obtain ⟨c, hc, er, _⟩ := at' hi
    intro z
    have o := (lg hc er).1
    unfold cb at o
    rw [z, Nat.zero_testBit] at o
    cases o
  · refine List.pairwise_iff_getElem.mpr fun i j hi hj hij => ?_
    have li : i < (W.take p).length := by rwa [bw, List.length_map] at hi
    have lj : j < (W.take p).length := by rwa [bw, List.length_map] at hj
    obtain ⟨a, b, _⟩ := two hij (List.getElem?_eq_getElem li) (List.getElem?_eq_getElem lj)
    simp only [bw, List.getElem_map]
    exact ⟨a, b⟩
  · refine List.pairwise_iff_getElem.mpr fun i j hi hj hij => ?_
    have li : i < (W.take p).length := by rwa [bw, List.length_map] at hi
    have lj : j < (W.take p).length := by rwa [bw, List.length_map] at hj
    obtain ⟨_, _, c⟩ := two hij (List.getElem?_eq_getElem li) (List.getElem?_eq_getElem lj)
    simp only [bw, List.getElem_map]
    exact c
  · rw [← h.spn x]
    refine spn_iff_of (fun y hy => ?_) (fun y hy => ?_) x
    · obtain ⟨r, hr, rfl⟩ := List.mem_map.mp hy
      exact spn_mem (List.mem_map_of_mem (List.mem_of_mem_take hr))
    · obtain ⟨r, hr, rfl⟩ := List.mem_map.mp hy
      obtain ⟨j, hj⟩ := List.getElem?_of_mem hr
      by_cases k : j < p
      · exact spn_mem (List.mem_map_of_mem (List.mem_of_getElem? (i := j) (by rw [List.getElem?_take, if_pos k]; exact hj)))
      · have z : bN n r = 0 := by
          apply Nat.eq_of_testBit_eq
          intro b
          rw [Nat.zero_testBit]
          by_cases hb : b < 2 * n
          · have := h.low j r (by omega) hj (2 * n - 1 - b) (by omega)
            unfold cb at this
            rwa [show 2 * n - 1 - (2 * n - 1 - b) = b by omega] at this
          · exact bit_high (fB_lt n r.1 r.2.1) (by omega)
        rw [z]
        exact (spn_sub _).1
  · have m := List.mem_of_mem_take hr
    exact ⟨h.inG r m, h.fit r m⟩
end KQ
namespace KQ
open PySem PySem.Spec PyProof.Rows L2
abbrev sBo : Stmt := topS 56
theorem scBo : FnScope ["_law_size", "_law_k"] ["_law_size"] (defScope sBo) := ⟨rfl, rfl, rfl, by decide +kernel, rfl, by decide +kernel, by decide +kernel⟩
abbrev sRd : Stmt := topS 57
theorem scRd : FnScope ["_law_strings_here", "_law_size", "_law_place", "_law_j", "_law_found", "_law_table", "_law_part", "_law_k"] ["_law_strings_here", "_law_size"] (defScope sRd) := ⟨rfl, rfl, rfl, by decide +kernel, rfl, by decide +kernel, by decide +kernel⟩
theorem lay_ints : ∀ ns : List Int, PyData.canLayAll0 (ns.map PyData.int) = true ∧ PyData.depthAll (ns.map PyData.int) ≤ 1
  | [] => by simp [PyData.canLayAll0, PyData.depthAll]
  | n :: ns => by
    obtain ⟨h1, h2⟩ := lay_ints ns
    simp [PyData.canLayAll0, PyData.depthAll, PyData.canLay0, PyData.depth, h1] at h2 ⊢
    omega
theorem ix_tupK {X : Cx} (K : PySem.W.Frag) (hK : X.K = K) : IxR X (rIxT K) := by
  subst hK
  exact ix_tup
theorem pe_ixK {X : Cx} {a b : Expr} {ta tb : TE} {pos : Pos} (K : PySem.W.Frag) (_ : X.K = K) {r : R2} (hr : IxR X r) (ha : PE X a ta) (hb : PE X b tb) (hs : PlainIx b) : PE X (.Subscript a b pos) (tOp r ta tb) := pe_ix hr ha hb hs
theorem hu64_of {A : Around} {k : Nat} (h : Room k A) : A.units + 64 < cLine := by
  have := h.un
  omega
def boP (n c : Nat) : Nat := if c < n then 0 else 1
def boK (n c : Nat) : Nat := if c < n then c else c - n
/-- the order of bits: pairs (part, place) -/
def BoAt (n : Nat) (H : Hp) (A : List Addr) : Prop := ∀ (c : Nat) a, A[c]? = some a → H a = some (.tup [.int (boP n c : Nat), .int (boK n c : Nat)])
def spBo : Sp := fun vs H Q _ => ∃ n : Nat, vs = [.int (n : Nat)] ∧ n ≤ 50 ∧ ∀ H' l (A : List Addr), Same H H' → H l = none → H' l = some (.lst (A.map V.ref)) → A.length = 2 * n → BoAt n H' A → Q (.ref l) H'
def spRd (K : PySem.W.Frag) : Sp := fun vs H Q _ => ∃ (a : Addr) (n : Nat) (R : RLs) (bs : List Hl), vs = [.ref a, .int (n : Nat)] ∧ SqL K H a (refR R) ∧ RsAt n H R ∧ 1 ≤ n ∧ n ≤ 25 ∧ R.length ≤ 30 ∧ CS n bs ∧ (∀ r ∈ R, InG n bs (phi n r.2)) ∧
  ∀ H' l N, Same H H' → H' l = some (.lst (refR N)) → RsAt n H' N → Red (bw n (N.map (·.2))) → (bw n (N.map (·.2))).Pairwise (· > ·) → (∀ x, Spn (bw n (N.map (·.2))) x ↔ Spn (bw n (R.map (·.2))) x) → (∀ r ∈ N, InG n bs (phi n r.2)) → Q (.ref l) H'
theorem cb_eq {n c : Nat} {t : T3} (hc : c < 2 * n) : cb n t c = (if c < n then t.1.testBit c else t.2.1.testBit (c - n)) := by
  unfold cb bN
  rw [fB_bit]
  by_cases h : c < n
  · rw [if_neg (by omega), if_pos h, rv_bit, decide_eq_true (by omega), show n - 1 - (2 * n - 1 - c - n) = c by omega]
    rfl
  · rw [if_pos (by omega), if_neg h, rv_bit, decide_eq_true (by omega), show n - 1 - (2 * n - 1 - c) = c - n by omega]
    rfl
theorem ix_listK {X : Cx} (K : PySem.W.Frag) (hK : X.K = K) : IxR X (rIxL K) := by
  subst hK
  exact ix_list
theorem dpall_natR (K : PySem.W.Frag) (H : Hp) : ∀ ks : List Nat, DpAll K H (natV ks) (ks.map fun x => PyData.int (x : Nat))
  | [] => .nil
  | k :: ks => .cons (.int _) (dpall_natR K H ks)
theorem sh_natR (ks : List Nat) : SeqAt.shaped (.list (ks.map fun x => PyData.int (x : Nat))) = true := by
  obtain ⟨h1, h2⟩ := lay_ints (ks.map fun x => ((x : Nat) : Int))
  rw [List.map_map] at h1 h2
  have e : (PyData.int ∘ fun x : Nat => ((x : Nat) : Int)) = fun x : Nat => PyData.int (x : Nat) := rfl
  rw [e] at h1 h2
  simp [SeqAt.shaped, PyData.canLay0, PyData.depth, h1]
  omega
theorem ixN_k' {n j : Nat} (hj : j < n) : ixN n ((j : Nat) : Int) = some j := by
  unfold ixN
  rw [if_pos (by omega), if_pos (by omega), Int.toNat_natCast]
section
variable {P : Program} {w : World} {K : PySem.W.Frag} {mg : Str → Option Value} {base : Heap}
theorem ok_bo {f : Addr} {fd : FuncData} {k : Nat} (F : Fun K "_law_bits_order" "_law_bits_order" sBo f fd) (B : Bl mg) : FnOk P w K mg base CX0 (k + 1) f fd ["_law_size"] spBo := by
  refine F.ok scBo (fun vs H Q E h => ?_) (fun cdv A outer s H vs Q E hr h => ?_)
  · obtain ⟨n, rfl, _⟩ := h
    rfl
  · obtain ⟨n, rfl, hn, q⟩ := h
    refine ⟨_, (pss_one (ps_ret (pe_op op_cat (pe_lc (own := [("_law_k", 1)]) (g := gName 1) (by rfl) scBo.nd (pi_range1 (by rfl) B.range (pa_cons (pv 0) pa_nil)) (blkOk_by (own := [("_law_k", 1)]) (N := ["_law_size", "_law_k"]) (sc := defScope sBo) (by decide +kernel)) (fun _ _ _ _ _ => (pg_name (i := 1) scBo.nd rfl (Or.inl rfl))) (fun _ _ _ _ _ => pts_nil) (fun _ _ _ _ _ => (pe_tup (pa_cons pe_int (pa_cons (pv 1) pa_nil))))) (pe_lc (own := [("_law_k", 1)]) (g := gName 1) (by rfl) scBo.nd (pi_range1 (by rfl) B.range (pa_cons (pv 0) pa_nil)) (blkOk_by (own := [("_law_k", 1)]) (N := ["_law_size", "_law_k"]) (sc := defScope sBo) (by decide +kernel)) (fun _ _ _ _ _ => (pg_name (i := 1) scBo.nd rfl (Or.inl rfl))) (fun _ _ _ _ _ => pts_nil) (fun _ _ _ _ _ => (pe_tup (pa_cons pe_int (pa_cons (pv 1) pa_nil)))))))), ?_⟩
    refine ⟨_, rfl, _, rfl, by omega, by omega, fun D nD => ?_⟩
    rw [Int.toNat_natCast]
    refine lc_range (lo := 0) (n := n) (Pv := fun i Hc => Same H Hc ∧ ∃ A : List Addr, Hc D = some (.lst (A.map V.ref)) ∧ A.length = i ∧ ∀ (j : Nat) a, A[j]? = some a → Hc a = some (.tup [.int 0, .int (j : Nat)])) ⟨same_new nD, [], upd_same, rfl, fun j a h => (by cases h)⟩ ?_ ?_
    · rintro i Hc hi ⟨sc, A, eD, lA, hA⟩
      refine ⟨rfl, _, rfl, by show 2 ≤ sizeLine; decide, fun x nx => ?_⟩
      have sx := same_new (o := .tup [V.int 0, V.int (0 + (i : Nat))]) nx
      have ex : (upd Hc x (.tup [V.int 0, V.int (0 + (i : Nat))])) x = some (.tup [V.int 0, V.int (i : Nat)]) := by rw [upd_same, Int.zero_add]
      have eD' := sx _ _ eD
      generalize upd Hc x (.tup [V.int 0, V.int (0 + (i : Nat))]) = Hd at sx ex eD' ⊢
      refine ⟨_, eD', ?_, same_put0 (sc.trans sx) nD, A ++ [x], ?_, ?_, fun j a hj => ?_⟩
      · rw [List.length_map, lA]
        exact Nat.lt_of_le_of_lt (by omega : _ ≤ 50) (by decide)
      · rw [upd_same, List.map_append]
        rfl
      · rw [List.length_append, lA]
        rfl
      · by_cases h : j < A.length
        · rw [List.getElem?_append_left h] at hj
          have := sx _ _ (hA j a hj)
          rw [upd_ne (ne_of this eD' fun z => nomatch z)]
          exact this
        · rw [List.getElem?_append_right (by omega)] at hj
          have := (List.getElem?_eq_some_iff.mp hj).1
          rw [List.length_singleton] at this
          rw [show j - A.length = 0 by omega] at hj
          obtain rfl := Option.some.inj hj
          rw [upd_ne (ne_of ex eD' fun z => nomatch z), show j = i by omega]
          exact ex
    rintro H1 ⟨s1, A, eD, lA, hA⟩
    refine ⟨_, rfl, _, rfl, by omega, by omega, fun D2 nD2 => ?_⟩
    rw [Int.toNat_natCast]
    refine lc_range (lo := 0) (n := n) (Pv := fun i Hc => Same H1 Hc ∧ ∃ B : List Addr, Hc D2 = some (.lst (B.map V.ref)) ∧ B.length = i ∧ ∀ (j : Nat) a, B[j]? = some a → Hc a = some (.tup [.int 1, .int (j : Nat)])) ⟨same_new nD2, [], upd_same, rfl, fun j a h => (by cases h)⟩ ?_ ?_
    · rintro i Hc hi ⟨sc, B, eD2, lB, hB⟩
      refine ⟨rfl, _, rfl, by show 2 ≤ sizeLine; decide, fun x nx => ?_⟩
      have sx := same_new (o := .tup [V.int 1, V.int (0 + (i : Nat))]) nx
      have ex : (upd Hc x (.tup [V.int 1, V.int (0 + (i : Nat))])) x = some (.tup [V.int 1, V.int (i : Nat)]) := by rw [upd_same, Int.zero_add]
      have eD' := sx _ _ eD2
      generalize upd Hc x (.tup [V.int 1, V.int (0 + (i : Nat))]) = Hd at sx ex eD' ⊢
      refine ⟨_, eD', ?_, same_put0 (sc.trans sx) nD2, B ++ [x], ?_, ?_, fun j a hj => ?_⟩
      · rw [List.length_map, lB]
        exact Nat.lt_of_le_of_lt (by omega : _ ≤ 50) (by decide)
      · rw [upd_same, List.map_append]
        rfl
      · rw [List.length_append, lB]
        rfl
      · by_cases h : j < B.length
        · rw [List.getElem?_append_left h] at hj
          have := sx _ _ (hB j a hj)
          rw [upd_ne (ne_of this eD' fun z => nomatch z)]
          exact this
        · rw [List.getElem?_append_right (by omega)] at hj
          have := (List.getElem?_eq_some_iff.mp hj).1
          rw [List.length_singleton] at this
          rw [show j - B.length = 0 by omega] at hj
          obtain rfl := Option.some.inj hj
          rw [upd_ne (ne_of ex eD' fun z => nomatch z), show j = i by omega]
          exact ex
    rintro H2 ⟨s2, B, eD2, lB, hB⟩
    refine ⟨D, D2, _, _, rfl, rfl, s2 _ _ eD, eD2, ?_, fun l nl => ?_⟩
    · rw [List.length_map, List.length_map, lA, lB]
      exact Nat.le_trans (by omega : _ ≤ 100) (by decide)
    have sl := same_new (o := .lst (A.map V.ref ++ B.map V.ref)) nl
    refine q _ l (A ++ B) ((s1.trans s2).trans sl) (none_back (s1.trans s2) nl) (by rw [upd_same, List.map_append]) (by rw [List.length_append, lA, lB]; omega) fun c a hc => ?_
    unfold boP boK
    by_cases h : c < n
    · rw [List.getElem?_append_left (by omega)] at hc
      rw [if_pos h, if_pos h]
      exact sl _ _ (s2 _ _ (hA c a hc))
    · rw [List.getElem?_append_right (by omega), lA] at hc
      rw [if_neg h, if_neg h]
      exact sl _ _ (hB (c - n) a hc)
theorem ok_rd {f fM fS fO : Addr} {fd dM dS dO : FuncData} {k : Nat} (F : Fun K "_law_reduced" "_law_reduced" sRd f fd) (FM : Fun K "_law_product" "_law_product" sProd fM dM) (bM : Binds K dM ["_law_one", "_law_two"] []) (gM : mg "_law_product" = some (.ref fM)) (FS : Fun K "_law_ones" "_law_ones" sOnes fS dS) (bS : Binds K dS ["_law_number"] []) (gS : mg "_law_ones" = some (.ref fS)) (FO : Fun K "_law_bits_order" "_law_bits_order" sBo fO dO) (bO : Binds K dO ["_law_size"] []) (gO : mg "_law_bits_order" = some (.ref fO)) (B : Bl mg) :
    FnOk P w K mg base CX0 (k + 3) f fd ["_law_strings_here", "_law_size"] (spRd K) := by
  have GM : FnOk P w K mg base CX0 (k + 2) fM dM ["_law_one", "_law_two"] spProd := ok_prod FM FS bS gS B
  have GO : FnOk P w K mg base CX0 (k + 2) fO dO ["_law_size"] spBo := ok_bo FO B
  refine F.ok scRd (fun vs H Q E h => ?_) (fun cdv A outer s H vs Q E hr h => ?_)
  · obtain ⟨a, n, R, bs, rfl, _⟩ := h
    rfl
  · obtain ⟨a, n, R, bs, rfl, hS, hR, h1, hn, lR, C, hG, q⟩ := h
    have r2 : Room (k + 2) _ := hr
    refine ⟨_, (C8.pss_cut (ps_asg (pe_tup (pa_cons (pe_callTy call_list_of (by rfl) B.list bootL (pa_cons (pv 0) pa_nil)) (pa_cons pe_int pa_nil))) (pg_tup rfl (pgs_cons (pg_name (i := 5) scRd.nd rfl (.inr rfl)) (pgs_cons (pg_name (i := 2) scRd.nd rfl (.inl rfl)) pgs_nil))))
      (C8.pss_cut (ps_for PassesOwn.never rfl (pi_list (pe_call GO r2 (by rfl) gO FO.kp bO .nil pass0 (pa_cons (pv 1) pa_nil))) (pg_tup rfl (pgs_cons (pg_name (i := 6) scRd.nd rfl (.inr rfl)) (pgs_cons (pg_name (i := 7) scRd.nd rfl (.inr rfl)) pgs_nil))) (C8.pss_cut (ps_setLc (i := 4) (own := [("_law_j", 3)]) (g := gName 3) (by rfl) scRd.nd rfl rfl (sw_true rfl rfl rfl (by decide +kernel)) (pi_range2 (by rfl) B.range (pa_cons (pv 2) (pa_cons (pe_callB call_len_seq (by rfl) B.len PySem.boot_len (pa_cons (pv 5) pa_nil)) pa_nil))) (blkOk_by (own := [("_law_j", 3)]) (N := ["_law_strings_here", "_law_size", "_law_place", "_law_j", "_law_found", "_law_table", "_law_part", "_law_k"]) (sc := defScope sRd) (by decide +kernel)) (fun _ _ _ _ _ => (pg_name (i := 3) scRd.nd rfl (Or.inl rfl))) (fun _ _ _ _ _ => pts_one (pt_cmpR op_eq (pe_op op_mod (pe_callTy call_int1 (by rfl) B.int bootI (pa_cons (pe_op op_shr (pe_ixK K rfl (ix_tupK K rfl) (pe_ixK K rfl (ix_listK K rfl) (pv 5) (pv 3) (fun _ _ => rfl)) (pv 6) (fun _ _ => rfl)) (pv 7)) pa_nil)) pe_int) pe_int (nomark _))) (fun _ _ _ _ _ => (pv 3)))
      (C8.pss_cut (ps_if (pt_cmpR (op_eqD (hu64_of hr)) (pv 4) (pe_lst pa_nil) (nomark _)) (pss_one ps_continue) pss_nil)
      (C8.pss_cut (ps_asg (pe_tup (pa_cons (pe_ix ix_list (pv 5) (pe_ix ix_list (pv 4) pe_int (fun _ _ => rfl)) (fun _ _ => rfl)) (pa_cons (pe_ix ix_list (pv 5) (pv 2) (fun _ _ => rfl)) pa_nil))) (pg_tup rfl (pgs_cons (pg_sub (pv 5) (pv 2) set_list) (pgs_cons (pg_sub (pv 5) (pe_ix ix_list (pv 4) pe_int (fun _ _ => rfl)) set_list) pgs_nil))))
      (C8.pss_cut (ps_for PassesOwn.never rfl (pi_range1 (by rfl) B.range (pa_cons (pe_callB call_len_seq (by rfl) B.len PySem.boot_len (pa_cons (pv 5) pa_nil)) pa_nil)) (pg_name (i := 3) scRd.nd rfl (.inl rfl)) (pss_one (ps_if (PW.pt (pw_and (pt_cmpR op_ne (pv 3) (pv 2) (nomark _)) (pw_and1 (pt_cmpR op_eq (pe_op op_mod (pe_callTy call_int1 (by rfl) B.int bootI (pa_cons (pe_op op_shr (pe_ix ix_tup (pe_ix ix_list (pv 5) (pv 3) (fun _ _ => rfl)) (pv 6) (fun _ _ => rfl)) (pv 7)) pa_nil)) pe_int) pe_int (nomark _))))) (pss_one (ps_asg (pe_call GM r2 (by rfl) gM FM.kp bM .nil pass0 (pa_cons (pe_ix ix_list (pv 5) (pv 3) (fun _ _ => rfl)) (pa_cons (pe_ix ix_list (pv 5) (pv 2) (fun _ _ => rfl)) pa_nil))) (pg_sub (pv 5) (pv 3) set_list))) pss_nil)))
      (pss_one (ps_set (i := 2) scRd.nd rfl (.inl rfl) (pe_op op_add (pv 2) pe_int))))))))
      (pss_one (ps_ret (pe_slice sl_list (pv 5) po_none (po_some (pv 2))))))), ?_⟩
    have up60 : ∀ {t : T3}, Fit n t → Fit 60 t := fun h => ⟨Nat.lt_of_lt_of_le h.1 (Nat.pow_le_pow_right (by decide) (by omega)), Nat.lt_of_lt_of_le h.2.1 (Nat.pow_le_pow_right (by decide) (by omega)), h.2.2⟩
    have sq : ∀ {G : Hp} {x : Addr} {u : T3}, TrAt G x u → SqT K G x [.int (u.1 : Nat), .int (u.2.1 : Nat), .int (u.2.2 : Nat)] := fun e => .inl (.inl e)
    -- the bit of a row in a column, as the law reckons it
    have bitV : ∀ {c : Nat} {t : T3}, c < 2 * n → atI [V.int (t.1 : Nat), V.int (t.2.1 : Nat), V.int (t.2.2 : Nat)] ((boP n c : Nat) : Int) = some (.int ((if c < n then t.1 else t.2.1 : Nat) : Int)) := fun {c t} hc => by
      unfold boP
      by_cases h : c < n
      · rw [if_pos h, if_pos h]
        exact tri0 _ _ _
      · rw [if_neg h, if_neg h]
        exact tri1 _ _ _
    have bitB : ∀ {c : Nat} {t : T3}, c < 2 * n → decide (((if c < n then t.1 else t.2.1 : Nat) : Int) / 2 ^ (((boK n c : Nat) : Int)).toNat % 2 = 1) = cb n t c := fun {c t} hc => by
      rw [cb_eq hc, Int.toNat_natCast]
      unfold boK
      have key : ∀ (x k : Nat), decide (((x : Nat) : Int) / 2 ^ k % 2 = 1) = x.testBit k := fun x k => by
        rw [Nat.testBit_eq_decide_div_mod_eq]
        have e : ((x : Nat) : Int) / 2 ^ k % 2 = ((x / 2 ^ k % 2 : Nat) : Int) := by push_cast; rfl
        rw [e]
        by_cases h : x / 2 ^ k % 2 = 1
        · rw [h]; rfl
        · rw [decide_eq_false h, decide_eq_false (by omega)]
      by_cases h : c < n
      · rw [if_pos h, if_pos h, if_pos h]
        exact key _ _
      · rw [if_neg h, if_neg h, if_neg h]
        exact key _ _
    refine ⟨fun σ' H' => ∃ T : Addr, σ' = [some (.ref a), some (.int (n : Nat)), some (.int ((0 : Nat) : Int)), none, none, some (.ref T), none, none] ∧ Same H H' ∧ H T = none ∧ H' T = some (.lst (refR R)), ?_, ?_⟩
    · refine ⟨_, rfl, a, _, rfl, .inl hS, fun T nT => ⟨by show 2 ≤ sizeLine; decide, fun x nx => ?_⟩⟩
      have s1 := same_new (o := .lst (refR R)) nT
      have sx := same_new (o := .tup [V.ref T, V.int 0]) nx
      have ex : (upd (upd H T (.lst (refR R))) x (.tup [V.ref T, V.int 0])) x = some (.tup [V.ref T, V.int 0]) := upd_same
      exact ⟨x, _, rfl, .inl (.inl ex), rfl, _, _, rfl, _, _, rfl, rfl, T, rfl, s1.trans sx, nT, sx _ _ upd_same⟩
    rintro _ H1 ⟨T, rfl, s1, nT, eT⟩
    refine ⟨fun σ' H' => ∃ (p : Nat) (v3 v4 v6 v7 : Option V) (W : RLs) (cs : List Nat), σ' = [some (.ref a), some (.int (n : Nat)), some (.int (p : Nat)), v3, v4, some (.ref T), v6, v7] ∧ Same H H' ∧ H' T = some (.lst (refR W)) ∧ RsAt n H' W ∧ RI n bs (R.map (·.2)) (W.map (·.2)) (2 * n) p cs, ?_, ?_⟩
    · refine ⟨_, rfl, n, rfl, by omega, fun H2 l A s2 nl el lA hA => ?_⟩
      refine ⟨l, rfl, ⟨_, SqL.of el⟩, for_list (K := K) (a := l) (xs := A.map V.ref) (fun c σ' H' => ∃ (p : Nat) (v3 v4 v6 v7 : Option V) (W : RLs) (cs : List Nat), σ' = [some (.ref a), some (.int (n : Nat)), some (.int (p : Nat)), v3, v4, some (.ref T), v6, v7] ∧ Same H H' ∧ H' l = some (.lst (A.map V.ref)) ∧ BoAt n H' A ∧ H' T = some (.lst (refR W)) ∧ RsAt n H' W ∧ RI n bs (R.map (·.2)) (W.map (·.2)) c p cs)
        ⟨0, none, none, none, none, R, [], rfl, s1.trans s2, el, hA, s2 _ _ eT, (hR.same s1).same s2, RI.zero (fun r hr => ?_) (fun r hr => ?_)⟩ (fun c σ' H' _ ⟨_, _, _, _, _, _, _, _, _, e, _⟩ => SqL.of e) ?_ ?_⟩
      · obtain ⟨r', h', rfl⟩ := List.mem_map.mp hr
        exact hG r' h'
      · obtain ⟨r', h', rfl⟩ := List.mem_map.mp hr
        exact (hR r' h').2
      rotate_left
      · rintro σ' H3 ⟨p, v3, v4, v6, v7, W, cs, rfl, s3, _, _, eT3, hW, ri⟩
        rw [List.length_map, lA] at ri
        exact ⟨p, v3, v4, v6, v7, W, cs, rfl, s3, eT3, hW, ri⟩
      rintro c y σ' H3 hc ⟨p, v3, v4, v6, v7, W, cs, rfl, s3, el3, hA3, eT3, hW, ri⟩
      rw [List.getElem?_map] at hc
      obtain ⟨x, hx, rfl⟩ := Option.map_eq_some_iff.mp hc
      have ex := hA3 c x hx
      have cl : c < 2 * n := by
        have := (List.getElem?_eq_some_iff.mp hx).1
        omega
      have lW : W.length = R.length := by
        have := ri.len
        rwa [List.length_map, List.length_map] at this
      have pW : p ≤ W.length := by
        have := ri.pm
        rwa [List.length_map] at this
      refine ⟨x, _, rfl, .inl (.inl ex), rfl, _, _, rfl, _, _, rfl, rfl, ?_⟩
      -- the rows from the place on that have the bit
      refine ⟨fun σ' H' => ∃ (F : Addr) (fs : List Nat), σ' = [some (.ref a), some (.int (n : Nat)), some (.int (p : Nat)), v3, some (.ref F), some (.ref T), some (.int (boP n c : Nat)), some (.int (boK n c : Nat))] ∧ Same H3 H' ∧ H' F = some (.lst (natV fs)) ∧ ∀ j, j ∈ fs ↔ p ≤ j ∧ ∃ r, W[j]? = some r ∧ cb n r.2 c = true, ?_, ?_⟩
      · refine ⟨_, rfl, _, rfl, T, _, rfl, .inl (SqL.of eT3), _, _, rfl, ⟨by omega, by omega, by rw [refR_len]; omega, by rw [refR_len]; omega⟩, fun D nD => ?_⟩
        have len : (((refR W).length : Int) - (p : Int)).toNat = W.length - p := by
          rw [refR_len]
          omega
        rw [len]
        refine lc_range (lo := (p : Int)) (n := W.length - p) (Pv := fun i Hc => Same H3 Hc ∧ ∃ fs : List Nat, Hc D = some (.lst (natV fs)) ∧ fs.length ≤ i ∧ ∀ j, j ∈ fs ↔ p ≤ j ∧ j < p + i ∧ ∃ r, W[j]? = some r ∧ cb n r.2 c = true) ⟨same_new nD, [], upd_same, Nat.le_refl _, fun j => ⟨fun h => (by cases h), fun h => (by omega)⟩⟩ ?_ ?_
        · rintro i Hc hi ⟨sc, fs, eD, lf, hf⟩
          have hr' : W[p + i]? = some (W[p + i]'(by omega)) := List.getElem?_eq_getElem _
          generalize W[p + i]'(by omega) = r at hr'
          have rm := List.mem_of_getElem? hr'
          obtain ⟨et, ft⟩ := (hW.same sc) r rm
          have ei : V.int ((p : Int) + (i : Nat)) = V.int ((p + i : Nat) : Int) := by push_cast; rfl
          refine ⟨rfl, _, rfl, _, rfl, T, refR W, _, _, rfl, ei, SqL.of (sc _ _ eT3), atI_nat (j := p + i) (by unfold refR; rw [List.getElem?_map, hr']; rfl), _, rfl, r.1, _, _, _, rfl, rfl, sq et, bitV cl, _, rfl, _, _, rfl, rfl, by omega, .inl ⟨_, rfl, _, _, rfl, rfl, by show (0 : Int) < 2; decide, rfl, cb n r.2 c, ?_, ?_⟩⟩
          · exact congrArg V.bl ((decide_eq_decide.mpr ⟨fun e => V.int.inj e, fun e => congrArg V.int e⟩).trans (bitB (t := r.2) cl))
          · have step : ∀ fs' : List Nat, (∀ j, j ∈ fs' ↔ j ∈ fs ∨ (j = p + i ∧ cb n r.2 c = true)) → ∀ j, j ∈ fs' ↔ p ≤ j ∧ j < p + (i + 1) ∧ ∃ r, W[j]? = some r ∧ cb n r.2 c = true := fun fs' h j => by
              rw [h j, hf j]
              constructor
              · rintro (⟨h1, h2, h3⟩ | ⟨rfl, h2⟩)
                · exact ⟨h1, by omega, h3⟩
                · exact ⟨by omega, by omega, r, hr', h2⟩
              · rintro ⟨h1, h2, h3⟩
                by_cases e : j = p + i
                · subst e
                  obtain ⟨r', e', h4⟩ := h3
                  rw [hr'] at e'
                  obtain rfl := Option.some.inj e'
                  exact .inr ⟨rfl, h4⟩
                · exact .inl ⟨h1, by omega, h3⟩
            cases hb : cb n r.2 c with
            | true =>
              refine iteT ⟨_, rfl, _, eD, ?_, same_put0 sc nD, fs ++ [p + i], ?_, ?_, step _ fun j => ?_⟩
              · rw [natV_len]
                exact Nat.lt_of_le_of_lt (by omega : _ ≤ 30) (by decide)
              · rw [upd_same, natV_app, ei]
                rfl
              · rw [List.length_append, List.length_singleton]
                omega
              · rw [List.mem_append, List.mem_singleton, hb]
                simp
            | false =>
              refine iteF ⟨sc, fs, eD, by omega, step _ fun j => ?_⟩
              rw [hb]
              simp
        · rintro Hc ⟨sc, fs, eD, lf, hf⟩
          refine ⟨D, fs, rfl, sc, eD, fun j => ?_⟩
          rw [hf j]
          refine ⟨fun ⟨h1, _, h3⟩ => ⟨h1, h3⟩, fun ⟨h1, h3⟩ => ⟨h1, ?_, h3⟩⟩
          obtain ⟨r, hr, _⟩ := h3
          have := (List.getElem?_eq_some_iff.mp hr).1
          omega
      rintro _ H4 ⟨F, fs, rfl, s4, eF, hf⟩
      have el4 := s4 _ _ el3
      have hA4 : BoAt n H4 A := fun c a h => s4 _ _ (hA3 c a h)
      have eT4 := s4 _ _ eT3
      have hW4 := hW.same s4
      refine ⟨fun σ' H' => fs ≠ [] ∧ σ' = [some (.ref a), some (.int (n : Nat)), some (.int (p : Nat)), v3, some (.ref F), some (.ref T), some (.int (boP n c : Nat)), some (.int (boK n c : Nat))] ∧ Same H4 H', ?_, ?_⟩
      · refine ⟨_, rfl, by show 0 ≤ sizeLine; decide, fun m nm => ⟨.list (fs.map fun x => PyData.int (x : Nat)), .list [], .lst (SqL.of ((same_new nm) _ _ eF)) (dpall_natR K _ fs), .lst (SqL.of upd_same) .nil, sh_natR fs, rfl, fs.isEmpty, ?_, ?_⟩⟩
        · cases fs <;> rfl
        · have sm := same_new (o := .lst []) nm
          cases fs with
          | nil =>
            refine iteT ?_
            refine ⟨p, v3, _, _, _, W, cs, rfl, s3.trans (s4.trans sm), sm _ _ el4, fun c a h => sm _ _ (hA4 c a h), sm _ _ eT4, hW4.same sm, ri.skip fun j r hj hr => ?_⟩
            rw [List.getElem?_map] at hr
            obtain ⟨r', hr', rfl⟩ := Option.map_eq_some_iff.mp hr
            cases hb : cb n r'.2 c with
            | false => rfl
            | true => exact absurd ((hf j).mpr ⟨hj, r', hr', hb⟩) List.not_mem_nil
          | cons f fs => exact iteF ⟨fun z => (by cases z), rfl, sm⟩
      rintro _ H5 ⟨hne, rfl, s5⟩
      cases fs with
      | nil => exact absurd rfl hne
      | cons f fs =>
      obtain ⟨pf, rf, hrf, hbf⟩ := (hf f).mp (List.mem_cons_self ..)
      have lf := (List.getElem?_eq_some_iff.mp hrf).1
      have hrp : W[p]? = some (W[p]'(by omega)) := List.getElem?_eq_getElem _
      generalize W[p]'(by omega) = rp at hrp
      have eT5 := s5 _ _ eT4
      have eF5 := s5 _ _ eF
      have hW5 := hW4.same s5
      have mrp := List.mem_of_getElem? hrp
      have mrf := List.mem_of_getElem? hrf
      -- the two rows change places
      refine ⟨fun σ' H' => σ' = [some (.ref a), some (.int (n : Nat)), some (.int (p : Nat)), v3, some (.ref F), some (.ref T), some (.int (boP n c : Nat)), some (.int (boK n c : Nat))] ∧ (∀ b o, H b = some o → H' b = some o) ∧ H' l = some (.lst (A.map V.ref)) ∧ BoAt n H' A ∧ H' T = some (.lst (refR ((W.set p rf).set f rp))) ∧ RsAt n H' ((W.set p rf).set f rp), ?_, ?_⟩
      · have hT : atI (refR W) ((f : Nat) : Int) = some (.ref rf.1) := atI_nat (j := f) (by unfold refR; rw [List.getElem?_map, hrf]; rfl)
        have hP : atI (refR W) ((p : Nat) : Int) = some (.ref rp.1) := atI_nat (j := p) (by unfold refR; rw [List.getElem?_map, hrp]; rfl)
        have hF0 : atI (natV (f :: fs)) 0 = some (.int (f : Nat)) := atI_nat (j := 0) rfl
        refine ⟨_, rfl, _, rfl, F, natV (f :: fs), 0, .int (f : Nat), rfl, rfl, SqL.of eF5, hF0, T, refR W, _, _, rfl, rfl, SqL.of eT5, hT, _, rfl, _, rfl, T, refR W, _, _, rfl, rfl, SqL.of eT5, hP, by show 2 ≤ sizeLine; decide, fun x2 nx2 => ?_⟩
        have s6 := same_new (o := .tup [V.ref rf.1, V.ref rp.1]) nx2
        have ex2 : (upd H5 x2 (.tup [V.ref rf.1, V.ref rp.1])) x2 = some (.tup [V.ref rf.1, V.ref rp.1]) := upd_same
        have eT6 := s6 _ _ eT5
        have eF6 := s6 _ _ eF5
        have hW6 := hW5.same s6
        have el6 := s6 _ _ (s5 _ _ el4)
        have hA6 : BoAt n (upd H5 x2 (.tup [V.ref rf.1, V.ref rp.1])) A := fun c a h => s6 _ _ (s5 _ _ (hA4 c a h))
        have sH := (s3.trans s4).trans (s5.trans s6)
        generalize upd H5 x2 (.tup [V.ref rf.1, V.ref rp.1]) = Hx at s6 ex2 eT6 eF6 hW6 el6 hA6 sH ⊢
        have lenR : ∀ Z : RLs, (refR Z).length = Z.length := refR_len
        have TF : T ≠ F := fun z => by
          rw [z, eF6] at eT6
          have := Option.some.inj eT6
          injection this with this
          cases W with
          | nil => cases hrp
          | cons r W =>
            injection this with this
            cases this
        have lT : l ≠ T := fun z => by
          rw [z, eT] at nl
          cases nl
        have r1 : refR (W.set p rf) = (refR W).set p (.ref rf.1) := by unfold refR; rw [List.map_set]
        have r2 : refR ((W.set p rf).set f rp) = ((refR W).set p (.ref rf.1)).set f (.ref rp.1) := by unfold refR; rw [List.map_set, List.map_set]
        refine ⟨x2, _, rfl, .inl (.inl ex2), rfl, _, _, rfl, _, rfl, _, rfl, T, refR W, _, p, rfl, rfl, eT6, ixN_k' (by rw [refR_len]; omega), ?_⟩
        have eT7 : (upd Hx T (.lst ((refR W).set p (.ref rf.1)))) T = some (.lst (refR (W.set p rf))) := by rw [upd_same, r1]
        refine ⟨_, _, rfl, _, rfl, _, rfl, F, natV (f :: fs), 0, .int (f : Nat), rfl, rfl, SqL.of ((upd_ne TF.symm).trans eF6), hF0, T, refR (W.set p rf), _, f, rfl, rfl, eT7, ixN_k' (by rw [refR_len, List.length_set]; exact lf), rfl, rfl, fun b o e => ?_, ?_, fun c a h => ?_, ?_, ?_⟩
        · have bT : b ≠ T := fun z => by rw [z, nT] at e; cases e
          rw [upd_ne bT, upd_ne bT]
          exact sH _ _ e
        · rw [upd_ne lT, upd_ne lT]
          exact el6
        · have := hA6 c a h
          have aT : a ≠ T := ne_of this eT6 fun z => nomatch z
          rw [upd_ne aT, upd_ne aT]
          exact this
        · rw [upd_same, r1, r2]
        · have e0 : RsAt n Hx ((W.set p rf).set f rp) := fun r hr => by
            rcases List.mem_or_eq_of_mem_set hr with k | k
            · rcases List.mem_or_eq_of_mem_set k with k | k
              · exact hW6 r k
              · rw [k]; exact hW6 rf mrf
            · rw [k]; exact hW6 rp mrp
          exact RsAt.put eT7 (RsAt.put eT6 e0)
      rintro _ H6 ⟨rfl, s6, el6, hA6, eT6, hW6⟩
      have ri1 : RI n bs (R.map (·.2)) (((W.set p rf).set f rp).map (·.2)) c p cs := by
        have h := ri.swap (f := f) pf (a := rp.2) (b := rf.2) (by rw [List.getElem?_map, hrp]; rfl) (by rw [List.getElem?_map, hrf]; rfl)
        rw [List.map_set, List.map_set]
        exact h
      have l1 : ((W.set p rf).set f rp).length = W.length := by rw [List.length_set, List.length_set]
      have at1 : ((W.set p rf).set f rp)[p]? = some rf := by
        by_cases e : f = p
        · subst e
          rw [hrp] at hrf
          obtain rfl := Option.some.inj hrf
          exact List.getElem?_set_self (by rw [List.length_set]; exact lf)
        · rw [List.getElem?_set_ne e]
          exact List.getElem?_set_self (by omega)
      generalize (W.set p rf).set f rp = W1 at eT6 hW6 ri1 l1 at1
      have lT : l ≠ T := fun z => by
        rw [z, eT] at nl
        cases nl
      refine ⟨fun σ' H' => ∃ (v3 : Option V) (W' : RLs), σ' = [some (.ref a), some (.int (n : Nat)), some (.int (p : Nat)), v3, some (.ref F), some (.ref T), some (.int (boP n c : Nat)), some (.int (boK n c : Nat))] ∧ (∀ b o, H b = some o → H' b = some o) ∧ H' l = some (.lst (A.map V.ref)) ∧ BoAt n H' A ∧ H' T = some (.lst (refR W')) ∧ RsAt n H' W' ∧ RI n bs (R.map (·.2)) (W'.map (·.2)) c p cs ∧ W'.length = W.length ∧ W'[p]? = some rf ∧ ∀ i, i < W.length → i ≠ p → ∀ r, W'[i]? = some r → cb n r.2 c = false, ?_, ?_⟩
      · refine ⟨_, rfl, T, _, rfl, .inl (SqL.of eT6), _, rfl, by rw [refR_len]; omega, by rw [refR_len]; omega, ?_⟩
        rw [refR_len, l1, Int.toNat_natCast]
        refine for_range (n := W.length) (fun i σ' H' => ∃ (v3 : Option V) (W' : RLs), σ' = [some (.ref a), some (.int (n : Nat)), some (.int (p : Nat)), v3, some (.ref F), some (.ref T), some (.int (boP n c : Nat)), some (.int (boK n c : Nat))] ∧ (∀ b o, H b = some o → H' b = some o) ∧ H' l = some (.lst (A.map V.ref)) ∧ BoAt n H' A ∧ H' T = some (.lst (refR W')) ∧ RsAt n H' W' ∧ RI n bs (R.map (·.2)) (W'.map (·.2)) c p cs ∧ W'.length = W.length ∧ W'[p]? = some rf ∧ ∀ i', i' < i → i' ≠ p → ∀ r, W'[i']? = some r → cb n r.2 c = false)
          ⟨v3, W1, rfl, s6, el6, hA6, eT6, hW6, ri1, l1, at1, fun i' h => absurd h (Nat.not_lt_zero _)⟩ ?_ ?_
        rotate_left
        · rintro σ' H7 h
          exact h
        rintro i σ' H7 hi ⟨v3', W', rfl, s7, el7, hA7, eT7, hW7, ri7, l7, at7, z7⟩
        have hr' : W'[i]? = some (W'[i]'(by omega)) := List.getElem?_eq_getElem _
        generalize W'[i]'(by omega) = r at hr'
        have rm := List.mem_of_getElem? hr'
        obtain ⟨et, ft⟩ := hW7 r rm
        obtain ⟨ep, fp⟩ := hW7 rf (List.mem_of_getElem? at7)
        have ei : V.int ((0 : Int) + (i : Nat)) = V.int ((i : Nat) : Int) := by rw [Int.zero_add]
        have hT : atI (refR W') ((i : Nat) : Int) = some (.ref r.1) := atI_nat (j := i) (by unfold refR; rw [List.getElem?_map, hr']; rfl)
        have hP : atI (refR W') ((p : Nat) : Int) = some (.ref rf.1) := atI_nat (j := p) (by unfold refR; rw [List.getElem?_map, at7]; rfl)
        have keep : (i = p ∨ cb n r.2 c = false) → ∀ i', i' < i + 1 → i' ≠ p → ∀ r, W'[i']? = some r → cb n r.2 c = false := fun h i' h1 h2 r2 h3 => by
          by_cases e : i' = i
          · subst e
            rw [hr'] at h3
            obtain rfl := Option.some.inj h3
            exact h.resolve_left h2
          · exact z7 i' (by omega) h2 r2 h3
        by_cases ip : i = p
        · refine ⟨_, rfl, _, rfl, rfl, false, ?_, iteF (iteF ⟨_, W', rfl, s7, el7, hA7, eT7, hW7, ri7, l7, at7, keep (.inl ip)⟩)⟩
          rw [ei, ip]
          exact congrArg V.bl (by rw [decide_eq_true rfl]; rfl)
        · refine ⟨_, rfl, _, rfl, rfl, true, ?_, iteT ?_⟩
          · rw [ei]
            exact congrArg V.bl (by rw [decide_eq_false fun z => ip (by have := V.int.inj z; omega)]; rfl)
          refine ⟨_, rfl, _, rfl, T, refR W', _, _, rfl, ei, SqL.of eT7, hT, _, rfl, r.1, _, _, _, rfl, rfl, sq et, bitV cl, _, rfl, _, _, rfl, rfl, by omega, .inl ⟨_, rfl, _, _, rfl, rfl, by show (0 : Int) < 2; decide, rfl, cb n r.2 c, ?_, ?_⟩⟩
          · exact congrArg V.bl ((decide_eq_decide.mpr ⟨fun e => V.int.inj e, fun e => congrArg V.int e⟩).trans (bitB (t := r.2) cl))
          cases hb : cb n r.2 c with
          | false => exact iteF ⟨_, W', rfl, s7, el7, hA7, eT7, hW7, ri7, l7, at7, keep (.inr hb)⟩
          | true =>
            refine iteT ⟨_, rfl, _, rfl, T, refR W', _, _, rfl, ei, SqL.of eT7, hT, _, rfl, _, rfl, T, refR W', _, _, rfl, rfl, SqL.of eT7, hP, r.1, rf.1, r.2, rf.2, rfl, et, ep, up60 ft, up60 fp, fun H8 x s8 nx ex8 => ?_⟩
            have eT8 := s8 _ _ eT7
            refine ⟨_, rfl, _, rfl, T, refR W', _, i, rfl, ei, eT8, ixN_k' (by rw [refR_len]; omega), ?_⟩
            have r1 : refR (W'.set i (x, lpr r.2 rf.2)) = (refR W').set i (.ref x) := by unfold refR; rw [List.map_set]
            have m1 : (W'.set i (x, lpr r.2 rf.2)).map (·.2) = (W'.map (·.2)).set i (lpr r.2 rf.2) := by rw [List.map_set]
            refine ⟨_, W'.set i (x, lpr r.2 rf.2), rfl, fun b o e => ?_, ?_, fun c a h => ?_, ?_, ?_, ?_, ?_, ?_, ?_⟩
            · have bT : b ≠ T := fun z => by rw [z, nT] at e; cases e
              rw [upd_ne bT]
              exact s8 _ _ (s7 _ _ e)
            · rw [upd_ne lT]
              exact s8 _ _ el7
            · have := s8 _ _ (hA7 c a h)
              rw [upd_ne (ne_of this eT8 fun z => nomatch z)]
              exact this
            · rw [upd_same, r1]
            · refine RsAt.put eT8 fun q hq => ?_
              rcases List.mem_or_eq_of_mem_set hq with k | k
              · exact (hW7.same s8) q k
              · rw [k]; exact ⟨ex8, lpr_fit ft fp⟩
            · rw [m1]
              exact ri7.mul C ip (by rw [List.getElem?_map, hr']; rfl) (by rw [List.getElem?_map, at7]; rfl)
            · rw [List.length_set]; exact l7
            · rw [List.getElem?_set_ne ip]; exact at7
            · intro i' h1 h2 r2 h3
              by_cases e : i' = i
              · subst e
                rw [List.getElem?_set_self (by omega)] at h3
                rw [← Option.some.inj h3]
                show cb n (lpr r.2 rf.2) c = false
                rw [cb_lpr, hb, hbf]
                rfl
              · rw [List.getElem?_set_ne (Ne.symm e)] at h3
                exact z7 i' (by omega) h2 r2 h3
      rintro _ H7 ⟨v3', W', rfl, s7, el7, hA7, eT7, hW7, ri7, l7, at7, z7⟩
      refine ⟨_, rfl, _, _, rfl, rfl, p + 1, v3', some (.ref F), some (.int (boP n c : Nat)), some (.int (boK n c : Nat)), W', cs ++ [c], ?_, s7, el7, hA7, eT7, hW7, ri7.next (b := rf.2) (by rw [List.getElem?_map, at7]; rfl) hbf fun j r hj hr => ?_⟩
      · rw [show ((p + 1 : Nat) : Int) = (p : Int) + 1 by push_cast; rfl]
        rfl
      · rw [List.getElem?_map] at hr
        obtain ⟨r', hr', rfl⟩ := Option.map_eq_some_iff.mp hr
        exact z7 j (by have := (List.getElem?_eq_some_iff.mp hr').1; omega) hj r' hr'
    rintro _ H2 ⟨p, v3, v4, v6, v7, W, cs, rfl, s2, eT2, hW, ri⟩
    have lW : W.length = R.length := by
      have := ri.len
      rwa [List.length_map, List.length_map] at this
    refine ⟨_, rfl, _, rfl, p, rfl, T, refR W, rfl, SqL.of eT2, fun l nl => ?_⟩
    have ec : cutV (refR W) none (some (p : Nat)) = refR (W.take p) := (cutV_to (refR W) p).trans (by unfold refR; rw [List.map_take])
    rw [ec]
    have sl := same_new (o := .lst (refR (W.take p))) nl
    obtain ⟨f1, f2, f3, f4⟩ := ri.fin
    have em : (W.map (·.2)).take p = (W.take p).map (·.2) := by rw [List.map_take]
    rw [em] at f1 f2 f3 f4
    exact q _ l (W.take p) (s2.trans sl) upd_same (fun r hr => ((hW.same sl) r (List.mem_of_mem_take hr))) f1 f2 f3 fun r hr => (f4 r.2 (List.mem_map_of_mem hr)).1
end
end KQ
namespace KQ
open PySem PySem.Spec PyProof.Rows L2
theorem lat_box {a b B : Int} (h1 : -B < b) (h2 : b < B) : -(a.natAbs * B) ≤ a * b ∧ a * b ≤ a.natAbs * B := by
  have hb : 0 ≤ B := by omega
  rcases Int.natAbs_eq a with e | e
  · have p := Int.mul_le_mul_of_nonneg_left (Int.le_of_lt h1) (Int.natCast_nonneg a.natAbs)
    have q := Int.mul_le_mul_of_nonneg_left (Int.le_of_lt h2) (Int.natCast_nonneg a.natAbs)
    rw [Int.mul_neg] at p
    rw [← e] at p q ⊢
    exact ⟨p, q⟩
  · have p := Int.mul_le_mul_of_nonneg_left (Int.le_of_lt h1) (Int.natCast_nonneg a.natAbs)
    have q := Int.mul_le_mul_of_nonneg_left (Int.le_of_lt h2) (Int.natCast_nonneg a.natAbs)
    rw [Int.mul_neg] at p
    have r : a * b = -((a.natAbs : Int) * b) := by rw [← Int.neg_mul, ← e]
    omega
theorem lat_zero {N c t0 t1 t2 t3 T0 T1 T2 T3 : Int} (h : N * c = t0 + t1 + t2 + t3) (b0 : -T0 ≤ t0 ∧ t0 ≤ T0) (b1 : -T1 ≤ t1 ∧ t1 ≤ T1) (b2 : -T2 ≤ t2 ∧ t2 ≤ T2) (b3 : -T3 ≤ t3 ∧ t3 ≤ T3) (hN : T0 + T1 + T2 + T3 < N) : c = 0 := by
  have n0 : 0 ≤ N := by omega
  rcases Int.lt_trichotomy c 0 with k | k | k
  · have := Int.mul_le_mul_of_nonneg_left (show c ≤ -1 by omega) n0
    rw [Int.mul_neg, Int.mul_one] at this
    omega
  · exact k
  · have := Int.mul_le_mul_of_nonneg_left (show 1 ≤ c by omega) n0
    rw [Int.mul_one] at this
    omega
theorem lat_z0 {c d m v L : Int} (h : 340282366920938463463374607431768211456 * c = (-3115773194620826030451839729664) * d + (1735687365729900131474204524544) * m + (519504991129807498040573952) * v + (3128386850788520937081798656) * L) (d1 : -8388608 < d) (d2 : d < 8388608) (m1 : -8388608 < m) (m2 : m < 8388608) (v1 : -2147483648 < v) (v2 : v < 2147483648) (l1 : -8589934592 < L) (l2 : L < 8589934592) : c = 0 :=
  lat_zero h (lat_box d1 d2) (lat_box m1 m2) (lat_box v1 v2) (lat_box l1 l2) (by decide)
theorem lat_z1 {c d m v L : Int} (h : 340282366920938463463374607431768211456 * c = (-237894001271657116325013094400) * d + (-1393310907666712713776838213632) * m + (7410806253579448376457428992) * v + (850881268652257755535507456) * L) (d1 : -8388608 < d) (d2 : d < 8388608) (m1 : -8388608 < m) (m2 : m < 8388608) (v1 : -2147483648 < v) (v2 : v < 2147483648) (l1 : -8589934592 < L) (l2 : L < 8589934592) : c = 0 :=
  lat_zero h (lat_box d1 d2) (lat_box m1 m2) (lat_box v1 v2) (lat_box l1 l2) (by decide)
theorem lat_z2 {c d m v L : Int} (h : 340282366920938463463374607431768211456 * c = (-760596810417316592546419310592) * d + (274172321328727353179280244736) * m + (1101636586156138555269709824) * v + (-831474150188582737243275264) * L) (d1 : -8388608 < d) (d2 : d < 8388608) (m1 : -8388608 < m) (m2 : m < 8388608) (v1 : -2147483648 < v) (v2 : v < 2147483648) (l1 : -8589934592 < L) (l2 : L < 8589934592) : c = 0 :=
  lat_zero h (lat_box d1 d2) (lat_box m1 m2) (lat_box v1 v2) (lat_box l1 l2) (by decide)
theorem lat_z3 {c d m v L : Int} (h : 340282366920938463463374607431768211456 * c = (-455348763513569272110212186112) * d + (-496178511989831295384747507712) * m + (-1170147664518687314004672512) * v + (-153094620369079912697430016) * L) (d1 : -8388608 < d) (d2 : d < 8388608) (m1 : -8388608 < m) (m2 : m < 8388608) (v1 : -2147483648 < v) (v2 : v < 2147483648) (l1 : -8589934592 < L) (l2 : L < 8589934592) : c = 0 :=
  lat_zero h (lat_box d1 d2) (lat_box m1 m2) (lat_box v1 v2) (lat_box l1 l2) (by decide)
theorem lat_i0 {d m v L ka kb : Int} (E1 : 18446744073709551616 * ka = 8589934592 * v + L + (-14029467366897019727) * d) (E2 : 18446744073709551616 * kb = 2147483648 * L + v + (-10856659086753211129) * m) : 340282366920938463463374607431768211456 * ((2379260050334336519208837383) * d + (-857367593845710476) * m + (-1456768648106624650) * (v + kb + (-2147483648) * ka) + (169590191) * ka) = (-3115773194620826030451839729664) * d + (1735687365729900131474204524544) * m + (519504991129807498040573952) * v + (3128386850788520937081798656) * L := by
  have e : 340282366920938463463374607431768211456 * ((2379260050334336519208837383) * d + (-857367593845710476) * m + (-1456768648106624650) * (v + kb + (-2147483648) * ka) + (169590191) * ka) = (809620241448199216731282834723207113232674315997757786007061659648) * d + (-291747074155128194223825453133414171007379577040122413056) * m + (-495712683633937936584854265724227834988434915915621990400) * v + (-26872638426226753482825390310712934400) * (18446744073709551616 * kb) + (57708551598938407447622961382262186783178489856) * (18446744073709551616 * ka) := by omega
  rw [e, E1, E2]
  clear e E1 E2
  omega
theorem lat_i1 {d m v L ka kb : Int} (E1 : 18446744073709551616 * ka = 8589934592 * v + L + (-14029467366897019727) * d) (E2 : 18446744073709551616 * kb = 2147483648 * L + v + (-10856659086753211129) * m) : 340282366920938463463374607431768211456 * ((647128345894407387066944437) * d + (-233193035267783262) * m + (-396222466504912060) * (v + kb + (-2147483648) * ka) + (46126366) * ka) = (-237894001271657116325013094400) * d + (-1393310907666712713776838213632) * m + (7410806253579448376457428992) * v + (850881268652257755535507456) * L := by
  have e : 340282366920938463463374607431768211456 * ((647128345894407387066944437) * d + (-233193035267783262) * m + (-396222466504912060) * (v + kb + (-2147483648) * ka) + (46126366) * ka) = (220206365242580716370608395990966364886530590332640164302418870272) * d + (-79351477990399167558430733896437854551994743051593449472) * m + (-134827518729543735891436084358924335073571167584764559360) * v + (-7309014435870067859595286604110888960) * (18446744073709551616 * kb) + (15695988984026915381982119148853841375879233536) * (18446744073709551616 * ka) := by omega
  rw [e, E1, E2]
  clear e E1 E2
  omega
theorem lat_i2 {d m v L ka kb : Int} (E1 : 18446744073709551616 * ka = 8589934592 * v + L + (-14029467366897019727) * d) (E2 : 18446744073709551616 * kb = 2147483648 * L + v + (-10856659086753211129) * m) : 340282366920938463463374607431768211456 * ((-632368477151132929876903437) * d + (227874308906567939) * m + (387185323199643807) * (v + kb + (-2147483648) * ka) + (-45074304) * ka) = (-760596810417316592546419310592) * d + (274172321328727353179280244736) * m + (1101636586156138555269709824) * v + (-831474150188582737243275264) * L := by
  have e : 340282366920938463463374607431768211456 * ((-632368477151132929876903437) * d + (227874308906567939) * m + (387185323199643807) * (v + kb + (-2147483648) * ka) + (-45074304) * ka) = (-215183842171176906649263264297545479817365086833879922237109174272) * d + (77541609195200027129856730781104158246285863033382109184) * m + (131752338215423341626257418907025887108532358764656852992) * v + (7142308566160346764256195464881242112) * (18446744073709551616 * kb) + (-15337990854799670823081364793712808434692259840) * (18446744073709551616 * ka) := by omega
  rw [e, E1, E2]
  clear e E1 E2
  omega
theorem lat_i3 {d m v L ka kb : Int} (E1 : 18446744073709551616 * ka = 8589934592 * v + L + (-14029467366897019727) * d) (E2 : 18446744073709551616 * kb = 2147483648 * L + v + (-10856659086753211129) * m) : 340282366920938463463374607431768211456 * ((-116434421707268643980858684) * d + (41957204285403713) * m + (71290237937521560) * (v + kb + (-2147483648) * ka) + (-8299276) * ka) = (-455348763513569272110212186112) * d + (-496178511989831295384747507712) * m + (-1170147664518687314004672512) * v + (-153094620369079912697430016) * L := by
  have e : 340282366920938463463374607431768211456 * ((-116434421707268643980858684) * d + (41957204285403713) * m + (71290237937521560) * (v + kb + (-2147483648) * ka) + (-8299276) * ka) = (-39620580609620070992756827069143100823677044627562961889765883904) * d + (14277296783622517970643569849396567399718570728911536128) * m + (24258810903736718798930441513778681947583282234638991360) * v + (1315072774187319684773306809932840960) * (18446744073709551616 * kb) + (-2824097278497265512152285581586899852482052096) * (18446744073709551616 * ka) := by omega
  rw [e, E1, E2]
  clear e E1 E2
  omega
theorem lat {d m v L ka kb : Int} (E1 : 18446744073709551616 * ka = 8589934592 * v + L + (-14029467366897019727) * d) (E2 : 18446744073709551616 * kb = 2147483648 * L + v + (-10856659086753211129) * m)
    (d1 : -8388608 < d) (d2 : d < 8388608) (m1 : -8388608 < m) (m2 : m < 8388608) (v1 : -2147483648 < v) (v2 : v < 2147483648) (l1 : -8589934592 < L) (l2 : L < 8589934592) : d = 0 := by
  have z0 := lat_z0 (lat_i0 E1 E2) d1 d2 m1 m2 v1 v2 l1 l2
  have z1 := lat_z1 (lat_i1 E1 E2) d1 d2 m1 m2 v1 v2 l1 l2
  have z2 := lat_z2 (lat_i2 E1 E2) d1 d2 m1 m2 v1 v2 l1 l2
  have z3 := lat_z3 (lat_i3 E1 E2) d1 d2 m1 m2 v1 v2 l1 l2
  clear d1 d2 m1 m2 v1 v2 l1 l2 E1 E2
  have e : d = (-44486518) * ((2379260050334336519208837383) * d + (-857367593845710476) * m + (-1456768648106624650) * (v + kb + (-2147483648) * ka) + (169590191) * ka) + (-8972849) * ((647128345894407387066944437) * d + (-233193035267783262) * m + (-396222466504912060) * (v + kb + (-2147483648) * ka) + (46126366) * ka) + (-138459960) * ((-632368477151132929876903437) * d + (227874308906567939) * m + (387185323199643807) * (v + kb + (-2147483648) * ka) + (-45074304) * ka) + (-206930782) * ((-116434421707268643980858684) * d + (41957204285403713) * m + (71290237937521560) * (v + kb + (-2147483648) * ka) + (-8299276) * ka) := by
    clear z0 z1 z2 z3
    omega
  rw [z0, z1, z2, z3] at e
  exact e
end KQ
namespace KQ
open PySem PySem.Spec PyProof.Rows L2
def rotN (a : Nat) : Nat := a * 2147483648 % 18446744073709551616 + a / 8589934592
theorem rot_split {a : Nat} (h : a < 18446744073709551616) : rotN a = a % 8589934592 * 2147483648 + a / 8589934592 := by
  unfold rotN
  omega
theorem inv_p1 {r X k : Int} (h : 11400714785074694791 * r = X + 18446744073709551616 * k) : ∃ q : Int, r = 614540362697595703 * X + 18446744073709551616 * q := by
  refine ⟨614540362697595703 * k + (-379806830464837242) * r, ?_⟩
  obtain rfl : X = 11400714785074694791 * r + (-18446744073709551616) * k := by omega
  omega
def stN (a : Nat) : Nat := rotN a * 11400714785074694791 % 18446744073709551616
theorem st_aux {ra rb A B w : Nat} (h1 : 18446744073709551616 * A + w = ra * 11400714785074694791) (h2 : 18446744073709551616 * B + w = rb * 11400714785074694791) : (11400714785074694791 : Int) * ((ra : Int) - rb) = 0 + 18446744073709551616 * ((A : Int) - B) := by
  have e1 : ((ra * 11400714785074694791 : Nat) : Int) = ((18446744073709551616 * A + w : Nat) : Int) := by rw [h1]
  have e2 : ((rb * 11400714785074694791 : Nat) : Int) = ((18446744073709551616 * B + w : Nat) : Int) := by rw [h2]
  clear h1 h2
  have e : (11400714785074694791 : Int) * ((ra : Int) - rb) = ((ra * 11400714785074694791 : Nat) : Int) - ((rb * 11400714785074694791 : Nat) : Int) := by
    clear e1 e2
    omega
  rw [e, e1, e2]
  clear e e1 e2
  omega
theorem rot_lt {a : Nat} (h : a < 18446744073709551616) : rotN a < 18446744073709551616 := by
  rw [rot_split h]
  omega
theorem near_eq {ra rb : Nat} {q c : Int} (la : ra < 18446744073709551616) (lb : rb < 18446744073709551616) (r : (ra : Int) - rb = c * 0 + 18446744073709551616 * q) : ra = rb := by omega
theorem rot_inj {a b : Nat} (ha : a < 18446744073709551616) (hb : b < 18446744073709551616) (h : rotN a = rotN b) : a = b := by
  rw [rot_split ha, rot_split hb] at h
  omega
theorem st_inj {a b : Nat} (ha : a < 18446744073709551616) (hb : b < 18446744073709551616) (h : stN a = stN b) : a = b := by
  have h1 := Nat.div_add_mod (rotN a * 11400714785074694791) 18446744073709551616
  have h2 := Nat.div_add_mod (rotN b * 11400714785074694791) 18446744073709551616
  have e : rotN a * 11400714785074694791 % 18446744073709551616 = rotN b * 11400714785074694791 % 18446744073709551616 := h
  rw [e] at h1
  obtain ⟨q, r⟩ := inv_p1 (st_aux h1 h2)
  exact rot_inj ha hb (near_eq (rot_lt ha) (rot_lt hb) r)
def a1N (x : Nat) : Nat := (2870177450012600261 + x * 14029467366897019727) % 18446744073709551616
def a2N (x z : Nat) : Nat := (stN (a1N x) + z * 14029467366897019727) % 18446744073709551616
def accN (x z : Nat) : Nat := (stN (a2N x z) + 2870177450013471924) % 18446744073709551616
theorem a1_lt (x : Nat) : a1N x < 18446744073709551616 := Nat.mod_lt _ (by decide)
theorem a2_lt (x z : Nat) : a2N x z < 18446744073709551616 := Nat.mod_lt _ (by decide)
theorem st_lt (x : Nat) : stN x < 18446744073709551616 := Nat.mod_lt _ (by decide)
theorem acc_lt (x z : Nat) : accN x z < 18446744073709551616 := Nat.mod_lt _ (by decide)
/-- the two relations behind the lattice, of one pair -/
theorem one_aux {x A a : Nat} (h1 : 18446744073709551616 * A + a = 2870177450012600261 + x * 14029467366897019727) : 18446744073709551616 * (-(A : Int)) = 8589934592 * ((a / 8589934592 : Nat) : Int) + ((a % 8589934592 : Nat) : Int) + (-14029467366897019727) * x + (-2870177450012600261) := by omega
/-- the two relations behind the lattice, of one pair -/
theorem one_rel (x : Nat) : ∃ ka : Int, 18446744073709551616 * ka = 8589934592 * ((a1N x / 8589934592 : Nat) : Int) + ((a1N x % 8589934592 : Nat) : Int) + (-14029467366897019727) * x + (-2870177450012600261) :=
  ⟨_, one_aux (Nat.div_add_mod (2870177450012600261 + x * 14029467366897019727) 18446744073709551616)⟩
theorem two_aux {ra A b z B w : Nat} (h1 : 18446744073709551616 * A + b = ra * 11400714785074694791) (h2 : 18446744073709551616 * B + w = b + z * 14029467366897019727) : 11400714785074694791 * (ra : Int) = ((w : Int) + (-14029467366897019727) * z) + 18446744073709551616 * ((A : Int) + B) := by omega
theorem two_rel (x z : Nat) : ∃ k : Int, 11400714785074694791 * ((rotN (a1N x) : Nat) : Int) = (((a2N x z : Nat) : Int) + (-14029467366897019727) * z) + 18446744073709551616 * k :=
  ⟨_, two_aux (Nat.div_add_mod (rotN (a1N x) * 11400714785074694791) 18446744073709551616) (Nat.div_add_mod (stN (a1N x) + z * 14029467366897019727) 18446744073709551616)⟩
theorem dif_aux {rx ry w z u c d : Int} (h1 : 11400714785074694791 * rx = (w + (-14029467366897019727) * z) + 18446744073709551616 * c) (h2 : 11400714785074694791 * ry = (w + (-14029467366897019727) * u) + 18446744073709551616 * d) : 11400714785074694791 * (rx - ry) = 14029467366897019727 * (u - z) + 18446744073709551616 * (c - d) := by
  rw [Int.mul_sub, h1, h2]
  clear h1 h2
  omega
theorem fin_aux {xh xl yh yl : Nat} {u z q : Int} (r : ((xl * 2147483648 + xh : Nat) : Int) - ((yl * 2147483648 + yh : Nat) : Int) = 614540362697595703 * (14029467366897019727 * (u - z)) + 18446744073709551616 * q) : 18446744073709551616 * (467381882117324797 * (u - z) + q) = 2147483648 * ((xl : Int) - yl) + ((xh : Int) - yh) + (-10856659086753211129) * (u - z) := by omega
theorem lin_aux {xh xl yh yl x y ka kb : Int} (h1 : 18446744073709551616 * ka = 8589934592 * xh + xl + (-14029467366897019727) * x + (-2870177450012600261)) (h2 : 18446744073709551616 * kb = 8589934592 * yh + yl + (-14029467366897019727) * y + (-2870177450012600261)) : 18446744073709551616 * (ka - kb) = 8589934592 * (xh - yh) + (xl - yl) + (-14029467366897019727) * (x - y) := by omega
theorem box_aux {a b B : Nat} (ha : a < B) (hb : b < B) : -(B : Int) < (a : Int) - b ∧ (a : Int) - b < B := by omega
theorem hi_lt {a : Nat} (h : a < 18446744073709551616) : a / 8589934592 < 2147483648 := by omega
theorem mul_aux {d c : Int} (h : 14029467366897019727 * d = 18446744073709551616 * c) : ∃ q : Int, d = 18446744073709551616 * q := by
  refine ⟨839798700976720815 * c + (-638699622168397319) * d, ?_⟩
  have e : d = 839798700976720815 * (14029467366897019727 * d) + (-11781928470115413001220516028826517504) * d := by
    clear h
    omega
  have f : 839798700976720815 * (18446744073709551616 * c) + (-11781928470115413001220516028826517504) * d = 18446744073709551616 * (839798700976720815 * c + (-638699622168397319) * d) := by
    clear h e
    omega
  rw [h, f] at e
  exact e
theorem small_aux {z u : Nat} {q : Int} (hz : z < 8388608) (hu : u < 8388608) (h : (u : Int) - z = 18446744073709551616 * q) : z = u := by omega
theorem same_aux {rx w z u c d : Int} (h1 : 11400714785074694791 * rx = (w + (-14029467366897019727) * z) + 18446744073709551616 * c) (h2 : 11400714785074694791 * rx = (w + (-14029467366897019727) * u) + 18446744073709551616 * d) : 14029467366897019727 * (u - z) = 18446744073709551616 * (d - c) := by
  have e : 14029467366897019727 * (u - z) = ((w + (-14029467366897019727) * z) + 18446744073709551616 * c) - ((w + (-14029467366897019727) * u) + 18446744073709551616 * d) + 18446744073709551616 * (d - c) := by
    clear h1 h2
    omega
  rw [e, ← h1, ← h2]
  clear e h1 h2
  omega
theorem a2_inj {x z y u : Nat} (hx : x < 8388608) (hz : z < 8388608) (hy : y < 8388608) (hu : u < 8388608) (h : a2N x z = a2N y u) : x = y ∧ z = u := by
  obtain ⟨ka, ea⟩ := one_rel x
  obtain ⟨kb, eb⟩ := one_rel y
  obtain ⟨kc, ec⟩ := two_rel x z
  obtain ⟨kd, ed⟩ := two_rel y u
  rw [← h] at ed
  obtain ⟨q, r⟩ := inv_p1 (dif_aux ec ed)
  rw [rot_split (a1_lt x), rot_split (a1_lt y)] at r
  have bh := box_aux (hi_lt (a1_lt x)) (hi_lt (a1_lt y))
  have bl := box_aux (Nat.mod_lt (a1N x) (show 0 < 8589934592 by decide)) (Nat.mod_lt (a1N y) (show 0 < 8589934592 by decide))
  have bx := box_aux hx hy
  have bz := box_aux hu hz
  have d0 := lat (lin_aux ea eb) (fin_aux r) bx.1 bx.2 bz.1 bz.2 bh.1 bh.2 bl.1 bl.2
  have exy : x = y := by
    clear ea eb ec ed h r bh bl bx bz
    omega
  subst exy
  obtain ⟨q2, r2⟩ := mul_aux (same_aux ec ed)
  exact ⟨rfl, small_aux hz hu r2⟩
theorem no_int {N c f t0 t1 t2 t3 T0 T1 T2 T3 : Int} (h : N * c = t0 + t1 + t2 + t3 + f) (b0 : -T0 ≤ t0 ∧ t0 ≤ T0) (b1 : -T1 ≤ t1 ∧ t1 ≤ T1) (b2 : -T2 ≤ t2 ∧ t2 ≤ T2) (b3 : -T3 ≤ t3 ∧ t3 ≤ T3) (h1 : T0 + T1 + T2 + T3 < f) (h2 : T0 + T1 + T2 + T3 + f < N) : False := by
  have n0 : 0 ≤ N := by omega
  by_cases k : c ≤ 0
  · have := Int.mul_le_mul_of_nonneg_left k n0
    rw [Int.mul_zero] at this
    omega
  · have := Int.mul_le_mul_of_nonneg_left (show 1 ≤ c by omega) n0
    rw [Int.mul_one] at this
    omega
theorem last_e1 {ah al x ka : Int} (h : 18446744073709551616 * ka = 8589934592 * ah + al + (-14029467366897019727) * x + (-2870177450012600261)) : 18446744073709551616 * ka = 8589934592 * (ah + (6163659138594249029155978516)) + (al + (-52945428847907661990679533868209825733)) + (-14029467366897019727) * x := by
  rw [h]
  clear h
  omega
theorem last_e2 {ah al : Nat} {z q : Int} (r : ((al * 2147483648 + ah : Nat) : Int) = 614540362697595703 * ((9148689060682678900 : Nat) + (-14029467366897019727) * z) + 18446744073709551616 * q) : 18446744073709551616 * ((-467381882117324797) * z + q + (-6163659138289466858866516998)) = 2147483648 * ((al : Int) + (-52945428847907661990679533868209825733)) + ((ah : Int) + (6163659138594249029155978516)) + (-10856659086753211129) * (-z) := by omega
theorem last_no {x z ah al : Int} {c : Int} (h : 340282366920938463463374607431768211456 * c = (-455348763513569272110212186112) * x + (-496178511989831295384747507712) * (-z) + (-1170147664518687314004672512) * (ah + (6163659138594249029155978516)) + (-153094620369079912697430016) * (al + (-52945428847907661990679533868209825733))) (x1 : -8388608 < x) (x2 : x < 8388608) (z1 : -8388608 < -z) (z2 : -z < 8388608) (a1 : -2147483648 < ah) (a2 : ah < 2147483648) (l1 : -8589934592 < al) (l2 : al < 8589934592) : False := by
  refine no_int (N := 340282366920938463463374607431768211456) (c := c + (-23820394797064054841592411)) (f := 302113082229063598856294700768422789120) ?_ (lat_box (a := -455348763513569272110212186112) x1 x2) (lat_box (a := -496178511989831295384747507712) z1 z2) (lat_box (a := -1170147664518687314004672512) a1 a2) (lat_box (a := -153094620369079912697430016) l1 l2) (by decide) (by decide)
  rw [Int.mul_add, h]
  clear h x1 x2 z1 z2 a1 a2 l1 l2
  omega
theorem acc_aux {t : Nat} (ht : t < 18446744073709551616) (h : (t + 2870177450013471924) % 18446744073709551616 = 18446744073709551615) : t = 15576566623696079691 := by omega
theorem no_last {x z : Nat} (hx : x < 8388608) (hz : z < 8388608) : accN x z ≠ 18446744073709551615 := fun h => by
  have e : a2N x z = 9148689060682678900 := st_inj (a2_lt x z) (by decide) ((acc_aux (st_lt _) h).trans (by decide +kernel))
  obtain ⟨ka, ea⟩ := one_rel x
  obtain ⟨kc, ec⟩ := two_rel x z
  rw [e] at ec
  obtain ⟨q, r⟩ := inv_p1 ec
  rw [rot_split (a1_lt x)] at r
  have bh := hi_lt (a1_lt x)
  have bl := Nat.mod_lt (a1N x) (show 0 < 8589934592 by decide)
  refine last_no (lat_i3 (last_e1 ea) (last_e2 r)) ?_ ?_ ?_ ?_ ?_ ?_ ?_ ?_ <;> (clear ea ec r e h; omega)
theorem accs_aux {p q : Nat} (hp : p < 18446744073709551616) (hq : q < 18446744073709551616) (h : (p + 2870177450013471924) % 18446744073709551616 = (q + 2870177450013471924) % 18446744073709551616) : p = q := by omega
theorem acc_inj {x z y u : Nat} (hx : x < 8388608) (hz : z < 8388608) (hy : y < 8388608) (hu : u < 8388608) (h : accN x z = accN y u) : x = y ∧ z = u := by
  unfold accN at h
  have l1 := st_lt (a2N x z)
  have l2 := st_lt (a2N y u)
  have e := accs_aux l1 l2 h
  exact a2_inj hx hz hy hu (st_inj (a2_lt x z) (a2_lt y u) e)
def finN (a : Nat) : Int := if a == 18446744073709551615 then 1546275796 else if a < 9223372036854775808 then (a : Int) else (a : Int) - 18446744073709551616
def stepF (acc : Nat) (h : Int) : Nat := ((((acc + (h % ((2 ^ 64 : Nat) : Int)).toNat * 14029467366897019727) % 2 ^ 64 * 2 ^ 31) % 2 ^ 64 + (acc + (h % ((2 ^ 64 : Nat) : Int)).toNat * 14029467366897019727) % 2 ^ 64 / 2 ^ 33) * 11400714785074694791) % 2 ^ 64
def finF (a : Nat) : Int := if a == 2 ^ 64 - 1 then 1546275796 else if a < 2 ^ 63 then (a : Int) else (a : Int) - ((2 ^ 64 : Nat) : Int)
theorem tho_eq (l : List Int) : Builtin.Tuple.tupleHashOf l = finF ((l.foldl stepF 2870177450012600261 + (l.length ^^^ ((2870177450012600261 : Nat) ^^^ 3527539))) % 2 ^ 64) := rfl
theorem stepF_eq {acc x : Nat} (hx : x < 8388608) : stepF acc (x : Int) = stN ((acc + x * 14029467366897019727) % 18446744073709551616) := by
  have ex : (((x : Nat) : Int) % ((2 ^ 64 : Nat) : Int)).toNat = x := by
    rw [show ((2 ^ 64 : Nat) : Int) = 18446744073709551616 from rfl]
    omega
  have p64 : (2 : Nat) ^ 64 = 18446744073709551616 := by decide
  have p31 : (2 : Nat) ^ 31 = 2147483648 := by decide
  have p33 : (2 : Nat) ^ 33 = 8589934592 := by decide
  unfold stepF stN rotN
  rw [ex, p64, p31, p33]
theorem finF_eq (a : Nat) : finF a = finN a := by
  have p63 : (2 : Nat) ^ 63 = 9223372036854775808 := by decide
  have p1 : (2 : Nat) ^ 64 - 1 = 18446744073709551615 := by decide
  have pi : ((2 ^ 64 : Nat) : Int) = 18446744073709551616 := rfl
  unfold finF finN
  rw [p63, p1, pi]
theorem step2 {x z : Nat} (hx : x < 8388608) (hz : z < 8388608) : stepF (stepF 2870177450012600261 x) z = stN (a2N x z) := by
  rw [stepF_eq hz, stepF_eq hx]
  unfold a2N a1N
  exact Eq.refl _
theorem two_len (x z : Int) : [x, z].length = 2 := by rw [List.length_cons, List.length_cons, List.length_nil]
theorem xor_c : ((2 : Nat) ^^^ ((2870177450012600261 : Nat) ^^^ 3527539)) = 2870177450013471924 := by decide
theorem p64 : (2 : Nat) ^ 64 = 18446744073709551616 := by decide
theorem thash {x z : Nat} (hx : x < 8388608) (hz : z < 8388608) : Builtin.Tuple.tupleHashOf [(x : Int), (z : Int)] = finN (accN x z) := by
  refine (tho_eq _).trans ((finF_eq _).trans (congrArg finN ?_))
  unfold accN
  rw [two_len, xor_c, p64, List.foldl_cons, List.foldl_cons, List.foldl_nil, step2 hx hz]
theorem fin_ok {a : Nat} (h : a < 18446744073709551616) (h2 : a ≠ 18446744073709551615) : finN a = (if a < 9223372036854775808 then (a : Int) else (a : Int) - 18446744073709551616) ∧ -9223372036854775808 ≤ finN a ∧ finN a < 9223372036854775808 ∧ finN a ≠ -1 := by
  have e : finN a = (if a < 9223372036854775808 then (a : Int) else (a : Int) - 18446744073709551616) := by
    unfold finN
    rw [if_neg (by simpa using h2)]
  rw [e]
  refine ⟨rfl, ?_⟩
  split <;> omega
theorem red_ok {i : Int} (h1 : -9223372036854775808 ≤ i) (h2 : i < 9223372036854775808) (h3 : i ≠ -1) : reduceHash i = i := by
  unfold reduceHash
  rw [if_pos (by simp; omega), if_neg (by simpa using h3)]
theorem fins_aux {a b : Nat} (ha : a < 18446744073709551616) (hb : b < 18446744073709551616) (h : (if a < 9223372036854775808 then (a : Int) else (a : Int) - 18446744073709551616) = (if b < 9223372036854775808 then (b : Int) else (b : Int) - 18446744073709551616)) : a = b := by
  split at h <;> split at h <;> omega
def tW (x z : Nat) : Int := reduceHash (Builtin.Tuple.tupleHashOf [(x : Int), (z : Int)])
theorem tW_inj {x z y u : Nat} (hx : x < 8388608) (hz : z < 8388608) (hy : y < 8388608) (hu : u < 8388608) (h : tW x z = tW y u) : x = y ∧ z = u := by
  unfold tW at h
  rw [thash hx hz, thash hy hu] at h
  obtain ⟨e1, p1, p2, p3⟩ := fin_ok (acc_lt x z) (no_last hx hz)
  obtain ⟨e2, q1, q2, q3⟩ := fin_ok (acc_lt y u) (no_last hy hu)
  rw [red_ok p1 p2 p3, red_ok q1 q2 q3, e1, e2] at h
  exact acc_inj hx hz hy hu (fins_aux (acc_lt x z) (acc_lt y u) h)
end KQ
namespace KQ
open PySem PySem.Spec PyProof.Rows L2
section
variable {prog : Program} {w : World} {K : Type} [DecidableEq K] {knd : HeapKind prog w K} {A : Around} {E : Value → Shared → Prop} {s : Shared}
theorem call_dictH {o : Addr} {more : List (K × Addr × Value)} {Q : Value → Shared → Prop} (hu : knd.room A.in1.in1) (hoS : (o == sysModules) = false) (ho : s.heap.DictOfH knd o more) (hsz : more.length ≤ sizeLine)
    (hty : ∀ x ∈ more, (s.heap.push { cls := .type "dict", data := .dict #[] }).get? x.2.1 = s.heap.get? x.2.1 ∧ s.TypeIs (.ref x.2.1) "tuple") (hap : (more.map fun x => knd.hash x.1).Nodup) (hpk : ∀ x ∈ more, knd.is (s.heap.push { cls := .type "dict", data := .dict #[] }) x.1 x.2.1)
    (h : ∀ h', h'.DictOfH knd s.heap.objs.size more → Heap.SameBut s.heap.objs.size (s.heap.push { cls := .type "dict", data := .dict #[] }) h' → Q (.ref s.heap.objs.size) { s with heap := h' }) :
    wpAny (model prog w) A (call (.type "dict") [.ref o]) Q E s := by
  refine callType_codes (Q₁ := fun obj s₁ => obj = .ref s.heap.objs.size ∧ s₁ = { s with heap := s.heap.push { cls := .type "dict", data := .dict #[] } }) F.kt_called_dict (F.kt_typeCall_dict_1 _) F.entry_dict_init (kt_code_dict_new _ ⟨rfl, rfl⟩) ?_
  rintro obj s₁ ⟨rfl, rfl⟩
  have hnew : (s.heap.push { cls := .type "dict", data := .dict #[] }).DictOfH knd s.heap.objs.size [] := Heap.DictOfH.new s.heap
  obtain ⟨od, es, ep, hg, hx, hd, he, his, hn⟩ := id ho
  have ho' : (s.heap.push { cls := .type "dict", data := .dict #[] }).DictOfH knd o more := ⟨od, es, ep, Heap.get?_push_of_some _ hg, hx, hd, he, hpk, hn⟩
  have hdo : s.heap.objs.size ≠ o := fun e => absurd (Heap.lt_size hg) (by rw [e]; exact Nat.lt_irrefl _)
  refine ⟨hnew.typeIs, F.args_dict_init_2 _ _, ?_⟩
  unfold Builtin.«dict.__init__»
  refine wpAny_bind ?_
  unfold Builtin.Dict.selfAndRest
  refine wpAny_bind (wpAny_notOrdered_dict hnew.typeIs ?_)
  show wpAny _ _ (pure (s.heap.objs.size, [Value.ref o])) _ _ _
  refine wpAny_pure ?_
  show wpAny _ _ (Builtin.Dict.updateFrom "dict.__init__" s.heap.objs.size (.ref o) [] .none) _ _ _
  unfold Builtin.Dict.updateFrom
  refine wpAny_bind (wpAny_typeOf ho'.typeIs ?_)
  rw [if_neg (by decide)]
  refine wpAny_bind ?_
  unfold Builtin.Dict.merge
  refine wpAny_bind ?_
  unfold Builtin.Dict.readDirectly
  refine wpAny_bind (wpAny_isInstance ho'.typeIs isSubtype_dict_dict ?_)
  simp only [Bool.not_true, Bool.false_eq_true, if_false]
  refine wpAny_bind (wpAny_specialOf ho'.typeIs F.slot_dict_iter.lookup (wpAny_pure ?_))
  simp only [beq_self_eq_true, if_true]
  refine wpAny_bind (wpAny_pure ?_)
  refine wpAny_mergeDict_heap (hsz := by simpa using hsz) hu hdo hoS hnew ho' (.inr ⟨fun x hx => ?_, hap⟩) fun h' hd' _ hs' => ?_
  · obtain ⟨e, o2, h2, c2⟩ := hty x hx
    exact ⟨o2, e.trans h2, c2⟩
  show wpAny _ _ (Builtin.Dict.addKeywords s.heap.objs.size [] >>= _) _ _ _
  rw [storedAllH_nil_of_nodup more hn] at hd'
  exact wpAny_bind (wpAny_pure (wpAny_pure ⟨rfl, h h' hd' hs'⟩))
end
theorem hashInt_at {k : Nat} (h : k < 8388608) : hashInt ((k : Nat) : Int) = (k : Int) := by
  have e : rawHash ((k : Nat) : Int) = (k : Int) := by
    have h1 : (((k : Nat) : Int).natAbs : Int) % ((2 ^ 61 - 1 : Nat) : Int) = (k : Int) := by
      rw [Int.natAbs_natCast]
      omega
    simp only [rawHash]
    rw [h1, if_neg (show ¬ ((k : Nat) : Int) < 0 by omega), if_neg fun e => ?_]
    have := eq_of_beq e
    omega
  unfold hashInt
  rw [e, if_neg fun e => ?_]
  have := eq_of_beq e
  omega
/-- keys that are pairs of numbers below 2^23 -/
def Small (kvs : List (List L2.Key × V)) : Prop := ∀ kv ∈ kvs, ∃ x z : Nat, x < 8388608 ∧ z < 8388608 ∧ kv.1 = [.inl (x : Int), .inl (z : Int)]
theorem hash_small {P : Program} {w : World} {x z : Nat} (hx : x < 8388608) (hz : z < 8388608) : (tupleKind (mixKind P w)).hash [.inl (x : Int), .inl (z : Int)] = tW x z := by
  show reduceHash (Builtin.Tuple.tupleHashOf [hashInt ((x : Nat) : Int), hashInt ((z : Nat) : Int)]) = _
  rw [hashInt_at hx, hashInt_at hz]
  rfl
theorem nodup_hash {P : Program} {w : World} : ∀ {ks : List (List L2.Key)}, ks.Nodup → (∀ k ∈ ks, ∃ x z : Nat, x < 8388608 ∧ z < 8388608 ∧ k = [.inl (x : Int), .inl (z : Int)]) → (ks.map (tupleKind (mixKind P w)).hash).Nodup := by
  intro ks nd h
  refine List.pairwise_map.mpr (List.Pairwise.imp_of_mem (fun {a b} ha hb ne e => ne ?_) nd)
  obtain ⟨x, z, hx, hz, rfl⟩ := h a ha
  obtain ⟨y, u, hy, hu, rfl⟩ := h b hb
  rw [hash_small hx hz, hash_small hy hu] at e
  obtain ⟨rfl, rfl⟩ := tW_inj hx hz hy hu e
  rfl
theorem kt_keys {H : Hp} : ∀ {kvs : List (List L2.Key × V)} {xs : List (List L2.Key × Addr × Value)}, KT H kvs xs → xs.map (·.1) = kvs.map (·.1)
  | [], [], _ => rfl
  | _ :: _, _ :: _, .cons h t => by rw [List.map_cons, List.map_cons, kt_keys t, h.1]
theorem kt_len {H : Hp} {kvs : List (List L2.Key × V)} {xs : List (List L2.Key × Addr × Value)} (r : KT H kvs xs) : xs.length = kvs.length := by
  have := congrArg List.length (kt_keys r)
  rwa [List.length_map, List.length_map] at this
def rDcp : List V → Hp → VK → Prop := fun xs H Q => ∃ d kvs, xs = [V.ref d] ∧ Rd H d (.dT kvs) ∧ Small kvs ∧ ∀ p, H p = none → Q (.ref p) (upd H p (.dT kvs))
theorem call_dictT {X : Cx} (hu : X.A.units + 2 < cLine) : CallR X (.type "dict") rDcp := by
  intro pins s σ H xs us Q I r h
  obtain ⟨d, kvs, rfl, hd, sm, q⟩ := h
  obtain ⟨u, rfl, rx⟩ := r.one
  cases rx
  obtain ⟨z, y, ks, rel, dd⟩ := dt_rd I.hok hd
  obtain ⟨od, es, ep, hg, hx, hdt, he, his, hn⟩ := id dd
  have ek := kt_keys rel
  have sub : (s.heap.push { cls := .type "dict", data := .dict #[] }).get? = (s.heap.push { cls := .type "dict", data := .dict #[] }).get? := rfl
  have kp : ∀ b o, s.heap.get? b = some o → (s.heap.push { cls := .type "dict", data := .dict #[] }).get? b = some o := fun b o e => Heap.get?_push_of_some _ e
  refine call_dictH (knd := tupleKind (mixKind X.prog X.w)) (more := ks) ?_ y dd (by rw [kt_len rel]; exact z) (fun x hx => ?_) ?_ (fun x hx => ?_) fun h' dd' hs => ?_
  · show X.A.units + 2 < cLine
    exact hu
  · obtain ⟨o, items, n, ho, hc, _⟩ := (his x hx : IsTupleKey _ _ _ _)
    exact ⟨(kp _ _ ho).trans ho.symm, o, ho, hc⟩
  · have : (ks.map fun x => (tupleKind (mixKind X.prog X.w)).hash x.1) = (ks.map (·.1)).map (tupleKind (mixKind X.prog X.w)).hash := by rw [List.map_map]; rfl
    rw [this]
    refine nodup_hash hn fun k hk => ?_
    rw [ek] at hk
    obtain ⟨kv, hkv, rfl⟩ := List.mem_map.mp hk
    exact sm kv hkv
  · obtain ⟨o, items, n, ho, hc, r⟩ := (his x hx : IsTupleKey _ _ _ _)
    exact ⟨o, items, n, kp _ _ ho, hc, r⟩
  · have fresh := I.hok.fresh (Nat.le_refl s.heap.objs.size)
    obtain ⟨o2, es2, ep2, g2, x2, t2, e2, _, n2⟩ := dd'
    refine ⟨.ref s.heap.objs.size, upd H s.heap.objs.size (.dT kvs), I.laid (a := s.heap.objs.size) (o := .dT kvs) (t' := s.toks) (fun b q hq => ?_) (Nat.le_refl _) ⟨z, beq_eq_false_iff_ne.mpr (Ne.symm (Nat.ne_of_lt I.big)), ks, Paired.mapP rel fun p q hq => ⟨hq.1, ?_, hq.2.2⟩, o2, es2, ep2, g2, x2, t2, e2, n2⟩, rfl, q _ fresh⟩
    · exact (hs.2 b (Nat.ne_of_lt (Heap.lt_size hq))).trans (kp b q hq)
    · rw [upd_ne (ne_of_none hq.2.1 fresh)]
      exact hq.2.1
end KQ
namespace KQ
open PySem PySem.Spec PyProof.Rows L2
abbrev sStrs : Stmt := topS 62
end KQ
namespace KQ
open PySem PySem.Spec PyProof.Rows L2
theorem scStrs : FnScope ["_law_pen_here", "_law_size", "_law_many", "_law_rows", "_law_lap", "_law_made", "_law_row"] ["_law_pen_here", "_law_size", "_law_many"] (defScope sStrs) := ⟨rfl, rfl, rfl, by decide +kernel, rfl, by decide +kernel, by decide +kernel⟩
theorem bootMin : bootBuiltins "min" = some (.builtin "min") := by decide +kernel
def spStrs : Sp := fun vs H Q _ => ∃ (p c : Addr) (n size many : Nat), vs = [.ref p, .int (size : Nat), .int (many : Nat)] ∧ PenAt H p c n ∧ n + 6000 < 1000000 ∧ 1 ≤ size ∧ size ≤ 25 ∧
  ∀ H' l R n', KB p H H' → PenAt H' p c n' → n' ≤ n + 6000 → H l = none → H' l = some (.lst (refR R)) → RsAt size H' R → (1 ≤ many → 1 ≤ R.length) → R.length ≤ min many size + 3 → Grpd size R → Q (.ref l) H'
section
variable {P : Program} {w : World} {K : PySem.W.Frag} {mg : Str → Option Value} {base : Heap}
theorem ok_strs {f fC fD fP fS fT fG fM fO : Addr} {fd dC dD dP dS dT dG dM dO : FuncData} {k : Nat} (F : Fun K "_law_strings" "_law_strings" sStrs f fd) (FC : Fun K "_law_drawn_code" "_law_drawn_code" sCode fC dC) (bC : Binds K dC ["_law_pen_here", "_law_size", "_law_rank", "_law_gauged"] []) (gC : mg "_law_drawn_code" = some (.ref fC))
    (FD : Fun K "_law_draw" "_law_draw" sDraw fD dD) (bD : Binds K dD ["_law_pen_here", "_law_many"] []) (gD : mg "_law_draw" = some (.ref fD))
    (FP : Fun K "_law_pick" "_law_pick" sPick fP dP) (bP : Binds K dP ["_law_pen_here", "_law_some"] []) (gP : mg "_law_pick" = some (.ref fP)) (FS : Fun K "_law_shuffled" "_law_shuffled" sShuf fS dS) (bS : Binds K dS ["_law_pen_here", "_law_some"] []) (gS : mg "_law_shuffled" = some (.ref fS))
    (FT : Fun K "_law_of_text" "_law_of_text" sOfT fT dT) (bT : Binds K dT ["_law_text_here"] []) (gT : mg "_law_of_text" = some (.ref fT)) (FG : Fun K "_law_gate" "_law_gate" sGate fG dG) (bG : Binds K dG ["_law_string", "_law_kind", "_law_places"] []) (gG : mg "_law_gate" = some (.ref fG))
    (FM : Fun K "_law_product" "_law_product" sProd fM dM) (bM : Binds K dM ["_law_one", "_law_two"] []) (gM : mg "_law_product" = some (.ref fM)) (FO : Fun K "_law_ones" "_law_ones" sOnes fO dO) (bO : Binds K dO ["_law_number"] []) (gO : mg "_law_ones" = some (.ref fO)) (B : Bl mg) :
    FnOk P w K mg base CX0 (k + 4) f fd ["_law_pen_here", "_law_size", "_law_many"] spStrs := by
  have GD : FnOk P w K mg base CX0 (k + 1) fD dD ["_law_pen_here", "_law_many"] spDraw := ok_draw FD B.int B.len
  have GS : FnOk P w K mg base CX0 (k + 2) fS dS ["_law_pen_here", "_law_some"] (spShuf K) := ok_shuf FS FD bD gD B
  have GC : FnOk P w K mg base CX0 (k + 3) fC dC ["_law_pen_here", "_law_size", "_law_rank", "_law_gauged"] (spCode K) := ok_code FC FD bD gD FP bP gP FS bS gS FT bT gT FG bG gG FM bM gM FO bO gO B
  have GM : FnOk P w K mg base CX0 (k + 2) fM dM ["_law_one", "_law_two"] spProd := ok_prod FM FO bO gO B
  refine F.ok scStrs (fun vs H Q E h => ?_) (fun cdv A outer s H vs Q E hr h => ?_)
  · obtain ⟨p, c, n, size, many, rfl, _⟩ := h
    rfl
  · obtain ⟨p, c, n, size, many, rfl, hP, hn, z1, z25, q⟩ := h
    have r2 : Room (k + 2) _ := hr.mono (by omega)
    have r1 : Room (k + 1) _ := hr.mono (by omega)
    have hu := hu_of hr
    refine ⟨_, C8.pss_cut (ps_set (i := 3) scStrs.nd rfl (.inl rfl) (pe_dget hu (pe_call GC hr (by rfl) gC FC.kp bC .nil pass0 (pa_cons (pv 0) (pa_cons (pv 1) (pa_cons (pe_callB (call_min2 rfl) (by rfl) B.min bootMin (pa_cons (pv 2) (pa_cons (pv 1) pa_nil))) (pa_cons pe_int pa_nil))))) pe_str (fun _ _ => rfl)))
      (C8.pss_cut (ps_for PassesOwn.never rfl (pi_range1 (by rfl) B.range (pa_cons (pe_call GD r1 (by rfl) gD FD.kp bD .nil pass0 (pa_cons (pv 0) (pa_cons pe_int pa_nil))) pa_nil)) (pg_name (i := 4) scStrs.nd rfl (.inl rfl))
        (C8.pss_cut (ps_set (i := 5) scStrs.nd rfl (.inl rfl) (pe_tup (pa_cons pe_int (pa_cons pe_int (pa_cons pe_int pa_nil)))))
        (C8.pss_cut (ps_for PassesOwn.never rfl (pi_list (pv 3)) (pg_name (i := 6) scStrs.nd rfl (.inl rfl))
          (pss_one (ps_if (pt_cmpR op_eq (pe_call GD r1 (by rfl) gD FD.kp bD .nil pass0 (pa_cons (pv 0) (pa_cons pe_int pa_nil))) pe_int (nomark _)) (pss_one (ps_set (i := 5) scStrs.nd rfl (.inl rfl) (pe_call GM r2 (by rfl) gM FM.kp bM .nil pass0 (pa_cons (pv 5) (pa_cons (pv 6) pa_nil))))) pss_nil)))
        (pss_one (ps_set (i := 3) scStrs.nd rfl (.inl rfl) (pe_op op_cat (pv 3) (pe_lst (pa_cons (pv 5) pa_nil))))))))
      (pss_one (ps_ret (pe_call GS r2 (by rfl) gS FS.kp bS .nil pass0 (pa_cons (pv 0) (pa_cons (pv 3) pa_nil)))))), ?_⟩
    have up60 : ∀ {t : T3}, Fit size t → Fit 60 t := fun h => ⟨Nat.lt_of_lt_of_le h.1 (Nat.pow_le_pow_right (by decide) (by omega)), Nat.lt_of_lt_of_le h.2.1 (Nat.pow_le_pow_right (by decide) (by omega)), h.2.2⟩
    have vr : ∀ u v w x : V, valV [((.inr "size" : Key), u), (.inr "rows", v), (.inr "gauge", w), (.inr "hidden", x)] (.inr "rows") = some v := fun u v w x => by
      have h1 : ¬ ("size" : Str) = "rows" := by decide +kernel
      simp [valV, List.find?, h1]
    refine ⟨fun σ' H' => ∃ (l : Addr) (R : RLs) (n' : Nat), σ' = [some (.ref p), some (.int (size : Nat)), some (.int (many : Nat)), some (.ref l), none, none, none] ∧ KB p H H' ∧ PenAt H' p c n' ∧ n' ≤ n + 5000 ∧ H' l = some (.lst (refR R)) ∧ RsAt size H' R ∧ R.length = min many size ∧ Grpd size R, ?_, ?_⟩
    · refine ⟨_, rfl, _, rfl, _, rfl, _, rfl, _, _, rfl, ?_⟩
      refine ⟨p, c, n, size, min many size, 0, ?_, hP, by omega, z1, z25, by omega, fun H' d lr lg lh R S L ms n' kb P' ln nd ed elr hR lR _ _ _ cl => ?_⟩
      · show [V.ref p, V.int (size : Nat), V.int _, V.int 0] = _
        congr 3
        first
          | (simp [Int.natCast_min]; done)
          | (split <;> congr 1 <;> omega)
          | (congr 1; omega)
      refine ⟨d, .ref lr, rfl, ?_, lr, R, n', rfl, kb, P', ln, elr, hR, lR, by
        obtain ⟨bs, B, lb, hb⟩ := code_base (Nat.min_le_right _ _) (fun r hr => (hR r hr).2) cl
        exact ⟨bs, B, by omega, hb⟩⟩
      have := DGet.k (k := (.inr "rows" : Key)) ed
      rw [vr] at this
      exact this
    rintro _ H1 ⟨l, R, n1, rfl, k1, P1, ln1, el, hR, lR1, bs, hB, lb, hin⟩
    refine ⟨fun σ' H' => ∃ (v4 v5 v6 : Option V) (l : Addr) (R : RLs) (n' : Nat), σ' = [some (.ref p), some (.int (size : Nat)), some (.int (many : Nat)), some (.ref l), v4, v5, v6] ∧ KB p H H' ∧ PenAt H' p c n' ∧ n' ≤ n + 5200 ∧ H' l = some (.lst (refR R)) ∧ RsAt size H' R ∧ (1 ≤ many → 1 ≤ R.length) ∧ R.length ≤ min many size + 3 ∧ ∀ r ∈ R, InG size bs (phi size r.2), ?_, ?_⟩
    · refine ⟨_, rfl, p, c, n1, 4, rfl, P1, by omega, by decide, by decide, fun r0 H2 hr0 hr1 P2 k2 => ?_⟩
      have kb2 : KB p H H2 := k1.trans (KB.eq k2)
      have el2 := kb_lst P1 (KB.eq k2) el
      have hR2 := kb_rs P1 (KB.eq k2) hR
      obtain ⟨j, hj⟩ : ∃ j : Nat, r0 = (j : Int) := ⟨r0.toNat, by omega⟩
      have hj' : j ≤ 3 := by omega
      refine ⟨r0, rfl, by omega, by omega, ?_⟩
      rw [hj, Int.toNat_natCast]
      refine for_range (lo := 0) (n := j) (fun i σ' H' => ∃ (v4 v5 v6 : Option V) (l : Addr) (R : RLs) (n' : Nat), σ' = [some (.ref p), some (.int (size : Nat)), some (.int (many : Nat)), some (.ref l), v4, v5, v6] ∧ KB p H H' ∧ PenAt H' p c n' ∧ n' ≤ n + 5001 + 30 * i ∧ H' l = some (.lst (refR R)) ∧ RsAt size H' R ∧ (1 ≤ many → 1 ≤ R.length) ∧ R.length ≤ min many size + i ∧ ∀ r ∈ R, InG size bs (phi size r.2))
        ⟨none, none, none, l, R, _, rfl, kb2, P2, by omega, el2, hR2, by omega, by omega, hin⟩ ?_ ?_
      rotate_left
      · rintro _ H3 ⟨v4, v5, v6, l, R, n', rfl, k3, P3, ln3, el3, hR3, l3, l4, i3⟩
        exact ⟨v4, v5, v6, l, R, n', rfl, k3, P3, by omega, el3, hR3, l3, by omega, i3⟩
      rintro i _ H3 hi ⟨v4, v5, v6, l, R, n3, rfl, k3, P3, ln3, el3, hR3, l3, l4, i3⟩
      refine ⟨fun σ' H' => ∃ ma : Addr, σ' = [some (.ref p), some (.int (size : Nat)), some (.int (many : Nat)), some (.ref l), some (.int (0 + (i : Nat))), some (.ref ma), v6] ∧ Same H3 H' ∧ TrAt H' ma (0, 0, 0), ⟨by show 3 ≤ sizeLine; decide, fun t nt => ⟨t, rfl, same_new nt, upd_same⟩⟩, ?_⟩
      rintro _ H4 ⟨ma, rfl, s4, ema⟩
      have z0 : Fit size (0, 0, 0) := ⟨Nat.two_pow_pos _, Nat.two_pow_pos _, by show 0 < 2; decide⟩
      refine ⟨fun σ' H' => ∃ (v6 : Option V) (ma : Addr) (u : T3) (n' : Nat), σ' = [some (.ref p), some (.int (size : Nat)), some (.int (many : Nat)), some (.ref l), some (.int (0 + (i : Nat))), some (.ref ma), v6] ∧ KB p H3 H' ∧ PenAt H' p c n' ∧ n' ≤ n3 + R.length ∧ TrAt H' ma u ∧ Fit size u ∧ InG size bs (phi size u), ?_, ?_⟩
      · refine ⟨_, rfl, l, rfl, ⟨_, SqL.of (s4 _ _ el3)⟩, for_list (K := K) (a := l) (xs := refR R) (fun j σ' H' => ∃ (v6 : Option V) (ma : Addr) (u : T3) (n' : Nat), σ' = [some (.ref p), some (.int (size : Nat)), some (.int (many : Nat)), some (.ref l), some (.int (0 + (i : Nat))), some (.ref ma), v6] ∧ KB p H3 H' ∧ PenAt H' p c n' ∧ n' ≤ n3 + j ∧ TrAt H' ma u ∧ Fit size u ∧ InG size bs (phi size u))
          ⟨v6, ma, (0, 0, 0), n3, rfl, KB.of s4, P3.ext s4, Nat.le_refl _, ema, z0, by rw [phi_zero]; exact InG.zero _ _⟩ (fun j σ' H' _ ⟨_, _, _, _, _, kb, _⟩ => SqL.of (kb_lst P3 kb el3)) ?_ ?_⟩
        · rintro j y σ' H5 hj5 ⟨v6, ma, u, n5, rfl, k5, P5, ln5, eu, fu, iu⟩
          obtain ⟨r, hr', rfl⟩ := refR_at hj5
          have jl := (List.getElem?_eq_some_iff.mp hr').1
          refine ⟨_, rfl, p, c, n5, 2, rfl, P5, by omega, by decide, by decide, fun r0 H6 hr0 hr1 P6 k6 => ?_⟩
          have kb6 : KB p H5 H6 := KB.eq k6
          obtain ⟨et, ft⟩ := kb_rs P3 (k5.trans kb6) hR3 r (List.mem_of_getElem? hr')
          have eu6 : TrAt H6 ma u := by
            have : RsAt size H5 [(ma, u)] := fun q hq => by rw [List.mem_singleton.mp hq]; exact ⟨eu, fu⟩
            exact (kb_rs P5 kb6 this (ma, u) (List.mem_singleton_self _)).1
          refine ⟨rfl, _, rfl, ite2 (fun z => ?_) (fun z => ?_)⟩
          · exact ⟨_, rfl, _, rfl, ma, r.1, u, r.2, rfl, eu6, et, up60 fu, up60 ft, fun H7 x s7 nx ex' => ⟨_, x, lpr u r.2, n5 + 1, rfl, (k5.trans kb6).sm s7, P6.ext s7, by omega, ex', lpr_fit fu ft, by
              have ir := i3 r (List.mem_of_getElem? hr')
              rw [phi_mul fu ft (iu.com hB.cs ir)]
              exact iu.hp hB.cs ir⟩⟩
          · exact ⟨_, ma, u, n5 + 1, rfl, k5.trans kb6, P6, by omega, eu6, fu, iu⟩
        · rintro σ' H5 ⟨v6, ma, u, n5, rfl, k5, P5, ln5, eu, fu, iu⟩
          rw [refR_len] at ln5
          exact ⟨v6, ma, u, n5, rfl, k5, P5, ln5, eu, fu, iu⟩
      rintro _ H5 ⟨v6, ma, u, n5, rfl, k5, P5, ln5, eu, fu, iu⟩
      have el5 := kb_lst P3 k5 el3
      have hR5 := kb_rs P3 k5 hR3
      refine ⟨_, rfl, _, rfl, by show 1 ≤ sizeLine; decide, fun t nt => ?_⟩
      have n6 := same_new (o := .lst [V.ref ma]) nt
      refine ⟨l, t, refR R, [V.ref ma], rfl, rfl, n6 _ _ el5, upd_same, ?_, fun x nx => ?_⟩
      · rw [refR_len]
        exact Nat.le_trans (by show R.length + 1 ≤ 40; omega) (by decide)
      have n7 := n6.trans (same_new (o := .lst (refR R ++ [V.ref ma])) nx)
      refine ⟨_, _, _, x, R ++ [(ma, u)], n5, rfl, (k3.trans k5).sm n7, P5.ext n7, by omega, ?_, fun q hq => ?_, by rw [List.length_append]; omega, by rw [List.length_append, List.length_singleton]; omega, fun q hq => by
        rcases List.mem_append.mp hq with h | h
        · exact i3 q h
        · rw [List.mem_singleton.mp h]
          exact iu⟩
      · rw [upd_same]
        unfold refR
        rw [List.map_append]
        rfl
      · rcases List.mem_append.mp hq with h | h
        · exact hR5.same n7 q h
        · rw [List.mem_singleton.mp h]
          exact ⟨n7 _ _ eu, fu⟩
    rintro _ H2 ⟨v4, v5, v6, l2, R2, n2, rfl, k2, P2, ln2, el2, hR2, l3, l4, i2⟩
    refine ⟨_, rfl, _, rfl, p, c, l2, n2, refR R2, rfl, P2, by omega, SqL.of el2, by rw [refR_len]; omega, fun H3 r ys pm hl hm P3 k3 nr er => ?_⟩
    rw [refR_len] at hl P3
    obtain ⟨R3, p3, rfl⟩ := perm_map_inv pm
    have h3 : ∀ x ∈ R3, x ∈ R2 := fun x h => p3.mem_iff.mp h
    have l33 := p3.length_eq
    have nrH : H r = none := by
      obtain ⟨ns, a, d, f, hp, _⟩ := P2
      cases e : H r with
      | none => rfl
      | some o =>
        have : H2 r = some o := k2 _ _ e (fun z => by rw [z, hp] at nr; cases nr)
        rw [nr] at this
        cases this
    exact q H3 r R3 _ (k2.trans k3) P3 (by omega) nrH er (fun x hx => kb_rs P2 k3 hR2 x (h3 x hx)) (by omega) (by omega) ⟨bs, hB, lb, fun x hx => i2 x (h3 x hx)⟩
end
end KQ
namespace KQ
open PySem PySem.Spec PyProof.Rows L2
theorem fB_zero (n : Nat) : fB n 0 0 = 0 := by
  have h := fB_xor n 0 0 0 0
  rw [Nat.xor_self, Nat.xor_self] at h
  exact h.symm
theorem indep_snoc {T : List Nat} {g : Nat} (h : Indep T) (ng : ¬ Spn T g) : Indep (T ++ [g]) := by
  intro i x hx
  by_cases hi : i < T.length
  · rw [List.getElem?_append_left hi] at hx
    rw [List.take_append_of_le_length (by omega)]
    exact h i x hx
  · have il := (List.getElem?_eq_some_iff.mp hx).1
    rw [List.length_append, List.length_singleton] at il
    have e : i = T.length := by omega
    subst e
    rw [List.getElem?_append_right (Nat.le_refl _), Nat.sub_self] at hx
    rw [List.take_append_of_le_length (Nat.le_refl _), List.take_length]
    obtain rfl : g = x := Option.some.inj hx
    exact ng
/-- each number of so many bits is that of a pair -/
theorem fB_onto {n b : Nat} (h : b < 2 ^ (2 * n)) : ∃ x z, x < 2 ^ n ∧ z < 2 ^ n ∧ b = fB n x z := by
  refine ⟨rv n (b >>> n), rv n (b % 2 ^ n), rv_lt n _, rv_lt n _, ?_⟩
  have inv : ∀ y, y < 2 ^ n → rv n (rv n y) = y := fun y hy => by
    apply Nat.eq_of_testBit_eq
    intro j
    rw [rv_bit, rv_bit]
    by_cases hj : j < n
    · rw [decide_eq_true hj, decide_eq_true (by omega : n - 1 - j < n), Bool.true_and, Bool.true_and]
      congr 1
      omega
    · rw [decide_eq_false hj, Bool.false_and, Nat.testBit_lt_two_pow (Nat.lt_of_lt_of_le hy (Nat.pow_le_pow_right (by decide) (by omega)))]
  have hs : b >>> n < 2 ^ n := by
    rw [Nat.shiftRight_eq_div_pow]
    refine Nat.div_lt_of_lt_mul ?_
    rwa [← Nat.pow_add, ← Nat.two_mul]
  unfold fB
  rw [inv _ hs, inv _ (Nat.mod_lt _ (Nat.two_pow_pos n)), Nat.shiftRight_eq_div_pow]
  exact (Nat.div_add_mod b (2 ^ n)).symm
/-- pairs and numbers: spans -/
theorem spp_spn {n : Nat} {ss : List T2} {p : T2} (hs : ∀ s ∈ ss, Fit2 n s) (hp : Fit2 n p) : SpP ss p ↔ Spn (ss.map fun s => fB n s.1 s.2) (fB n p.1 p.2) := by
  constructor
  · intro h
    refine h (fun p => Spn (ss.map fun s => fB n s.1 s.2) (fB n p.1 p.2)) ?_ (fun a b ha hb => ?_) fun s hs' => spn_mem (List.mem_map_of_mem (f := fun s : T2 => fB n s.1 s.2) hs')
    · show Spn _ (fB n 0 0)
      rw [fB_zero]
      exact (spn_sub _).1
    · show Spn _ (fB n (a.1 ^^^ b.1) (a.2 ^^^ b.2))
      rw [← fB_xor]
      exact (spn_sub _).2 _ _ ha hb
  · intro h
    obtain ⟨q, hq, fq, e⟩ : ∃ q, SpP ss q ∧ Fit2 n q ∧ fB n p.1 p.2 = fB n q.1 q.2 := by
      refine h (fun b => ∃ q, SpP ss q ∧ Fit2 n q ∧ b = fB n q.1 q.2) ⟨⟨(0, 0), SpP.zero ss, ⟨Nat.two_pow_pos _, Nat.two_pow_pos _⟩, ?_⟩, ?_⟩ fun b hb => ?_
      · exact (fB_zero n).symm
      · rintro a b ⟨q, h1, h2, rfl⟩ ⟨r, g1, g2, rfl⟩
        exact ⟨xr2 q r, h1.x g1, ⟨Nat.xor_lt_two_pow h2.1 g2.1, Nat.xor_lt_two_pow h2.2 g2.2⟩, fB_xor ..⟩
      · obtain ⟨s, hs', rfl⟩ := List.mem_map.mp hb
        exact ⟨s, SpP.mem hs', hs s hs', rfl⟩
    obtain ⟨e1, e2⟩ := fB_inj hp.1 hp.2 fq.1 fq.2 e
    rw [show p = q from Prod.ext e1 e2]
    exact hq
end KQ
namespace KQ
open PySem PySem.Spec PyProof.Rows L2
abbrev sGr : Stmt := topS 52
abbrev sJn : Stmt := topS 53
theorem scGr : FnScope ["_law_strings_here", "_law_group_here", "_law_string"] ["_law_strings_here"] (defScope sGr) := ⟨rfl, rfl, rfl, by decide +kernel, rfl, by decide +kernel, by decide +kernel⟩
theorem scJn : FnScope ["_law_group_here", "_law_string", "_law_found", "_law_x", "_law_z", "_law_whole"] ["_law_group_here", "_law_string"] (defScope sJn) := ⟨rfl, rfl, rfl, by decide +kernel, rfl, by decide +kernel, by decide +kernel⟩
theorem bootDi : bootBuiltins "dict" = some (.type "dict") := by decide +kernel
def bt (t : T3) : T2 := (t.1, t.2.1)
/-- a dict of pairs with a sign each -/
def gD (ts : List T3) : List (List L2.Key × V) := ts.map fun t => (kk (bt t), V.int (t.2.2 : Nat))
theorem gD_len (ts : List T3) : (gD ts).length = ts.length := List.length_map ..
theorem gD_some : ∀ {ts : List T3} {p : T2}, (valV (gD ts) (kk p)).isSome = decide (p ∈ ts.map bt)
  | [], p => rfl
  | t :: ts, p => by
    show (valV ((kk (bt t), V.int (t.2.2 : Nat)) :: gD ts) (kk p)).isSome = _
    by_cases e : bt t = p
    · subst e
      rw [valV_pos rfl]
      simp
    · rw [valV_neg fun z => e (kk_inj z), gD_some]
      refine decide_eq_decide.mpr ?_
      rw [List.map_cons, List.mem_cons]
      exact ⟨.inr, fun h => h.elim (fun z => absurd z.symm e) id⟩
theorem gD_get : ∀ {ts : List T3} {t : T3}, (ts.map bt).Nodup → t ∈ ts → valV (gD ts) (kk (bt t)) = some (V.int (t.2.2 : Nat))
  | [], _, _, h => by cases h
  | u :: ts, t, nd, h => by
    show valV ((kk (bt u), V.int (u.2.2 : Nat)) :: gD ts) (kk (bt t)) = _
    obtain ⟨n1, n2⟩ := List.nodup_cons.mp nd
    rcases List.mem_cons.mp h with e | h
    · rw [e, valV_pos rfl]
    · rw [valV_neg (p := (kk (bt u), V.int (u.2.2 : Nat))) (fun z => n1 (by have e := kk_inj (p := bt u) (q := bt t) z; rw [e]; exact List.mem_map_of_mem h)), gD_get n2 h]
theorem gD_put {ts : List T3} {t : T3} (h : bt t ∉ ts.map bt) : putK (gD ts) (kk (bt t)) (V.int (t.2.2 : Nat)) = gD (ts ++ [t]) := by
  unfold putK
  rw [if_neg]
  · unfold gD
    rw [List.map_append]
    rfl
  · intro z
    obtain ⟨kv, hk, e⟩ := List.any_eq_true.mp z
    obtain ⟨q, hq, rfl⟩ := List.mem_map.mp hk
    exact h (kk_inj (of_decide_eq_true e) ▸ List.mem_map_of_mem hq)
theorem gD_small {n : Nat} {ts : List T3} (hn : n ≤ 23) (h : ∀ t ∈ ts, Fit n t) : Small (gD ts) := by
  intro kv hkv
  obtain ⟨t, ht, rfl⟩ := List.mem_map.mp hkv
  have p : 2 ^ n ≤ 2 ^ 23 := Nat.pow_le_pow_right (by decide) hn
  exact ⟨t.1, t.2.1, Nat.lt_of_lt_of_le (h t ht).1 p, Nat.lt_of_lt_of_le (h t ht).2.1 p, rfl⟩
def spJn : Sp := fun vs H Q _ => ∃ (g b : Addr) (n : Nat) (ts : List T3) (u : T3), vs = [.ref g, .ref b] ∧ H g = some (.dT (gD ts)) ∧ TrAt H b u ∧ Fit n u ∧ n ≤ 23 ∧ ts.length ≤ 8192 ∧ (∀ t ∈ ts, Fit n t) ∧ ((ts ++ ts.map fun t => lpr t u).map bt).Nodup ∧
  ∀ H' d, Same H H' → H' d = some (.dT (gD (ts ++ ts.map fun t => lpr t u))) → Q (.ref d) H'
section
variable {P : Program} {w : World} {K : PySem.W.Frag} {mg : Str → Option Value} {base : Heap}
theorem ok_jn {f fM fO : Addr} {fd dM dO : FuncData} {k : Nat} (F : Fun K "_law_joined" "_law_joined" sJn f fd) (FM : Fun K "_law_product" "_law_product" sProd fM dM) (bM : Binds K dM ["_law_one", "_law_two"] []) (gM : mg "_law_product" = some (.ref fM))
    (FO : Fun K "_law_ones" "_law_ones" sOnes fO dO) (bO : Binds K dO ["_law_number"] []) (gO : mg "_law_ones" = some (.ref fO)) (B : Bl mg) (md : mg "dict" = none) : FnOk P w K mg base CX0 (k + 3) f fd ["_law_group_here", "_law_string"] spJn := by
  have GM : FnOk P w K mg base CX0 (k + 2) fM dM ["_law_one", "_law_two"] spProd := ok_prod FM FO bO gO B
  refine F.ok scJn (fun vs H Q E h => ?_) (fun cdv A outer s H vs Q E hr h => ?_)
  · obtain ⟨g, b, n, ts, u, rfl, _⟩ := h
    rfl
  · obtain ⟨g, b, n, ts, u, rfl, eg, eb, fu, hn, l8, ft, nd, q⟩ := h
    have hu := hu_of hr
    refine ⟨_, C8.pss_cut (ps_set (i := 2) scJn.nd rfl (.inl rfl) (pe_callTy (call_dictT (Nat.lt_of_le_of_lt (Nat.add_le_add_left (by decide : 2 ≤ 64) _) (hu64_of hr))) (by rfl) md bootDi (pa_cons (pv 0) pa_nil)))
      (C8.pss_cut (ps_lock (ps_for PassesOwn.never rfl (pi_keys (pv 0)) (pg_tup rfl (pgs_cons (pg_name (i := 3) scJn.nd rfl (.inl rfl)) (pgs_cons (pg_name (i := 4) scJn.nd rfl (.inl rfl)) pgs_nil)))
        (C8.pss_cut (ps_set (i := 5) scJn.nd rfl (.inl rfl) (pe_call GM (hr.mono (by omega)) (by rfl) gM FM.kp bM .nil pass0 (pa_cons (pe_tup (pa_cons (pv 3) (pa_cons (pv 4) (pa_cons (pe_dget hu (pv 0) (pe_tup (pa_cons (pv 3) (pa_cons (pv 4) pa_nil))) (fun _ _ => rfl)) pa_nil)))) (pa_cons (pv 1) pa_nil))))
        (pss_one (ps_dput hu (pv 2) (pe_tup (pa_cons (pe_ix ix_tup (pv 5) pe_int (fun _ _ => rfl)) (pa_cons (pe_ix ix_tup (pv 5) pe_int (fun _ _ => rfl)) pa_nil))) (pe_ix ix_tup (pv 5) pe_int (fun _ _ => rfl)) rfl)))))
      (pss_one (ps_ret (pv 2)))), ?_⟩
    have p7 : n ≤ 60 := by omega
    have fit60 : ∀ {t : T3}, Fit n t → Fit 60 t := fun h => ⟨Nat.lt_of_lt_of_le h.1 (Nat.pow_le_pow_right (by decide) p7), Nat.lt_of_lt_of_le h.2.1 (Nat.pow_le_pow_right (by decide) p7), h.2.2⟩
    have nd0 : (ts.map bt).Nodup := by
      rw [List.map_append] at nd
      exact (List.nodup_append.mp nd).1
    have fall : ∀ t ∈ ts ++ ts.map fun t => lpr t u, Fit n t := fun t ht => by
      rcases List.mem_append.mp ht with h | h
      · exact ft t h
      · obtain ⟨t', ht', rfl⟩ := List.mem_map.mp h
        exact lpr_fit (ft t' ht') fu
    refine ⟨fun σ' H' => ∃ d, σ' = [some (.ref g), some (.ref b), some (.ref d), none, none, none] ∧ Same H H' ∧ H d = none ∧ H' d = some (.dT (gD ts)), ?_, ?_⟩
    · exact ⟨_, rfl, g, _, rfl, .inl eg, gD_small hn ft, fun d nd' => ⟨d, rfl, same_new nd', nd', upd_same⟩⟩
    rintro _ H1 ⟨d, rfl, s1, ndd, ed⟩
    have eg1 := s1 _ _ eg
    have dg : d ≠ g := fun z => by rw [z, eg] at ndd; cases ndd
    refine ⟨fun σ' H' => ∃ (v3 v4 v5 : Option V), σ' = [some (.ref g), some (.ref b), some (.ref d), v3, v4, v5] ∧ Same H H' ∧ H' d = some (.dT (gD (ts ++ ts.map fun t => lpr t u))), ?_, ?_⟩
    · refine ⟨g, .dT (gD ts), eg1, trivial, fun od => ⟨_, rfl, g, od, rfl, .inr ⟨gD ts, upd_same, ?_⟩⟩⟩
      refine for_it (walk_keysT (d := g) (o := od) (kvs := gD ts)) (fun j σ' H' => ∃ (v3 v4 v5 : Option V), σ' = [some (.ref g), some (.ref b), some (.ref d), v3, v4, v5] ∧ (∀ b' o, b' ≠ g → H b' = some o → H' b' = some o) ∧ H' g = some (.frz od (.dT (gD ts))) ∧ H' d = some (.dT (gD (ts ++ (ts.take j).map fun t => lpr t u)))) ⟨none, none, none, rfl, fun b' o hb e => by rw [upd_ne hb]; exact s1 _ _ e, upd_same, by rw [upd_ne dg, ed]; show _ = some (HO.dT (gD (ts ++ []))); rw [List.append_nil]⟩ (fun j σ' H' _ ⟨_, _, _, _, _, e, _⟩ => e) ?_ ?_
      rotate_left
      · rintro _ Hc ⟨v3, v4, v5, rfl, k1, egc, edc⟩
        rw [gD_len, List.take_length] at edc
        refine ⟨egc, v3, v4, v5, rfl, fun b' o e => ?_, ?_⟩
        · by_cases hb : b' = g
          · subst hb
            rw [eg] at e
            rw [upd_same]
            exact e
          · rw [upd_ne hb]
            exact k1 _ _ hb e
        · rw [upd_ne dg]
          exact edc
      rintro j y _ Hc0 Hc hj ⟨v3, v4, v5, rfl, k1, egc, edc⟩ ⟨eH, ky, v, q', hkv, ey, eq'⟩
      have eH' := eH.symm
      subst eH'
      subst ey
      unfold gD at hkv
      rw [List.getElem?_map] at hkv
      obtain ⟨t, ht, ekv⟩ := Option.map_eq_some_iff.mp hkv
      obtain ⟨rfl, rfl⟩ := Prod.mk.inj ekv
      have tm := List.mem_of_getElem? ht
      have bg : b ≠ g := ne_of (show H b = some _ from eb) eg (fun z => nomatch z)
      refine ⟨q', _, rfl, .inl (.inl eq'), rfl, _, _, rfl, _, _, rfl, rfl, ?_⟩
      refine ⟨fun σ' H' => ∃ x5, σ' = [some (.ref g), some (.ref b), some (.ref d), some (.int (t.1 : Nat)), some (.int (t.2.1 : Nat)), some (.ref x5)] ∧ Same Hc0 H' ∧ TrAt H' x5 (lpr t u), ?_, ?_⟩
      · refine ⟨_, rfl, _, rfl, _, rfl, _, rfl, _, rfl, by show 2 ≤ sizeLine; decide, fun T nT => ?_⟩
        have sT := same_new (o := .tup [kV (Sum.inl ((bt t).1 : Int)), kV (Sum.inl ((bt t).2 : Int))]) nT
        have eT : (upd Hc0 T (.tup [kV (Sum.inl ((bt t).1 : Int)), kV (Sum.inl ((bt t).2 : Int))])) T = some (.tup ((kk (bt t)).map kV)) := upd_same
        generalize upd Hc0 T (.tup [kV (Sum.inl ((bt t).1 : Int)), kV (Sum.inl ((bt t).2 : Int))]) = H2 at sT eT ⊢
        refine ⟨g, _, rfl, .inr ⟨gD ts, kk (bt t), T, .inr ⟨od, sT _ _ egc⟩, rfl, eT, (gD_get nd0 tm).symm⟩, by show 3 ≤ sizeLine; decide, fun T3' nT3 => ?_⟩
        have s3 := same_new (o := .tup [kV (Sum.inl ((bt t).1 : Int)), kV (Sum.inl ((bt t).2 : Int)), V.int (t.2.2 : Nat)]) nT3
        have e3 : TrAt (upd H2 T3' (.tup [kV (Sum.inl ((bt t).1 : Int)), kV (Sum.inl ((bt t).2 : Int)), V.int (t.2.2 : Nat)])) T3' t := upd_same
        generalize upd H2 T3' (.tup [kV (Sum.inl ((bt t).1 : Int)), kV (Sum.inl ((bt t).2 : Int)), V.int (t.2.2 : Nat)]) = H3 at s3 e3 ⊢
        have s03 := sT.trans s3
        exact ⟨_, rfl, T3', b, t, u, rfl, e3, s03 _ _ (k1 _ _ bg eb), fit60 (ft t tm), fit60 fu, fun H' r s' nr er => ⟨r, rfl, s03.trans s', er⟩⟩
      rintro _ H2 ⟨x5, rfl, s2, e5⟩
      have sq : ∀ {G : Hp}, Same H2 G → SqT K G x5 [.int ((lpr t u).1 : Nat), .int ((lpr t u).2.1 : Nat), .int ((lpr t u).2.2 : Nat)] := fun s => .inl (.inl (s _ _ e5))
      refine ⟨_, rfl, x5, _, _, _, rfl, rfl, sq (fun _ _ e => e), tri2 _ _ _, _, rfl, _, rfl, x5, _, _, _, rfl, rfl, sq (fun _ _ e => e), tri0 _ _ _, _, rfl, x5, _, _, _, rfl, rfl, sq (fun _ _ e => e), tri1 _ _ _, by show 2 ≤ sizeLine; decide, fun T nT => ?_⟩
      have sT := same_new (o := .tup [V.int ((lpr t u).1 : Nat), V.int ((lpr t u).2.1 : Nat)]) nT
      have eT : (upd H2 T (.tup [V.int ((lpr t u).1 : Nat), V.int ((lpr t u).2.1 : Nat)])) T = some (.tup ((kk (bt (lpr t u))).map kV)) := upd_same
      generalize upd H2 T (.tup [V.int ((lpr t u).1 : Nat), V.int ((lpr t u).2.1 : Nat)]) = H3 at sT eT ⊢
      have s23 := s2.trans sT
      have tk : (ts.take (j + 1)).map (fun t => lpr t u) = (ts.take j).map (fun t => lpr t u) ++ [lpr t u] := by
        rw [take_snoc ht, List.map_append]
        rfl
      have sub : ((ts ++ (ts.take (j + 1)).map fun t => lpr t u).map bt).Nodup := by
        refine List.Sublist.nodup (List.Sublist.map _ ?_) nd
        exact List.Sublist.append (List.Sublist.refl _) ((List.take_sublist _ _).map _)
      have new : bt (lpr t u) ∉ (ts ++ (ts.take j).map fun t => lpr t u).map bt := fun z => by
        rw [tk, ← List.append_assoc, List.map_append] at sub
        exact (List.nodup_append.mp sub).2.2 _ z _ (List.mem_singleton.mpr rfl) rfl
      have len : (gD (ts ++ (ts.take j).map fun t => lpr t u)).length < sizeLine := by
        rw [gD_len, List.length_append, List.length_map, List.length_take]
        exact Nat.lt_of_le_of_lt (by omega : _ ≤ 16384) (by decide)
      refine ⟨d, _, rfl, DPut.t (s23 _ _ edc) eT len, _, _, _, rfl, fun b' o hb e => ?_, ?_, ?_⟩
      · rw [upd_ne (ne_of_none e ndd)]
        exact s23 _ _ (k1 _ _ hb e)
      · rw [upd_ne dg.symm]
        exact s23 _ _ egc
      · rw [upd_same, gD_put new, tk, List.append_assoc]
    rintro _ H2 ⟨v3, v4, v5, rfl, s2, e2⟩
    exact ⟨_, rfl, q H2 d s2 e2⟩
end
/-- the products of rows of a signed group, each with its sign -/
structure GrT (n : Nat) (bs : List Hl) (ss : List T2) (ts : List T3) : Prop where
  all : AllP ss (ts.map bt)
  fit : ∀ t ∈ ts, Fit n t
  ing : ∀ t ∈ ts, InG n bs (phi n t)
theorem GrT.nil (n : Nat) (bs : List Hl) : GrT n bs [] [(0, 0, 0)] := ⟨AllP.nil, fun t ht => by rw [List.mem_singleton.mp ht]; exact zfit n, fun t ht => by rw [List.mem_singleton.mp ht, phi_zero]; exact InG.zero n bs⟩
theorem GrT.more {n : Nat} {bs : List Hl} {ss : List T2} {ts : List T3} {u : T3} (g : GrT n bs ss ts) (B : Bse n bs) (fu : Fit n u) (iu : InG n bs (phi n u)) (h : bt u ∉ ts.map bt) : GrT n bs (ss ++ [bt u]) (ts ++ ts.map fun t => lpr t u) := by
  have e : (ts ++ ts.map fun t => lpr t u).map bt = ts.map bt ++ (ts.map bt).map (xr2 · (bt u)) := by
    rw [List.map_append, List.map_map, List.map_map]
    rfl
  refine ⟨by rw [e]; exact g.all.more h, fun t ht => ?_, fun t ht => ?_⟩
  · rcases List.mem_append.mp ht with k | k
    · exact g.fit t k
    · obtain ⟨t', ht', rfl⟩ := List.mem_map.mp k
      exact lpr_fit (g.fit t' ht') fu
  · rcases List.mem_append.mp ht with k | k
    · exact g.ing t k
    · obtain ⟨t', ht', rfl⟩ := List.mem_map.mp k
      rw [phi_mul (g.fit t' ht') fu (InG.com B.cs (g.ing t' ht') iu)]
      exact (g.ing t' ht').hp B.cs iu
theorem InG.mono {n : Nat} {bs : List Hl} {g h : Hl} (a : InG n bs h) : InG n (bs ++ [g]) h := by
  obtain ⟨m, hm, rfl⟩ := a
  refine ⟨m, ?_, ?_⟩
  · rw [List.length_append, List.length_singleton, Nat.pow_succ]
    omega
  · rw [List.length_append, List.length_singleton, pr_snoc0 hm]
/-- what the rows so far make -/
structure GrU (n : Nat) (R : RLs) (bs : List Hl) (ts : List T3) : Prop where
  B : Bse n bs
  inR : ∀ r ∈ R, InG n bs (phi n r.2)
  g : GrT n bs (R.map bz) ts
  len : ts.length ≤ 2 ^ R.length
  mem : ∀ b ∈ bs, ∃ r ∈ R, b = phi n r.2
  uni : ∀ bs', Bse n bs' → (∀ r ∈ R, InG n bs' (phi n r.2)) → ∀ t ∈ ts, InG n bs' (phi n t)
theorem GrU.nil (n : Nat) : GrU n [] [] [(0, 0, 0)] :=
  ⟨⟨⟨fun a h => (by cases h), fun a h => (by cases h)⟩, fun i x h => (by cases h)⟩, fun r h => (by cases h), GrT.nil n [], Nat.le_refl _, fun b h => (by cases h), fun bs' _ _ t ht => by rw [List.mem_singleton.mp ht, phi_zero]; exact InG.zero n bs'⟩
theorem btEq {t u : T3} (e : bt t = bt u) (s : t.2.2 = u.2.2) : t = u := by
  have e1 : t.1 = u.1 := (congrArg Prod.fst e : (bt t).1 = (bt u).1)
  have e2 : t.2.1 = u.2.1 := (congrArg Prod.snd e : (bt t).2 = (bt u).2)
  exact Prod.ext e1 (Prod.ext e2 s)
theorem GrU.same {n : Nat} {R : RLs} {bs : List Hl} {ts : List T3} {r : Addr × T3} {t : T3} (h : GrU n R bs ts) (ht : t ∈ ts) (e : bt t = bt r.2) (s : t.2.2 = r.2.2.2) : GrU n (R ++ [r]) bs ts := by
  obtain rfl : t = r.2 := btEq e s
  refine ⟨h.B, fun q hq => ?_, ⟨?_, h.g.fit, h.g.ing⟩, ?_, fun b hb => let ⟨q, hq, e⟩ := h.mem b hb; ⟨q, List.mem_append_left _ hq, e⟩, fun bs' B' hR => h.uni bs' B' fun q hq => hR q (List.mem_append_left _ hq)⟩
  · rcases List.mem_append.mp hq with k | k
    · exact h.inR q k
    · rw [List.mem_singleton.mp k]; exact h.g.ing _ ht
  · rw [List.map_append]
    exact h.g.all.same (List.mem_map_of_mem (f := bt) ht)
  · rw [List.length_append, List.length_singleton, Nat.pow_succ]
    have := h.len
    omega
theorem GrU.no {n : Nat} {R : RLs} {bs : List Hl} {ts : List T3} {r : Addr × T3} {t : T3} (h : GrU n R bs ts) (fr : Fit n r.2) (ht : t ∈ ts) (e : bt t = bt r.2) (s : t.2.2 ≠ r.2.2.2) : ¬ ∃ bs', Bse n bs' ∧ (∀ q ∈ R, InG n bs' (phi n q.2)) ∧ InG n bs' (phi n r.2) := by
  rintro ⟨bs', B', hR, hr⟩
  have e1 : t.1 = r.2.1 := (congrArg Prod.fst e : (bt t).1 = (bt r.2).1)
  have e2 : t.2.1 = r.2.2.1 := (congrArg Prod.snd e : (bt t).2 = (bt r.2).2)
  have one := (h.uni bs' B' hR t ht).one B' hr ((phi_bits (h.g.fit t ht) fr).mpr ⟨e1, e2⟩)
  exact s ((phi_sign (h.g.fit t ht) fr e1 e2).mp (congrArg Prod.snd one))
theorem GrU.more {n : Nat} {R : RLs} {bs : List Hl} {ts : List T3} {r : Addr × T3} (h : GrU n R bs ts) (fR : ∀ q ∈ R, Fit n q.2) (fr : Fit n r.2) (com : ∀ q ∈ R, crN q.2 r.2 = 0) (hm : bt r.2 ∉ ts.map bt) : GrU n (R ++ [r]) (bs ++ [phi n r.2]) (ts ++ ts.map fun t => lpr t r.2) := by
  have cb : ∀ b ∈ bs, Com n b (phi n r.2) := fun b hb => by
    obtain ⟨q, hq, rfl⟩ := h.mem b hb
    exact (crN_com (fR q hq) fr).mp (com q hq)
  have B' : Bse n (bs ++ [phi n r.2]) := by
    refine ⟨⟨fun a ha => ?_, fun a ha b hb => ?_⟩, ?_⟩
    · rcases List.mem_append.mp ha with k | k
      · exact h.B.cs.sg a k
      · rw [List.mem_singleton.mp k]; exact phi_sg fr
    · rcases List.mem_append.mp ha with k | k <;> rcases List.mem_append.mp hb with m | m
      · exact h.B.cs.com a k b m
      · rw [List.mem_singleton.mp m]; exact cb a k
      · rw [List.mem_singleton.mp k]; exact (cb b m).symm
      · rw [List.mem_singleton.mp k, List.mem_singleton.mp m]; exact Eq.refl _
    · rw [List.map_append]
      refine indep_snoc h.B.ind fun z => hm ((h.g.all.iff _).mpr ((spp_spn (n := n) (fun s hs => ?_) ⟨fr.1, fr.2.1⟩).mpr ?_))
      · obtain ⟨q, hq, rfl⟩ := List.mem_map.mp hs
        exact ⟨(fR q hq).1, (fR q hq).2.1⟩
      · refine spn_le (fun b hb => ?_) z
        obtain ⟨x, hx, rfl⟩ := List.mem_map.mp hb
        obtain ⟨q, hq, rfl⟩ := h.mem x hx
        exact spn_mem (List.mem_map.mpr ⟨bz q, List.mem_map_of_mem hq, rfl⟩)
  have iu : InG n (bs ++ [phi n r.2]) (phi n r.2) := InG.mem B'.cs (List.mem_append_right _ (List.mem_singleton.mpr rfl))
  have g1 : GrT n (bs ++ [phi n r.2]) (R.map bz) ts := ⟨h.g.all, h.g.fit, fun t ht => (h.g.ing t ht).mono⟩
  refine ⟨B', fun q hq => ?_, ?_, ?_, fun b hb => ?_, fun bs' B2 hR t ht => ?_⟩
  · rcases List.mem_append.mp hq with k | k
    · exact (h.inR q k).mono
    · rw [List.mem_singleton.mp k]; exact iu
  · rw [List.map_append]
    exact g1.more B' fr iu hm
  · rw [List.length_append, List.length_map, List.length_append, List.length_singleton, Nat.pow_succ]
    have := h.len
    omega
  · rcases List.mem_append.mp hb with k | k
    · obtain ⟨q, hq, e⟩ := h.mem b k
      exact ⟨q, List.mem_append_left _ hq, e⟩
    · exact ⟨r, List.mem_append_right _ (List.mem_singleton.mpr rfl), List.mem_singleton.mp k⟩
  · have hr := hR r (List.mem_append_right _ (List.mem_singleton.mpr rfl))
    have u := h.uni bs' B2 fun q hq => hR q (List.mem_append_left _ hq)
    rcases List.mem_append.mp ht with k | k
    · exact u t k
    · obtain ⟨t', ht', rfl⟩ := List.mem_map.mp k
      rw [phi_mul (h.g.fit t' ht') fr (InG.com B2.cs (u t' ht') hr)]
      exact (u t' ht').hp B2.cs hr
def spGr (K : PySem.W.Frag) : Sp := fun vs H Q _ => ∃ (a : Addr) (n : Nat) (R : RLs), vs = [.ref a] ∧ SqL K H a (refR R) ∧ RsAt n H R ∧ n ≤ 23 ∧ R.length ≤ 12 ∧ (∀ (i j : Nat), i < j → ∀ (q r : Addr × T3), R[i]? = some q → R[j]? = some r → crN q.2 r.2 = 0) ∧
  (∀ H', Same H H' → (¬ ∃ bs, Bse n bs ∧ ∀ r ∈ R, InG n bs (phi n r.2)) → Q .non H') ∧ ∀ H' d ts bs, Same H H' → H' d = some (.dT (gD ts)) → GrU n R bs ts → Q (.ref d) H'
section
variable {P : Program} {w : World} {K : PySem.W.Frag} {mg : Str → Option Value} {base : Heap}
theorem ok_gr {f fJ fM fO : Addr} {fd dJ dM dO : FuncData} {k : Nat} (F : Fun K "_law_group" "_law_group" sGr f fd) (FJ : Fun K "_law_joined" "_law_joined" sJn fJ dJ) (bJ : Binds K dJ ["_law_group_here", "_law_string"] []) (gJ : mg "_law_joined" = some (.ref fJ)) (FM : Fun K "_law_product" "_law_product" sProd fM dM) (bM : Binds K dM ["_law_one", "_law_two"] []) (gM : mg "_law_product" = some (.ref fM))
    (FO : Fun K "_law_ones" "_law_ones" sOnes fO dO) (bO : Binds K dO ["_law_number"] []) (gO : mg "_law_ones" = some (.ref fO)) (B : Bl mg) (md : mg "dict" = none) : FnOk P w K mg base CX0 (k + 4) f fd ["_law_strings_here"] (spGr K) := by
  have GJ : FnOk P w K mg base CX0 (k + 3) fJ dJ ["_law_group_here", "_law_string"] spJn := ok_jn FJ FM bM gM FO bO gO B md
  refine F.ok scGr (fun vs H Q E h => ?_) (fun cdv A outer s H vs Q E hr h => ?_)
  · obtain ⟨a, n, R, rfl, _⟩ := h
    rfl
  · obtain ⟨a, n, R, rfl, hS, hR, hn, lR, com, qN, q⟩ := h
    have hu := hu_of hr
    refine ⟨_, C8.pss_cut (ps_set (i := 1) scGr.nd rfl (.inl rfl) (pe_dispT1 hu (pe_tup (pa_cons pe_int (pa_cons pe_int pa_nil))) pe_int))
      (C8.pss_cut (ps_for PassesOwn.never rfl (pi_list (pv 0)) (pg_name (i := 2) scGr.nd rfl (.inl rfl))
        (C8.pss_cut (ps_if (pt_cmp (pc_din hu (pe_tup (pa_cons (pe_ix ix_tup (pv 2) pe_int (fun _ _ => rfl)) (pa_cons (pe_ix ix_tup (pv 2) pe_int (fun _ _ => rfl)) pa_nil))) (pv 1)))
          (C8.pss_cut (ps_if (pt_cmpR op_ne (pe_dget hu (pv 1) (pe_tup (pa_cons (pe_ix ix_tup (pv 2) pe_int (fun _ _ => rfl)) (pa_cons (pe_ix ix_tup (pv 2) pe_int (fun _ _ => rfl)) pa_nil))) (fun _ _ => rfl)) (pe_ix ix_tup (pv 2) pe_int (fun _ _ => rfl)) (nomark _)) (pss_one (ps_ret pe_non)) pss_nil)
          (pss_one ps_continue)) pss_nil)
        (pss_one (ps_set (i := 1) scGr.nd rfl (.inl rfl) (pe_call GJ (hr.mono (by omega)) (by rfl) gJ FJ.kp bJ .nil pass0 (pa_cons (pv 1) (pa_cons (pv 2) pa_nil)))))))
      (pss_one (ps_ret (pv 1)))), ?_⟩
    refine ⟨fun σ' H' => ∃ d, σ' = [some (.ref a), some (.ref d), none] ∧ Same H H' ∧ H' d = some (.dT (gD [(0, 0, 0)])), ?_, ?_⟩
    · intro d nd
      refine ⟨by show 2 ≤ sizeLine; decide, fun b nb => ⟨b, kk (0, 0), rfl, upd_same, ?_, ?_⟩⟩
      · rw [upd_ne fun z => ?_]
        · exact upd_same
        · rw [z, upd_same] at nb
          cases nb
      · have s1 : Same H (upd (upd H d (.dT [])) b (.tup [V.int 0, V.int 0])) := (same_new nd).trans (same_new nb)
        exact ⟨d, rfl, same_put0 s1 nd, upd_same⟩
    rintro _ H1 ⟨d0, rfl, s1, ed0⟩
    refine ⟨fun σ' H' => ∃ (d : Addr) (v2 : Option V) (ts : List T3) (bs : List Hl), σ' = [some (.ref a), some (.ref d), v2] ∧ Same H H' ∧ H' d = some (.dT (gD ts)) ∧ GrU n R bs ts, ?_, ?_⟩
    · refine ⟨_, rfl, a, rfl, ⟨_, Same.seq s1 hS⟩, for_list (K := K) (a := a) (xs := refR R) (fun i σ' H' => ∃ (d : Addr) (v2 : Option V) (ts : List T3) (bs : List Hl), σ' = [some (.ref a), some (.ref d), v2] ∧ Same H H' ∧ H' d = some (.dT (gD ts)) ∧ GrU n (R.take i) bs ts)
        ⟨d0, none, _, [], rfl, s1, ed0, GrU.nil n⟩ (fun i σ' H' _ ⟨_, _, _, _, _, s2, _⟩ => Same.seq s2 hS) ?_ ?_⟩
      · rintro i y _ H2 hi ⟨d, v2, ts, bs, rfl, s2, ed, g⟩
        obtain ⟨r, hr', rfl⟩ := refR_at hi
        have rm := List.mem_of_getElem? hr'
        obtain ⟨er, fr⟩ := hR.same s2 r rm
        have il := (List.getElem?_eq_some_iff.mp hr').1
        have fT : ∀ q ∈ R.take i, Fit n q.2 := fun q hq => (hR q (List.mem_of_mem_take hq)).2
        have et : R.take (i + 1) = R.take i ++ [r] := take_snoc hr'
        have sq : ∀ {G : Hp}, Same H2 G → SqT K G r.1 [.int (r.2.1 : Nat), .int (r.2.2.1 : Nat), .int (r.2.2.2 : Nat)] := fun s => .inl (.inl (s _ _ er))
        refine ⟨fun σ' H' => σ' = [some (.ref a), some (.ref d), some (.ref r.1)] ∧ Same H2 H' ∧ bt r.2 ∉ ts.map bt, ?_, ?_⟩
        · refine ⟨_, rfl, r.1, _, _, _, rfl, rfl, sq (fun _ _ e => e), tri0 _ _ _, _, rfl, r.1, _, _, _, rfl, rfl, sq (fun _ _ e => e), tri1 _ _ _, by show 2 ≤ sizeLine; decide, fun T nT => ?_⟩
          have s3 := same_new (o := .tup [.int (r.2.1 : Nat), .int (r.2.2.1 : Nat)]) nT
          have eT : (upd H2 T (.tup [.int (r.2.1 : Nat), .int (r.2.2.1 : Nat)])) T = some (.tup ((kk (bt r.2)).map kV)) := upd_same
          generalize upd H2 T (.tup [.int (r.2.1 : Nat), .int (r.2.2.1 : Nat)]) = H3 at s3 eT ⊢
          have ed3 := s3 _ _ ed
          refine ⟨_, rfl, d, _, rfl, DGet.t ed3 eT, _, rfl, ?_⟩
          rw [gD_some]
          by_cases hm : bt r.2 ∈ ts.map bt
          · rw [decide_eq_true hm]
            obtain ⟨t, ht, etr⟩ := List.mem_map.mp hm
            refine iteT ?_
            refine ⟨fun σ' H' => σ' = [some (.ref a), some (.ref d), some (.ref r.1)] ∧ Same H2 H' ∧ t.2.2 = r.2.2.2, ?_, ?_⟩
            · refine ⟨_, rfl, _, rfl, r.1, _, _, _, rfl, rfl, sq s3, tri0 _ _ _, _, rfl, r.1, _, _, _, rfl, rfl, sq s3, tri1 _ _ _, by show 2 ≤ sizeLine; decide, fun T' nT' => ?_⟩
              have s4 := same_new (o := .tup [.int (r.2.1 : Nat), .int (r.2.2.1 : Nat)]) nT'
              have eT' : (upd H3 T' (.tup [.int (r.2.1 : Nat), .int (r.2.2.1 : Nat)])) T' = some (.tup ((kk (bt r.2)).map kV)) := upd_same
              generalize upd H3 T' (.tup [.int (r.2.1 : Nat), .int (r.2.2.1 : Nat)]) = H4 at s4 eT' ⊢
              have s34 := s3.trans s4
              refine ⟨d, V.int (t.2.2 : Nat), rfl, .inr ⟨gD ts, kk (bt r.2), T', .inl (s4 _ _ ed3), rfl, eT', ?_⟩, _, rfl, r.1, _, _, _, rfl, rfl, sq s34, tri2 _ _ _, rfl, !decide (t.2.2 = r.2.2.2), ?_, ?_⟩
              · rw [← etr, gD_get g.g.all.nd ht]
              · refine congrArg V.bl (congrArg not (decide_eq_decide.mpr ⟨fun e => ?_, fun e => by rw [e]⟩))
                have := V.int.inj e
                omega
              · by_cases sg : t.2.2 = r.2.2.2
                · rw [decide_eq_true sg]
                  exact iteF ⟨rfl, s34, sg⟩
                · rw [decide_eq_false sg]
                  refine iteT (qN _ (s2.trans s34) ?_)
                  rintro ⟨bs', B', hA⟩
                  exact g.no fr ht etr sg ⟨bs', B', fun q hq => hA q (List.mem_of_mem_take hq), hA r rm⟩
            rintro _ H4 ⟨rfl, s4, sg⟩
            exact ⟨d, _, ts, bs, rfl, s2.trans s4, s4 _ _ ed, by rw [et]; exact g.same ht etr sg⟩
          · rw [decide_eq_false hm]
            exact iteF ⟨rfl, s3, hm⟩
        rintro _ H3 ⟨rfl, s3, hm⟩
        have g' := g.more fT fr (fun q hq => by
          obtain ⟨j, hj⟩ := List.getElem?_of_mem hq
          have jl := (List.getElem?_eq_some_iff.mp hj).1
          rw [List.length_take] at jl
          rw [List.getElem?_take, if_pos (by omega)] at hj
          exact com j i (by omega) q r hj hr') hm
        have l8 : ts.length ≤ 8192 := Nat.le_trans g.len (Nat.le_trans (Nat.pow_le_pow_right (by decide) (by rw [List.length_take]; omega : _ ≤ 13)) (by decide))
        refine ⟨_, rfl, _, rfl, d, r.1, n, ts, r.2, rfl, s3 _ _ ed, s3 _ _ er, fr, hn, l8, g.g.fit, g'.g.all.nd, fun H' d' s' ed' => ?_⟩
        exact ⟨d', _, _, _, rfl, (s2.trans s3).trans s', ed', by rw [et]; exact g'⟩
      · rintro _ H2 ⟨d, v2, ts, bs, rfl, s2, ed, g⟩
        rw [refR_len, List.take_length] at g
        exact ⟨d, v2, ts, bs, rfl, s2, ed, g⟩
    rintro _ H2 ⟨d, v2, ts, bs, rfl, s2, ed, g⟩
    exact ⟨_, rfl, q H2 d ts bs s2 ed g⟩
end
end KQ
namespace KQ
open PySem PySem.Spec PyProof.Rows L2
abbrev sSy2 : Stmt := topS 58
theorem scSy2 : FnScope ["_law_rows", "_law_string", "_law_row"] ["_law_rows", "_law_string"] (defScope sSy2) := ⟨rfl, rfl, rfl, by decide +kernel, rfl, by decide +kernel, by decide +kernel⟩
def syn (R : RLs) (u : T3) : List Nat := R.map fun r => crN r.2 u
theorem fit_mono {n m : Nat} {t : T3} (h : Fit n t) (le : n ≤ m) : Fit m t := by
  have := Nat.pow_le_pow_right (n := 2) (by decide) le
  exact ⟨Nat.lt_of_lt_of_le h.1 this, Nat.lt_of_lt_of_le h.2.1 this, h.2.2⟩
def spSy2 : Sp := fun vs H Q _ => ∃ (l b : Addr) (n : Nat) (R : RLs) (u : T3), vs = [.ref l, .ref b] ∧ H l = some (.lst (refR R)) ∧ RsAt n H R ∧ n ≤ 60 ∧ R.length ≤ 60 ∧ TrAt H b u ∧ Fit n u ∧ ∀ H' t, Same H H' → H t = none → H' t = some (.tup (natV (syn R u))) → Q (.ref t) H'
section
variable {P : Program} {w : World} {K : PySem.W.Frag} {mg : Str → Option Value} {base : Heap}
theorem ok_sy2 {f fX fO : Addr} {fd dX dO : FuncData} {k : Nat} (F : Fun K "_law_syndrome" "_law_syndrome" sSy2 f fd) (FX : Fun K "_law_crosses" "_law_crosses" sCross fX dX) (bX : Binds K dX ["_law_one", "_law_two"] []) (gX : mg "_law_crosses" = some (.ref fX))
    (FO : Fun K "_law_ones" "_law_ones" sOnes fO dO) (bO : Binds K dO ["_law_number"] []) (gO : mg "_law_ones" = some (.ref fO)) (B : Bl mg) : FnOk P w K mg base CX0 (k + 3) f fd ["_law_rows", "_law_string"] spSy2 := by
  have GX : FnOk P w K mg base CX0 (k + 2) fX dX ["_law_one", "_law_two"] spCr := ok_cr FX FO bO gO B
  refine F.ok scSy2 (fun vs H Q E h => ?_) (fun cdv A outer s H vs Q E hr h => ?_)
  · obtain ⟨l, b, n, R, u, rfl, _⟩ := h
    rfl
  · obtain ⟨l, b, n, R, u, rfl, el, hR, hn, lR, eb, fu, q⟩ := h
    refine ⟨_, pss_one (ps_ret (pe_callTy call_tuple_of (by rfl) B.tuple bootT (pa_cons (pe_lc (own := [("_law_row", 2)]) (g := gName 2) (by rfl) scSy2.nd (pi_list (pv 0)) (blkOk_by (own := [("_law_row", 2)]) (N := ["_law_rows", "_law_string", "_law_row"]) (sc := defScope sSy2) (by decide +kernel))
      (fun _ _ _ _ _ => pg_name (i := 2) scSy2.nd rfl (Or.inl rfl)) (fun _ _ _ _ _ => pts_nil) (fun _ _ _ _ _ => pe_call GX hr (by rfl) gX FX.kp bX .nil pass0 (pa_cons (pv 2) (pa_cons (pv 1) pa_nil)))) pa_nil))), ?_⟩
    refine ⟨_, rfl, l, rfl, ⟨_, SqL.of el⟩, fun D nD => ?_⟩
    refine lc_list (K := K) (a := l) (xs := refR R) (Pv := fun j Hc => Same H Hc ∧ Hc D = some (.lst (natV ((syn R u).take j)))) ⟨same_new nD, upd_same⟩ (fun j Hc _ ⟨sc, _⟩ => SqL.of (sc _ _ el)) ?_ ?_
    · rintro j y Hc hj ⟨sc, ec⟩
      unfold refR at hj
      rw [List.getElem?_map] at hj
      obtain ⟨r, hr', rfl⟩ := Option.map_eq_some_iff.mp hj
      obtain ⟨er, fr⟩ := hR r (List.mem_of_getElem? hr')
      have hs : (syn R u)[j]? = some (crN r.2 u) := by
        unfold syn
        rw [List.getElem?_map, hr']
        rfl
      refine ⟨rfl, _, rfl, _, rfl, r.1, b, r.2, u, rfl, sc _ _ er, sc _ _ eb, fit_mono fr hn, fit_mono fu hn, _, ec, ?_, same_put0 sc nD, ?_⟩
      · rw [natV_len, List.length_take]
        have : (syn R u).length ≤ 60 := by unfold syn; rw [List.length_map]; exact lR
        exact Nat.lt_of_le_of_lt (by omega : _ ≤ 60) (by decide)
      · rw [upd_same, take_snoc hs, natV_app]
        rfl
    · rintro Hc ⟨sc, ec⟩
      have : (refR R).length = (syn R u).length := by unfold refR syn; rw [List.length_map, List.length_map]
      rw [this, List.take_length] at ec
      refine ⟨D, _, rfl, .inl ⟨SqL.of ec, fun t nt => q _ t (sc.trans (same_new nt)) ?_ upd_same⟩⟩
      cases ht : H t with
      | none => rfl
      | some o => rw [sc _ _ ht] at nt; cases nt
end
end KQ
namespace KQ
open PySem PySem.SeqAt
open AutoSeq1 (wpAny_loadPart')
open MeetsSeq MeetsSeq2 MeetsSeq3 SeqRoads2
section
variable {prog : Program} {w : World} {A : Around} {R : Result → Shared → Prop}
theorem tuple_eqB (l b : Addr) (items items2 : Array Value) (n n2 : Nat) (dd dd2 : Option Addr) (sl sl2 : Array (Option Value)) (e : Nat → Bool) (I : Nat → Shared → Prop)
    (turn : ∀ i (h1 : i < items.size) (h2 : i < items2.size) s, I i s → wpAny (model prog w) A.in1 (eqBool items[i] items2[i]) (fun r s' => r = e i ∧ if e i then I (i + 1) s' else R (.ok (.ret (.bool false))) s') (fun e s' => R (.error e) s') s)
    (fin : ∀ s, I (min items.size items2.size) s → R (.ok (.ret (.bool (items.size == items2.size)))) s) {s : Shared} (hl1 : s.heap.get? l = some { cls := .type "tuple", dict := dd, data := .seq items n, slots := sl }) (hb1 : s.heap.get? b = some { cls := .type "tuple", dict := dd2, data := .seq items2 n2, slots := sl2 }) (h : I 0 s) :
    wpAny (model prog w) A.in1 (Builtin.«tuple.__eq__» ⟨[.ref l, .ref b], []⟩) (GQ.FinOf prog w A R) (fun e s' => R (.error e) s') s := by
  have f2 := AutoSeq1.sub_tuple_tuple
  have hZ : (items.toList.zip items2.toList).length = min items.size items2.size := by simp
  have h0 := h
  obtain ⟨hp, g, d, tk, os⟩ := s
  wp_walk using wpAny_loadPart' hl1, wpAny_loadPart' hb1, wpAny_forIn_list _ (fun rest b s' => (b.1 = none ∧ ∃ i, rest = (items.toList.zip items2.toList).drop i ∧ i ≤ min items.size items2.size ∧ I i s')) _
  case turn =>
    rintro ⟨y, x⟩ rest b s' ⟨hb', i, hz, hi, hI⟩
    have hlt : i < (items.toList.zip items2.toList).length := by
      rcases Nat.lt_or_ge i (items.toList.zip items2.toList).length with h' | h'
      · exact h'
      · rw [List.drop_of_length_le h'] at hz
        cases hz
    have h1 : i < items.size := by omega
    have h2 : i < items2.size := by omega
    rw [List.drop_eq_getElem_cons hlt] at hz
    injection hz with hyx hrest
    have hy : y = items[i] := by have := congrArg Prod.fst hyx; simpa using this
    have hx : x = items2[i] := by have := congrArg Prod.snd hyx; simpa using this
    subst hy hx
    refine wpAny_bind (wpAny_mono (turn i h1 h2 s' hI) (fun r s2 q2 => ?_) fun _ _ x => x)
    obtain ⟨hr, q2⟩ := q2
    subst hr
    cases he : e i with
    | true =>
      rw [he] at q2
      wp_walk
      exact ⟨rfl, i + 1, hrest, by omega, q2⟩
    | false =>
      rw [he] at q2
      wp_walk
      exact q2
  case fin =>
    rintro ⟨b1, b2⟩ s' ⟨hb', i, hz, hi, hI⟩
    simp only at hb'
    subst hb'
    have hge : min items.size items2.size ≤ i := by
      rcases Nat.lt_or_ge i (items.toList.zip items2.toList).length with h' | h'
      · rw [List.drop_eq_getElem_cons h'] at hz
        cases hz
      · exact hZ ▸ h'
    have hi' : i = min items.size items2.size := by omega
    have hR := fin s' (hi' ▸ hI)
    wp_walk
    exact hR
  case h =>
    exact ⟨rfl, 0, rfl, Nat.zero_le _, h0⟩
end
end KQ
namespace KQ
open PySem PySem.Spec PyProof.Rows L2
section
variable {prog : Program} {w : World} {A : Around} {E : Value → Shared → Prop} {s : Shared}
theorem rc_tupB {l b : Addr} {items items2 : Array Value} {Q : Value → Shared → Prop} (hu : A.units < cLine) (e : Nat → Bool) (I : Nat → Shared → Prop)
    (hl : s.heap.IsTuple l items) (hb : s.heap.IsTuple b items2)
    (turn : ∀ i (h1 : i < items.size) (h2 : i < items2.size) s, I i s → wpAny (model prog w) A.in1 (eqBool items[i] items2[i]) (fun r s' => r = e i ∧ if e i then I (i + 1) s' else Q (.bool false) s') E s)
    (fin : ∀ s, I (min items.size items2.size) s → Q (.bool (items.size == items2.size)) s) (h : I 0 s) : wpAny (model prog w) A (richCompare .Eq (.ref l) (.ref b)) Q E s := by
  obtain ⟨⟨cls, dd, data, sl⟩, ho, hc, n, hd⟩ := id hl
  obtain ⟨⟨cls2, dd2, data2, sl2⟩, ho2, hc2, n2, hd2⟩ := id hb
  simp only at hc hd hc2 hd2
  subst hc hd hc2 hd2
  refine wpAny_richCompare_same_room (op := .Eq) ⟨_, ho, rfl⟩ ⟨_, ho2, rfl⟩ F.slot_tuple_eq (GQ.call_here F.slot_tuple_eq ⟨_, ho, rfl⟩ F.entry_tuple_eq (F.args_tuple_eq_2 _ _) ?_) hu
  refine tuple_eqB (R := wants (fun v s' => v ≠ .notImplemented ∧ Q v s') E) l b items items2 n n2 dd dd2 sl sl2 e I (fun i h1 h2 s' hI => wpAny_mono (turn i h1 h2 s' hI) (fun r s2 q => ⟨q.1, ?_⟩) fun _ _ x => x) (fun s' q => ⟨(fun x => nomatch x), fin s' q⟩) ho ho2 h
  have q2 := q.2
  cases he : e i with
  | true => rw [he] at q2; exact q2
  | false => rw [he] at q2; exact ⟨(fun x => nomatch x), q2⟩
end
/-- how two objects answer, by the abstract heap -/
abbrev EqD := Addr → Addr → Hp → Bool → Prop
def spEqB (D : EqD) : Sp := fun vs H Q _ => ∃ a b k, vs = [.ref a, .ref b] ∧ D a b H k ∧ ∀ H', Ext H H' → Q (.bl k) H'
structure EqDOk (C : Addr) (D : EqD) : Prop where
  ins : ∀ a b H k, D a b H k → (∃ dx fs, H a = some (.ins C dx fs)) ∧ ∃ dy gs, H b = some (.ins C dy gs)
  mon : ∀ a b H H' k, Ext H H' → D a b H k → D a b H' k
  refl : ∀ a H k, D a a H k → k = true
section
variable {X : Cx} {n : Nat}
theorem own_eqB {CX : CXT} {C f : Addr} {fd : FuncData} {ps : List Str} {D : EqD} {E : XK} (OK : EqDOk C D) (F : FnOk X.prog X.w X.K X.mg X.base CX n f fd ps (spEqB D))
    (hs : PySem.W.findIn X.K (.ref C) "__eq__" = some (some (.ref f))) (hf : PySem.W.isFn X.K (.ref f) = true) (hb : Binds X.K fd ps []) (hx : Passes CX X E)
    (A : Around) (pins : List (Addr × Obj)) (s : Shared) (σ : L2.St) (H : Hp) (a b : Addr) (k : Bool) (sb : L2.Sub X n A) (I : Inv X pins σ H s) (d : D a b H k) :
    wpAny (model X.prog X.w) A (eqBool (.ref a) (.ref b)) (fun r s' => r = k ∧ LoopI X pins σ H s') X.xe s := by
  by_cases hab : a = b
  · subst hab
    have := OK.refl _ _ _ d
    subst this
    exact SeqAt.EqAt.same (A := A) (s := s) (.ref a) X.prog X.w X.xe _ ⟨rfl, H, I, Ext.rfl'⟩
  refine GQ.eqBool_refG hab ?_
  obtain ⟨⟨dx, fs, ha⟩, dy, gs, hb'⟩ := OK.ins _ _ _ _ d
  obtain ⟨mA, J, _⟩ := ins_get I.hok ha
  obtain ⟨mB, J', _⟩ := ins_get I.hok hb'
  obtain ⟨od, J, _⟩ := J.look
  obtain ⟨od', J', _⟩ := J'.look
  obtain ⟨m, hF⟩ := I.fr
  refine PySem.W.cmp_K (op := .Eq) (tb := .ref C) sb.room.units0 hF I.ok.mod.kin J J'.type (by simp [PySem.W.notFirst]) hs hf ?_
  have hsp : spEqB D [.ref a, .ref b] H (fun v H' => v = .bl k ∧ Ext H H') E := ⟨a, b, k, rfl, d, fun H' e => ⟨rfl, e⟩⟩
  have e0 : Env0 X.prog X.w X.K X.mg X.base A X.stack s H := by
    have e := I.env0
    exact ⟨by rw [sb.fr]; exact e.frames, e.mod, e.bs, e.bsz, e.funs, e.frf, e.hok, e.bare⟩
  have hl := F.len _ _ _ _ hsp
  refine wpAny_call (codeAny_mono (F.run A X.stack s H ⟨[.ref a, .ref b], []⟩ [.ref a, .ref b] [.ref a, .ref b] _ E sb.room e0 (by
    have := hb s [.ref a, .ref b] I.kIn (by simpa using hl)
    simpa using this) (.cons rfl (.cons rfl .nil)) hsp) fun r s' hq => ?_)
  cases r with
  | error e => exact hx pins σ H s e s' I hq
  | ok fl =>
    cases fl with
    | ret w =>
      obtain ⟨z, H', I', rz, ez, ex⟩ := I.after hq
      subst ez
      cases rz
      exact ⟨k, rfl, rfl, H', I', ex⟩
    | next => exact False.elim hq
    | brk => exact False.elim hq
    | cont => exact False.elim hq
/-- whether two tuples are equal, pair by pair -/
def allEq (e : Nat → Bool) (m n : Nat) : Bool := (List.range (min m n)).all e && (m == n)
def rEqT (K : PySem.W.Frag) (D : EqD) : R2 := fun x y H Q => ∃ (a b : Addr) (As Bs : List Addr) (e : Nat → Bool), x = .ref a ∧ y = .ref b ∧ SqT K H a (As.map V.ref) ∧ SqT K H b (Bs.map V.ref) ∧ (∀ (i : Nat) p q, As[i]? = some p → Bs[i]? = some q → D p q H (e i)) ∧
  ∀ H', Ext H H' → Q (.bl (allEq e As.length Bs.length)) H'
theorem op_eqT {CX : CXT} {C f : Addr} {fd : FuncData} {ps : List Str} {D : EqD} {E : XK} (OK : EqDOk C D) (F : FnOk X.prog X.w X.K X.mg X.base CX n f fd ps (spEqB D))
    (hs : PySem.W.findIn X.K (.ref C) "__eq__" = some (some (.ref f))) (hf : PySem.W.isFn X.K (.ref f) = true) (hb : Binds X.K fd ps []) (hx : Passes CX X E) (hr : Room (n + 1) X.A) : OpR X (compareOp .Eq) (rEqT X.K D) := by
  intro pins s σ H x y v u Q I rx ry hq
  obtain ⟨a, b, As, Bs, e, rfl, rfl, ha, hb', d, q⟩ := hq
  cases rx
  cases ry
  show wpAny (model X.prog X.w) X.A (richCompare .Eq (.ref a) (.ref b)) (EP X pins σ Q) X.xe s
  obtain ⟨its, r, h1, z⟩ := I.tuple ha
  obtain ⟨its2, r2, h2, z2⟩ := I.tuple hb'
  have sb : L2.Sub X (n + 1) X.A := ⟨hr, rfl⟩
  have l1 : its.toArray.size = As.length := by rw [List.size_toArray, ← r.length, List.length_map]
  have l2 : its2.toArray.size = Bs.length := by rw [List.size_toArray, ← r2.length, List.length_map]
  have ret : ∀ {k : Bool} {s' : Shared}, LoopI X pins σ H s' → allEq e As.length Bs.length = k → EP X pins σ Q (.bool k) s' := fun {k s'} ⟨H', I', ex⟩ hk => ⟨.bl k, H', I', rfl, by rw [← hk]; exact q H' ex⟩
  refine rc_tupB sb.room.units0 e (fun i s' => (∀ j < i, e j = true) ∧ LoopI X pins σ H s') h1 h2 (fun i k1 k2 s' hI => ?_) (fun s' hI => ?_) ⟨fun j h => absurd h (Nat.not_lt_zero j), H, I, Ext.rfl'⟩
  · obtain ⟨hj, H1, I1, e1⟩ := hI
    rw [l1] at k1
    rw [l2] at k2
    have g1 : (As.map V.ref)[i]? = some (V.ref As[i]) := by rw [List.getElem?_map, List.getElem?_eq_getElem k1]; rfl
    have g2 : (Bs.map V.ref)[i]? = some (V.ref Bs[i]) := by rw [List.getElem?_map, List.getElem?_eq_getElem k2]; rfl
    obtain ⟨u, hu, ru⟩ := r.get g1
    obtain ⟨v, hv, rv⟩ := r2.get g2
    cases ru
    cases rv
    have e1' : its.toArray[i] = Value.ref As[i] := by
      have := List.getElem?_eq_some_iff.mp hu
      simpa using this.2
    have e2' : its2.toArray[i] = Value.ref Bs[i] := by
      have := List.getElem?_eq_some_iff.mp hv
      simpa using this.2
    rw [e1', e2']
    refine wpAny_mono (own_eqB OK F hs hf hb hx X.A.in1 pins s' σ H1 As[i] Bs[i] (e i) sb.in1 I1 (OK.mon _ _ _ _ _ e1 (d i _ _ (List.getElem?_eq_getElem k1) (List.getElem?_eq_getElem k2)))) (fun r s2 q2 => ?_) fun _ _ x => x
    obtain ⟨hr', H2, I2, e2⟩ := q2
    refine ⟨hr', ?_⟩
    cases he : e i with
    | true =>
      rw [if_pos rfl]
      refine ⟨fun j hj' => ?_, H2, I2, e1.trans e2⟩
      rcases Nat.lt_succ_iff_lt_or_eq.mp hj' with h | h
      · exact hj j h
      · rw [h]; exact he
    | false =>
      rw [if_neg (by decide)]
      refine ret ⟨H2, I2, e1.trans e2⟩ ?_
      have : (List.range (min As.length Bs.length)).all e = false := by
        rw [List.all_eq_false]
        exact ⟨i, List.mem_range.mpr (by omega), by rw [he]; decide⟩
      unfold allEq
      rw [this]
      rfl
  · obtain ⟨hj, l⟩ := hI
    rw [l1, l2] at hj
    refine ret l ?_
    have : (List.range (min As.length Bs.length)).all e = true := List.all_eq_true.mpr fun j h => hj j (List.mem_range.mp h)
    unfold allEq
    rw [this, Bool.true_and, l1, l2]
end
end KQ
namespace KQ
open PySem PySem.Spec PyProof.Rows L2
abbrev sGe : Stmt := inClass (topS 34) 1
abbrev sSg : Stmt := inClass (topS 34) 2
abbrev sSyn : Stmt := inClass (topS 34) 3
theorem scGe : FnScope ["self", "other"] ["self", "other"] (defScope sGe) := ⟨rfl, rfl, rfl, by decide +kernel, rfl, by decide +kernel, by decide +kernel⟩
theorem scSg : FnScope ["self", "string", "bits", "power"] ["self", "string"] (defScope sSg) := ⟨rfl, rfl, rfl, by decide +kernel, rfl, by decide +kernel, by decide +kernel⟩
theorem scSyn : FnScope ["self", "string"] ["self", "string"] (defScope sSyn) := ⟨rfl, rfl, rfl, by decide +kernel, rfl, by decide +kernel, by decide +kernel⟩
/-- the held string of a string -/
def hdS (q : List Nat × Nat) : Hl := (bL q.1, (q.2 + q.1.count 89) % 4)
def crs (n b : Nat) (os : List Nat) : List Nat := os.map fun o => pc (ex n b &&& o) % 2
theorem crs_two (n b : Nat) (os : List Nat) : ∀ c ∈ crs n b os, c < 2 := fun c hc => by
  obtain ⟨o, _, rfl⟩ := List.mem_map.mp hc
  exact Nat.mod_lt _ (by decide)
theorem crs_row (n b : Nat) (os : List Nat) : rowV os.length (nb 0 (crs n b os)) = natV (crs n b os) := by
  have := row_nb (crs n b os) (crs_two n b os)
  rw [show (crs n b os).length = os.length from List.length_map ..] at this
  unfold rowV natV
  rw [this]
abbrev gbs (M : GLs) : List Nat := (hls M).map Prod.fst
theorem gbs_len (M : GLs) : (gbs M).length = M.length := by rw [List.length_map, hls_len]
theorem tru_zero {K : PySem.W.Frag} {H : Hp} : TruV K (.int 0) H false := rfl
theorem tru_pos {K : PySem.W.Frag} {H : Hp} {i : Int} (h : i ≠ 0) : TruV K (.int i) H true := by
  show _ = _
  simp [h]
def spLowT (K : PySem.W.Frag) : Sp := fun vs H Q _ => ∃ (n : Nat) (a t : Addr) (h : Hl) (L : GLs), vs = [.int (n : Nat), .ref a, .ref t] ∧ HlAt H a h ∧ H t = some (.tup (refH L)) ∧ HlsAt H L ∧ h.1 < 2 ^ 1000 ∧ (∀ p ∈ L, p.2.1 < 2 ^ 1000) ∧ n ≤ 1000 ∧
  ∀ H' x, Same H H' → HlAt H' x (rsH n (hls L) h) → Q (.ref x) H'
def spSgW (CG C CU : Addr) : Sp := fun vs H Q E => ∃ (g a : Addr) (n : Nat) (M : GLs) (R : List Nat) (p : Nat), vs = [.ref g, .ref a] ∧ GroupAt CG C H g n M ∧ PauliAt C H a R p ∧ (∀ c ∈ R, isL c = true) ∧ R ≠ [] ∧ R.length ≤ 60 ∧ n ≤ 60 ∧ (∀ q ∈ M, q.2.1 < 2 ^ (2 * n)) ∧
  (R.length ≠ n → RzX CU [("what", .str "size")] H E) ∧
  (R.length = n → ∀ H', Same H H' → Q (if p % 2 = 1 then .non else if (rsH n (hls M) (hdS (R, p))).1 ≠ 0 then .non else .int (1 - ((rsH n (hls M) (hdS (R, p))).2 : Nat))) H')
def spSynW (CG C CU : Addr) : Sp := fun vs H Q E => ∃ (g a : Addr) (n : Nat) (M : GLs) (R : List Nat) (p : Nat), vs = [.ref g, .ref a] ∧ GroupAt CG C H g n M ∧ PauliAt C H a R p ∧ (∀ c ∈ R, isL c = true) ∧ R ≠ [] ∧ R.length ≤ 60 ∧ n ≤ 60 ∧ M.length ≤ 100 ∧
  (R.length ≠ n → RzX CU [("what", .str "size")] H E) ∧ (R.length = n → ∀ H' t, Same H H' → FzT H' t (natV (crs n (bL R) (gbs M))) → Q (.ref t) H')
section
variable {P : Program} {w : World} {K : PySem.W.Frag} {mg : Str → Option Value} {base : Heap}
theorem ok_lowT {f fM fP : Addr} {fd dM dP : FuncData} {k : Nat} (F : Fun K "_lowered" "_lowered" sLowG f fd) (FM : Fun K "held_product" "held_product" sHprod fM dM) (bM : Binds K dM ["size", "one", "other"] []) (gM : mg "held_product" = some (.ref fM))
    (FP : Fun K "parity" "parity" sPar fP dP) (bP : Binds K dP ["number"] []) (gP : mg "parity" = some (.ref fP)) : FnOk P w K mg base CX0 (k + 3) f fd ["size", "held", "table"] (spLowT K) := by
  have GM : FnOk P w K mg base CX0 (k + 2) fM dM ["size", "one", "other"] spHprod := ok_hprod FM FP bP gP
  refine F.ok scLowG (fun vs H Q E h => ?_) (fun cdv A outer s H vs Q E hr h => ?_)
  · obtain ⟨n, a, t, h, L, rfl, _⟩ := h
    rfl
  · obtain ⟨n, a, t, h, L, rfl, hA, hS, hL, hb, hbL, hn, q⟩ := h
    refine ⟨_, C8.pss_cut (ps_for PassesOwn.never rfl (pi_tup (pv 2)) (pg_name (i := 3) scLowG.nd rfl (.inl rfl))
        (pss_one (ps_if (pt_cmpR op_lt (pe_op op_xor (pe_ix ix_tup (pv 1) pe_int (fun _ _ => rfl)) (pe_ix ix_tup (pv 3) pe_int (fun _ _ => rfl))) (pe_ix ix_tup (pv 1) pe_int (fun _ _ => rfl)) (nomark _))
          (pss_one (ps_set (i := 1) scLowG.nd rfl (.inl rfl) (pe_call GM hr (by rfl) gM FM.kp bM .nil pass0 (pa_cons (pv 0) (pa_cons (pv 1) (pa_cons (pv 3) pa_nil)))))) pss_nil)))
      (pss_one (ps_ret (pv 1))), ?_⟩
    refine ⟨fun σ' H' => ∃ (x : Addr) (v : Option V), σ' = [some (.int (n : Nat)), some (.ref x), some (.ref t), v] ∧ Same H H' ∧ HlAt H' x (rsH n (hls L) h), ?_, ?_⟩
    · refine ⟨_, rfl, t, rfl, ⟨_, SqT.of hS⟩, for_tup (K := K) (a := t) (xs := refH L) (fun i σ H' => ∃ (x : Addr) (v : Option V), σ = [some (.int (n : Nat)), some (.ref x), some (.ref t), v] ∧ Same H H' ∧ HlAt H' x (rsH n (hls (L.take i)) h))
        ⟨a, none, rfl, fun _ _ e => e, hA⟩ (fun i σ H' _ ⟨_, _, _, s1, _⟩ => SqT.of (s1 _ _ hS)) ?_ ?_⟩
      · rintro i y σ H' hi ⟨x, v, rfl, s1, hx⟩
        obtain ⟨p, hp, rfl⟩ := refH_at hi
        have hm := List.mem_of_getElem? hp
        have hy := hL.same s1 p hm
        have lt : (rsH n (hls (L.take i)) h).1 < 2 ^ 1000 := rsH_lt hb fun r hr => by
          obtain ⟨q', hq', rfl⟩ := List.mem_map.mp hr
          exact hbL q' (List.mem_of_mem_take hq')
        have e : rsH n (hls (L.take (i + 1))) h = lwH n (rsH n (hls (L.take i)) h) p.2 := by
          rw [take_snoc hp]
          unfold hls rsH
          rw [List.map_append, List.foldl_append]
          rfl
        rw [e]
        generalize rsH n (hls (L.take i)) h = g at hx lt
        refine ⟨_, rfl, x, _, _, _, rfl, rfl, .inl (.inl hx), at_pair0 _ _, _, rfl, p.1, _, _, _, rfl, rfl, .inl (.inl hy), at_pair0 _ _, _, _, rfl, rfl, _, rfl, x, _, _, _, rfl, rfl, .inl (.inl hx), at_pair0 _ _, _, _, rfl, rfl, _, rfl, ?_⟩
        rw [bxor]
        unfold lwH
        by_cases c : g.1 ^^^ p.2.1 < g.1
        · rw [decide_eq_true (by omega), if_pos c]
          exact iteT ⟨_, rfl, _, rfl, _, rfl, n, x, p.1, g, p.2, rfl, hx, hy, lt, hn, fun H2 z s2 _ hz => ⟨z, _, rfl, s1.trans s2, hz⟩⟩
        · rw [decide_eq_false (by omega), if_neg c]
          exact iteF ⟨x, _, rfl, s1, hx⟩
      · rintro σ H' ⟨x, v, rfl, s1, hx⟩
        rw [List.take_of_length_le (by unfold refH; rw [List.length_map]; exact Nat.le_refl _)] at hx
        exact ⟨x, v, rfl, s1, hx⟩
    rintro _ H1 ⟨x, v, rfl, s1, hx⟩
    exact ⟨_, rfl, q _ x s1 hx⟩
end
section
variable {P : Program} {w : World} {K : PySem.W.Frag} {mg : Str → Option Value} {base : Heap}
set_option linter.unusedVariables false in
theorem ok_sgW {f CG fG CU fU : Addr} {fd dU : FuncData} {C CT CB fI fE fB fBN hA lA : Addr} {dB dBN : FuncData} {fIs fHo fBo fHp fPa fCr fSh fBt fLg fLn fCk fRt fSo fFr fLo fC : Addr} {dI dIs dHo dBo dHp dPa dCr dSh dBt dLg dLn dCk dRt dSo dFr dLo dC : FuncData} {k : Nat} (F : Fun K "sign_of" "Group.sign_of" sSg f fd) (G : GCl K mg CG fG) (XU : EX1 K mg "Unlike" "Unlike.__init__" "what" sIUnlike CU fU dU)
    (T : GEnv K w mg C CT CB fI fE fB fBN hA lA dB dBN fIs fHo fBo fHp fPa fCr fSh fBt fLg fLn fCk fRt fSo fFr fLo fC dI dIs dHo dBo dHp dPa dCr dSh dBt dLg dLn dCk dRt dSo dFr dLo dC) : FnOk P w K mg base (L2.CX P w) (k + 5) f fd ["self", "string"] (spSgW CG C CU) := by
  have GLg : FnOk P w K mg base CX0 (k + 4) fLg dLg ["size", "held", "table"] (spLowT K) := ok_lowT (k := k + 1) T.FLg T.FHp T.bHp T.gHp T.FPa T.bPa T.gPa
  have GHo : FnOk P w K mg base CX0 (k + 4) fHo dHo ["string"] (spHeld C) := ok_held (k := k + 2) T.FHo T.FBo T.bBo T.gBo T.N T.B
  have GU : FnOk P w K mg base CX0 (k + 3) fU dU ["self", "what"] (spInit1 CU "what") := okIUnlike (k := k + 2) XU
  refine F.okX scSg (fun vs H Q E h => ?_) (fun cdv A outer s H vs Q E hr h => ?_)
  · obtain ⟨g, a, n, M, R, p, rfl, _⟩ := h
    rfl
  · obtain ⟨g, a, n, M, R, p, rfl, hG, hP, hR, h0, hl60, hn, hM, qU, q⟩ := h
    refine ⟨_, C8.pss_cut (ps_if (pt_cmpR op_ne (pe_fld (pv 1) rfl) (pe_fld (pv 0) rfl) (nomark _)) (pss_one (ps_raise rfl (takes_of rfl rfl rfl rfl) (pmk_oex XU.ox XU.ic XU.ti GU hr XU.b .nil pass0 (by rfl) XU.g (pa_cons pe_str pa_nil)))) pss_nil)
      (C8.pss_cut (ps_if (pt_cmpR op_eq (pe_op op_mod (pe_fld (pv 1) rfl) pe_int) pe_int (nomark _)) (pss_one (ps_ret pe_non)) pss_nil)
      (C8.pss_cut (ps_asg (pe_call GLg hr (by rfl) T.gLg T.FLg.kp T.bLg .nil pass0 (pa_cons (pe_fld (pv 0) rfl) (pa_cons (pe_call GHo hr (by rfl) T.gHo T.FHo.kp T.bHo .nil pass0 (pa_cons (pv 1) pa_nil)) (pa_cons (pe_fld (pv 0) rfl) pa_nil)))) (pg_tup rfl (pgs_cons (pg_name (i := 2) scSg.nd rfl (.inl rfl)) (pgs_cons (pg_name (i := 3) scSg.nd rfl (.inl rfl)) pgs_nil))))
      (pss_one (ps_ret (pe_ifExp (pt_truth (pv 2) (by intro _; rfl)) pe_non (pe_op op_sub pe_int (pv 3))))))), ?_⟩
    obtain ⟨dx, fs, p1, b1, r1, M', e, l1, l2, l3, l4, l5, l6, hp1, hHl, hb, hr1, hPs, eM⟩ := id hG
    obtain ⟨dy, gs, e', k1, k2, k3, k4⟩ := id hP
    refine ⟨fun σ' H' => R.length = n ∧ σ' = [some (.ref g), some (.ref a), none, none] ∧ H' = H, ?_, ?_⟩
    · refine ⟨_, rfl, a, C, dy, gs, _, rfl, e', T.N.cl, T.N.nS, k3, _, rfl, g, CG, dx, fs, _, rfl, e, G.cl, G.nS, l1, rfl, !decide (R.length = n), ?_, ?_⟩
      · refine congrArg V.bl (congrArg not (decide_eq_decide.mpr ⟨fun z => ?_, fun z => by rw [z]⟩))
        have := V.int.inj z
        omega
      · by_cases hl : R.length = n
        · rw [decide_eq_true hl]
          exact iteF ⟨hl, rfl, rfl⟩
        · rw [decide_eq_false hl]
          exact iteT ⟨by show 1 ≤ 1000; decide, raise1 (qU hl)⟩
    rintro _ H1 ⟨hl, rfl, eH⟩
    have eH' := eH.symm
    subst eH'
    have q := q hl
    refine ⟨fun σ' H' => p % 2 ≠ 1 ∧ σ' = [some (.ref g), some (.ref a), none, none] ∧ H' = H, ?_, ?_⟩
    · refine ⟨_, rfl, a, C, dy, gs, _, rfl, e', T.N.cl, T.N.nP, k2, _, _, rfl, rfl, (by show (0 : Int) < 2; decide), rfl, decide (p % 2 = 1), ?_, ?_⟩
      · refine congrArg V.bl (decide_eq_decide.mpr ⟨fun z => ?_, fun z => ?_⟩)
        · have e2 : (p : Int) % 2 = 1 := V.int.inj z
          omega
        · show V.int ((p : Int) % 2) = V.int 1
          rw [show (p : Int) % 2 = 1 by omega]
      · by_cases hp : p % 2 = 1
        · rw [decide_eq_true hp]
          refine iteT ?_
          have := q H (fun _ _ e => e)
          rw [if_pos hp] at this
          exact this
        · rw [decide_eq_false hp]
          exact iteF ⟨hp, rfl, rfl⟩
    rintro _ H1 ⟨hp, rfl, eH⟩
    have eH' := eH.symm
    subst eH'
    refine ⟨fun σ' H' => σ' = [some (.ref g), some (.ref a), some (.int ((rsH n (hls M) (hdS (R, p))).1 : Nat)), some (.int ((rsH n (hls M) (hdS (R, p))).2 : Nat))] ∧ Same H H', ?_, ?_⟩
    · refine ⟨_, rfl, g, CG, dx, fs, _, rfl, e, G.cl, G.nS, l1, _, rfl, a, R, p, rfl, hP, hR, h0, by omega, fun H2 x s2 nx ex => ?_⟩
      refine ⟨_, rfl, g, CG, dx, fs, _, rfl, s2 _ _ e, G.cl, G.nH, l2, n, x, p1, hdS (R, p), M, rfl, ex, s2 _ _ hp1, hHl.same s2, ?_, fun q' hq => Nat.lt_of_lt_of_le (hM q' hq) (Nat.pow_le_pow_right (by decide) (by omega)), by omega, fun H3 y s3 hy => ?_⟩
      · have := bL_lt R
        rw [hl] at this
        exact Nat.lt_of_lt_of_le this (Nat.pow_le_pow_right (by decide) (by omega))
      · exact ⟨y, _, rfl, .inl (.inl hy), rfl, _, _, rfl, _, _, rfl, rfl, rfl, s2.trans s3⟩
    rintro _ H2 ⟨rfl, s2⟩
    have q2 := q H2 s2
    rw [if_neg hp] at q2
    by_cases hz : (rsH n (hls M) (hdS (R, p))).1 = 0
    · rw [if_neg fun z => z hz] at q2
      refine ⟨_, rfl, false, by rw [hz]; exact tru_zero, iteF ⟨_, rfl, _, _, rfl, rfl, q2⟩⟩
    · rw [if_pos hz] at q2
      exact ⟨_, rfl, true, tru_pos (by omega), iteT q2⟩
theorem ok_synW {f CG fG CU fU : Addr} {fd dU : FuncData} {C CT CB fI fE fB fBN hA lA : Addr} {dB dBN : FuncData} {fIs fHo fBo fHp fPa fCr fSh fBt fLg fLn fCk fRt fSo fFr fLo fC : Addr} {dI dIs dHo dBo dHp dPa dCr dSh dBt dLg dLn dCk dRt dSo dFr dLo dC : FuncData} {k : Nat} (F : Fun K "syndrome_of" "Group.syndrome_of" sSyn f fd) (G : GCl K mg CG fG) (XU : EX1 K mg "Unlike" "Unlike.__init__" "what" sIUnlike CU fU dU)
    (T : GEnv K w mg C CT CB fI fE fB fBN hA lA dB dBN fIs fHo fBo fHp fPa fCr fSh fBt fLg fLn fCk fRt fSo fFr fLo fC dI dIs dHo dBo dHp dPa dCr dSh dBt dLg dLn dCk dRt dSo dFr dLo dC) : FnOk P w K mg base (L2.CX P w) (k + 5) f fd ["self", "string"] (spSynW CG C CU) := by
  have GX : FnOk P w K mg base CX0 (k + 4) fCr dCr ["size", "bits", "others"] (spCrossg K) := ok_crossg (k := k + 2) T.FCr T.FSh T.bSh T.gSh T.FPa T.bPa T.gPa
  have GT : FnOk P w K mg base CX0 (k + 4) fBt dBt ["number", "many"] spBits := ok_bits (k := k + 3) T.FBt T.B
  have GB : FnOk P w K mg base CX0 (k + 4) fBo dBo ["string"] (spBof C) := ok_bof (k := k + 3) T.FBo T.N T.B
  have GU : FnOk P w K mg base CX0 (k + 3) fU dU ["self", "what"] (spInit1 CU "what") := okIUnlike (k := k + 2) XU
  refine F.okX scSyn (fun vs H Q E h => ?_) (fun cdv A outer s H vs Q E hr h => ?_)
  · obtain ⟨g, a, n, M, R, p, rfl, _⟩ := h
    rfl
  · obtain ⟨g, a, n, M, R, p, rfl, hG, hP, hR, h0, hl60, hn, hM, qU, q⟩ := h
    refine ⟨_, C8.pss_cut (ps_if (pt_cmpR op_ne (pe_fld (pv 1) rfl) (pe_fld (pv 0) rfl) (nomark _)) (pss_one (ps_raise rfl (takes_of rfl rfl rfl rfl) (pmk_oex XU.ox XU.ic XU.ti GU hr XU.b .nil pass0 (by rfl) XU.g (pa_cons pe_str pa_nil)))) pss_nil)
      (pss_one (ps_ret (pe_call GT hr (by rfl) T.gBt T.FBt.kp T.bBt .nil pass0 (pa_cons (pe_call GX hr (by rfl) T.gCr T.FCr.kp T.bCr .nil pass0 (pa_cons (pe_fld (pv 0) rfl) (pa_cons (pe_call GB hr (by rfl) T.gBo T.FBo.kp T.bBo .nil pass0 (pa_cons (pv 1) pa_nil)) (pa_cons (pe_fld (pv 0) rfl) pa_nil)))) (pa_cons (pe_fld (pv 0) rfl) pa_nil))))), ?_⟩
    obtain ⟨dx, fs, p1, b1, r1, M', e, l1, l2, l3, l4, l5, l6, hp1, hHl, hb, hr1, hPs, eM⟩ := id hG
    obtain ⟨dy, gs, e', k1, k2, k3, k4⟩ := id hP
    refine ⟨fun σ' H' => R.length = n ∧ σ' = [some (.ref g), some (.ref a)] ∧ H' = H, ?_, ?_⟩
    · refine ⟨_, rfl, a, C, dy, gs, _, rfl, e', T.N.cl, T.N.nS, k3, _, rfl, g, CG, dx, fs, _, rfl, e, G.cl, G.nS, l1, rfl, !decide (R.length = n), ?_, ?_⟩
      · refine congrArg V.bl (congrArg not (decide_eq_decide.mpr ⟨fun z => ?_, fun z => by rw [z]⟩))
        have := V.int.inj z
        omega
      · by_cases hl : R.length = n
        · rw [decide_eq_true hl]
          exact iteF ⟨hl, rfl, rfl⟩
        · rw [decide_eq_false hl]
          exact iteT ⟨by show 1 ≤ 1000; decide, raise1 (qU hl)⟩
    rintro _ H1 ⟨hl, rfl, eH⟩
    have eH' := eH.symm
    subst eH'
    have q := q hl
    refine ⟨_, rfl, g, CG, dx, fs, _, rfl, e, G.cl, G.nS, l1, _, rfl, a, R, p, rfl, hP, hR, h0, by omega, fun H2 s2 => ?_⟩
    refine ⟨_, rfl, g, CG, dx, fs, _, rfl, s2 _ _ e, G.cl, G.nB, l3, n, bL R, b1, gbs M, rfl, .inr (SqT.of (s2 _ _ hb)), by omega, by have := bL_lt R; rw [hl] at this; exact this, ?_⟩
    refine ⟨_, rfl, g, CG, dx, fs, _, rfl, s2 _ _ e, G.cl, G.nK, l5, nb 0 (crs n (bL R) (gbs M)), M.length, rfl, hM, fun t H3 s3 _ fz => q H3 t (s2.trans s3) ?_⟩
    have := crs_row n (bL R) (gbs M)
    rw [gbs_len] at this
    rw [← this]
    exact fz
end
end KQ
namespace KQ
open PySem PySem.Spec PyProof.Rows L2
/-- what the top has written of a class that isinstance is asked about -/
structure OCl (K : PySem.W.Frag) (C : Addr) : Prop where
  ha : PySem.W.findIn K (.ref C) "__class__" = some (some (.builtin "object.__class__"))
  hn : PySem.W.specialIn K (.builtin "object.__class__") "__get__" = some (some (.builtin "getset_descriptor.__get__"))
  ht : PySem.W.takesIn K (.builtin "object.__class__") = some true
  hm : PySem.W.mroIn K C (.type "object") = some true
theorem OCl.ty {K : PySem.W.Frag} {C : Addr} (o : OCl K C) (cl : Cls K C) {H : Hp} {a dx : Addr} {fs : List (Str × V)} (e : H a = some (.ins C dx fs)) : TyX K H (.ref a) (.ref C) := .base (.ins e cl o.ha o.hn o.ht o.hm)
def qEq (a b : List Nat × Nat) : Bool := decide (a.1 = b.1) && decide (a.2 = b.2)
theorem qEq_iff (a b : List Nat × Nat) : qEq a b = decide (a = b) := by
  unfold qEq
  by_cases h1 : a.1 = b.1
  · by_cases h2 : a.2 = b.2
    · rw [decide_eq_true h1, decide_eq_true h2, decide_eq_true (Prod.ext h1 h2)]; rfl
    · rw [decide_eq_false h2, decide_eq_false (p := a = b) (fun z => h2 (by rw [z])), Bool.and_false]
  · rw [decide_eq_false h1, decide_eq_false (p := a = b) (fun z => h1 (by rw [z])), Bool.false_and]
def DP (C : Addr) : EqD := fun a b H k => ∃ R p R' p', PauliAt C H a R p ∧ PauliAt C H b R' p' ∧ k = qEq (R, p) (R', p')
theorem PauliAt.uniq {C : Addr} {H : Hp} {a : Addr} {R R' : List Nat} {p p' : Nat} (h : PauliAt C H a R p) (k : PauliAt C H a R' p') : R = R' ∧ p = p' := by
  obtain ⟨dx, fs, e, l1, l2, _⟩ := h
  obtain ⟨dy, gs, e', k1, k2, _⟩ := k
  rw [e] at e'
  cases e'
  rw [l1] at k1
  rw [l2] at k2
  refine ⟨mS_inj (V.str.inj (Option.some.inj k1)), ?_⟩
  have := V.int.inj (Option.some.inj k2)
  omega
theorem DP_ok (C : Addr) : EqDOk C (DP C) := by
  refine ⟨?_, ?_, ?_⟩
  · rintro a b H k ⟨R, p, R', p', ⟨dx, fs, e, _⟩, ⟨dy, gs, e', _⟩, _⟩
    exact ⟨⟨dx, fs, e⟩, dy, gs, e'⟩
  · rintro a b H H' k x ⟨R, p, R', p', ⟨dx, fs, e, r⟩, ⟨dy, gs, e', r'⟩, h⟩
    exact ⟨R, p, R', p', ⟨dx, fs, x _ _ e, r⟩, ⟨dy, gs, x _ _ e', r'⟩, h⟩
  · rintro a H k ⟨R, p, R', p', h, h', rfl⟩
    obtain ⟨rfl, rfl⟩ := h.uniq h'
    rw [qEq_iff]
    exact decide_eq_true rfl
/-- the rows of a group, as letters and a phase -/
def rwS (n : Nat) (M : GLs) : List (List Nat × Nat) := (hls M).map fun h => (LO n h.1, (((h.2 : Int) - ((LO n h.1).count 89 : Nat)) % 4).toNat)
theorem allEq_lists {As Bs : List (List Nat × Nat)} : allEq (fun i => match As[i]?, Bs[i]? with | some a, some b => qEq a b | _, _ => true) As.length Bs.length = decide (As = Bs) := by
  refine Bool.eq_iff_iff.mpr ?_
  rw [decide_eq_true_iff]
  unfold allEq
  rw [Bool.and_eq_true, List.all_eq_true, beq_iff_eq]
  constructor
  · rintro ⟨h, hl⟩
    refine List.ext_getElem hl fun i h1 h2 => ?_
    have := h i (List.mem_range.mpr (by omega))
    rw [List.getElem?_eq_getElem h1, List.getElem?_eq_getElem h2] at this
    have this : qEq As[i] Bs[i] = true := this
    rw [qEq_iff] at this
    exact of_decide_eq_true this
  · rintro rfl
    refine ⟨fun i hi => ?_, rfl⟩
    cases e : As[i]? with
    | none => rfl
    | some a => show qEq a a = true; rw [qEq_iff]; exact decide_eq_true rfl
def spGe (K : PySem.W.Frag) (CG C : Addr) : Sp := fun vs H Q _ => ∃ (g : Addr) (y : V) (n : Nat) (M : GLs), vs = [.ref g, y] ∧ GroupAt CG C H g n M ∧
  ((∃ (h : Addr) (m : Nat) (M' : GLs), y = .ref h ∧ GroupAt CG C H h m M' ∧ ∀ H', Ext H H' → Q (.bl (decide (n = m) && decide (rwS n M = rwS m M'))) H') ∨ (TyX K H y (.type "tuple") ∧ Q (.bl false) H))
section
variable {P : Program} {w : World} {K : PySem.W.Frag} {mg : Str → Option Value} {base : Heap}
theorem ok_ge {f CG fG C fI fE : Addr} {fd dE : FuncData} {k : Nat} (F : Fun K "__eq__" "Group.__eq__" sGe f fd) (G : GCl K mg CG fG) (O : OCl K CG) (kG : PySem.W.kitOne K (.ref CG) (.ref CG) = some true) (kT : PySem.W.kitOne K (.type "tuple") (.ref CG) = some false)
    (N : PCl K mg C fI fE) (FE : Fun K "__eq__" "Pauli.__eq__" sEq fE dE) (bE : Binds K dE ["self", "other"] []) (B : Bl mg) : FnOk P w K mg base CX0 (k + 3) f fd ["self", "other"] (spGe K CG C) := by
  have GE : FnOk P w K mg base CX0 (k + 1) fE dE ["self", "other"] (spEqB (DP C)) := (ok_eq FE N B).imp fun vs H Q E h => by
    obtain ⟨a, b, r, rfl, ⟨R, p, R', p', h, h', rfl⟩, q⟩ := h
    exact ⟨a, .ref b, R, p, rfl, h, .inl ⟨b, R', p', rfl, h', q H fun _ _ e => e⟩⟩
  refine F.ok scGe (fun vs H Q E h => ?_) (fun cdv A' outer s H vs Q E hr h => ?_)
  · obtain ⟨g, y, n, M, rfl, _⟩ := h
    rfl
  · obtain ⟨g, y, n, M, rfl, hG, h⟩ := h
    refine ⟨_, pss_one (ps_ret (pe_and (pe_callB call_isi (by rfl) B.isi PyProof.Rows.boot_isinstance (pa_cons (pv 1) (pa_cons (pe_glob (v := .ref CG) (by rfl) G.g rfl) pa_nil)))
      (pe_and (pe_cmpR op_eq (pe_fld (pv 0) rfl) (pe_fld (pv 1) rfl) (nomark _)) (pe_one (pe_cmpR (op_eqT (DP_ok C) GE N.eq N.ef bE pass0 hr) (pe_fld (pv 0) rfl) (pe_fld (pv 1) rfl) (nomark _)))))), ?_⟩
    obtain ⟨dx, fs, p1, b1, r1, M1, e, l1, l2, l3, l4, l5, l6, hp1, hHl, hb, hr1, hPs, eM⟩ := hG
    rcases h with ⟨h, m, M', rfl, hG', q⟩ | ⟨ty, q⟩
    · obtain ⟨dx', fs', p1', b1', r1', M1', e', l1', l2', l3', l4', l5', l6', hp1', hHl', hb', hr1', hPs', eM'⟩ := hG'
      refine ⟨_, rfl, _, _, _, _, true, rfl, .own CG, O.ty G.cl e', kG, _, rfl, ?_⟩
      refine ⟨_, rfl, g, CG, dx, fs, _, rfl, e, G.cl, G.nS, l1, _, rfl, h, CG, dx', fs', _, rfl, e', G.cl, G.nS, l1', rfl, _, rfl, ?_⟩
      by_cases hn : n = m
      · rw [decide_eq_true hn, Bool.true_and] at q
        rw [decide_eq_true (show V.int (n : Nat) = V.int (m : Nat) by rw [hn])]
        refine ⟨_, rfl, g, CG, dx, fs, _, rfl, e, G.cl, G.nR, l4, _, rfl, h, CG, dx', fs', _, rfl, e', G.cl, G.nR, l4', r1, r1', M1.map (·.1), M1'.map (·.1), fun i => match (M1.map (·.2))[i]?, (M1'.map (·.2))[i]? with | some a, some b => qEq a b | _, _ => true, rfl, rfl, ?_, ?_, ?_, ?_⟩
        · rw [List.map_map]; exact SqT.of hr1
        · rw [List.map_map]; exact SqT.of hr1'
        · intro i a b ha hb
          rw [List.getElem?_map] at ha hb
          obtain ⟨u, hu, rfl⟩ := Option.map_eq_some_iff.mp ha
          obtain ⟨v, hv, rfl⟩ := Option.map_eq_some_iff.mp hb
          refine ⟨u.2.1, u.2.2, v.2.1, v.2.2, hPs u (List.mem_of_getElem? hu), hPs' v (List.mem_of_getElem? hv), ?_⟩
          simp only [List.getElem?_map, hu, hv, Option.map_some]
        · intro H' x
          have := q H' x
          rw [List.length_map, List.length_map, ← List.length_map (as := M1) (·.2), ← List.length_map (as := M1') (·.2), allEq_lists]
          rw [show rwS n M = M1.map (·.2) from eM.symm, show rwS m M' = M1'.map (·.2) from eM'.symm] at this
          exact this
      · rw [decide_eq_false hn, Bool.false_and] at q
        rw [decide_eq_false (fun z => hn (by have := V.int.inj z; omega))]
        exact q H fun _ _ e => e
    · exact ⟨_, rfl, _, _, _, _, false, rfl, .own CG, ty, kT, _, rfl, q⟩
end
end KQ
namespace KQ
open PySem PySem.Spec PyProof.Rows L2
abbrev sSome : Stmt := topS 51
abbrev sWhy : Stmt := topS 60
abbrev sPhas : Stmt := topS 61
abbrev sOther : Stmt := topS 63
abbrev sPtx : Stmt := topS 18
theorem scSome : FnScope ["_law_pen_here", "_law_size", "_law_letters_here", "_law_k"] ["_law_pen_here", "_law_size"] (defScope sSome) := ⟨rfl, rfl, rfl, by decide +kernel, rfl, by decide +kernel, by decide +kernel⟩
theorem scPhas : FnScope ["_law_string", "_law_phase", "_law_size"] ["_law_string", "_law_phase", "_law_size"] (defScope sPhas) := ⟨rfl, rfl, rfl, by decide +kernel, rfl, by decide +kernel, by decide +kernel⟩
theorem scPtx : FnScope ["p"] ["p"] (defScope sPtx) := ⟨rfl, rfl, rfl, by decide +kernel, rfl, by decide +kernel, by decide +kernel⟩
def spPh : Sp := fun vs H Q _ => ∃ (t : Addr) (L : List Nat) (z : Int) (p : Nat), vs = [.ref t, .int (p : Int), .int (L.length : Int)] ∧ p < 4 ∧ H t = some (.tup [.int (bv lx L : Nat), .int (bv lz L : Nat), .int z]) ∧ Lts8 L ∧ L.length ≤ 60 ∧ ∀ H', Same H H' → Q (.str (mS (headL p ++ L))) H'
def spPtx (C : Addr) : Sp := fun vs H Q _ => ∃ (a : Addr) (R : List Nat) (p : Nat), vs = [.ref a] ∧ PauliAt C H a R p ∧ p < 4 ∧ R.length ≤ 1000 ∧ Q (.str (mS (headL p ++ R))) H
section
variable {P : Program} {w : World} {K : PySem.W.Frag} {mg : Str → Option Value} {base : Heap}
theorem ok_some {f fD fP fT : Addr} {fd dD dP dT : FuncData} (F : Fun K "_law_some_string" "_law_some_string" sSome f fd) (FD : Fun K "_law_draw" "_law_draw" sDraw fD dD) (bD : Binds K dD ["_law_pen_here", "_law_many"] []) (gD : mg "_law_draw" = some (.ref fD))
    (FP : Fun K "_law_pick" "_law_pick" sPick fP dP) (bP : Binds K dP ["_law_pen_here", "_law_some"] []) (gP : mg "_law_pick" = some (.ref fP)) (FT : Fun K "_law_of_text" "_law_of_text" sOfT fT dT) (bT : Binds K dT ["_law_text_here"] []) (gT : mg "_law_of_text" = some (.ref fT)) (B : Bl mg) :
    FnOk P w K mg base CX0 3 f fd ["_law_pen_here", "_law_size"] spSome := by
  have GP : FnOk P w K mg base CX0 2 fP dP ["_law_pen_here", "_law_some"] spPickS := ok_pickS FP FD bD gD B
  have GT : FnOk P w K mg base CX0 2 fT dT ["_law_text_here"] spOfT := ok_oft FT B
  refine F.ok scSome (fun vs H Q E h => ?_) (fun cdv A outer s H vs Q E hr h => ?_)
  · obtain ⟨p, c, n, m, rfl, _⟩ := h
    rfl
  · obtain ⟨p, c, n, m, rfl, hP, hn, hm, q⟩ := h
    refine ⟨_, C8.pss_cut (ps_set (i := 2) scSome.nd rfl (.inl rfl) (pe_bm PySem.F.plainAttrs_str PySem.F.slot_str_join PySem.F.type_str_join mt_join pe_str
        (pa_cons (pe_lc (own := [("_law_k", 3)]) (g := gName 3) (by rfl) scSome.nd (pi_range1 (by rfl) B.range (pa_cons (pv 1) pa_nil)) (blkOk_by (own := [("_law_k", 3)]) (N := ["_law_pen_here", "_law_size", "_law_letters_here", "_law_k"]) (sc := defScope sSome) (by decide +kernel))
          (fun _ _ _ _ _ => pg_name (i := 3) scSome.nd rfl (Or.inl rfl)) (fun _ _ _ _ _ => pts_nil) (fun _ _ _ _ _ => pe_call GP hr (by rfl) gP FP.kp bP .nil pass0 (pa_cons (pv 0) (pa_cons pe_str pa_nil)))) pa_nil)))
      (pss_one (ps_ret (pe_call GT hr (by rfl) gT FT.kp bT .nil pass0 (pa_cons (pv 2) pa_nil)))), ?_⟩
    obtain ⟨⟨op, ep⟩, ⟨oc, ec⟩⟩ := pen_get hP
    refine ⟨fun σ' H' => ∃ L : List Nat, L.length = m ∧ Lts8 L ∧ σ' = [some (.ref p), some (.int (m : Int)), some (.str (mS L)), none] ∧ PenAt H' p c (n + m) ∧ KeepP p H H', ?_, ?_⟩
    · refine ⟨rfl, _, rfl, _, rfl, by omega, by omega, fun D nD => ?_⟩
      have hDp : D ≠ p := Ne.symm (ne_of_none ep nD)
      have hDc : D ≠ c := Ne.symm (ne_of_none ec nD)
      refine lc_range (lo := 0) (n := m) (Pv := fun i Hc => ∃ L : List Nat, L.length = i ∧ Lts8 L ∧ Hc D = some (.lst ((signs1 L).map V.str)) ∧ PenAt Hc p c (n + i) ∧ KeepP p H Hc) ⟨[], rfl, (fun c hc => by cases hc), upd_same, pen_upd hP hDp hDc, fun y o hy e => by rw [upd_ne (ne_of_none e nD)]; exact e⟩ ?_ ?_
      · rintro i Hc hi ⟨L, hl, hL, eD, hP', kp⟩
        refine ⟨rfl, _, rfl, p, c, _, n + i, rfl, hP', by omega, by rw [e_some]; decide, by decide +kernel, fun j ch H2 hj hP2 hk => ?_⟩
        refine ⟨_, by rw [hk D hDp]; exact eD, ?_, L ++ [ch], by rw [List.length_append, hl]; rfl, ?_, ?_, ?_, ?_⟩
        · show (((signs1 L).map V.str).length) < sizeLine
          rw [List.length_map, signs1, List.length_map, hl]
          exact Nat.lt_of_lt_of_le (by omega : i < 61) (by decide)
        · intro x hx
          rcases List.mem_append.mp hx with hx | hx
          · exact hL x hx
          · rw [List.mem_singleton.mp hx]
            rw [e_some] at hj
            have := List.mem_of_getElem? hj
            revert this
            simp only [List.mem_cons, List.mem_nil_iff, or_false]
            rintro (h | h | h | h | h) <;> subst h <;> exact isL_iff.mpr (by omega)
        · rw [upd_same, signs1, signs1, List.map_append, List.map_append]
          rfl
        · exact pen_upd hP2 hDp hDc
        · intro y o hy e
          have hyD : y ≠ D := ne_of_none e nD
          rw [upd_ne hyD, hk y hy]
          exact kp y o hy e
      · rintro Hc ⟨L, hl, hL, eD, hP', kp⟩
        refine ⟨_, D, signs1 L, rfl, rfl, .inl (SqL.of eD), ?_, ?_⟩
        · rw [signs_len, show ("" : Str).length = 0 from by decide +kernel]
          omega
        · rw [join_signs]
          exact ⟨L, hl, hL, rfl, hP', kp⟩
    rintro _ H1 ⟨L, hl, hL, rfl, hP', kp⟩
    refine ⟨_, rfl, L, rfl, hL, by omega, fun H' t s' nt et => q L t H' hl hL et (pen_sm hP' s') (kp.trans (KeepP.of_same s'))⟩
theorem ok_ph {f fL : Addr} {fd dL : FuncData} {k : Nat} (F : Fun K "_law_phased" "_law_phased" sPhas f fd) (FL : Fun K "_law_letters" "_law_letters" sLett fL dL) (bL : Binds K dL ["_law_string", "_law_size"] []) (gL : mg "_law_letters" = some (.ref fL)) (B : Bl mg) : FnOk P w K mg base CX0 (k + 2) f fd ["_law_string", "_law_phase", "_law_size"] spPh := by
  have GL : FnOk P w K mg base CX0 (k + 1) fL dL ["_law_string", "_law_size"] spLett := ok_lett FL B
  refine F.ok scPhas (fun vs H Q E h => ?_) (fun cdv A outer s H vs Q E hr h => ?_)
  · obtain ⟨t, L, z, p, rfl, _⟩ := h
    rfl
  · obtain ⟨t, L, z, p, rfl, hp, et, hL, hl, q⟩ := h
    refine ⟨_, pss_one (ps_ret (pe_op op_add_str (pe_ix ix_list (pe_lst (pa_cons pe_str (pa_cons pe_str (pa_cons pe_str (pa_cons pe_str pa_nil))))) (pv 1) (fun _ _ => rfl)) (pe_call GL hr (by rfl) gL FL.kp bL .nil pass0 (pa_cons (pv 0) (pa_cons (pv 2) pa_nil))))), ?_⟩
    refine ⟨by show 4 ≤ sizeLine; decide, fun r nr => ⟨_, rfl, r, _, _, .str (mS (headL p)), rfl, rfl, SqL.of upd_same, ?_, ?_⟩⟩
    · rw [show ("" : Str) = mS [] from e_no, show ("i" : Str) = mS [105] from e_i, show ("-" : Str) = mS [45] from e_minus, e_mi]
      refine atI_nat ?_
      have := head_at hp
      match p, hp with
      | 0, _ => rfl
      | 1, _ => rfl
      | 2, _ => rfl
      | 3, _ => rfl
    · have hh : (headL p).length ≤ 2 := by
        match p, hp with
        | 0, _ => decide
        | 1, _ => decide
        | 2, _ => decide
        | 3, _ => decide
      refine ⟨_, rfl, _, rfl, t, L, z, rfl, same_new nr _ _ et, hL, hl, _, _, rfl, rfl, ?_, ?_⟩
      · rw [mS_len, mS_len]
        exact Nat.le_trans (by omega : _ ≤ 62) (by decide)
      · rw [mS_app]
        exact q _ (same_new nr)
theorem ok_ptx {f fI fE C A : Addr} {fd : FuncData} {k : Nat} (F : Fun K "pauli_text" "pauli_text" sPtx f fd) (N : PCl K mg C fI fE) (hd : Hd4 K mg A) : FnOk P w K mg base CX0 (k + 1) f fd ["p"] (spPtx C) := by
  refine F.ok scPtx (fun vs H Q E h => ?_) (fun cdv A' outer s H vs Q E hr h => ?_)
  · obtain ⟨a, R, p, rfl, _⟩ := h
    rfl
  · obtain ⟨a, R, p, rfl, hP, hp, hl, q⟩ := h
    refine ⟨_, pss_one (ps_ret (pe_op op_add_str (pe_ix ix_tup (pe_glob (v := .ref A) (by rfl) hd.g rfl) (pe_fld (pv 0) rfl) (fun _ _ => rfl)) (pe_fld (pv 0) rfl))), ?_⟩
    obtain ⟨dx, fs, e, l1, l2, _⟩ := hP
    have hh := head_at hp
    refine ⟨_, rfl, a, C, dx, fs, _, rfl, e, N.cl, N.nP, l2, A, _, _, _, rfl, rfl, hd.sq _, atI_nat (by rw [List.getElem?_map, hh]; rfl), _, rfl, a, C, dx, fs, _, rfl, e, N.cl, N.nL, l1, _, _, rfl, rfl, ?_, ?_⟩
    · rw [mS_len, mS_len]
      have : (headL p).length ≤ 2 := by
        match p, hp with
        | 0, _ => decide
        | 1, _ => decide
        | 2, _ => decide
        | 3, _ => decide
      exact Nat.le_trans (by omega : _ ≤ 1002) (by decide)
    · rw [mS_app]
      exact q
end
end KQ
namespace KQ
open PySem PySem.Spec PyProof.Rows L2
theorem scOt : FnScope ["_law_pen_here", "_law_rows", "_law_way", "_law_made", "_law_lap", "_law_i", "_law_j"] ["_law_pen_here", "_law_rows"] (defScope sOther) := ⟨rfl, rfl, rfl, by decide +kernel, rfl, by decide +kernel, by decide +kernel⟩
def spOt : Sp := fun vs H Q _ => ∃ (p c l : Addr) (n size : Nat) (R : RLs), vs = [.ref p, .ref l] ∧ PenAt H p c n ∧ n + 200 < 1000000 ∧ H l = some (.lst (refR R)) ∧ RsAt size H R ∧ size ≤ 25 ∧ R.length ≤ 12 ∧ ∃ bs, Bse size bs ∧ bs.length ≤ size ∧ (∀ r ∈ R, InG size bs (phi size r.2)) ∧
  ∀ H' l' R' n', KB p H H' → PenAt H' p c n' → n' ≤ n + 60 → H' l' = some (.lst (refR R')) → RsAt size H' R' → R'.length ≤ R.length → (∀ q ∈ R', ∀ r ∈ R', crN q.2 r.2 = 0) → Q (.ref l') H'
/-- rows as data -/
def rD (R : RLs) : PyData := .list (R.map fun r => .tuple [.int (r.2.1 : Nat), .int (r.2.2.1 : Nat), .int (r.2.2.2 : Nat)])
theorem rD_at {K : PySem.W.Frag} {n : Nat} {H : Hp} {l : Addr} {R : RLs} (e : H l = some (.lst (refR R))) (h : RsAt n H R) : Dp K H (.ref l) (rD R) := by
  refine .lst (SqL.of e) ?_
  clear e
  induction R with
  | nil => exact .nil
  | cons r t ih => exact .cons (.tup (SqT.of (h r List.mem_cons_self).1) (.cons (.int _) (.cons (.int _) (.cons (.int _) .nil)))) (ih fun q hq => h q (List.mem_cons_of_mem _ hq))
theorem rD_ne (R : RLs) : PyData.eqv (rD R) (.list []) = decide (R = []) := by
  cases R with
  | nil => rfl
  | cons r t => rw [decide_eq_false (fun z => nomatch z)]; rfl
theorem rD_lay : ∀ R : RLs, PyData.canLayAll0 (R.map fun r => PyData.tuple [.int (r.2.1 : Nat), .int (r.2.2.1 : Nat), .int (r.2.2.2 : Nat)]) = true ∧ PyData.depthAll (R.map fun r => PyData.tuple [.int (r.2.1 : Nat), .int (r.2.2.1 : Nat), .int (r.2.2.2 : Nat)]) ≤ 1
  | [] => by simp [PyData.canLayAll0, PyData.depthAll]
  | r :: R => by
    obtain ⟨h1, h2⟩ := rD_lay R
    simp [PyData.canLayAll0, PyData.depthAll, PyData.canLay0, PyData.depth, h1] at h2 ⊢
    omega
theorem rD_sh (R : RLs) : SeqAt.shaped (rD R) = true := by
  obtain ⟨h1, h2⟩ := rD_lay R
  simp [SeqAt.shaped, rD, PyData.canLay0, PyData.depth, h1]
  omega
theorem eD_sh : SeqAt.shaped (.list []) = true := by simp [SeqAt.shaped, PyData.canLay0, PyData.depth, PyData.canLayAll0, PyData.depthAll]
theorem cutV_last (xs : List V) (h : xs ≠ []) : cutV xs none (some (-1)) = xs.take (xs.length - 1) := by
  unfold cutV
  have h0 : HT.sIx xs.length 0 none = 0 := rfl
  have : 1 ≤ xs.length := List.length_pos_iff.mpr h
  have h1 : HT.sIx xs.length xs.length (some (-1)) = xs.length - 1 := by
    show (if (-1 : Int) < 0 then ((-1 : Int) + (xs.length : Int)).toNat else min (-1 : Int).toNat xs.length) = _
    rw [if_pos (by decide)]
    omega
  rw [h0, h1, List.drop_zero, Nat.sub_zero]
theorem atI_last {xs : List V} {v : V} (h : xs[xs.length - 1]? = some v) (h0 : xs ≠ []) : atI xs (-1) = some v := by
  have : 1 ≤ xs.length := List.length_pos_iff.mpr h0
  unfold atI
  rw [show ixN xs.length (-1) = some (xs.length - 1) by unfold ixN; rw [if_neg (by decide), if_pos (by omega)]; congr 1; omega]
  exact h
section
variable {P : Program} {w : World} {K : PySem.W.Frag} {mg : Str → Option Value} {base : Heap}
theorem ok_ot {f fM fO fD fS : Addr} {fd dM dO dD dS : FuncData} {k : Nat} (F : Fun K "_law_other" "_law_other" sOther f fd) (FD : Fun K "_law_draw" "_law_draw" sDraw fD dD) (bD : Binds K dD ["_law_pen_here", "_law_many"] []) (gD : mg "_law_draw" = some (.ref fD))
    (FS : Fun K "_law_shuffled" "_law_shuffled" sShuf fS dS) (bS : Binds K dS ["_law_pen_here", "_law_some"] []) (gS : mg "_law_shuffled" = some (.ref fS)) (FM : Fun K "_law_product" "_law_product" sProd fM dM) (bM : Binds K dM ["_law_one", "_law_two"] []) (gM : mg "_law_product" = some (.ref fM)) (FO : Fun K "_law_ones" "_law_ones" sOnes fO dO) (bO : Binds K dO ["_law_number"] []) (gO : mg "_law_ones" = some (.ref fO)) (B : Bl mg) :
    FnOk P w K mg base CX0 (k + 4) f fd ["_law_pen_here", "_law_rows"] spOt := by
  have GD : FnOk P w K mg base CX0 (k + 1) fD dD ["_law_pen_here", "_law_many"] spDraw := ok_draw FD B.int B.len
  have GS : FnOk P w K mg base CX0 (k + 2) fS dS ["_law_pen_here", "_law_some"] (spShuf K) := ok_shuf FS FD bD gD B
  have GM : FnOk P w K mg base CX0 (k + 2) fM dM ["_law_one", "_law_two"] spProd := ok_prod FM FO bO gO B
  refine F.ok scOt (fun vs H Q E h => ?_) (fun cdv A outer s H vs Q E hr h => ?_)
  · obtain ⟨p, c, l, n, size, R, rfl, _⟩ := h
    rfl
  · obtain ⟨p, c, l, n, size, R, rfl, hP, hn, el, hR, z25, lR, bs, hB, lb, hin, q⟩ := h
    have r2 : Room (k + 2) _ := hr.mono (by omega)
    have r1 : Room (k + 1) _ := hr.mono (by omega)
    have hu := hu64_of hr
    refine ⟨_, (C8.pss_cut (ps_par (i := 2) (j := 3) rfl scOt.nd rfl rfl (by decide) rfl rfl (pa_cons (pe_call GD r1 (by rfl) gD FD.kp bD .nil pass0 (pa_cons (pv 0) (pa_cons pe_int pa_nil))) (pa_cons (pe_callTy call_list_of (by rfl) B.list bootL (pa_cons (pv 1) pa_nil)) pa_nil)) rfl)
      (C8.pss_cut (ps_for PassesOwn.never rfl (pi_range1 (by rfl) B.range (pa_cons (pe_ifExp (pt_cmpR (op_neD hu) (pv 1) (pe_lst pa_nil) (nomark _)) pe_int pe_int) pa_nil)) (pg_name (i := 4) scOt.nd rfl (.inl rfl)) (C8.pss_cut (ps_par (i := 5) (j := 6) rfl scOt.nd rfl rfl (by decide) rfl rfl (pa_cons (pe_call GD r1 (by rfl) gD FD.kp bD .nil pass0 (pa_cons (pv 0) (pa_cons (pe_callB call_len_seq (by rfl) B.len PySem.boot_len (pa_cons (pv 3) pa_nil)) pa_nil))) (pa_cons (pe_call GD r1 (by rfl) gD FD.kp bD .nil pass0 (pa_cons (pv 0) (pa_cons (pe_callB call_len_seq (by rfl) B.len PySem.boot_len (pa_cons (pv 3) pa_nil)) pa_nil))) pa_nil)) rfl)
        (pss_one (ps_if (pt_cmpR op_ne (pv 5) (pv 6) (nomark _)) (pss_one (ps_asg (pe_call GM r2 (by rfl) gM FM.kp bM .nil pass0 (pa_cons (pe_ix ix_list (pv 3) (pv 5) (fun _ _ => rfl)) (pa_cons (pe_ix ix_list (pv 3) (pv 6) (fun _ _ => rfl)) pa_nil))) (pg_sub (pv 3) (pv 5) set_list))) pss_nil))))
      (C8.pss_cut (ps_if (PW.pt (pw_and (pt_cmpR op_eq (pv 2) pe_int (nomark _)) (pw_and1 (pt_cmpR (op_neD hu) (pv 3) (pe_lst pa_nil) (nomark _))))) (pss_one (ps_ret (pe_slice sl_list (pv 3) (po_some pe_int) po_none))) pss_nil)
      (C8.pss_cut (ps_if (PW.pt (pw_and (pt_cmpR op_eq (pv 2) pe_int (nomark _)) (pw_and1 (pt_cmpR (op_neD hu) (pv 3) (pe_lst pa_nil) (nomark _))))) (pss_one (ps_ret (pe_op op_cat (pe_slice sl_list (pv 3) po_none (po_some (pe_un un_neg pe_int))) (pe_lst (pa_cons (pe_tup (pa_cons (pe_ix ix_tup (pe_ix ix_list (pv 3) (pe_un un_neg pe_int) (fun _ _ => rfl)) pe_int (fun _ _ => rfl)) (pa_cons (pe_ix ix_tup (pe_ix ix_list (pv 3) (pe_un un_neg pe_int) (fun _ _ => rfl)) pe_int (fun _ _ => rfl)) (pa_cons (pe_op op_sub pe_int (pe_ix ix_tup (pe_ix ix_list (pv 3) (pe_un un_neg pe_int) (fun _ _ => rfl)) pe_int (fun _ _ => rfl))) pa_nil)))) pa_nil))))) pss_nil)
      (pss_one (ps_ret (pe_call GS r2 (by rfl) gS FS.kp bS .nil pass0 (pa_cons (pv 0) (pa_cons (pv 3) pa_nil))))))))), ?_⟩
    have up60 : ∀ {t : T3}, Fit size t → Fit 60 t := fun h => ⟨Nat.lt_of_lt_of_le h.1 (Nat.pow_le_pow_right (by decide) (by omega)), Nat.lt_of_lt_of_le h.2.1 (Nat.pow_le_pow_right (by decide) (by omega)), h.2.2⟩
    have cmm : ∀ {W : RLs}, (∀ r ∈ W, InG size bs (phi size r.2)) → (∀ r ∈ W, Fit size r.2) → ∀ q ∈ W, ∀ r ∈ W, crN q.2 r.2 = 0 := fun h k q hq r hr => (crN_com (k q hq) (k r hr)).mpr ((h q hq).com hB.cs (h r hr))
    have rne : ∀ {Hx : Hp} {x : Addr} {W : RLs} {Qx : VK}, Hx x = some (.lst (refR W)) → RsAt size Hx W → (∀ e Hy, Same Hx Hy → Hy e = some (.lst []) → Qx (.bl (!decide (W = []))) Hy) → ∀ e, Hx e = none → rNeD K (.ref x) (.ref e) (upd Hx e (.lst [])) Qx := fun {Hx x W Qx} ex hx h e ne => by
      have s := same_new (o := .lst []) ne
      refine ⟨rD W, .list [], rD_at (s _ _ ex) (hx.same s), .lst (SqL.of upd_same) .nil, rD_sh W, eD_sh, ?_⟩
      rw [rD_ne]
      exact h e _ s upd_same
    obtain ⟨⟨op, ep⟩, ⟨oc, ec⟩⟩ := pen_get hP
    refine ⟨fun σ' H' => ∃ (j : Nat) (T : Addr), σ' = [some (.ref p), some (.ref l), some (.int (j : Nat)), some (.ref T), none, none, none] ∧ KB p H H' ∧ PenAt H' p c (n + 1) ∧ H T = none ∧ H' T = some (.lst (refR R)), ?_, ?_⟩
    · refine ⟨_, rfl, p, c, n, 4, rfl, hP, by omega, by decide, by decide, fun r0 H2 hr0 hr1 P2 k2 => ?_⟩
      have kb2 : KB p H H2 := KB.eq k2
      obtain ⟨j, hj⟩ : ∃ j : Nat, r0 = (j : Int) := ⟨r0.toNat, by omega⟩
      refine ⟨_, rfl, l, _, rfl, .inl (SqL.of (kb_lst hP kb2 el)), fun T nT => ?_⟩
      have eT : (upd H2 T (.lst (refR R))) T = some (.lst (refR R)) := upd_same
      have nH : H T = none := by
        cases e : H T with
        | none => rfl
        | some o =>
          have : H2 T = some o := k2 T (fun z => by rw [z] at nT; obtain ⟨⟨o2, e2⟩, _⟩ := pen_get P2; rw [e2] at nT; cases nT) |>.trans e
          rw [nT] at this
          cases this
      refine ⟨_, _, rfl, j, T, by rw [hj]; rfl, (kb2.sm (same_new nT)), P2.ext (same_new nT), nH, eT⟩
    rintro _ H1 ⟨j0, T, rfl, k1, P1, nT, eT⟩
    have hR1 := kb_rs hP k1 hR
    have el1 := kb_lst hP k1 el
    refine ⟨fun σ' H' => ∃ (v4 v5 v6 : Option V) (W : RLs) (n' : Nat), σ' = [some (.ref p), some (.ref l), some (.int (j0 : Nat)), some (.ref T), v4, v5, v6] ∧ KB p H H' ∧ PenAt H' p c n' ∧ n' ≤ n + 20 ∧ H' T = some (.lst (refR W)) ∧ RsAt size H' W ∧ W.length = R.length ∧ ∀ r ∈ W, InG size bs (phi size r.2), ?_, ?_⟩
    · refine ⟨_, rfl, by show 0 ≤ sizeLine; decide, fun e ne => rne el1 hR1 (fun e' Hy sy ey => ⟨_, rfl, ?_⟩) e ne⟩
      by_cases zR : R = []
      · rw [decide_eq_true zR]
        refine iteF ⟨_, rfl, by decide, by decide, ?_⟩
        refine for_range (lo := 0) (n := 0) (fun i σ' H' => σ' = [some (.ref p), some (.ref l), some (.int (j0 : Nat)), some (.ref T), none, none, none] ∧ Same H1 H') ⟨rfl, sy⟩ (fun i σ' H' hi _ => absurd hi (Nat.not_lt_zero _)) ?_
        rintro _ H2 ⟨rfl, s2⟩
        exact ⟨none, none, none, R, n + 1, rfl, k1.sm s2, P1.ext s2, by omega, s2 _ _ eT, hR1.same s2, rfl, hin⟩
      · rw [decide_eq_false zR]
        refine iteT ⟨_, rfl, by decide, by decide, ?_⟩
        refine for_range (lo := 0) (n := 6) (fun i σ' H' => ∃ (v4 v5 v6 : Option V) (W : RLs) (n' : Nat), σ' = [some (.ref p), some (.ref l), some (.int (j0 : Nat)), some (.ref T), v4, v5, v6] ∧ KB p H H' ∧ PenAt H' p c n' ∧ n' ≤ n + 1 + 2 * i ∧ H' T = some (.lst (refR W)) ∧ RsAt size H' W ∧ W.length = R.length ∧ ∀ r ∈ W, InG size bs (phi size r.2))
          ⟨none, none, none, R, n + 1, rfl, k1.sm sy, P1.ext sy, by omega, sy _ _ eT, hR1.same sy, rfl, hin⟩ ?_ ?_
        rotate_left
        · rintro _ H2 ⟨v4, v5, v6, W, n2, rfl, k2, P2, ln2, eT2, hW, lW, iW⟩
          exact ⟨v4, v5, v6, W, n2, rfl, k2, P2, by omega, eT2, hW, lW, iW⟩
        rintro i _ H2 hi ⟨v4, v5, v6, W, n2, rfl, k2, P2, ln2, eT2, hW, lW, iW⟩
        have lW1 : 1 ≤ W.length := by
          have := List.length_pos_iff.mpr zR
          omega
        refine ⟨fun σ' H' => ∃ (v4 : Option V) (i j : Nat), σ' = [some (.ref p), some (.ref l), some (.int (j0 : Nat)), some (.ref T), v4, some (.int (i : Nat)), some (.int (j : Nat))] ∧ i < W.length ∧ j < W.length ∧ (∀ b, b ≠ p → H' b = H2 b) ∧ PenAt H' p c (n2 + 2), ?_, ?_⟩
        · refine ⟨_, rfl, _, rfl, T, _, rfl, .inl (SqL.of eT2), p, c, n2, (refR W).length, rfl, P2, by omega, by rw [refR_len]; omega, by rw [refR_len]; omega, fun r0 H3 hr0 hr1 P3 k3 => ?_⟩
          refine ⟨_, rfl, _, rfl, T, _, rfl, .inl (SqL.of (kb_lst P2 (KB.eq k3) eT2)), p, c, n2 + 1, (refR W).length, rfl, P3, by omega, by rw [refR_len]; omega, by rw [refR_len]; omega, fun r1' H4 hs0 hs1 P4 k4 => ?_⟩
          obtain ⟨i1, rfl⟩ : ∃ j : Nat, r0 = (j : Int) := ⟨r0.toNat, by omega⟩
          obtain ⟨j1, rfl⟩ : ∃ j : Nat, r1' = (j : Int) := ⟨r1'.toNat, by omega⟩
          rw [refR_len] at hr1 hs1
          exact ⟨_, _, rfl, _, i1, j1, rfl, by omega, by omega, fun b hb => (k4 b hb).trans (k3 b hb), P4⟩
        rintro _ H3 ⟨v4, i1, j1, rfl, hi1, hj1, k3, P3⟩
        have k3' : KB p H2 H3 := KB.eq k3
        have eT3 := kb_lst P2 k3' eT2
        have hW3 := kb_rs P2 k3' hW
        refine ⟨_, rfl, _, rfl, rfl, !decide (i1 = j1), ?_, ?_⟩
        · exact congrArg V.bl (congrArg not (decide_eq_decide.mpr ⟨fun z => by have := V.int.inj z; omega, fun z => by rw [z]⟩))
        by_cases ij : i1 = j1
        · rw [decide_eq_true ij]
          exact iteF ⟨_, _, _, W, n2 + 2, rfl, k2.trans k3', P3, by omega, eT3, hW3, lW, iW⟩
        · rw [decide_eq_false ij]
          have hri : W[i1]? = some (W[i1]'hi1) := List.getElem?_eq_getElem _
          have hrj : W[j1]? = some (W[j1]'hj1) := List.getElem?_eq_getElem _
          generalize W[i1]'hi1 = a at hri
          generalize W[j1]'hj1 = b at hrj
          obtain ⟨ea, fa⟩ := hW3 a (List.mem_of_getElem? hri)
          obtain ⟨eb, fb⟩ := hW3 b (List.mem_of_getElem? hrj)
          have ia := iW a (List.mem_of_getElem? hri)
          have ib := iW b (List.mem_of_getElem? hrj)
          have hA : atI (refR W) ((i1 : Nat) : Int) = some (.ref a.1) := atI_nat (j := i1) (by unfold refR; rw [List.getElem?_map, hri]; rfl)
          have hB' : atI (refR W) ((j1 : Nat) : Int) = some (.ref b.1) := atI_nat (j := j1) (by unfold refR; rw [List.getElem?_map, hrj]; rfl)
          refine iteT ⟨_, rfl, _, rfl, T, refR W, _, _, rfl, rfl, SqL.of eT3, hA, _, rfl, _, rfl, T, refR W, _, _, rfl, rfl, SqL.of eT3, hB', a.1, b.1, a.2, b.2, rfl, ea, eb, up60 fa, up60 fb, fun H4 x s4 nx ex4 => ?_⟩
          have eT4 := s4 _ _ eT3
          refine ⟨_, rfl, _, rfl, T, refR W, _, i1, rfl, rfl, eT4, ixN_k' (by rw [refR_len]; omega), ?_⟩
          have r1 : refR (W.set i1 (x, lpr a.2 b.2)) = (refR W).set i1 (.ref x) := by unfold refR; rw [List.map_set]
          have P4 := P3.ext s4
          have Tp : T ≠ p := pen_off P4 eT4 (fun kv z => by cases z)
          have Tc : T ≠ c := fun z => by rw [z, ec] at nT; cases nT
          have k4 : KB p H (upd H4 T (.lst ((refR W).set i1 (.ref x)))) := ((k2.trans k3').sm s4).up nT
          have hx : Fit size (lpr a.2 b.2) := lpr_fit fa fb
          have ix : InG size bs (phi size (lpr a.2 b.2)) := by
            rw [phi_mul fa fb (ia.com hB.cs ib)]
            exact ia.hp hB.cs ib
          refine ⟨_, _, _, W.set i1 (x, lpr a.2 b.2), n2 + 2, rfl, k4, pen_upd P4 Tp Tc, by omega, by rw [upd_same, r1], RsAt.put eT4 fun q hq => ?_, by rw [List.length_set]; exact lW, fun r hr => ?_⟩
          · rcases List.mem_or_eq_of_mem_set hq with k | k
            · exact (hW3.same s4) q k
            · rw [k]; exact ⟨ex4, hx⟩
          · rcases List.mem_or_eq_of_mem_set hr with k | k
            · exact iW r k
            · rw [k]; exact ix
    rintro _ H2 ⟨v4, v5, v6, W, n2, rfl, k2, P2, ln2, eT2, hW, lW, iW⟩
    refine ⟨fun σ' H' => σ' = [some (.ref p), some (.ref l), some (.int (j0 : Nat)), some (.ref T), v4, v5, v6] ∧ Same H2 H', ?_, ?_⟩
    · refine ⟨_, rfl, rfl, decide (j0 = 0), ?_, ?_⟩
      · exact congrArg V.bl (decide_eq_decide.mpr ⟨fun z => by have := V.int.inj z; omega, fun z => by rw [z]; rfl⟩)
      by_cases z : j0 = 0
      · rw [decide_eq_true z]
        refine iteT ⟨_, rfl, by show 0 ≤ sizeLine; decide, fun e ne => rne eT2 hW (fun e' Hy sy ey => ?_) e ne⟩
        by_cases zW : W = []
        · rw [decide_eq_true zW]
          exact ⟨_, rfl, iteF ⟨rfl, sy⟩⟩
        · rw [decide_eq_false zW]
          refine ⟨_, rfl, iteT ⟨_, rfl, 1, rfl, T, refR W, rfl, SqL.of (sy _ _ eT2), fun r nr => ?_⟩⟩
          have ec : cutV (refR W) (some 1) none = refR (W.drop 1) := (cutV_from (refR W) 1).trans (by unfold refR; rw [List.map_drop])
          rw [ec]
          have sr := sy.trans (same_new (o := .lst (refR (W.drop 1))) nr)
          have sub : ∀ x ∈ W.drop 1, x ∈ W := fun x h => List.mem_of_mem_drop h
          exact q _ r (W.drop 1) n2 (k2.sm sr) (P2.ext sr) (by omega) upd_same (fun x hx => hW.same sr x (sub x hx)) (by rw [List.length_drop]; omega) fun a ha b hb => cmm iW (fun r hr => (hW r hr).2) a (sub a ha) b (sub b hb)
      · rw [decide_eq_false z]
        exact iteF (iteF ⟨rfl, fun _ _ e => e⟩)
    rintro _ H3 ⟨rfl, s3⟩
    refine ⟨fun σ' H' => σ' = [some (.ref p), some (.ref l), some (.int (j0 : Nat)), some (.ref T), v4, v5, v6] ∧ Same H2 H', ?_, ?_⟩
    · refine ⟨_, rfl, rfl, decide (j0 = 1), ?_, ?_⟩
      · exact congrArg V.bl (decide_eq_decide.mpr ⟨fun z => by have := V.int.inj z; omega, fun z => by rw [z]; rfl⟩)
      by_cases z : j0 = 1
      · rw [decide_eq_true z]
        refine iteT ⟨_, rfl, by show 0 ≤ sizeLine; decide, fun e ne => rne (s3 _ _ eT2) (hW.same s3) (fun e' Hy sy ey => ?_) e ne⟩
        by_cases zW : W = []
        · rw [decide_eq_true zW]
          exact ⟨_, rfl, iteF ⟨rfl, s3.trans sy⟩⟩
        · rw [decide_eq_false zW]
          refine ⟨_, rfl, iteT ?_⟩
          refine ⟨_, rfl, 1, rfl, _, rfl, T, refR W, rfl, SqL.of (sy _ _ (s3 _ _ eT2)), fun r nr => ?_⟩
          have wl : 1 ≤ W.length := List.length_pos_iff.mpr zW
          have hrl : W[W.length - 1]? = some (W[W.length - 1]'(by omega)) := List.getElem?_eq_getElem _
          generalize W[W.length - 1]'(by omega) = b at hrl
          have mb := List.mem_of_getElem? hrl
          have rn : refR W ≠ [] := fun z => zW (List.map_eq_nil_iff.mp z)
          have hL : atI (refR W) (-1) = some (.ref b.1) := atI_last (by rw [refR_len]; unfold refR; rw [List.getElem?_map, hrl]; rfl) rn
          have ec : cutV (refR W) none (some (-1)) = refR (W.take (W.length - 1)) := (cutV_last (refR W) rn).trans (by rw [refR_len]; unfold refR; rw [List.map_take])
          have s5 := (s3.trans sy).trans (same_new (o := .lst (cutV (refR W) none (some (-1)))) nr)
          have er : (upd Hy r (.lst (cutV (refR W) none (some (-1))))) r = some (.lst (refR (W.take (W.length - 1)))) := by rw [upd_same, ec]
          generalize upd Hy r (.lst (cutV (refR W) none (some (-1)))) = H5 at s5 er ⊢
          have eT5 := s5 _ _ eT2
          obtain ⟨eb, fb⟩ := (hW.same s5) b mb
          refine ⟨_, rfl, 1, rfl, T, refR W, _, _, rfl, rfl, SqL.of eT5, hL, b.1, _, _, _, rfl, rfl, SqT.of eb, tri0 _ _ _, _, rfl, 1, rfl, T, refR W, _, _, rfl, rfl, SqL.of eT5, hL, b.1, _, _, _, rfl, rfl, SqT.of eb, tri1 _ _ _, _, rfl, 1, rfl, T, refR W, _, _, rfl, rfl, SqL.of eT5, hL, b.1, _, _, _, rfl, rfl, SqT.of eb, tri2 _ _ _, _, _, rfl, rfl, by show 3 ≤ sizeLine; decide, fun t nt => ⟨by show 1 ≤ sizeLine; decide, fun u nu => ?_⟩⟩
          have s6 := same_new (o := .tup [V.int (b.2.1 : Nat), V.int (b.2.2.1 : Nat), V.int (1 - (b.2.2.2 : Nat))]) nt
          have s7 := same_new (o := .lst [V.ref t]) nu
          have l1 : (refR (W.take (W.length - 1))).length + 1 ≤ 12 := by rw [refR_len, List.length_take]; omega
          refine ⟨r, u, refR (W.take (W.length - 1)), [V.ref t], rfl, rfl, s7 _ _ (s6 _ _ er), upd_same, Nat.le_trans l1 (by decide), fun x nx => ?_⟩
          have s8 := same_new (o := .lst (refR (W.take (W.length - 1)) ++ [V.ref t])) nx
          have s9 := s5.trans (s6.trans (s7.trans s8))
          have et := (s7.trans s8) _ _ (upd_same (H := H5) (a := t) (o := .tup [V.int (b.2.1 : Nat), V.int (b.2.2.1 : Nat), V.int (1 - (b.2.2.2 : Nat))]))
          have b2 := fb.2.2
          have sub : ∀ x ∈ W.take (W.length - 1), x ∈ W := fun x h => List.mem_of_mem_take h
          have fn : Fit size (b.2.1, b.2.2.1, 1 - b.2.2.2) := ⟨fb.1, fb.2.1, by show 1 - b.2.2.2 < 2; omega⟩
          have cW := cmm iW (fun r hr => (hW r hr).2)
          refine q _ x (W.take (W.length - 1) ++ [(t, (b.2.1, b.2.2.1, 1 - b.2.2.2))]) n2 (k2.sm s9) (P2.ext s9) (by omega) ?_ (fun y hy => ?_) (by rw [List.length_append, List.length_take, List.length_singleton]; omega) fun c' hc d hd => ?_
          · rw [upd_same]
            unfold refR
            rw [List.map_append]
            rfl
          · rcases List.mem_append.mp hy with h | h
            · exact hW.same s9 y (sub y h)
            · rw [List.mem_singleton.mp h]
              refine ⟨?_, fn⟩
              show _ = some (HO.tup [.int (b.2.1 : Nat), .int (b.2.2.1 : Nat), .int ((1 - b.2.2.2 : Nat) : Int)])
              rw [et, show ((1 - b.2.2.2 : Nat) : Int) = 1 - (b.2.2.2 : Int) by omega]
          · have as : ∀ e ∈ W.take (W.length - 1) ++ [((t, (b.2.1, b.2.2.1, 1 - b.2.2.2)) : Addr × T3)], ∃ e' ∈ W, e'.2.1 = e.2.1 ∧ e'.2.2.1 = e.2.2.1 := fun e he => by
              rcases List.mem_append.mp he with h | h
              · exact ⟨e, sub e h, rfl, rfl⟩
              · rw [List.mem_singleton.mp h]
                exact ⟨b, mb, rfl, rfl⟩
            obtain ⟨c2, h2, g1, g2⟩ := as c' hc
            obtain ⟨d2, h3, g3, g4⟩ := as d hd
            have := cW c2 h2 d2 h3
            unfold crN at this ⊢
            rw [← g1, ← g2, ← g3, ← g4]
            exact this
      · rw [decide_eq_false z]
        exact iteF (iteF ⟨rfl, s3⟩)
    rintro _ H4 ⟨rfl, s4⟩
    refine ⟨_, rfl, _, rfl, p, c, T, n2, refR W, rfl, P2.ext s4, by omega, SqL.of (s4 _ _ eT2), by rw [refR_len]; omega, fun H5 r ys pm hl hm P5 k5 nr er => ?_⟩
    rw [refR_len] at hl P5
    obtain ⟨R5, p5, rfl⟩ := perm_map_inv pm
    have h5 : ∀ x ∈ R5, x ∈ W := fun x h => p5.mem_iff.mp h
    have hW4 := hW.same s4
    have l5 := p5.length_eq
    exact q H5 r R5 _ ((k2.sm s4).trans k5) P5 (by omega) er (fun x hx => kb_rs (P2.ext s4) k5 hW4 x (h5 x hx)) (by omega) fun a ha b hb => cmm iW (fun r hr => (hW r hr).2) a (h5 a ha) b (h5 b hb)
end
end KQ
namespace KQ
open PySem PySem.Spec PyProof.Rows L2 LamX
theorem scWhy : FnScope ["_law_call", "_law_found", "e"] ["_law_call"] (defScope sWhy) := ⟨rfl, rfl, rfl, by decide +kernel, rfl, by decide +kernel, by decide +kernel⟩
/-- an error of one of the four classes, and what is told of it -/
def Er4 (CN CU CA CM : Addr) (Q : VK) (cls : Value) (d : Option Addr) (H' : Hp) : Prop := ∃ dd : Addr, d = some dd ∧
  ((∃ u v : V, cls = .ref CN ∧ H' dd = some (.xd [("number", v), ("what", u)]) ∧ ∀ p, H' p = none → Q (.ref p) (upd H' p (.tup [.str "number", u, v]))) ∨
   (∃ u : V, cls = .ref CU ∧ H' dd = some (.xd [("what", u)]) ∧ ∀ p, H' p = none → Q (.ref p) (upd H' p (.tup [.str "unlike", u]))) ∨
   (∃ u v : V, cls = .ref CA ∧ H' dd = some (.xd [("other", v), ("one", u)]) ∧ ∀ p, H' p = none → Q (.ref p) (upd H' p (.tup [.str "anticommute", u, v]))) ∨
   (∃ u : V, cls = .ref CM ∧ H' dd = some (.xd [("indices", u)]) ∧ ∀ p, H' p = none → Q (.ref p) (upd H' p (.tup [.str "minus", u]))))
def TTg (CN CU CA CM : Addr) : (XK → Hp → VK → Prop) → Hp → VK → Prop := fun tl H Q => ∀ p0, H p0 = none →
  tl (fun cls d H' => Er4 CN CU CA CM Q cls d H') (upd H p0 (.tup [.str "none"])) (fun _ H' => ∃ v, (some (some (V.ref p0)) : Option (Option V)) = some (some v) ∧ Q v H')
structure Four (K : PySem.W.Frag) (mg : Str → Option Value) (CT CN CU CA CM : Addr) : Prop where
  gT : mg "BadText" = some (.ref CT)
  gN : mg "BadNumber" = some (.ref CN)
  gU : mg "Unlike" = some (.ref CU)
  gA : mg "Anticommute" = some (.ref CA)
  gM : mg "MinusOne" = some (.ref CM)
  l0 : PySem.W.findIn K (.ref CU) "line" = some none
  l1 : PySem.W.findIn K (.ref CU) "column" = some none
  n0 : PySem.W.findIn K (.ref CN) "what" = some none
  n1 : PySem.W.findIn K (.ref CN) "number" = some none
  u0 : PySem.W.findIn K (.ref CU) "what" = some none
  a0 : PySem.W.findIn K (.ref CA) "one" = some none
  a1 : PySem.W.findIn K (.ref CA) "other" = some none
  m0 : PySem.W.findIn K (.ref CM) "indices" = some none
  XN : XfC K CN
  XU : XfC K CU
  XA : XfC K CA
  XM : XfC K CM
  NT : PySem.W.exmOne K (.ref CN) (.ref CT) = some false
  NN : PySem.W.exmOne K (.ref CN) (.ref CN) = some true
  UT : PySem.W.exmOne K (.ref CU) (.ref CT) = some false
  UN : PySem.W.exmOne K (.ref CU) (.ref CN) = some false
  UU : PySem.W.exmOne K (.ref CU) (.ref CU) = some true
  AT : PySem.W.exmOne K (.ref CA) (.ref CT) = some false
  AN : PySem.W.exmOne K (.ref CA) (.ref CN) = some false
  AU : PySem.W.exmOne K (.ref CA) (.ref CU) = some false
  AA : PySem.W.exmOne K (.ref CA) (.ref CA) = some true
  MT : PySem.W.exmOne K (.ref CM) (.ref CT) = some false
  MN : PySem.W.exmOne K (.ref CM) (.ref CN) = some false
  MU : PySem.W.exmOne K (.ref CM) (.ref CU) = some false
  MA : PySem.W.exmOne K (.ref CM) (.ref CA) = some false
  MM : PySem.W.exmOne K (.ref CM) (.ref CM) = some true
theorem why_gives {X : Cx} {CT g CN CU CA CM : Addr} {cdg : Value} {q : Str} (V4 : Four X.K X.mg CT CN CU CA CM) : GivesTo X ["_law_call", "_law_found", "e"] "_law_why" (defScope sWhy) g cdg (defBody sWhy) "_law_call" q (TTg CN CU CA CM) := by
  intro f c' s H Q tl act hc h
  refine ⟨_, pss_cons (ps_set (i := 1) scWhy.nd rfl (.inl rfl) (pe_tup (pa_cons pe_str pa_nil))) (pss_cons (ps_try_list (X := (cxOf C8.CX0 X.prog X.w X.K X.mg X.base ["_law_call", "_law_found", "e"] "_law_why" (defScope sWhy) g cdg X.A X.stack s H C8.E0).nox) (k := 2) (nm := "e")
      (tb := fun W D σ H => ∃ Ech : XK, (∀ cls d σ' H', σ'.length = 3 → Ech cls d H' → W cls d σ' H') ∧ σ[0]? = some (some (.ref f)) ∧ H c' = some (CodeO c' q) ∧ tl Ech H (fun _ H' => D.nx σ H'))
      rfl rfl scWhy.nd rfl rfl LamX.takes0 (fun W pn xe tk _ => ?_)
      (.next (cl := .ref CT) ⟨rfl, by decide, .inl V4.gT⟩ (fun a oe cls d pn hz hf => pss_one (ps_set (i := 1) scWhy.nd rfl (.inl rfl) (pe_tup (pa_cons pe_str (pa_cons (pe_xf V4.XU V4.l0 hz hf (pv 2)) (pa_cons (pe_xf V4.XU V4.l1 hz hf (pv 2)) pa_nil))))))
      (.next (cl := .ref CN) ⟨rfl, by decide, .inl V4.gN⟩ (fun a oe cls d pn hz hf => pss_one (ps_set (i := 1) scWhy.nd rfl (.inl rfl) (pe_tup (pa_cons pe_str (pa_cons (pe_xf V4.XN V4.n0 hz hf (pv 2)) (pa_cons (pe_xf V4.XN V4.n1 hz hf (pv 2)) pa_nil))))))
      (.next (cl := .ref CU) ⟨rfl, by decide, .inl V4.gU⟩ (fun a oe cls d pn hz hf => pss_one (ps_set (i := 1) scWhy.nd rfl (.inl rfl) (pe_tup (pa_cons pe_str (pa_cons (pe_xf V4.XU V4.u0 hz hf (pv 2)) pa_nil)))))
      (.next (cl := .ref CA) ⟨rfl, by decide, .inl V4.gA⟩ (fun a oe cls d pn hz hf => pss_one (ps_set (i := 1) scWhy.nd rfl (.inl rfl) (pe_tup (pa_cons pe_str (pa_cons (pe_xf V4.XA V4.a0 hz hf (pv 2)) (pa_cons (pe_xf V4.XA V4.a1 hz hf (pv 2)) pa_nil))))))
      (.next (cl := .ref CM) ⟨rfl, by decide, .inl V4.gM⟩ (fun a oe cls d pn hz hf => pss_one (ps_set (i := 1) scWhy.nd rfl (.inl rfl) (pe_tup (pa_cons pe_str (pa_cons (pe_xf V4.XM V4.m0 hz hf (pv 2)) pa_nil)))))
      .done))))))
    (pss_one (ps_ret (pv 1)))), ?_⟩
  · refine ⟨fun pins s' σ H' D I h' => ?_⟩
    obtain ⟨Ech, hW, h1, h2, h3⟩ := h'
    have tk' : Takes ((cxOf C8.CX0 X.prog X.w X.K X.mg X.base ["_law_call", "_law_found", "e"] "_law_why" (defScope sWhy) g cdg X.A X.stack s H C8.E0).tr pn xe) (fun cls d σ H => σ.length = 3 → W cls d σ H) :=
      fun u s' ⟨a, B, sI, pins, σ, H, cls, d, e, I, nb, up, sky, na, os, ag, w⟩ => tk u s' ⟨a, B, sI, pins, σ, H, cls, d, e, I, nb, up, sky, na, os, ag, w I.len⟩
    have hp := fun p1 p2 => act (fun cls d σ H => σ.length = 3 → W cls d σ H) pn xe Ech p1 p2 tk' (fun cls d σ' H' h hl => hW cls d σ' H' hl h)
    exact (pss_one (ps_expr (hp _ _))).run pins s' σ H' D I ⟨h1, h2, h3⟩
  · refine ⟨by show 1 ≤ sizeLine; decide, fun p0 np => ?_⟩
    have hc0 : c' ≠ p0 := ne_of_none hc np
    refine ⟨fun cls d H' => Er4 CN CU CA CM Q cls d H', fun cls d σ' H' hl hE => ?_, rfl, (upd_ne hc0).trans hc, ?_⟩
    · have h2 : ∀ a, (σ'.set 2 (some (V.ref a)))[2]? = some (some (V.ref a)) := fun a => by
        rw [List.getElem?_set_self (by omega)]
      have h3 : ∀ (a : Addr) (p : Addr), ((σ'.set 2 (some (V.ref a))).set 1 (some (V.ref p)))[1]? = some (some (V.ref p)) := fun a p => by
        rw [List.getElem?_set_self (by rw [List.length_set]; omega)]
      obtain ⟨dd, rfl, h | h | h | h⟩ := hE
      · obtain ⟨u, v, rfl, hd, hq⟩ := h
        refine ⟨false, V4.NT, (fun z => nomatch z), fun _ => ⟨true, V4.NN, fun _ a na => ?_, fun z => nomatch z⟩⟩
        refine ⟨_, h2 a, rfl, rfl, dd, _, u, rfl, hd, rfl, _, h2 a, rfl, rfl, dd, _, v, rfl, hd, rfl, by show 3 ≤ sizeLine; decide, fun p np => ⟨_, ?_, hq p np⟩⟩
        rw [List.getElem?_set_ne (by decide)]
        exact h3 a p
      · obtain ⟨u, rfl, hd, hq⟩ := h
        refine ⟨false, V4.UT, (fun z => nomatch z), fun _ => ⟨false, V4.UN, (fun z => nomatch z), fun _ => ⟨true, V4.UU, fun _ a na => ?_, fun z => nomatch z⟩⟩⟩
        refine ⟨_, h2 a, rfl, rfl, dd, _, u, rfl, hd, rfl, by show 2 ≤ sizeLine; decide, fun p np => ⟨_, ?_, hq p np⟩⟩
        rw [List.getElem?_set_ne (by decide)]
        exact h3 a p
      · obtain ⟨u, v, rfl, hd, hq⟩ := h
        refine ⟨false, V4.AT, (fun z => nomatch z), fun _ => ⟨false, V4.AN, (fun z => nomatch z), fun _ => ⟨false, V4.AU, (fun z => nomatch z), fun _ => ⟨true, V4.AA, fun _ a na => ?_, fun z => nomatch z⟩⟩⟩⟩
        refine ⟨_, h2 a, rfl, rfl, dd, _, u, rfl, hd, rfl, _, h2 a, rfl, rfl, dd, _, v, rfl, hd, rfl, by show 3 ≤ sizeLine; decide, fun p np => ⟨_, ?_, hq p np⟩⟩
        rw [List.getElem?_set_ne (by decide)]
        exact h3 a p
      · obtain ⟨u, rfl, hd, hq⟩ := h
        refine ⟨false, V4.MT, (fun z => nomatch z), fun _ => ⟨false, V4.MN, (fun z => nomatch z), fun _ => ⟨false, V4.MU, (fun z => nomatch z), fun _ => ⟨false, V4.MA, (fun z => nomatch z), fun _ => ⟨true, V4.MM, fun _ a na => ?_, fun z => nomatch z⟩⟩⟩⟩⟩
        refine ⟨_, h2 a, rfl, rfl, dd, _, u, rfl, hd, rfl, by show 2 ≤ sizeLine; decide, fun p np => ⟨_, ?_, hq p np⟩⟩
        rw [List.getElem?_set_ne (by decide)]
        exact h3 a p
    · exact h p0 np
end KQ
namespace KQ
open PySem PySem.Spec PyProof.Rows L2
theorem kept_spn (gs : List Hl) : ∀ i, i ≤ gs.length → ∀ x, Spn (kb gs (keptL gs i)) x ↔ Spn ((gs.take i).map Prod.fst) x
  | 0, _, x => Iff.rfl
  | i + 1, hi, x => by
    have ih := kept_spn gs i (by omega)
    have hg : gs[i]? = some (gs.getD i (0, 0)) := by rw [List.getD_eq_getElem?_getD, List.getElem?_eq_getElem (by omega : i < gs.length)]; rfl
    have et : (gs.take (i + 1)).map Prod.fst = (gs.take i).map Prod.fst ++ [(gs.getD i (0, 0)).1] := by rw [take_snoc hg, List.map_append]; rfl
    rw [et]
    unfold keptL
    split
    · rename_i z
      have zs : Spn (kb gs (keptL gs i)) (gs.getD i (0, 0)).1 := inSp_spn.mp z
      refine spn_iff_of (fun a ha => spn_snoc_skip ((ih a).mp (spn_mem ha))) (fun a ha => ?_) x
      rcases List.mem_append.mp ha with k | k
      · exact (ih a).mpr (spn_mem k)
      · rw [List.mem_singleton.mp k]
        exact zs
    · have ek : kb gs (keptL gs i ++ [i]) = kb gs (keptL gs i) ++ [(gs.getD i (0, 0)).1] := by
        unfold kb
        rw [List.map_append]
        rfl
      rw [ek]
      refine spn_iff_of (fun a ha => ?_) (fun a ha => ?_) x
      · rcases List.mem_append.mp ha with k | k
        · exact spn_snoc_skip ((ih a).mp (spn_mem k))
        · rw [List.mem_singleton.mp k]
          exact spn_mem (List.mem_append_right _ (List.mem_singleton.mpr rfl))
      · rcases List.mem_append.mp ha with k | k
        · exact spn_snoc_skip ((ih a).mpr (spn_mem k))
        · rw [List.mem_singleton.mp k]
          exact spn_mem (List.mem_append_right _ (List.mem_singleton.mpr rfl))
theorem ind_ecT (U : List Nat) (h : Indep U) : ∀ i, i ≤ U.length → ∃ V : List Nat, Ec V ∧ (∀ x, Spn V x ↔ Spn (U.take i) x) ∧ V.length = i
  | 0, _ => ⟨[], ⟨fun _ z => (by cases z), List.Pairwise.nil⟩, fun _ => Iff.rfl, rfl⟩
  | i + 1, hi => by
    obtain ⟨V, E, sV, lV⟩ := ind_ecT U h i (by omega)
    have hg : U[i]? = some (U.getD i 0) := by rw [List.getD_eq_getElem?_getD, List.getElem?_eq_getElem (by omega : i < U.length)]; rfl
    have ns := h i _ hg
    have v0 : rst V (U.getD i 0) ≠ 0 := fun z => ns ((sV _).mp ((spn_rst E _).mpr z))
    exact ⟨V ++ [rst V (U.getD i 0)], E.snoc v0 (rst_clear E), fun x => by rw [take_snoc hg]; exact spn_add0 sV x, by rw [List.length_append, lV]; rfl⟩
/-- independent numbers have a table of as many rows -/
theorem ind_ec (U : List Nat) (h : Indep U) : ∃ V : List Nat, Ec V ∧ (∀ x, Spn V x ↔ Spn U x) ∧ V.length = U.length := by
  obtain ⟨V, E, s, l⟩ := ind_ecT U h U.length (Nat.le_refl _)
  rw [List.take_length] at s
  exact ⟨V, E, s, l⟩
/-- what the table of a made group is to the strings that made it -/
theorem made_tab {n : Nat} {gs T : List Hl} {M : GLs} (R : RedAt n gs gs.length T) (pm : (hls M).Perm T) : Red (gbs M) ∧ (∀ x, Spn (gbs M) x ↔ Spn (gs.map Prod.fst) x) ∧ M.length = (keptL gs gs.length).length := by
  have r1 := R.tab.red.perm (pm.symm.map Prod.fst)
  have sp : ∀ x, Spn (gbs M) x ↔ Spn (kb gs (keptL gs gs.length)) x := fun x => by
    rw [spn_perm (pm.map Prod.fst) x, R.tab.spn x, hsK_fst]
  refine ⟨r1, fun x => ?_, ?_⟩
  · rw [sp x, kept_spn gs gs.length (Nat.le_refl _) x, List.take_length]
  · obtain ⟨U, rU, sU, lU⟩ := ind_ec (kb gs (keptL gs gs.length)) R.ind
    rw [← gbs_len M, len_eq r1.ec rU (fun x => (sp x).trans (sU x).symm), lU, kb_len]
theorem rsH_in {n : Nat} {bs : List Hl} (B : Bse n bs) : ∀ {T : List Hl} {h : Hl}, (∀ r ∈ T, InG n bs r) → InG n bs h → InG n bs (rsH n T h)
  | [], _, _, i => i
  | r :: T, h, k, i => by
    refine rsH_in B (T := T) (h := lwH n h r) (fun q hq => k q (List.mem_cons_of_mem _ hq)) ?_
    unfold lwH
    split
    · exact i.hp B.cs (k r (List.mem_cons_self ..))
    · exact i
theorem rsH_one {n : Nat} {bs : List Hl} {M : GLs} {h : Hl} (B : Bse n bs) (E : Ec (gbs M)) (iM : ∀ x ∈ hls M, InG n bs x) (ih : InG n bs h) (sp : Spn (gbs M) h.1) : rsH n (hls M) h = (0, 0) := by
  refine InG.one B (rsH_in B iM ih) (InG.zero n bs) ?_
  rw [rsH_fst fun r hr => E.nz r.1 (List.mem_map_of_mem hr)]
  exact (spn_rst E _).mp sp
theorem bw_gs (n : Nat) (R : RLs) : bw n (R.map (·.2)) = (gsT n R).map Prod.fst := by
  unfold bw gsT
  rw [List.map_map, List.map_map]
  rfl
theorem pw_strict : ∀ {L : List Nat}, L.Pairwise (fun a b => b ≤ a) → L.Nodup → L.Pairwise (· > ·)
  | [], _, _ => List.Pairwise.nil
  | a :: L, h, d => by
    obtain ⟨h1, h2⟩ := List.pairwise_cons.mp h
    obtain ⟨d1, d2⟩ := List.nodup_cons.mp d
    exact List.pairwise_cons.mpr ⟨fun b hb => Nat.lt_of_le_of_ne (h1 b hb) fun z => d1 (by rw [← z]; exact hb), pw_strict h2 d2⟩
theorem red_nodup {T : List Nat} (R : Red T) : T.Nodup := by
  have : T.Pairwise fun a b => b.testBit a.log2 = false ∧ a.testBit b.log2 = false := R.pw
  have nz := R.nz
  clear R
  induction T with
  | nil => exact List.nodup_nil
  | cons a T ih =>
    obtain ⟨h1, h2⟩ := List.pairwise_cons.mp this
    refine List.nodup_cons.mpr ⟨fun m => ?_, ih h2 fun r hr => nz r (List.mem_cons_of_mem _ hr)⟩
    have := (h1 a m).1
    rw [bit_top (nz a List.mem_cons_self)] at this
    cases this
/-- what a made group knows of the rows that made it -/
structure MadeG (n : Nat) (bs : List Hl) (R N : RLs) (M : GLs) : Prop where
  rows : hls M = N.map fun r => phi n r.2
  red : Red (gbs M)
  spn : ∀ x, Spn (gbs M) x ↔ Spn (bw n (R.map (·.2))) x
  ing : ∀ h ∈ hls M, InG n bs h
  len : M.length = N.length
theorem made_in {n : Nat} {bs : List Hl} (B : Bse n bs) {R : RLs} {T : List Hl} {M : GLs} (inR : ∀ r ∈ R, InG n bs (phi n r.2)) (RA : RedAt n (gsT n R) (gsT n R).length T) (pm : (hls M).Perm T) : ∀ h ∈ hls M, InG n bs h := fun h hh => by
  obtain ⟨m, hm, rfl⟩ := RA.tab.of h (pm.mem_iff.mp hh)
  refine InG.pr B.cs (fun a ha => ?_) m _ (Nat.le_refl _)
  obtain ⟨r, hr, rfl⟩ := List.mem_map.mp (hsK_mem (fun k hk => keptL_lt _ _ k hk) a ha)
  exact inR r hr
theorem made_of {n : Nat} {bs : List Hl} (B : Bse n bs) {R N : RLs} {T : List Hl} {M : GLs} (inR : ∀ r ∈ R, InG n bs (phi n r.2)) (RA : RedAt n (gsT n R) (gsT n R).length T) (pm : (hls M).Perm T) (pw : (hls M).Pairwise fun a b => b.1 ≤ a.1)
    (rN : Red (bw n (N.map (·.2)))) (dN : (bw n (N.map (·.2))).Pairwise (· > ·)) (sN : ∀ x, Spn (bw n (N.map (·.2))) x ↔ Spn (bw n (R.map (·.2))) x) (iN : ∀ r ∈ N, InG n bs (phi n r.2)) : MadeG n bs R N M := by
  obtain ⟨r1, s1, l1⟩ := made_tab RA pm
  have s1' : ∀ x, Spn (gbs M) x ↔ Spn (bw n (R.map (·.2))) x := fun x => by rw [s1 x, bw_gs]
  have iM := made_in B inR RA pm
  have d1 : (gbs M).Pairwise (· > ·) := pw_strict (List.pairwise_map.mpr pw) (red_nodup r1)
  have e : gbs M = bw n (N.map (·.2)) := red_uniq r1 rN d1 dN fun x => (s1' x).trans (sN x).symm
  rw [bw_gs] at e
  have ln : M.length = N.length := by
    have := congrArg List.length e
    rwa [gbs_len, List.length_map, gsT, List.length_map] at this
  refine ⟨List.ext_getElem (by rw [hls_len, List.length_map]; exact ln) fun i h1 h2 => ?_, r1, s1', iM, ln⟩
  have hN : i < N.length := by rwa [List.length_map] at h2
  rw [List.getElem_map]
  refine InG.one B (iM _ (List.getElem_mem h1)) (iN _ (List.getElem_mem hN)) ?_
  have := congrArg (fun L : List Nat => L[i]?) e
  have this : (gbs M)[i]? = ((gsT n N).map Prod.fst)[i]? := this
  rw [List.getElem?_map, List.getElem?_map, List.getElem?_eq_getElem h1, gsT, List.getElem?_map, List.getElem?_eq_getElem hN] at this
  exact Option.some.inj this
end KQ
namespace KQ
open PySem PySem.Spec PyProof.Rows L2
theorem row_rv (n x : Nat) : rowOf n (rv n x) = (List.range n).map fun k => (x.testBit k).toNat := by
  have h := row_nb ((List.range n).map fun k => (x.testBit k).toNat) fun b hb => by
    obtain ⟨k, _, rfl⟩ := List.mem_map.mp hb
    cases x.testBit k <;> decide
  rw [List.length_map, List.length_range] at h
  exact h
theorem LO_LT (n x z : Nat) : LO n (fB n x z) = LT n x z := by
  unfold LO LT
  rw [fB_shift, fB_mod, row_rv, row_rv, List.zipWith_map]
  generalize List.range n = l
  induction l with
  | nil => rfl
  | cons a l ih =>
    rw [List.zipWith_cons_cons, ih]
    rfl
theorem ec_indep {T : List Nat} (E : Ec T) : Indep T := by
  intro i x hx sp
  have il := (List.getElem?_eq_some_iff.mp hx).1
  have take : Ec (T.take i) := ⟨fun r hr => E.nz r (List.mem_of_mem_take hr), E.pw.sublist (List.take_sublist i T)⟩
  have z := (spn_rst take x).mp sp
  have clear : ∀ r ∈ T.take i, x.testBit r.log2 = false := by
    intro r hr
    have pw := E.pw
    rw [← List.take_append_drop i T, List.pairwise_append] at pw
    refine pw.2.2 r hr x ?_
    have : T.drop i = x :: T.drop (i + 1) := by
      rw [List.drop_eq_getElem_cons il]
      congr 1
      rw [List.getElem?_eq_getElem il] at hx
      exact Option.some.inj hx
    rw [this]
    exact List.mem_cons_self ..
  have same : ∀ {l : List Nat}, (∀ r ∈ l, x.testBit r.log2 = false) → rst l x = x := by
    intro l
    induction l with
    | nil => intro _; rfl
    | cons a l ih =>
      intro h
      show rst l (lw x a) = x
      have : lw x a = x := by unfold lw; rw [h a (List.mem_cons_self ..)]; rfl
      rw [this]
      exact ih fun r hr => h r (List.mem_cons_of_mem _ hr)
  rw [same clear] at z
  exact E.nz x (List.mem_of_getElem? hx) z
theorem rwS_N {n : Nat} {N : RLs} {M : GLs} (fN : ∀ r ∈ N, Fit n r.2) (e : hls M = N.map fun r => phi n r.2) : rwS n M = N.map fun r => (LT n r.2.1 r.2.2.1, 2 * r.2.2.2) := by
  unfold rwS
  rw [e, List.map_map]
  refine List.map_congr_left fun r hr => ?_
  have f := fN r hr
  show (LO n (fB n r.2.1 r.2.2.1), _) = _
  rw [LO_LT]
  refine Prod.ext rfl ?_
  show (((((2 * r.2.2.2 + pc (r.2.1 &&& r.2.2.1)) % 4 : Nat) : Int) - ((LO n (fB n r.2.1 r.2.2.1)).count 89 : Nat)) % 4).toNat = 2 * r.2.2.2
  rw [LO_LT, cnt_LT f]
  have := f.2.2
  omega
theorem hdS_LT {n : Nat} {t : T3} (f : Fit n t) : hdS (LT n t.1 t.2.1, 2 * t.2.2) = phi n t := by
  unfold hdS
  rw [bL_LT f, cnt_LT f]
  rfl
theorem rsH_flip (n : Nat) : ∀ (T : List Hl) (h : Hl), rsH n T (h.1, (h.2 + 2) % 4) = ((rsH n T h).1, ((rsH n T h).2 + 2) % 4)
  | [], h => rfl
  | r :: T, h => by
    show rsH n T (lwH n (h.1, (h.2 + 2) % 4) r) = ((rsH n T (lwH n h r)).1, ((rsH n T (lwH n h r)).2 + 2) % 4)
    rw [← rsH_flip n T (lwH n h r)]
    congr 1
    unfold lwH
    show (if h.1 ^^^ r.1 < h.1 then hp n (h.1, (h.2 + 2) % 4) r else (h.1, (h.2 + 2) % 4)) = _
    by_cases c : h.1 ^^^ r.1 < h.1
    · rw [if_pos c, if_pos c]
      unfold hp
      refine Prod.ext rfl ?_
      show ((h.2 + 2) % 4 + r.2 + 2 * tw n h.1 r.1) % 4 = ((h.2 + r.2 + 2 * tw n h.1 r.1) % 4 + 2) % 4
      omega
    · rw [if_neg c, if_neg c]
theorem rsH_bits {n : Nat} {M : GLs} (r : Red (gbs M)) (h : Hl) : (rsH n (hls M) h).1 = 0 ↔ Spn (gbs M) h.1 := by
  rw [rsH_fst fun x hx => r.nz x.1 (List.mem_map_of_mem hx)]
  exact (spn_rst r.ec _).symm
theorem phi_flip {n : Nat} {x z s s' : Nat} (h : s < 2) (h' : s' < 2) (ne : s ≠ s') : phi n (x, z, s) = ((phi n (x, z, s')).1, ((phi n (x, z, s')).2 + 2) % 4) := by
  unfold phi
  refine Prod.ext rfl ?_
  show (2 * s + pc (x &&& z)) % 4 = ((2 * s' + pc (x &&& z)) % 4 + 2) % 4
  omega
theorem spn_key {n : Nat} {R : RLs} (fR : ∀ r ∈ R, Fit n r.2) {t : T3} (f : Fit n t) : SpP (R.map bz) (bt t) ↔ Spn (bw n (R.map (·.2))) (bN n t) := by
  rw [spp_spn (n := n) (fun s hs => by obtain ⟨r, hr, rfl⟩ := List.mem_map.mp hs; exact ⟨(fR r hr).1, (fR r hr).2.1⟩) ⟨f.1, f.2.1⟩]
  unfold bw bN
  rw [List.map_map, List.map_map]
  rfl
section
variable {n : Nat} {bs bs' : List Hl} {R N : RLs} {M : GLs} {ts : List T3}
theorem key_iff (G : MadeG n bs R N M) (g : GrU n R bs' ts) (fR : ∀ r ∈ R, Fit n r.2) {t : T3} (f : Fit n t) : bt t ∈ ts.map bt ↔ (rsH n (hls M) (phi n t)).1 = 0 := by
  rw [g.g.all.iff, spn_key fR f, rsH_bits G.red, G.spn]
  rfl
theorem ts_zero (B : Bse n bs) (G : MadeG n bs R N M) (g : GrU n R bs' ts) (fR : ∀ r ∈ R, Fit n r.2) (inR : ∀ r ∈ R, InG n bs (phi n r.2)) {t : T3} (h : t ∈ ts) : rsH n (hls M) (phi n t) = (0, 0) := by
  have f := g.g.fit t h
  refine rsH_one B G.red.ec G.ing (g.uni bs B inR t h) ?_
  exact (rsH_bits (n := n) G.red (phi n t)).mp ((key_iff G g fR f).mp (List.mem_map_of_mem h))
/-- what the table leaves of a string whose bits are in the group -/
theorem ts_sign (B : Bse n bs) (G : MadeG n bs R N M) (g : GrU n R bs' ts) (fR : ∀ r ∈ R, Fit n r.2) (inR : ∀ r ∈ R, InG n bs (phi n r.2)) {t u : T3} (h : t ∈ ts) (f : Fit n u) (e : bt u = bt t) : rsH n (hls M) (phi n u) = if u.2.2 = t.2.2 then (0, 0) else (0, 2) := by
  have z := ts_zero B G g fR inR h
  by_cases c : u.2.2 = t.2.2
  · rw [if_pos c, btEq e c]
    exact z
  · rw [if_neg c]
    have e1 : u.1 = t.1 := (congrArg Prod.fst e : (bt u).1 = (bt t).1)
    have e2 : u.2.1 = t.2.1 := (congrArg Prod.snd e : (bt u).2 = (bt t).2)
    have : phi n u = ((phi n t).1, ((phi n t).2 + 2) % 4) := by
      have := phi_flip (n := n) (x := t.1) (z := t.2.1) f.2.2 (g.g.fit t h).2.2 c
      rw [← this]
      show phi n (u.1, u.2.1, u.2.2) = _
      rw [e1, e2]
    rw [this, rsH_flip, z]
    rfl
theorem ts_iff (B : Bse n bs) (G : MadeG n bs R N M) (g : GrU n R bs' ts) (fR : ∀ r ∈ R, Fit n r.2) (inR : ∀ r ∈ R, InG n bs (phi n r.2)) {t : T3} (f : Fit n t) : t ∈ ts ↔ rsH n (hls M) (phi n t) = (0, 0) := by
  refine ⟨ts_zero B G g fR inR, fun z => ?_⟩
  have := (key_iff G g fR f).mpr (by rw [z])
  obtain ⟨u, hu, e⟩ := List.mem_map.mp this
  have s := ts_sign B G g fR inR hu f e.symm
  rw [z] at s
  by_cases c : t.2.2 = u.2.2
  · rw [btEq e.symm c]
    exact hu
  · rw [if_neg c] at s
    cases s
/-- as many products as the rank tells -/
theorem ts_len (G : MadeG n bs R N M) (g : GrU n R bs' ts) (fR : ∀ r ∈ R, Fit n r.2) : ts.length = 2 ^ M.length := by
  have I := ec_indep G.red.ec
  have lM := gbs_len M
  have fits : ∀ p ∈ ts.map bt, Fit2 n p := fun p hp => by
    obtain ⟨t, ht, rfl⟩ := List.mem_map.mp hp
    exact ⟨(g.g.fit t ht).1, (g.g.fit t ht).2.1⟩
  have nd1 : ((ts.map bt).map fun p => fB n p.1 p.2).Nodup := by
    have := g.g.all.nd
    refine List.pairwise_map.mpr (List.Pairwise.imp_of_mem (fun {p q} hp hq ne e => ne ?_) this)
    obtain ⟨a, b⟩ := fB_inj (fits p hp).1 (fits p hp).2 (fits q hq).1 (fits q hq).2 e
    exact Prod.ext a b
  have nd2 : ((List.range (2 ^ M.length)).map (sx (gbs M))).Nodup := by
    refine List.pairwise_map.mpr (List.Pairwise.imp_of_mem (fun {p q} hp hq ne e => ne ?_) List.nodup_range)
    rw [List.mem_range] at hp hq
    exact indep_one I (by rw [lM]; exact hp) (by rw [lM]; exact hq) e
  have h12 : ∀ x, x ∈ ((ts.map bt).map fun p => fB n p.1 p.2) ↔ x ∈ (List.range (2 ^ M.length)).map (sx (gbs M)) := fun x => by
    have r : x ∈ (List.range (2 ^ M.length)).map (sx (gbs M)) ↔ Spn (gbs M) x := by
      rw [← inSp_spn, inSp_iff, lM, List.mem_map]
      exact ⟨fun ⟨m, h, e⟩ => ⟨m, List.mem_range.mp h, e⟩, fun ⟨m, h, e⟩ => ⟨m, List.mem_range.mpr h, e⟩⟩
    rw [r]
    constructor
    · intro h
      obtain ⟨p, hp, rfl⟩ := List.mem_map.mp h
      obtain ⟨t, ht, rfl⟩ := List.mem_map.mp hp
      have := (g.g.all.iff (bt t)).mp hp
      exact (G.spn _).mpr ((spn_key fR (g.g.fit t ht)).mp this)
    · intro h
      have lt : x < 2 ^ (2 * n) := by
        have hx := (G.spn x).mp h
        refine hx (fun y => y < 2 ^ (2 * n)) ⟨Nat.two_pow_pos _, fun a b ha hb => Nat.xor_lt_two_pow ha hb⟩ fun a ha => ?_
        obtain ⟨t, _, rfl⟩ := List.mem_map.mp ha
        exact fB_lt ..
      obtain ⟨a, b, ha, hb, rfl⟩ := fB_onto lt
      have f : Fit n (a, b, 0) := ⟨ha, hb, by show 0 < 2; decide⟩
      have := (g.g.all.iff (bt (a, b, 0))).mpr ((spn_key fR f).mpr ((G.spn _).mp h))
      exact List.mem_map.mpr ⟨_, this, rfl⟩
  have l1 := nodup_le nd1 fun x => (h12 x).mp
  have l2 := nodup_le nd2 fun x => (h12 x).mpr
  rw [List.length_map, List.length_map, List.length_map, List.length_range] at l1 l2
  omega
/-- the program's syndrome is the law's -/
theorem syn_eq (G : MadeG n bs R N M) (fN : ∀ r ∈ N, Fit n r.2) {t : T3} (f : Fit n t) : crs n (bL (LT n t.1 t.2.1)) (gbs M) = N.map fun r => crN r.2 t := by
  unfold crs gbs
  rw [G.rows, List.map_map, List.map_map]
  refine List.map_congr_left fun r hr => ?_
  have fr := fN r hr
  show pc (ex n (bL (LT n t.1 t.2.1)) &&& fB n r.2.1 r.2.2.1) % 2 = _
  rw [bL_LT f]
  show pc (ex n (fB n t.1 t.2.1) &&& fB n r.2.1 r.2.2.1) % 2 = _
  rw [cross_fB f.1 f.2.1]
  unfold crN
  rw [pc_xor, Nat.and_comm r.2.1, Nat.and_comm r.2.2.1]
end
/-- two made groups have the same rows exactly if they have the same products -/
theorem rows_iff {n : Nat} {bs bs2 cs cs2 : List Hl} {R N R2 N2 : RLs} {M M2 : GLs} {ts ts2 : List T3} (B : Bse n bs) (G : MadeG n bs R N M) (g : GrU n R cs ts) (fR : ∀ r ∈ R, Fit n r.2) (inR : ∀ r ∈ R, InG n bs (phi n r.2)) (fN : ∀ r ∈ N, Fit n r.2)
    (B2 : Bse n bs2) (G2 : MadeG n bs2 R2 N2 M2) (g2 : GrU n R2 cs2 ts2) (fR2 : ∀ r ∈ R2, Fit n r.2) (inR2 : ∀ r ∈ R2, InG n bs2 (phi n r.2)) (fN2 : ∀ r ∈ N2, Fit n r.2)
    (d : (gbs M).Pairwise (· > ·)) (d2 : (gbs M2).Pairwise (· > ·)) : rwS n M = rwS n M2 ↔ ∀ t, t ∈ ts ↔ t ∈ ts2 := by
  constructor
  · intro e t
    have eN : N.map (fun r => phi n r.2) = N2.map fun r => phi n r.2 := by
      rw [rwS_N fN G.rows, rwS_N fN2 G2.rows] at e
      have := congrArg (List.map hdS) e
      rw [List.map_map, List.map_map] at this
      refine Eq.trans (List.map_congr_left fun r hr => (hdS_LT (fN r hr)).symm) (this.trans (List.map_congr_left fun r hr => hdS_LT (fN2 r hr)))
    have eM : hls M = hls M2 := by rw [G.rows, G2.rows, eN]
    constructor
    · intro h
      have f := g.g.fit t h
      exact (ts_iff B2 G2 g2 fR2 inR2 f).mpr (eM ▸ (ts_iff B G g fR inR f).mp h)
    · intro h
      have f := g2.g.fit t h
      exact (ts_iff B G g fR inR f).mpr (eM.symm ▸ (ts_iff B2 G2 g2 fR2 inR2 f).mp h)
  · intro h
    have sp : ∀ {cs cs2 : List Hl} {R N R2 N2 : RLs} {M M2 : GLs} {bs bs2 : List Hl} {ts ts2 : List T3}, MadeG n bs R N M → GrU n R cs ts → (∀ r ∈ R, Fit n r.2) → MadeG n bs2 R2 N2 M2 → GrU n R2 cs2 ts2 → (∀ r ∈ R2, Fit n r.2) → (∀ t, t ∈ ts → t ∈ ts2) → ∀ x, Spn (gbs M) x → Spn (gbs M2) x := fun {cs cs2 R N R2 N2 M M2 bs bs2 ts ts2} G g fR G2 g2 fR2 h x hx => by
      have hx := (G.spn x).mp hx
      refine (G2.spn x).mpr (spn_le (fun a ha => ?_) hx)
      obtain ⟨t, ht, rfl⟩ := List.mem_map.mp ha
      obtain ⟨r, hr, rfl⟩ := List.mem_map.mp ht
      have f := fR r hr
      have hk : bt r.2 ∈ ts.map bt := (g.g.all.iff _).mpr ((spn_key fR f).mpr (spn_mem ha))
      obtain ⟨u, hu, e⟩ := List.mem_map.mp hk
      have : bt r.2 ∈ ts2.map bt := List.mem_map.mpr ⟨u, h u hu, e⟩
      exact (spn_key fR2 f).mp ((g2.g.all.iff _).mp this)
    have eb : gbs M = gbs M2 := red_uniq G.red G2.red d d2 fun x => ⟨sp G g fR G2 g2 fR2 (fun t => (h t).mp) x, sp G2 g2 fR2 G g fR (fun t => (h t).mpr) x⟩
    have ln : (hls M).length = (hls M2).length := by
      have := congrArg List.length eb
      rwa [List.length_map, List.length_map] at this
    have eM : hls M = hls M2 := by
      refine List.ext_getElem ln fun i h1 h2 => ?_
      have e1 : ((hls M)[i]).1 = ((hls M2)[i]).1 := by
        have := congrArg (fun L : List Nat => L[i]?) eb
        have this : (gbs M)[i]? = (gbs M2)[i]? := this
        rw [List.getElem?_map, List.getElem?_map, List.getElem?_eq_getElem h1, List.getElem?_eq_getElem h2] at this
        exact Option.some.inj this
      have m1 := List.getElem_mem h1
      have m2 := List.getElem_mem h2
      generalize (hls M)[i] = a at e1 m1
      generalize (hls M2)[i] = b at e1 m2
      rw [G.rows] at m1
      rw [G2.rows] at m2
      obtain ⟨r, hr, rfl⟩ := List.mem_map.mp m1
      obtain ⟨r2, hr2, rfl⟩ := List.mem_map.mp m2
      have f := fN r hr
      have f2 := fN2 r2 hr2
      have z : rsH n (hls M) (phi n r.2) = (0, 0) := rsH_one B G.red.ec G.ing (G.ing _ (by rw [G.rows]; exact m1)) (spn_mem (List.mem_map_of_mem (by rw [G.rows]; exact m1)))
      have z2 : rsH n (hls M2) (phi n r2.2) = (0, 0) := rsH_one B2 G2.red.ec G2.ing (G2.ing _ (by rw [G2.rows]; exact m2)) (spn_mem (List.mem_map_of_mem (by rw [G2.rows]; exact m2)))
      have t1 := (ts_iff B G g fR inR f).mpr z
      have t2 := (h _).mpr ((ts_iff B2 G2 g2 fR2 inR2 f2).mpr z2)
      have eb2 : bt r2.2 = bt r.2 := by
        obtain ⟨p, q⟩ := (phi_bits f2 f).mp e1.symm
        exact Prod.ext p q
      have s := ts_sign B G g fR inR t1 f2 eb2
      rw [(ts_iff B G g fR inR f2).mp t2] at s
      by_cases c : r2.2.2.2 = r.2.2.2
      · rw [btEq eb2 c]
      · rw [if_neg c] at s
        cases s
    unfold rwS
    rw [eM]
end KQ
namespace KQ
open PySem PySem.Spec PyProof.Rows L2
def plsOf (n : Nat) (R : RLs) : PLs := R.map fun r => (r.1, LT n r.2.1 r.2.2.1, 2 * r.2.2.2)
theorem pls_len (n : Nat) (R : RLs) : (plsOf n R).length = R.length := List.length_map ..
theorem pls_ref (n : Nat) (R : RLs) : refP (plsOf n R) = refR R := by
  unfold refP plsOf refR
  rw [List.map_map]
  rfl
theorem pls_gs {n : Nat} {R : RLs} (f : ∀ r ∈ R, Fit n r.2) : gsOf (plsOf n R) = gsT n R := by
  unfold gsOf plsOf gsT
  rw [List.map_map]
  refine List.map_congr_left fun r hr => ?_
  exact hdS_LT (f r hr)
structure GiPre (n : Nat) (L : PLs) : Prop where
  ok : PsOk L
  len : ∀ q ∈ L, q.2.1.length = n
  ev : ∀ q ∈ L, q.2.2 % 2 = 0
  com : ∀ i j, i < j → j < L.length → xg n ((gsOf L).map Prod.fst) i j = 0
  good : ∀ i, i < L.length → Good n (gsOf L) i
theorem gi_pre {n : Nat} {bs : List Hl} (B : Bse n bs) {R : RLs} (f : ∀ r ∈ R, Fit n r.2) (inR : ∀ r ∈ R, InG n bs (phi n r.2)) (h1 : 1 ≤ n) (h60 : n ≤ 60) (few : R.length ≤ 100) : GiPre n (plsOf n R) := by
  have el : ∀ q ∈ plsOf n R, ∃ r ∈ R, q = (r.1, LT n r.2.1 r.2.2.1, 2 * r.2.2.2) := fun q hq => by
    obtain ⟨r, hr, rfl⟩ := List.mem_map.mp hq
    exact ⟨r, hr, rfl⟩
  refine ⟨⟨?_, ?_, ?_, ?_, by rw [pls_len]; exact few⟩, ?_, ?_, ?_, ?_⟩
  · intro q hq
    obtain ⟨r, hr, rfl⟩ := el q hq
    exact LT_lts n r.2.1 r.2.2.1
  · intro q hq
    obtain ⟨r, hr, rfl⟩ := el q hq
    intro z
    have := congrArg List.length z
    rw [LT_len] at this
    simp at this
    omega
  · intro q hq
    obtain ⟨r, hr, rfl⟩ := el q hq
    show (LT n r.2.1 r.2.2.1).length ≤ 300
    rw [LT_len]
    omega
  · intro q hq
    obtain ⟨r, hr, rfl⟩ := el q hq
    have := (f r hr).2.2
    show 2 * r.2.2.2 < 4
    omega
  · intro q hq
    obtain ⟨r, hr, rfl⟩ := el q hq
    exact LT_len ..
  · intro q hq
    obtain ⟨r, hr, rfl⟩ := el q hq
    show 2 * r.2.2.2 % 2 = 0
    omega
  · intro i j hij hj
    rw [pls_len] at hj
    have hi : i < R.length := by omega
    have gj : ((gsOf (plsOf n R)).map Prod.fst).getD j 0 = fB n (R[j]).2.1 (R[j]).2.2.1 := by
      rw [pls_gs f, gsT, List.map_map, List.getD_eq_getElem?_getD, List.getElem?_map, List.getElem?_eq_getElem hj]
      rfl
    have gi : ((gsOf (plsOf n R)).map Prod.fst).getD i 0 = fB n (R[i]).2.1 (R[i]).2.2.1 := by
      rw [pls_gs f, gsT, List.map_map, List.getD_eq_getElem?_getD, List.getElem?_map, List.getElem?_eq_getElem hi]
      rfl
    have mi := List.getElem_mem hi
    have mj := List.getElem_mem hj
    unfold xg
    rw [gj, gi]
    generalize R[i] = a at mi
    generalize R[j] = b at mj
    have fb := f b mj
    rw [cross_fB fb.1 fb.2.1]
    have c := (crN_com (f a mi) fb).mpr ((inR a mi).com B.cs (inR b mj))
    unfold crN at c
    rw [pc_xor, Nat.and_comm a.2.1, Nat.and_comm a.2.2.1] at c
    exact c
  · intro i hi
    rw [pls_len] at hi
    rw [pls_gs f]
    exact good_of B (gsT_in inR) (by rw [gsT, List.length_map]; exact hi)
/-- rows with an I more -/
theorem LT_pad {n x z : Nat} (hx : x < 2 ^ n) (hz : z < 2 ^ n) : LT (n + 1) x z = LT n x z ++ [73] := by
  unfold LT
  rw [List.range_succ, List.map_append, List.map_singleton, Nat.testBit_lt_two_pow hx, Nat.testBit_lt_two_pow hz]
  rfl
theorem fit_pad {n : Nat} {t : T3} (f : Fit n t) : Fit (n + 1) t := ⟨Nat.lt_of_lt_of_le f.1 (Nat.pow_le_pow_right (by decide) (by omega)), Nat.lt_of_lt_of_le f.2.1 (Nat.pow_le_pow_right (by decide) (by omega)), f.2.2⟩
theorem bse_pad {n : Nat} {bs : List Hl} {N : RLs} (B : Bse n bs) (f : ∀ r ∈ N, Fit n r.2) (iN : ∀ r ∈ N, InG n bs (phi n r.2)) (I : Indep (bw n (N.map (·.2)))) : Bse (n + 1) (gsT (n + 1) N) := by
  refine ⟨⟨fun a ha => ?_, fun a ha b hb => ?_⟩, ?_⟩
  · obtain ⟨r, hr, rfl⟩ := List.mem_map.mp ha
    exact phi_sg (fit_pad (f r hr))
  · obtain ⟨r, hr, rfl⟩ := List.mem_map.mp ha
    obtain ⟨q, hq, rfl⟩ := List.mem_map.mp hb
    exact (crN_com (fit_pad (f r hr)) (fit_pad (f q hq))).mp ((crN_com (f r hr) (f q hq)).mpr ((iN r hr).com B.cs (iN q hq)))
  · rw [← bw_gs]
    intro i x hx hs
    unfold bw at hx hs
    rw [List.getElem?_map, List.getElem?_map] at hx
    obtain ⟨t, ht, rfl⟩ := Option.map_eq_some_iff.mp hx
    obtain ⟨r, hr, rfl⟩ := Option.map_eq_some_iff.mp ht
    rw [← List.map_take, ← List.map_take, List.map_map] at hs
    refine I i (bN n r.2) (by unfold bw; rw [List.getElem?_map, List.getElem?_map, hr]; rfl) ?_
    unfold bw
    rw [← List.map_take, ← List.map_take, List.map_map]
    have fs : ∀ q ∈ N.take i, Fit n q.2 := fun q hq => f q (List.mem_of_mem_take hq)
    have fr := f r (List.mem_of_getElem? hr)
    have k1 := (spp_spn (n := n + 1) (ss := (N.take i).map bz) (p := bt r.2) (fun s hs => by obtain ⟨q, hq, rfl⟩ := List.mem_map.mp hs; exact ⟨(fit_pad (fs q hq)).1, (fit_pad (fs q hq)).2.1⟩) ⟨(fit_pad fr).1, (fit_pad fr).2.1⟩).mpr (by
      rw [List.map_map]
      exact hs)
    have k2 := (spp_spn (n := n) (ss := (N.take i).map bz) (p := bt r.2) (fun s hs => by obtain ⟨q, hq, rfl⟩ := List.mem_map.mp hs; exact ⟨(fs q hq).1, (fs q hq).2.1⟩) ⟨fr.1, fr.2.1⟩).mp k1
    rw [List.map_map] at k2
    exact k2
theorem red_ind {n : Nat} {N : RLs} (r : Red (bw n (N.map (·.2)))) : Indep (bw n (N.map (·.2))) := ec_indep r.ec
theorem in_pad {n : Nat} {bs : List Hl} {N : RLs} (B : Bse n bs) (f : ∀ r ∈ N, Fit n r.2) (iN : ∀ r ∈ N, InG n bs (phi n r.2)) (I : Indep (bw n (N.map (·.2)))) : ∀ r ∈ N, InG (n + 1) (gsT (n + 1) N) (phi (n + 1) r.2) := fun r hr => InG.mem (bse_pad B f iN I).cs (List.mem_map_of_mem hr)
end KQ
namespace KQ
open PySem PySem.Spec PyProof.Rows L2
section
variable {prog : Program} {w : World} {K : Type} [DecidableEq K] {knd : HeapKind prog w K} {A : Around} {E : Value → Shared → Prop} {s : Shared}
inductive HitsH (A : Around) (s : Shared) (kb : List (K × Addr × Value)) : List (K × Addr × Value) → Bool → Prop
  | nil : HitsH A s kb [] true
  | miss {x : K × Addr × Value} {r : List (K × Addr × Value)} : atKey kb x.1 = none → HitsH A s kb (x :: r) false
  | hit {x : K × Addr × Value} {p : Addr × Value} {r : List (K × Addr × Value)} {e b : Bool} : atKey kb x.1 = some p → SeqAt.EqAt A s x.2.2 p.2 e → HitsH A s kb r b → HitsH A s kb (x :: r) (e && b)
theorem HitsH.inv {kb : List (K × Addr × Value)} {x : K × Addr × Value} {r : List (K × Addr × Value)} {b : Bool} (h : HitsH A s kb (x :: r) b) :
    (atKey kb x.1 = none ∧ b = false) ∨ ∃ p e b', atKey kb x.1 = some p ∧ SeqAt.EqAt A s x.2.2 p.2 e ∧ HitsH A s kb r b' ∧ b = (e && b') := by
  cases h with
  | miss hn => exact .inl ⟨hn, rfl⟩
  | hit hy he hr => exact .inr ⟨_, _, _, hy, he, hr, rfl⟩
theorem samePairsH {nm : String} {a b : Addr} {ka kb : List (K × Addr × Value)} {r : Bool} {Q : Bool → Shared → Prop} (ha : (a == sysModules) = false) (hb : (b == sysModules) = false) (hu : knd.room A)
    (da : s.heap.DictOfH knd a ka) (db : s.heap.DictOfH knd b kb) (hits : ka.length = kb.length → HitsH A s kb ka r) (h : Q (ka.length == kb.length && r) s) :
    wpAny (model prog w) A (Builtin.Dict.samePairs nm a b) Q E s := by
  obtain ⟨oa, es, ep, hoa, _, hda, hea, hia, hna⟩ := da
  obtain ⟨ob, es', ep', hob, _, hdb, heb, hib, hnb⟩ := db
  have hla : ka.length = es.size := (size_of_entries hea).symm
  have hlb : kb.length = es'.size := (size_of_entries heb).symm
  rw [hla, hlb] at h
  unfold Builtin.Dict.samePairs Builtin.Dict.showsAll
  rw [if_neg (show ¬ (a == sysModules) = true by rw [ha]; exact Bool.false_ne_true), if_neg (show ¬ (b == sysModules) = true by rw [hb]; exact Bool.false_ne_true)]
  refine wpAny_bind (wpAny_pure (wpAny_bind (wpAny_pure ?_)))
  refine wpAny_bind (wpAny_dictEntries hoa hda ?_)
  dsimp only
  refine wpAny_bind (wpAny_dictEntries hob hdb ?_)
  by_cases hsz : es.size = es'.size
  case neg =>
    rw [if_pos (by simpa using hsz)]
    have hbf : (es.size == es'.size) = false := by simpa using hsz
    rw [hbf, Bool.false_and] at h
    exact wpAny_bind (wpAny_rule (wpAny_pure h))
  case pos =>
    have h' : Q r s := by simpa [hsz] using h
    have hits' := hits (by rw [hla, hlb]; exact hsz)
    rw [if_neg (by rw [hsz]; simp)]
    refine wpAny_bind (wpAny_dictEpoch hoa hda ?_)
    refine wpAny_bind ?_
    rw [Std.Legacy.Range.forIn_eq_forIn_range']
    simp only [Std.Legacy.Range.size, Nat.sub_zero, Nat.add_sub_cancel, Nat.div_one]
    refine wpAny_forIn_list _
      (fun rest q s' => s' = s ∧ q = (none, ()) ∧ ∃ i, rest = List.range' i (es.size - i) ∧ i ≤ es.size ∧ HitsH A s kb (ka.drop i) r)
      _ ?_ ?_ _ _ ⟨rfl, rfl, 0, by simp, Nat.zero_le _, hits'⟩
    · rintro x rest q s' ⟨rfl, rfl, i, hr, hi, hpre⟩
      have hlt : i < es.size := by
        rcases Nat.lt_or_ge i es.size with h | h
        · exact h
        · rw [Nat.sub_eq_zero_of_le h] at hr; simp at hr
      obtain ⟨rfl, hrest⟩ : x = i ∧ rest = List.range' (i + 1) (es.size - (i + 1)) := by
        have e : es.size - i = (es.size - (i + 1)) + 1 := by omega
        rw [e, List.range'_succ] at hr
        injection hr with h1 h2
        exact ⟨h1, h2⟩
      refine wpAny_bind (wpAny_dictEntries hoa hda ?_)
      have hlt' : x < ka.length := by rw [hla]; exact hlt
      have hka : ka[x]? = some ka[x] := List.getElem?_eq_getElem hlt'
      have hdrop : ka.drop x = ka[x] :: ka.drop (x + 1) := List.drop_eq_getElem_cons hlt'
      rw [hdrop] at hpre
      have hex : es[x]? = some (entryOfKey knd ka[x]) := by rw [entry_at hea x, hka]; rfl
      have hkey := hia ka[x] (List.getElem_mem hlt')
      generalize ka[x] = y at hpre hex hkey
      rw [hex]
      show wpAny _ _ (holding [Value.ref y.2.1, y.2.2] _ >>= _) _ _ _
      refine wpAny_bind (wpAny_holding (wpAny_bind (wpAny_dictFind_heap hu hkey hob hdb heb hib hnb ?_ ?_)))
      · intro hno
        have hn := atKey_none_of_get hno
        rcases hpre.inv with ⟨_, er⟩ | ⟨p, _, _, hy, _⟩
        · rw [er] at h'
          refine wpAny_pure ?_
          show wpAny _ _ (if (!false) = true then _ else _) _ _ _
          rw [if_pos (by decide)]
          exact wpAny_pure (wpAny_pure h')
        · rw [hn] at hy; exact nomatch hy
      · intro j p hj
        have hp := atKey_of_get hnb hj
        refine wpAny_bind (wpAny_dictEntries hob hdb ?_)
        rw [entry_at heb j, hj]
        rcases hpre.inv with ⟨hn, _⟩ | ⟨p', e, b', hy, he, hrr, er⟩
        · rw [hp] at hn; exact nomatch hn
        · rw [hp] at hy
          obtain rfl := Option.some.inj hy
          refine wpAny_holding (he prog w _ _ ?_)
          cases e with
          | false =>
            rw [er, Bool.false_and] at h'
            show wpAny _ _ (if (!false) = true then _ else _) _ _ _
            rw [if_pos (by decide)]
            exact wpAny_pure (wpAny_pure h')
          | true =>
            rw [Bool.true_and] at er
            rw [← er] at hrr
            show wpAny _ _ (if (!true) = true then _ else _) _ _ _
            rw [if_neg (by decide)]
            refine wpAny_bind (wpAny_dictEpoch hoa hda ?_)
            rw [if_neg (by simp)]
            exact wpAny_pure ⟨rfl, rfl, x + 1, hrest, hlt, hrr⟩
    · rintro q s' ⟨rfl, rfl, i, hr, hi, hpre⟩
      have hin : i = es.size := by
        rcases Nat.lt_or_ge i es.size with h | h
        · have e : es.size - i = (es.size - (i + 1)) + 1 := by omega
          rw [e, List.range'_succ] at hr; exact nomatch hr
        · exact Nat.le_antisymm hi h
      refine wpAny_pure ?_
      rw [hin, ← hla, List.drop_length] at hpre
      cases hpre
      exact h'
theorem heq_eq {a b : Addr} {ka kb : List (K × Addr × Value)} {r : Bool} {Q : Value → Shared → Prop} (ha : (a == sysModules) = false) (hb : (b == sysModules) = false) (hr : knd.room A.in1)
    (da : s.heap.DictOfH knd a ka) (db : s.heap.DictOfH knd b kb) (hu : A.units < cLine) (hits : ka.length = kb.length → HitsH A.in1 s kb ka r) (h : Q (.bool (ka.length == kb.length && r)) s) :
    wpAny (model prog w) A (compareOp .Eq (.ref a) (.ref b)) Q E s := by
  refine wpAny_richCompare_same_room (op := .Eq) da.typeIs db.typeIs PySem.F.slot_dict_eq (wpAny_call_entry PySem.F.slot_dict_eq da.typeIs PySem.F.entry_dict_eq ?_ (PySem.F.args_dict_eq_2 _ _)) hu
  show wpAny _ _ (Builtin.Dict.dictSlotArgs "__eq__" ⟨[.ref a, .ref b], []⟩ >>= _) _ _ s
  refine wpAny_bind ?_
  unfold Builtin.Dict.dictSlotArgs
  refine wpAny_bind (wpAny_notOrdered_dict da.typeIs ?_)
  show wpAny _ _ (pure (Value.ref a, Value.ref b)) _ _ s
  refine wpAny_pure ?_
  refine wpAny_bind (wpAny_isInstance (T := "dict") db.typeIs PySem.F.sub_dict_dict ?_)
  simp only [Bool.not_true, Bool.false_eq_true, if_false]
  refine wpAny_bind (wpAny_pure (wpAny_bind (wpAny_pure ?_)))
  refine wpAny_bind (samePairsH ha hb hr da db hits ?_)
  refine wpAny_pure ⟨_, rfl, ?_, ?_⟩
  · exact fun x => nomatch x
  · simpa using h
end
def IntV (kvs : List (List L2.Key × V)) : Prop := ∀ p ∈ kvs, ∃ i : Int, p.2 = .int i
def eqDT (ks ls : List (List L2.Key × V)) : Bool := (ks.length == ls.length) && ks.all fun p => decide (valV ls p.1 = some p.2)
theorem valV_mem {κ : Type} [DecidableEq κ] : ∀ {kvs : List (κ × V)} {k : κ} {v : V}, valV kvs k = some v → ∃ p ∈ kvs, p.1 = k ∧ p.2 = v
  | [], k, v, h => by cases h
  | q :: r, k, v, h => by
    by_cases e : q.1 = k
    · rw [valV_pos e] at h
      exact ⟨q, List.mem_cons_self, e, Option.some.inj h⟩
    · rw [valV_neg e] at h
      obtain ⟨p, hp, a⟩ := valV_mem h
      exact ⟨p, List.mem_cons_of_mem _ hp, a⟩
theorem hitsH_of {A : Around} {s : Shared} {H : Hp} {ls : List (List L2.Key × V)} {xs : List (List L2.Key × Addr × Value)} (rb : KT H ls xs) (ib : IntV ls) : ∀ {ks : List (List L2.Key × V)} {ys : List (List L2.Key × Addr × Value)}, KT H ks ys → IntV ks →
    HitsH A s xs ys (ks.all fun p => decide (valV ls p.1 = some p.2))
  | [], [], _, _ => .nil
  | p :: ks, y :: ys, .cons h t, ia => by
    obtain ⟨e, _, rv⟩ := h
    have ih := hitsH_of (A := A) (s := s) rb ib t fun q hq => ia q (List.mem_cons_of_mem _ hq)
    have val := rb.val y.1
    rw [List.all_cons, e]
    obtain ⟨i, ei⟩ := ia p List.mem_cons_self
    cases hv : valV ls y.1 with
    | none =>
      rw [hv] at val
      rw [decide_eq_false (fun z => nomatch z), Bool.false_and]
      cases hk : atKey xs y.1 with
      | none => exact .miss hk
      | some q => rw [hk] at val; exact False.elim val
    | some v =>
      rw [hv] at val
      cases hk : atKey xs y.1 with
      | none => rw [hk] at val; exact False.elim val
      | some q =>
        rw [hk] at val
        have val : RelV v q.2 := val
        obtain ⟨r, hr, _, er⟩ := valV_mem hv
        obtain ⟨j, ej⟩ := ib r hr
        rw [ej] at er
        subst er
        rw [ei] at rv ⊢
        obtain ⟨t1, e1⟩ := rv
        obtain ⟨t2, e2⟩ := val
        have := HitsH.hit (A := A) (s := s) (kb := xs) (x := y) (e := i == j) hk (by rw [e1, e2]; exact SeqAt.EqAt.int_int i t1 j t2) ih
        have hd : decide (some (V.int j) = some (V.int i)) = (i == j) := by
          by_cases c : i = j
          · subst c
            rw [decide_eq_true rfl]
            exact (beq_self_eq_true i).symm
          · rw [decide_eq_false fun z => c (by have := V.int.inj (Option.some.inj z); exact this.symm)]
            exact (beq_eq_false_iff_ne.mpr c).symm
        rw [hd]
        exact this
def rEqDT : R2 := fun x y H Q => ∃ a b ks ls, x = .ref a ∧ y = .ref b ∧ Rd H a (.dT ks) ∧ Rd H b (.dT ls) ∧ IntV ks ∧ IntV ls ∧ Q (.bl (eqDT ks ls)) H
theorem op_eqDT {X : Cx} (hu : X.A.units + 2 < cLine) : OpR X (compareOp .Eq) rEqDT := by
  intro pins s σ H x y v u Q I rx ry h
  obtain ⟨a, b, ks, ls, rfl, rfl, ea, eb, ia, ib, q⟩ := h
  obtain rfl : v = Value.ref a := rx
  obtain rfl : u = Value.ref b := ry
  obtain ⟨_, ya, va, ra, da⟩ := dt_rd I.hok ea
  obtain ⟨_, yb, vb, rb, db⟩ := dt_rd I.hok eb
  refine heq_eq (knd := tupleKind (mixKind X.prog X.w)) (r := ks.all fun p => decide (valV ls p.1 = some p.2)) ya yb (show X.A.units + 1 < cLine by omega) da db (by omega) (fun _ => hitsH_of rb ib ra ia) (fin_bl I q ?_)
  unfold eqDT
  rw [kt_len ra, kt_len rb]
end KQ
namespace KQ
open PySem PySem.Spec PyProof.Rows L2 LamX
def Sx (TT : List (Addr × Str)) (p c : Addr) (N : Nat) (H : Hp) : Prop := ∃ n, n ≤ N ∧ PenAt H p c n ∧ Tabs TT H
theorem codeO_ne {c : Addr} {q : Str} : ∀ kv, CodeO c q ≠ .dK kv := by
  intro kv z
  unfold CodeO at z
  cases z
theorem pen_dk {H : Hp} {p c : Addr} {n : Nat} (P : PenAt H p c n) : ∃ kv, H p = some (.dK kv) := by
  obtain ⟨ns, a, d, f, hp, _⟩ := P
  exact ⟨_, hp⟩
theorem tabs_kb {TT : List (Addr × Str)} {H H' : Hp} {p : Addr} {kv : List (Key × V)} (hp : H p = some (.dK kv)) (t : Tabs TT H) (k : KB p H H') : Tabs TT H' := by
  intro q hq
  obtain ⟨ps, h1, h2, h3⟩ := t q hq
  refine ⟨ps, k _ _ h1 (ne_of h1 hp (by intro z; cases z)), h2, fun pos cv hc => ?_⟩
  obtain ⟨c, e1, e2⟩ := h3 pos cv hc
  exact ⟨c, e1, k _ _ e2 (ne_of e2 hp (codeO_ne kv))⟩
theorem pen_ext {H H' : Hp} {p c : Addr} {n : Nat} (h : PenAt H p c n) (x : ExtN H H') : PenAt H' p c n := by
  obtain ⟨ns, a, d, f, e1, e2, r⟩ := h
  exact ⟨ns, a, d, f, x _ _ e1 (fun ps z => by cases z), x _ _ e2 (fun ps z => by cases z), r⟩
theorem Sx.same {TT : List (Addr × Str)} {p c : Addr} {N : Nat} {H H' : Hp} (h : Sx TT p c N H) (s : Same H H') : Sx TT p c N H' := by
  obtain ⟨n, hn, hP, t⟩ := h
  exact ⟨n, hn, hP.ext s, Tabs.ext t s⟩
theorem Sx.mono {TT : List (Addr × Str)} {p c : Addr} {N M : Nat} {H : Hp} (h : Sx TT p c N H) (le : N ≤ M) : Sx TT p c M H := by
  obtain ⟨n, hn, r⟩ := h
  exact ⟨n, Nat.le_trans hn le, r⟩
theorem sx_step {TT : List (Addr × Str)} {p c : Addr} {n n' N' : Nat} {H H' : Hp} (hP : PenAt H p c n) (t : Tabs TT H) (hP' : PenAt H' p c n') (k : KB p H H') (le : n' ≤ N') : Sx TT p c N' H' := by
  obtain ⟨kv, hp⟩ := pen_dk hP
  exact ⟨n', le, hP', tabs_kb hp t k⟩
theorem Sx.ext {TT : List (Addr × Str)} {p c : Addr} {N : Nat} {H H' : Hp} (h : Sx TT p c N H) (x : ExtN H H') (t : Tabs TT H') : Sx TT p c N H' := by
  obtain ⟨n, hn, hP, _⟩ := h
  exact ⟨n, hn, pen_ext hP x, t⟩
theorem made_sm {H : Hp} {x dx C : Addr} (nx : H x = none) (nd : H dx = none) : Same H (upd (upd H dx (.own x)) x (.ins C dx [])) := fun b o e => by
  rw [upd_ne (ne_of_none e nx), upd_ne (ne_of_none e nd)]
  exact e
/-- a promise that is not opened by itself -/
structure Wr (sp : Sp) (vs : List V) (H : Hp) (Q : VK) (E : XK) : Prop where
  out : sp vs H Q E
theorem pe_mid {X : Cx} {e : Expr} {t : TE} (h : PE X e t) : PE X e (fun σ H Q => ∃ M : VK, t σ H M ∧ ∀ v H1, M v H1 → Q v H1) :=
  ⟨fun pins s σ H _ I ⟨M, h1, h2⟩ => thn (h.run pins s σ H M I h1) fun v s1 ⟨x, H1, I1, r, q⟩ => ⟨x, H1, I1, r, h2 x H1 q⟩⟩
section
variable {TT : List (Addr × Str)} {p pc : Addr} {N : Nat} {H : Hp} {Q : VK} {E : XK}
theorem dr_of {m : Int} (x : Sx TT p pc N H) (hN : N < 1000000) (h0 : 0 < m) (hm : m ≤ 1000000) (q : ∀ (y : Nat) H', (y : Int) < m → Sx TT p pc (N + 1) H' → KB p H H' → Q (.int (y : Nat)) H') : Wr spDraw [.ref p, .int m] H Q E := by
  obtain ⟨n, hn, hP, tb⟩ := x
  refine ⟨p, pc, n, m, rfl, hP, by omega, h0, Nat.lt_of_le_of_lt (by omega : m.natAbs ≤ 1000000) (by decide), fun y H' y0 y1 hP' k => ?_⟩
  obtain ⟨j, rfl⟩ : ∃ j : Nat, y = (j : Int) := ⟨y.toNat, by omega⟩
  exact q j H' y1 (sx_step hP tb hP' (KB.eq k) (by omega)) (KB.eq k)
theorem st_of {n : Nat} {m : Int} (x : Sx TT p pc N H) (hN : N + 6000 < 1000000) (h1 : 1 ≤ n) (h2 : n ≤ 25) (hm : 0 ≤ m) (q : ∀ H' l R, KB p H H' → Sx TT p pc (N + 6000) H' → H l = none → H' l = some (.lst (refR R)) → RsAt n H' R → R.length ≤ min m.toNat n + 3 → Grpd n R → Q (.ref l) H') :
    Wr spStrs [.ref p, .int (n : Nat), .int m] H Q E := by
  obtain ⟨k, hk, hP, tb⟩ := x
  obtain ⟨j, rfl⟩ : ∃ j : Nat, m = (j : Int) := ⟨m.toNat, by omega⟩
  exact ⟨p, pc, k, n, j, rfl, hP, by omega, h1, h2, fun H' l R k' kb hP' le nl el hR _ lR gd => q H' l R kb (sx_step hP tb hP' kb (by omega)) nl el hR (by rw [Int.toNat_natCast]; exact lR) gd⟩
theorem ot_of {l : Addr} {n : Nat} {R : RLs} {bs : List Hl} (x : Sx TT p pc N H) (hN : N + 200 < 1000000) (el : H l = some (.lst (refR R))) (hR : RsAt n H R) (h2 : n ≤ 25) (lR : R.length ≤ 12) (B : Bse n bs) (lb : bs.length ≤ n) (hi : ∀ r ∈ R, InG n bs (phi n r.2))
    (q : ∀ H' l' R', KB p H H' → Sx TT p pc (N + 60) H' → H' l' = some (.lst (refR R')) → RsAt n H' R' → R'.length ≤ R.length → (∀ q ∈ R', ∀ r ∈ R', crN q.2 r.2 = 0) → Q (.ref l') H') : Wr spOt [.ref p, .ref l] H Q E := by
  obtain ⟨k, hk, hP, tb⟩ := x
  exact ⟨p, pc, l, k, n, R, rfl, hP, by omega, el, hR, h2, lR, bs, B, lb, hi, fun H' l' R' n' kb P' le el' hR' l2 cm => q H' l' R' kb (sx_step hP tb P' kb (by omega)) el' hR' l2 cm⟩
theorem pk_of {K : PySem.W.Frag} {l : Addr} {xs : List V} (x : Sx TT p pc N H) (hN : N < 1000000) (el : H l = some (.lst xs)) (h0 : xs ≠ []) (h1 : xs.length ≤ 1000) (q : ∀ v H', v ∈ xs → Sx TT p pc (N + 1) H' → KB p H H' → Q v H') : Wr (spPick K) [.ref p, .ref l] H Q E := by
  obtain ⟨n, hn, hP, tb⟩ := x
  exact ⟨p, pc, l, n, xs, rfl, hP, by omega, .inl (SqL.of el), h0, h1, fun i v H' hi hP' k => q v H' (List.mem_of_getElem? hi) (sx_step hP tb hP' (KB.eq k) (by omega)) (KB.eq k)⟩
theorem sm_of {n : Nat} (x : Sx TT p pc N H) (hN : N + 100 < 1000000) (h2 : n ≤ 25) (q : ∀ t T H', Fit n T → T.2.2 = 0 → TrAt H' t T → Sx TT p pc (N + 100) H' → KB p H H' → Q (.ref t) H') : Wr spSome [.ref p, .int (n : Nat)] H Q E := by
  obtain ⟨k, hk, hP, tb⟩ := x
  refine ⟨p, pc, k, n, rfl, hP, by omega, by omega, fun L t H' hL hl et hP' kp => ?_⟩
  have kb : KB p H H' := fun b o e hb => kp b o hb e
  exact q t (bv lx L, bv lz L, 0) H' (oft_fit (by omega)) rfl et (sx_step hP tb hP' kb (by omega)) kb
theorem sx_kb {R : RLs} {n : Nat} {H' : Hp} (x : Sx TT p pc N H) (k : KB p H H') (h : RsAt n H R) : RsAt n H' R := let ⟨_, _, hP, _⟩ := x; kb_rs hP k h
theorem sx_lst {l : Addr} {xs : List V} {H' : Hp} (x : Sx TT p pc N H) (k : KB p H H') (h : H l = some (.lst xs)) : H' l = some (.lst xs) := let ⟨_, _, hP, _⟩ := x; kb_lst hP k h
end
end KQ
namespace KQ
open PySem PySem.Spec PyProof.Rows L2
def BesideT (K : PySem.W.Frag) (C : Addr) (H : Hp) (y : V) : Prop := (∃ b dy gs, y = .ref b ∧ H b = some (.ins C dy gs)) ∨ ∃ b xs, y = .ref b ∧ SqT K H b xs
def rOwnT (K : PySem.W.Frag) (C : Addr) (sp : Sp) (E : XK) : R2 := fun x y H Q => ∃ a dx fs, x = .ref a ∧ H a = some (.ins C dx fs) ∧ BesideT K C H y ∧ sp [x, y] H (fun v H' => (∃ b, v = .bl b) ∧ Q v H') E
theorem op_ownT {X : Cx} {n : Nat} {CX : CXT} {C f : Addr} {fd : FuncData} {ps : List Str} {sp : Sp} {E : XK} (F : FnOk X.prog X.w X.K X.mg X.base CX n f fd ps sp) (hr : Room n X.A)
    (hs : PySem.W.findIn X.K (.ref C) "__eq__" = some (some (.ref f))) (hf : PySem.W.isFn X.K (.ref f) = true) (hn : PySem.W.notFirst X.K C (.type "tuple") = true) (hb : Binds X.K fd ps []) (hx : Passes CX X E) :
    OpR X (compareOp .Eq) (rOwnT X.K C sp E) := by
  intro pins s σ H x y v u Q I rx ry want
  obtain ⟨a, dx, fs, rfl, ha, be, hsp⟩ := want
  cases rx
  show wpAny (model X.prog X.w) X.A (richCompare .Eq (.ref a) u) (EP X pins σ Q) X.xe s
  obtain ⟨m1, I1, _⟩ := ins_get I.hok ha
  obtain ⟨d1, I1, _⟩ := I1.look
  obtain ⟨m, hF⟩ := I.fr
  have hl := F.len _ _ _ _ hsp
  have run : wpAny (model X.prog X.w) X.A (call (.ref f) [.ref a, u]) (PySem.W.CmpBack (EP X pins σ Q)) X.xe s := by
    have r2 : Vals [V.ref a, y] [Value.ref a, u] := .cons rfl (.cons ry .nil)
    refine wpAny_call (codeAny_mono (F.run X.A X.stack s H ⟨[.ref a, u], []⟩ [.ref a, u] [.ref a, y] _ E hr I.env0 (by
      have := hb s [.ref a, u] I.kIn (by simpa using hl)
      simpa using this) r2 hsp) fun r s' hq => ?_)
    cases r with
    | error e => exact hx pins σ H s e s' I hq
    | ok fl =>
      cases fl with
      | ret w =>
        obtain ⟨z, H', I', rz, ⟨b, ez⟩, q⟩ := I.after hq
        subst ez
        cases rz
        exact ⟨.bl b, H', I', rfl, q⟩
      | next => exact False.elim hq
      | brk => exact False.elim hq
      | cont => exact False.elim hq
  rcases be with ⟨b, dy, gs, rfl, hb'⟩ | ⟨b, xs, rfl, hb'⟩
  · cases ry
    obtain ⟨m2, I2, _⟩ := ins_get I.hok hb'
    obtain ⟨d2, I2, _⟩ := I2.look
    exact PySem.W.cmp_K (op := .Eq) (tb := .ref C) hr.units0 hF I.ok.mod.kin I1 I2.type (by simp [PySem.W.notFirst]) hs hf run
  · cases ry
    obtain ⟨its, _, ⟨o, e, hc, _⟩, _⟩ := I.tuple hb'
    have L : PySem.W.Looks (model X.prog X.w) s.heap (typeOf (.ref b)) o.cls := (PySem.W.Looks.ld e).andThen .now
    rw [hc] at L
    exact PySem.W.cmp_K (op := .Eq) (tb := .type "tuple") hr.units0 hF I.ok.mod.kin I1 L hn hs hf run
end KQ
namespace KQ
open PySem PySem.Spec PyProof.Rows L2
def spGIT (K : PySem.W.Frag) (C CG : Addr) : Sp := fun vs H Q _ => ∃ (a dx : Addr) (n : Nat) (ts : Addr) (L : PLs), vs = [.ref a, .int (n : Nat), .ref ts] ∧ H a = some (.ins CG dx []) ∧ SqT K H ts (refP L) ∧ PsAt C H L ∧ PsOk L ∧ 1 ≤ n ∧ n ≤ 300 ∧ (∀ q ∈ L, q.2.1.length = n) ∧ (∀ q ∈ L, q.2.2 % 2 = 0) ∧
  (∀ i j, i < j → j < L.length → xg n ((gsOf L).map Prod.fst) i j = 0) ∧ (∀ i, i < L.length → Good n (gsOf L) i) ∧
  ∀ H' M T, But a H H' → GroupAt CG C H' a n M → (hls M).Perm T → (hls M).Pairwise (fun a b => b.1 ≤ a.1) → RedAt n (gsOf L) L.length T → Q .non H'
section
variable {P : Program} {w : World} {K : PySem.W.Frag} {mg : Str → Option Value} {base : Heap}
set_option linter.unusedVariables false in
theorem ok_ginitT {f C CG CT CB fI fE fB fBN hA lA : Addr} {fd dB dBN : FuncData} {fIs fHo fBo fHp fPa fCr fSh fBt fLg fLn fCk fRt fSo fFr fLo fC : Addr} {dI dIs dHo dBo dHp dPa dCr dSh dBt dLg dLn dCk dRt dSo dFr dLo dC : FuncData}
    (F : Fun K "__init__" "Group.__init__" sGI f fd) (G : GCl K mg CG f) (cne : C ≠ CG)
    (T : GEnv K w mg C CT CB fI fE fB fBN hA lA dB dBN fIs fHo fBo fHp fPa fCr fSh fBt fLg fLn fCk fRt fSo fFr fLo fC dI dIs dHo dBo dHp dPa dCr dSh dBt dLg dLn dCk dRt dSo dFr dLo dC) :
    FnOk P w K mg base (L2.CX P w) 8 f fd ["self", "size", "strings"] (spGIT K C CG) := by
  have GIs : FnOk P w K mg base CX0 7 fIs dIs ["value"] spIsI := ok_isI T.FIs T.B
  have GHo : FnOk P w K mg base CX0 7 fHo dHo ["string"] (spHeld C) := ok_held T.FHo T.FBo T.bBo T.gBo T.N T.B
  have GCk : FnOk P w K mg base (L2.CX P w) 4 fCk dCk ["size", "rows"] (spChk K) := ok_chk T.FCk T.FCr T.bCr T.gCr T.FBt T.bBt T.gBt T.FSh T.bSh T.gSh T.FPa T.bPa T.gPa T.B
  have GRt : FnOk P w K mg base (L2.CX P w) 4 fRt dRt ["size", "given"] (spRedT K) := ok_redT T.FRt T.FLg T.bLg T.gLg T.FHp T.bHp T.gHp T.FPa T.bPa T.gPa T.B
  have GSo : FnOk P w K mg base (L2.CX P w) 7 fSo dSo ["size", "held"] (spSof C) := ok_sof T.FSo T.FFr T.bFr T.gFr T.FLo T.bLo T.gLo T.FSh T.bSh T.gSh T.N T.FI T.bI T.FC T.bC T.gC T.TT T.hd T.lt T.mz T.B
  refine F.okX scGI (fun vs H Q E h => ?_) (fun cdv A outer s H vs Q E hr h => ?_)
  · obtain ⟨a, dx, n, ts, L, rfl, _⟩ := h
    rfl
  · obtain ⟨a, dx, n, ts, L, rfl, ea, hS, hP, O, n1, hn, hlen, hph, hz, hgood, qG⟩ := h
    have r4 : Room 4 _ := hr.mono (by decide)
    have r5 : Room 5 _ := hr.mono (by decide)
    refine ⟨_, C8.pss_cut (ps_if (PW.pt (pw_or (pt_not (pt_val (pe_call GIs hr (by rfl) T.gIs T.FIs.kp T.bIs .nil pass0 (pa_cons (pv 1) pa_nil)))) (pw_or1 (pt_cmpR op_lt (pv 1) pe_int (nomark _)))))
        pss_never pss_nil)
      (C8.pss_cut (ps_for (passes_of rfl) rfl (pi_tup (pv 2)) (pg_name (i := 3) scGI.nd rfl (.inl rfl))
        (pss_one (ps_if (pt_cmpR op_ne (pe_fld (pv 3) rfl) (pv 1) (nomark _)) pss_never pss_nil)))
      (C8.pss_cut (ps_for (passes_of rfl) rfl (pi_tup (pv 2)) (pg_name (i := 3) scGI.nd rfl (.inl rfl))
        (pss_one (ps_if (pt_cmpR op_eq (pe_op op_mod (pe_fld (pv 3) rfl) pe_int) pe_int (nomark _)) pss_never pss_nil)))
      (C8.pss_cut (ps_setLc (i := 4) (own := [("string", 3)]) (g := gName 3) (by rfl) scGI.nd rfl rfl (sw_true rfl rfl rfl (by decide +kernel)) (pi_tup (pv 2)) (blkOk_by (own := [("string", 3)]) (N := ["self", "size", "strings", "string", "given", "bits", "_", "held"]) (sc := defScope sGI) (by decide +kernel))
          (fun _ _ _ _ _ => pg_name (i := 3) scGI.nd rfl (Or.inl rfl)) (fun _ _ _ _ _ => pts_nil) (fun _ _ _ _ _ => pe_call GHo hr (by rfl) T.gHo T.FHo.kp T.bHo .nil pass0 (pa_cons (pv 3) pa_nil)))
      (C8.pss_cut (ps_expr (pe_call GCk r4 (by rfl) T.gCk T.FCk.kp T.bCk .nil (passes_call (takes_of rfl rfl rfl rfl) (fun _ _ _ _ h => h)) (pa_cons (pv 1) (pa_cons (pe_lc (own := [("bits", 5), ("_", 6)]) (g := gTup K 2 (gCons (gName 5) (gCons (gName 6) gNil))) (by rfl) scGI.nd (pi_list (pv 4)) (blkOk_by (own := [("bits", 5), ("_", 6)]) (N := ["self", "size", "strings", "string", "given", "bits", "_", "held"]) (sc := defScope sGI) (by decide +kernel))
          (fun _ _ _ _ _ => pg_tup rfl (pgs_cons (pg_name (i := 5) scGI.nd rfl (Or.inl rfl)) (pgs_cons (pg_name (i := 6) scGI.nd rfl (Or.inl rfl)) pgs_nil))) (fun _ _ _ _ _ => pts_nil) (fun _ _ _ _ _ => pv 5)) pa_nil))))
      (C8.pss_cut (ps_fld (pv 0) (pv 1) rfl)
      (C8.pss_cut (ps_fld (pv 0) (pe_call GRt r4 (by rfl) T.gRt T.FRt.kp T.bRt .nil (passes_call (takes_of rfl rfl rfl rfl) (fun _ _ _ _ h => h)) (pa_cons (pv 1) (pa_cons (pv 4) pa_nil))) rfl)
      (C8.pss_cut (ps_fld (pv 0) (pe_callTy call_tuple_of (by rfl) T.B.tuple bootT (pa_cons (pe_lc (own := [("bits", 5), ("_", 6)]) (g := gTup K 2 (gCons (gName 5) (gCons (gName 6) gNil))) (by rfl) scGI.nd (pi_tup (pe_fld (pv 0) rfl)) (blkOk_by (own := [("bits", 5), ("_", 6)]) (N := ["self", "size", "strings", "string", "given", "bits", "_", "held"]) (sc := defScope sGI) (by decide +kernel))
          (fun _ _ _ _ _ => pg_tup rfl (pgs_cons (pg_name (i := 5) scGI.nd rfl (Or.inl rfl)) (pgs_cons (pg_name (i := 6) scGI.nd rfl (Or.inl rfl)) pgs_nil))) (fun _ _ _ _ _ => pts_nil) (fun _ _ _ _ _ => pv 5)) pa_nil)) rfl)
      (C8.pss_cut (ps_fld (pv 0) (pe_callTy call_tuple_of (by rfl) T.B.tuple bootT (pa_cons (pe_lc (own := [("held", 7)]) (g := gName 7) (by rfl) scGI.nd (pi_tup (pe_fld (pv 0) rfl)) (blkOk_by (own := [("held", 7)]) (N := ["self", "size", "strings", "string", "given", "bits", "_", "held"]) (sc := defScope sGI) (by decide +kernel))
          (fun _ _ _ _ _ => pg_name (i := 7) scGI.nd rfl (Or.inl rfl)) (fun _ _ _ _ _ => pts_nil) (fun _ _ _ _ _ => pe_call GSo hr (by rfl) T.gSo T.FSo.kp T.bSo .nil passL (pa_cons (pv 1) (pa_cons (pv 7) pa_nil)))) pa_nil)) rfl)
      (pss_one (ps_fld (pv 0) (pe_callB call_len_seq (by rfl) T.B.len PySem.boot_len (pa_cons (pe_fld (pv 0) rfl) pa_nil)) rfl)))))))))), ?_⟩
    have big : ∀ m, m ≤ 100 → m < sizeLine := fun m h => Nat.lt_of_le_of_lt h (by decide)
    refine ⟨fun σ' H' => σ' = [some (.ref a), some (.int (n : Nat)), some (.ref ts), none, none, none, none, none] ∧ H' = H, ?_, ?_⟩
    · refine ⟨_, rfl, _, rfl, .inl ⟨_, rfl⟩, _, rfl, ⟨_, rfl, _, _, rfl, rfl, _, rfl, ?_⟩⟩
      rw [decide_eq_false (by omega)]
      exact ⟨rfl, rfl⟩
    rintro _ H3 ⟨rfl, eH⟩
    subst eH
    have att : ∀ q ∈ L, ∃ dx fs, H3 q.1 = some (.ins C dx fs) ∧ fs.lookup ("phase" : Str) = some (.int (q.2.2 : Int)) ∧ fs.lookup ("size" : Str) = some (.int (q.2.1.length : Int)) := fun q hq => by
      obtain ⟨dx, fs, e, l1, l2, l3, l4⟩ := hP q hq
      exact ⟨dx, fs, e, l2, l3⟩
    refine ⟨fun σ' H' => ∃ v3, σ' = [some (.ref a), some (.int (n : Nat)), some (.ref ts), v3, none, none, none, none] ∧ H' = H3, ?_, ?_⟩
    · refine ⟨_, rfl, ts, rfl, ⟨_, hS⟩, for_tup (K := K) (a := ts) (xs := refP L) (fun i σ H' => ∃ v3, σ = [some (.ref a), some (.int (n : Nat)), some (.ref ts), v3, none, none, none, none] ∧ H' = H3)
        ⟨none, rfl, rfl⟩ (fun i σ H' _ ⟨_, _, e⟩ => by rw [e]; exact hS) ?_ (fun σ H' h => h)⟩
      rintro i y σ H' hi ⟨v3, rfl, rfl⟩
      obtain ⟨q, hq, rfl⟩ := refP_at hi
      have hm := List.mem_of_getElem? hq
      obtain ⟨dy, gs, e', l2, l3⟩ := att q hm
      refine ⟨_, rfl, q.1, C, dy, gs, _, rfl, e', T.N.cl, T.N.nS, l3, _, rfl, rfl, false, ?_, iteF ⟨_, rfl, rfl⟩⟩
      rw [hlen q hm, decide_eq_true rfl]
      rfl
    rintro _ H2 ⟨v3, rfl, eH⟩
    subst eH
    refine ⟨fun σ' H' => ∃ v3, σ' = [some (.ref a), some (.int (n : Nat)), some (.ref ts), v3, none, none, none, none] ∧ H' = H2, ?_, ?_⟩
    · refine ⟨_, rfl, ts, rfl, ⟨_, hS⟩, for_tup (K := K) (a := ts) (xs := refP L) (fun i σ H' => ∃ v3, σ = [some (.ref a), some (.int (n : Nat)), some (.ref ts), v3, none, none, none, none] ∧ H' = H2)
        ⟨v3, rfl, rfl⟩ (fun i σ H' _ ⟨_, _, e⟩ => by rw [e]; exact hS) ?_ (fun σ H' h => h)⟩
      rintro i y σ H' hi ⟨v3, rfl, rfl⟩
      obtain ⟨q, hq, rfl⟩ := refP_at hi
      have hm := List.mem_of_getElem? hq
      obtain ⟨dy, gs, e', l2, l3⟩ := att q hm
      refine ⟨_, rfl, q.1, C, dy, gs, _, rfl, e', T.N.cl, T.N.nP, l2, _, _, rfl, rfl, (by show (0 : Int) < 2; decide), rfl, false, ?_, iteF ⟨_, rfl, rfl⟩⟩
      have hp := hph q hm
      show V.bl (decide (V.int ((q.2.2 : Int) % 2) = V.int 1)) = _
      refine congrArg V.bl (decide_eq_false fun z => ?_)
      have := V.int.inj z
      omega
    rintro _ H3 ⟨v3, rfl, eH⟩
    subst eH
    refine ⟨fun σ' H' => ∃ (D : Addr) (N : GLs), σ' = [some (.ref a), some (.int (n : Nat)), some (.ref ts), v3, some (.ref D), none, none, none] ∧ Same H3 H' ∧ H3 D = none ∧ H' D = some (.lst (refH N)) ∧ HlsAt H' N ∧ hls N = gsOf L, ?_, ?_⟩
    · refine ⟨_, rfl, ts, rfl, ⟨_, hS⟩, fun D nD => ?_⟩
      refine lc_tup (K := K) (a := ts) (xs := refP L) (Pv := fun j Hc => Same H3 Hc ∧ ∃ N : GLs, Hc D = some (.lst (refH N)) ∧ HlsAt Hc N ∧ hls N = (gsOf L).take j ∧ N.length ≤ j) ⟨same_new nD, [], upd_same, fun p hp => (by cases hp), rfl, Nat.le_refl _⟩ (fun j Hc _ ⟨sc, _⟩ => Same.seqT sc hS) ?_ ?_
      · rintro j y Hc hj ⟨sc, N, eD, hN, eN, lN⟩
        obtain ⟨q, hq, rfl⟩ := refP_at hj
        have hm := List.mem_of_getElem? hq
        refine ⟨rfl, _, rfl, q.1, q.2.1, q.2.2, rfl, (hP q hm).same sc, O.isl q hm, O.ne q hm, O.len q hm, fun H' x s' nx ex' => ?_⟩
        have eD' := s' _ _ eD
        refine ⟨refH N, eD', ?_, same_put0 (sc.trans s') nD, N ++ [(x, (bL q.2.1, (q.2.2 + q.2.1.count 89) % 4))], ?_, ?_, ?_, ?_⟩
        · rw [refH_len]
          have := (List.getElem?_eq_some_iff.mp hq).1
          have := O.few
          exact big _ (by omega)
        · rw [upd_same, refH_app]
          rfl
        · refine HlsAt.put eD' fun p hp => ?_
          rcases List.mem_append.mp hp with k | k
          · exact s' _ _ (hN p k)
          · rw [List.mem_singleton.mp k]
            exact ex'
        · have e2 : (gsOf L)[j]? = some (bL q.2.1, (q.2.2 + q.2.1.count 89) % 4) := by unfold gsOf; rw [List.getElem?_map, hq]; rfl
          rw [hls_app, eN, take_snoc e2]
          rfl
        · rw [List.length_append, List.length_singleton]
          omega
      · rintro Hc ⟨sc, N, eD, hN, eN, lN⟩
        rw [List.take_of_length_le (by rw [gsOf_len, refP_len]; exact Nat.le_refl _)] at eN
        exact ⟨D, N, rfl, sc, nD, eD, hN, eN⟩
    rintro _ H4 ⟨D, N, rfl, s4, nD, eD, hN, eN⟩
    have lN : N.length = L.length := by
      have := congrArg List.length eN
      rwa [hls_len, gsOf_len] at this
    have hlt := gs_lt hlen
    refine ⟨fun σ' H' => σ' = [some (.ref a), some (.int (n : Nat)), some (.ref ts), v3, some (.ref D), none, none, none] ∧ Same H4 H', ?_, ?_⟩
    · refine ⟨_, rfl, _, rfl, D, rfl, ⟨_, SqL.of eD⟩, fun D2 nD2 => ?_⟩
      refine lc_list (K := K) (a := D) (xs := refH N) (Pv := fun j Hc => Same H4 Hc ∧ Hc D2 = some (.lst (natV (((gsOf L).map Prod.fst).take j)))) ⟨same_new nD2, upd_same⟩ (fun j Hc _ ⟨sc, _⟩ => SqL.of (sc _ _ eD)) ?_ ?_
      · rintro j y Hc hj ⟨sc, ec⟩
        obtain ⟨p, hp, rfl⟩ := refH_at hj
        have hy := hN.same sc p (List.mem_of_getElem? hp)
        refine ⟨p.1, _, rfl, .inl (.inl hy), rfl, _, _, rfl, _, _, rfl, rfl, rfl, _, rfl, _, ec, ?_, same_put0 sc nD2, ?_⟩
        · rw [natV_len, List.length_take, List.length_map, gsOf_len]
          have := O.few
          exact big _ (by omega)
        · have e2 : ((gsOf L).map Prod.fst)[j]? = some p.2.1 := by rw [← eN]; unfold hls; rw [List.getElem?_map, List.getElem?_map, hp]; rfl
          rw [upd_same, take_snoc e2, natV_app]
          rfl
      · rintro Hc ⟨sc, ec⟩
        rw [List.take_of_length_le (by rw [List.length_map, gsOf_len, refH_len, lN]; exact Nat.le_refl _)] at ec
        have s5 := s4.trans sc
        refine ⟨n, D2, (gsOf L).map Prod.fst, rfl, SqL.of ec, hn, by rw [List.length_map, gsOf_len]; exact O.few, fun b hb => ?_, fun i j h1 h2 => hz i j h1 (by rw [List.length_map, gsOf_len] at h2; exact h2), fun H' s' => ⟨rfl, sc.trans s'⟩⟩
        obtain ⟨g, hg, rfl⟩ := List.mem_map.mp hb
        exact hlt g hg
    rintro _ H5 ⟨rfl, s5⟩
    have s35 := s4.trans s5
    have ea5 := s35 _ _ ea
    have eD5 := s5 _ _ eD
    have hN5 := hN.same s5
    have cs := gs_cs O hlen hph hz
    refine ⟨fun σ' H' => σ' = [some (.ref a), some (.int (n : Nat)), some (.ref ts), v3, some (.ref D), none, none, none] ∧ But a H3 H' ∧ H' D = some (.lst (refH N)) ∧ HlsAt H' N ∧ ∃ fs, H' a = some (.ins CG dx fs) ∧ fs.length ≤ 1 ∧ NoS fs ∧ fs.lookup ("size" : Str) = some (.int (n : Nat)), ?_, ?_⟩
    · refine ⟨_, rfl, _, rfl, a, CG, dx, _, rfl, ea5, G.cl, G.nS, by show 0 < 1000; decide, ?_⟩
      have neD : D ≠ a := fun z => by rw [z, ea5] at eD5; cases eD5
      exact ⟨rfl, (But.of s35).trans But.upd, by rw [upd_ne neD]; exact eD5, hN5.but ea5 But.upd, _, upd_same, Nat.le_refl _, NoS.put ⟨rfl, rfl⟩ (by decide +kernel) (by decide +kernel), by rw [lookup_putF, if_pos rfl]⟩
    rintro _ H6 ⟨rfl, b6, eD6, hN6, fs6, ea6, fl6, no6, lk6⟩
    refine ⟨fun σ' H' => σ' = [some (.ref a), some (.int (n : Nat)), some (.ref ts), v3, some (.ref D), none, none, none] ∧ But a H3 H' ∧ ∃ (fs : List (Str × V)) (p : Addr) (M : GLs) (T' : List Hl), H' a = some (.ins CG dx fs) ∧ fs.length ≤ 2 ∧ NoS fs ∧ fs.lookup ("size" : Str) = some (.int (n : Nat)) ∧ fs.lookup ("held" : Str) = some (.ref p) ∧
        H' p = some (.tup (refH M)) ∧ HlsAt H' M ∧ (hls M).Perm T' ∧ (hls M).Pairwise (fun a b => b.1 ≤ a.1) ∧ RedAt n (gsOf L) L.length T' ∧ (∀ h ∈ T', h.1 < 2 ^ (2 * n)) ∧ M.length ≤ L.length, ?_, ?_⟩
    · refine ⟨_, rfl, _, rfl, n, D, N, rfl, SqL.of eD6, hN6, by rw [lN]; exact O.few, hn, by rw [eN]; exact cs, fun p hp => hlt _ (by rw [← eN]; exact List.mem_map_of_mem hp), ?_⟩
      rw [eN, lN]
      refine ⟨hgood, fun H' p M T' s' ep hM pm pw R bT lM => ?_⟩
      have ea' := s' _ _ ea6
      have np : p ≠ a := fun z => by rw [z, ea'] at ep; cases ep
      refine ⟨_, rfl, a, CG, dx, _, rfl, ea', G.cl, G.nH, by omega, rfl, (b6.trans (But.of s')).trans But.upd, _, p, M, T', upd_same, ?_, ?_, ?_, ?_, (upd_ne np).trans ep, hM.but ea' But.upd, pm, pw, R, bT, lM⟩
      · exact Nat.le_trans (putF_le _ _ _) (by omega)
      · exact no6.put (by decide +kernel) (by decide +kernel)
      · rw [lookup_putF, if_neg (by decide +kernel)]
        exact lk6
      · rw [lookup_putF, if_pos rfl]
    rintro _ H7 ⟨rfl, b7, fs7, p, M, T', ea7, fl7, no7, sz7, hd7, ep, hM, pm, pw, R, bT, lM⟩
    have mM : ∀ q ∈ M, q.2.1 < 2 ^ (2 * n) := fun q hq => bT q.2 (pm.mem_iff.mp (List.mem_map_of_mem hq))
    refine ⟨fun σ' H' => σ' = [some (.ref a), some (.int (n : Nat)), some (.ref ts), v3, some (.ref D), none, none, none] ∧ But a H3 H' ∧ ∃ (fs : List (Str × V)) (b : Addr), H' a = some (.ins CG dx fs) ∧ fs.length ≤ 3 ∧ NoS fs ∧ fs.lookup ("size" : Str) = some (.int (n : Nat)) ∧ fs.lookup ("held" : Str) = some (.ref p) ∧ fs.lookup ("bits" : Str) = some (.ref b) ∧
        H' p = some (.tup (refH M)) ∧ HlsAt H' M ∧ H' b = some (.tup (natV ((hls M).map Prod.fst))), ?_, ?_⟩
    · refine ⟨_, rfl, a, CG, dx, fs7, _, rfl, ea7, G.cl, G.nH, hd7, p, rfl, ⟨_, .inl (.inl ep)⟩, fun D2 nD2 => ?_⟩
      refine lc_tup (K := K) (a := p) (xs := refH M) (Pv := fun j Hc => Same H7 Hc ∧ Hc D2 = some (.lst (natV (((hls M).map Prod.fst).take j)))) ⟨same_new nD2, upd_same⟩ (fun j Hc _ ⟨sc, _⟩ => .inl (.inl (sc _ _ ep))) ?_ ?_
      · rintro j y Hc hj ⟨sc, ec⟩
        obtain ⟨q, hq, rfl⟩ := refH_at hj
        have hy := hM.same sc q (List.mem_of_getElem? hq)
        refine ⟨q.1, _, rfl, .inl (.inl hy), rfl, _, _, rfl, _, _, rfl, rfl, rfl, _, rfl, _, ec, ?_, same_put0 sc nD2, ?_⟩
        · rw [natV_len, List.length_take, List.length_map, hls_len]
          have := O.few
          exact big _ (by omega)
        · have e2 : ((hls M).map Prod.fst)[j]? = some q.2.1 := by unfold hls; rw [List.getElem?_map, List.getElem?_map, hq]; rfl
          rw [upd_same, take_snoc e2, natV_app]
          rfl
      · rintro Hc ⟨sc, ec⟩
        rw [List.take_of_length_le (by rw [List.length_map, hls_len, refH_len]; exact Nat.le_refl _)] at ec
        refine ⟨D2, _, rfl, .inl ⟨SqL.of ec, fun l nl => ?_⟩⟩
        have sl := sc.trans (same_new (o := .tup (natV ((hls M).map Prod.fst))) nl)
        have ea' := sl _ _ ea7
        have el : (upd Hc l (.tup (natV ((hls M).map Prod.fst)))) l = some (.tup (natV ((hls M).map Prod.fst))) := upd_same
        have nl' : l ≠ a := ne_of el ea' (fun z => by cases z)
        have np : p ≠ a := fun z => by rw [z, ea7] at ep; cases ep
        refine ⟨_, rfl, a, CG, dx, _, rfl, ea', G.cl, G.nB, by omega, rfl, (b7.trans (But.of sl)).trans But.upd, _, l, upd_same, ?_, ?_, ?_, ?_, ?_, (upd_ne np).trans (sl _ _ ep), (hM.same sl).but ea' But.upd, (upd_ne nl').trans el⟩
        · exact Nat.le_trans (putF_le _ _ _) (by omega)
        · exact no7.put (by decide +kernel) (by decide +kernel)
        · rw [lookup_putF, if_neg (by decide +kernel)]
          exact sz7
        · rw [lookup_putF, if_neg (by decide +kernel)]
          exact hd7
        · rw [lookup_putF, if_pos rfl]
    rintro _ H8 ⟨rfl, b8, fs8, bb, ea8, fl8, no8, sz8, hd8, bt8, ep8, hM8, eb8⟩
    let fo : Hl → List Nat × Nat := fun h => (LO n h.1, (((h.2 : Int) - ((LO n h.1).count 89 : Nat)) % 4).toNat)
    refine ⟨fun σ' H' => σ' = [some (.ref a), some (.int (n : Nat)), some (.ref ts), v3, some (.ref D), none, none, none] ∧ But a H3 H' ∧ ∃ (fs : List (Str × V)) (r : Addr) (M' : PLs), H' a = some (.ins CG dx fs) ∧ fs.length ≤ 4 ∧ NoS fs ∧ fs.lookup ("size" : Str) = some (.int (n : Nat)) ∧ fs.lookup ("held" : Str) = some (.ref p) ∧ fs.lookup ("bits" : Str) = some (.ref bb) ∧
        fs.lookup ("rows" : Str) = some (.ref r) ∧ H' p = some (.tup (refH M)) ∧ HlsAt H' M ∧ H' bb = some (.tup (natV ((hls M).map Prod.fst))) ∧ H' r = some (.tup (refP M')) ∧ PsAt C H' M' ∧ M'.map (·.2) = (hls M).map fo, ?_, ?_⟩
    · refine ⟨_, rfl, a, CG, dx, fs8, _, rfl, ea8, G.cl, G.nH, hd8, p, rfl, ⟨_, .inl (.inl ep8)⟩, fun D2 nD2 => ?_⟩
      refine lc_tup (K := K) (a := p) (xs := refH M) (Pv := fun j Hc => Same H8 Hc ∧ ∃ N' : PLs, Hc D2 = some (.lst (refP N')) ∧ PsAt C Hc N' ∧ N'.map (·.2) = ((hls M).take j).map fo ∧ N'.length ≤ j) ⟨same_new nD2, [], upd_same, fun q hq => (by cases hq), rfl, Nat.le_refl _⟩ (fun j Hc _ ⟨sc, _⟩ => .inl (.inl (sc _ _ ep8))) ?_ ?_
      · rintro j y Hc hj ⟨sc, N', ec, hN', eN', lN'⟩
        obtain ⟨q, hq, rfl⟩ := refH_at hj
        have hm := List.mem_of_getElem? hq
        have hy := hM8.same sc q hm
        refine ⟨rfl, _, rfl, _, rfl, n, q.1, q.2, rfl, hy, n1, hn, mM q hm, fun H' x s' PX => ?_⟩
        have ec' := s' _ _ ec
        refine ⟨refP N', ec', ?_, same_put0 (sc.trans s') nD2, N' ++ [(x, fo q.2)], ?_, ?_, ?_, ?_⟩
        · rw [refP_len]
          have := (List.getElem?_eq_some_iff.mp hq).1
          have := O.few
          exact big _ (by omega)
        · rw [upd_same]
          unfold refP
          rw [List.map_append]
          rfl
        · intro r hr'
          rcases List.mem_append.mp hr' with k | k
          · exact ((hN' r k).same s').put ec'
          · rw [List.mem_singleton.mp k]
            exact PX.put ec'
        · have e2 : (hls M)[j]? = some q.2 := by unfold hls; rw [List.getElem?_map, hq]; rfl
          rw [List.map_append, eN', take_snoc e2, List.map_append]
          rfl
        · rw [List.length_append, List.length_singleton]
          omega
      · rintro Hc ⟨sc, N', ec, hN', eN', lN'⟩
        rw [List.take_of_length_le (by rw [hls_len, refH_len]; exact Nat.le_refl _)] at eN'
        refine ⟨D2, _, rfl, .inl ⟨SqL.of ec, fun l nl => ?_⟩⟩
        have s1 := same_new (o := .tup (refP N')) nl
        have sl := sc.trans s1
        have ea' := sl _ _ ea8
        have el : (upd Hc l (.tup (refP N'))) l = some (.tup (refP N')) := upd_same
        have nl' : l ≠ a := ne_of el ea' (fun z => by cases z)
        have np : p ≠ a := ne_of ep8 ea8 (fun z => by cases z)
        have nb : bb ≠ a := ne_of eb8 ea8 (fun z => by cases z)
        refine ⟨_, rfl, a, CG, dx, _, rfl, ea', G.cl, G.nR, by omega, rfl, (b8.trans (But.of sl)).trans But.upd, _, l, N', upd_same, ?_, ?_, ?_, ?_, ?_, ?_, (upd_ne np).trans (sl _ _ ep8), (hM8.same sl).but ea' But.upd, (upd_ne nb).trans (sl _ _ eb8), (upd_ne nl').trans el, ?_, eN'⟩
        · exact Nat.le_trans (putF_le _ _ _) (by omega)
        · exact no8.put (by decide +kernel) (by decide +kernel)
        · rw [lookup_putF, if_neg (by decide +kernel)]
          exact sz8
        · rw [lookup_putF, if_neg (by decide +kernel)]
          exact hd8
        · rw [lookup_putF, if_neg (by decide +kernel)]
          exact bt8
        · rw [lookup_putF, if_pos rfl]
        · intro r hr'
          obtain ⟨dx', fs', e1, e2⟩ := (hN' r hr').same s1
          refine ⟨dx', fs', (upd_ne (ne_of e1 ea' fun z => ?_)).trans e1, e2⟩
          have z' := HO.ins.inj z
          exact cne z'.1
    rintro _ H9 ⟨rfl, b9, fs9, r, M', ea9, fl9, no9, sz9, hd9, bt9, rw9, ep9, hM9, eb9, er9, hP9, eM9⟩
    refine ⟨_, rfl, a, CG, dx, fs9, _, rfl, ea9, G.cl, G.nR, rw9, ?_⟩
    have lM' : M'.length = M.length := by
      have := congrArg List.length eM9
      rwa [List.length_map, List.length_map, hls_len] at this
    have np : p ≠ a := ne_of ep9 ea9 (fun z => by cases z)
    have nb : bb ≠ a := ne_of eb9 ea9 (fun z => by cases z)
    have nr : r ≠ a := ne_of er9 ea9 (fun z => by cases z)
    refine ⟨r, _, rfl, .inr (.inl (.inl er9)), _, rfl, a, CG, dx, _, rfl, ea9, G.cl, G.nK, by omega, qG _ M T' (b9.trans But.upd) ⟨dx, _, p, bb, r, M', upd_same, ?_, ?_, ?_, ?_, ?_, ?_, (upd_ne np).trans ep9, hM9.but ea9 But.upd, (upd_ne nb).trans eb9, (upd_ne nr).trans er9, ?_, eM9⟩ pm pw R⟩
    · rw [lookup_putF, if_neg (by decide +kernel)]
      exact sz9
    · rw [lookup_putF, if_neg (by decide +kernel)]
      exact hd9
    · rw [lookup_putF, if_neg (by decide +kernel)]
      exact bt9
    · rw [lookup_putF, if_neg (by decide +kernel)]
      exact rw9
    · rw [lookup_putF, if_pos rfl, refP_len, lM']
    · exact no9.put (by decide +kernel) (by decide +kernel)
    · intro q hq
      obtain ⟨dx', fs', e1, e2⟩ := hP9 q hq
      refine ⟨dx', fs', (upd_ne (ne_of e1 ea9 fun z => ?_)).trans e1, e2⟩
      have z' := HO.ins.inj z
      exact cne z'.1
end
end KQ
namespace KQ
open PySem PySem.Spec PyProof.Rows L2 LamX
def PAt (C : Addr) (n : Nat) (H : Hp) (R : RLs) : Prop := ∀ r ∈ R, PauliAt C H r.1 (LT n r.2.1 r.2.2.1) (2 * r.2.2.2)
theorem PAt.same {C : Addr} {n : Nat} {H H' : Hp} {R : RLs} (h : PAt C n H R) (s : Same H H') : PAt C n H' R := fun r hr => (h r hr).same s
theorem PAt.ps {C : Addr} {n : Nat} {H : Hp} {R : RLs} (h : PAt C n H R) : PsAt C H (plsOf n R) := fun q hq => by
  obtain ⟨r, hr, rfl⟩ := List.mem_map.mp hq
  exact h r hr
section
variable {K : PySem.W.Frag} {C CG : Addr} {Q : VK} {E : XK} {n : Nat} {bs : List Hl} {H : Hp} {x dx ts : Addr} {R : RLs}
theorem mkG_of (nx : H x = none) (nd : H dx = none) (ne : dx ≠ x) (B : Bse n bs) (f : ∀ r ∈ R, Fit n r.2) (inR : ∀ r ∈ R, InG n bs (phi n r.2)) (h1 : 1 ≤ n) (h2 : n ≤ 60) (few : R.length ≤ 100) (hS : SqL K H ts (refR R)) (hP : PAt C n H R)
    (q : ∀ H' M T, Same H H' → GroupAt CG C H' x n M → (hls M).Perm T → (hls M).Pairwise (fun a b => b.1 ≤ a.1) → RedAt n (gsT n R) (gsT n R).length T → Q .non H') : spGI K C CG [.ref x, .int (n : Nat), .ref ts] (upd (upd H dx (.own x)) x (.ins CG dx [])) Q E := by
  have g := gi_pre B f inR h1 h2 few
  have s := made_sm (C := CG) nx nd
  refine ⟨x, dx, n, ts, plsOf n R, rfl, upd_same, ?_, (hP.same s).ps, g.ok, h1, by omega, g.len, g.ev, g.com, g.good, fun H' M T b G pm pw RA => ?_⟩
  · rw [pls_ref]
    exact Same.seq s hS
  · rw [pls_gs f, pls_len] at RA
    refine q H' M T (fun b' o e => b b' o (ne_of_none e nx) (s _ _ e)) G pm pw ?_
    rw [show (gsT n R).length = R.length from List.length_map ..]
    exact RA
theorem mkGT_of (nx : H x = none) (nd : H dx = none) (ne : dx ≠ x) (B : Bse n bs) (f : ∀ r ∈ R, Fit n r.2) (inR : ∀ r ∈ R, InG n bs (phi n r.2)) (h1 : 1 ≤ n) (h2 : n ≤ 60) (few : R.length ≤ 100) (hS : SqT K H ts (refR R)) (hP : PAt C n H R)
    (q : ∀ H' M T, Same H H' → GroupAt CG C H' x n M → (hls M).Perm T → (hls M).Pairwise (fun a b => b.1 ≤ a.1) → RedAt n (gsT n R) (gsT n R).length T → Q .non H') : spGIT K C CG [.ref x, .int (n : Nat), .ref ts] (upd (upd H dx (.own x)) x (.ins CG dx [])) Q E := by
  have g := gi_pre B f inR h1 h2 few
  have s := made_sm (C := CG) nx nd
  refine ⟨x, dx, n, ts, plsOf n R, rfl, upd_same, ?_, (hP.same s).ps, g.ok, h1, by omega, g.len, g.ev, g.com, g.good, fun H' M T b G pm pw RA => ?_⟩
  · rw [pls_ref]
    exact Same.seqT s hS
  · rw [pls_gs f, pls_len] at RA
    refine q H' M T (fun b' o e => b b' o (ne_of_none e nx) (s _ _ e)) G pm pw ?_
    rw [show (gsT n R).length = R.length from List.length_map ..]
    exact RA
end
end KQ
namespace KQ
open PySem PySem.Spec PyProof.Rows L2
theorem nd_of_bt {ts : List T3} (h : (ts.map bt).Nodup) : ts.Nodup := (List.pairwise_map.mp h).imp fun ne e => ne (by rw [e])
theorem gD_intV (ts : List T3) : IntV (gD ts) := fun p hp => by
  obtain ⟨t, _, rfl⟩ := List.mem_map.mp hp
  exact ⟨_, rfl⟩
theorem eqDT_iff {ts us : List T3} (h : (ts.map bt).Nodup) (k : (us.map bt).Nodup) : eqDT (gD ts) (gD us) = true ↔ ∀ t, t ∈ ts ↔ t ∈ us := by
  unfold eqDT
  rw [Bool.and_eq_true, List.all_eq_true, beq_iff_eq, gD_len, gD_len]
  constructor
  · rintro ⟨hl, hv⟩
    have sub : ∀ t ∈ ts, t ∈ us := fun t ht => by
      have := of_decide_eq_true (hv (kk (bt t), V.int (t.2.2 : Nat)) (List.mem_map.mpr ⟨t, ht, rfl⟩))
      obtain ⟨p, hp, e1, e2⟩ := valV_mem this
      obtain ⟨u, hu, rfl⟩ := List.mem_map.mp hp
      have eb := kk_inj e1
      have es := V.int.inj e2
      rw [← btEq eb (by omega)]
      exact hu
    refine fun t => ⟨sub t, fun hu => Classical.byContradiction fun no => ?_⟩
    have : (t :: ts).length ≤ us.length := nodup_le (List.nodup_cons.mpr ⟨no, nd_of_bt h⟩) fun x hx => by
      rcases List.mem_cons.mp hx with rfl | hx
      · exact hu
      · exact sub x hx
    rw [List.length_cons] at this
    omega
  · intro e
    refine ⟨Nat.le_antisymm (nodup_le (nd_of_bt h) fun t => (e t).mp) (nodup_le (nd_of_bt k) fun t => (e t).mpr), fun p hp => ?_⟩
    obtain ⟨t, ht, rfl⟩ := List.mem_map.mp hp
    exact decide_eq_true (gD_get k ((e t).mp ht))
theorem made_ex {n : Nat} {bs : List Hl} {R : RLs} {T : List Hl} {M : GLs} {ts : List T3} (g : GrU n R bs ts) (fR : ∀ r ∈ R, Fit n r.2) (RA : RedAt n (gsT n R) (gsT n R).length T) (pm : (hls M).Perm T) : ∃ N : RLs, MadeG n bs R N M ∧ ∀ r ∈ N, Fit n r.2 := by
  obtain ⟨r1, s1, l1⟩ := made_tab RA pm
  have s1' : ∀ x, Spn (gbs M) x ↔ Spn (bw n (R.map (·.2))) x := fun x => by rw [s1 x, bw_gs]
  have iM := made_in g.B g.inR RA pm
  have one : ∀ h ∈ hls M, ∃ t : T3, Fit n t ∧ phi n t = h := fun h hh => by
    have sp := (s1' h.1).mp (spn_mem (List.mem_map_of_mem hh))
    have lt : h.1 < 2 ^ (2 * n) := by
      refine sp (fun y => y < 2 ^ (2 * n)) ⟨Nat.two_pow_pos _, fun a b ha hb => Nat.xor_lt_two_pow ha hb⟩ fun a ha => ?_
      obtain ⟨t, _, rfl⟩ := List.mem_map.mp ha
      exact fB_lt ..
    obtain ⟨a, b, ha, hb, e⟩ := fB_onto lt
    have f : Fit n (a, b, 0) := ⟨ha, hb, by show 0 < 2; decide⟩
    have mk := (g.g.all.iff (bt (a, b, 0))).mpr ((spn_key fR f).mpr (by rw [e] at sp; exact sp))
    obtain ⟨t, ht, et⟩ := List.mem_map.mp mk
    refine ⟨t, g.g.fit t ht, InG.one g.B (g.g.ing t ht) (iM h hh) ?_⟩
    rw [e]
    have e1 : t.1 = a := (congrArg Prod.fst et : (bt t).1 = a)
    have e2 : t.2.1 = b := (congrArg Prod.snd et : (bt t).2 = b)
    show fB n t.1 t.2.1 = fB n a b
    rw [e1, e2]
  have ex : ∀ L : List Hl, (∀ h ∈ L, ∃ t : T3, Fit n t ∧ phi n t = h) → ∃ N : RLs, L = N.map (fun r => phi n r.2) ∧ ∀ r ∈ N, Fit n r.2 := fun L => by
    induction L with
    | nil => exact fun _ => ⟨[], rfl, fun r hr => (by cases hr)⟩
    | cons h L ih =>
      intro k
      obtain ⟨N, e, f⟩ := ih fun x hx => k x (List.mem_cons_of_mem _ hx)
      obtain ⟨t, ft, et⟩ := k h List.mem_cons_self
      refine ⟨(0, t) :: N, by rw [List.map_cons, ← e, et], fun r hr => ?_⟩
      rcases List.mem_cons.mp hr with rfl | hr
      · exact ft
      · exact f r hr
  obtain ⟨N, e, f⟩ := ex (hls M) one
  refine ⟨N, ⟨e, r1, s1', iM, ?_⟩, f⟩
  have := congrArg List.length e
  rwa [hls_len, List.length_map] at this
theorem gbs_desc {M : GLs} (r : Red (gbs M)) (pw : (hls M).Pairwise fun a b => b.1 ≤ a.1) : (gbs M).Pairwise (· > ·) := pw_strict (List.pairwise_map.mpr pw) (red_nodup r)
end KQ
namespace KQ
open PySem PySem.Spec PyProof.Rows L2 LamX
theorem scLaw : FnScope ["_law_script", "_law_pen_here", "_law_lap", "_law_rows", "_law_group_here", "_law_independent", "_law_turn", "_law_plain", "_law_phase", "_law_key", "_law_due", "_law_string", "_law_other_here", "_law_second", "_law_told", "_law_size", "_law_made", "_law_wide", "_law_row"] ["_law_script"] (defScope sLaw) := ⟨rfl, rfl, rfl, by decide +kernel, rfl, by decide +kernel, by decide +kernel⟩
def spLawT (K : PySem.W.Frag) (P : Addr) : Sp := fun vs H Q _ => ∃ (a : Addr) (ns : List Int), vs = [.ref a] ∧ SqL K H a (ns.map V.int) ∧ ns.length ≤ 63 ∧ H P = some (.tbl #[]) ∧ ∀ H', Q (.bl true) H'
/-- as Fun.ok, the code object told -/
theorem ok_lawcode {P : Program} {w : World} {K : PySem.W.Frag} {mg : Str → Option Value} {base : Heap} {x qual : Str} {st : Stmt} {f c : Addr} {N ps : List Str} {k : Nat} {sp : Sp} {oc : Value} {od an : Option Addr} {osl : Array (Option Value)} {kV doc pm ct : Value}
    (lk : K.lookup f = some ⟨oc, od, .func (PySem.W.fnOf x qual (defArgs st) (defBody st) (defScope st) .none kV doc pm an (.ref c) ct), osl⟩) (hcd : PySem.W.codeIn K (.ref c) qual = true) (S : FnScope N ps (defScope st)) (len : ∀ vs H Q E, sp vs H Q E → vs.length = ps.length)
    (body : ∀ (A : Around) (outer : List Env) (s : Shared) (H : Hp) (vs : List V) (Q : VK) (E : XK), Room k (A.deeper (envOfC qual (defScope st) s.heap.objs.size f (.ref c))) → sp vs H Q E →
      ∃ t, PSs (cxOf CX0 P w K mg base N qual (defScope st) f (.ref c) A outer s H E).nox (defBody st) t ∧ t { nx := fun _ H' => Q .non H', rt := Q } (L2.start N vs) H) :
    FnOk P w K mg base CX0 (k + 1) f (PySem.W.fnOf x qual (defArgs st) (defBody st) (defScope st) .none kV doc pm an (.ref c) ct) ps sp := by
  refine fn_of lk hcd S len fun A outer s H vs Q E hr want => ?_
  obtain ⟨t, fits, rd⟩ := body A outer s H vs Q E hr want
  exact ⟨t, fits.nox, rd⟩
theorem op_neDK {X : Cx} (K : PySem.W.Frag) (hK : X.K = K) (hu : X.A.units + 64 < cLine) : OpR X (compareOp .NotEq) (rNeD K) := by
  subst hK
  exact op_neD hu
abbrev L19 (a p : Addr) (v2 v3 v4 v5 v6 v7 v8 v9 v10 v11 v12 v13 v14 v15 v16 v17 v18 : Option V) : L2.St := [some (.ref a), some (.ref p), v2, v3, v4, v5, v6, v7, v8, v9, v10, v11, v12, v13, v14, v15, v16, v17, v18]
theorem PAt.put {C D : Addr} {H : Hp} {xs : List V} {o : HO} {a : Addr} {R : List Nat} {p : Nat} (e : H D = some (.lst xs)) (h : PauliAt C H a R p) : PauliAt C (upd H D o) a R p := by
  obtain ⟨dx, fs, e1, r⟩ := h
  exact ⟨dx, fs, (upd_ne (ne_of e1 e fun z => nomatch z)).trans e1, r⟩
theorem GroupAt.same {CG C : Addr} {H H' : Hp} {a : Addr} {n : Nat} {M : GLs} (s : Same H H') (h : GroupAt CG C H a n M) : GroupAt CG C H' a n M := by
  obtain ⟨dx, fs, p, b, r, M', e, l1, l2, l3, l4, l5, l6, hp, hM, hb, hr, hP, eM⟩ := h
  exact ⟨dx, fs, p, b, r, M', s _ _ e, l1, l2, l3, l4, l5, l6, s _ _ hp, hM.same s, s _ _ hb, s _ _ hr, fun q hq => (hP q hq).same s, eM⟩
def d2 (a b : Nat) : PyData := .tuple [.int (a : Nat), .int (b : Nat)]
theorem d2_sh (a b : Nat) : SeqAt.shaped (d2 a b) = true := by simp [SeqAt.shaped, d2, PyData.canLay0, PyData.depth, PyData.canLayAll0, PyData.depthAll]
theorem d2_at {K : PySem.W.Frag} {H : Hp} {t : Addr} {a b : Nat} (e : H t = some (.tup [.int (a : Nat), .int (b : Nat)])) : Dp K H (.ref t) (d2 a b) := .tup (SqT.of e) (.cons (.int _) (.cons (.int _) .nil))
theorem d2_ne {a b : Nat} (h : ¬ (a = 0 ∧ b = 0)) : PyData.eqv (d2 a b) (d2 0 0) = false := by
  show (((a : Int) == ((0 : Nat) : Int)) && (((b : Int) == ((0 : Nat) : Int)) && true)) = false
  by_cases e : a = 0
  · have : ¬ b = 0 := fun z => h ⟨e, z⟩
    rw [show ((b : Int) == ((0 : Nat) : Int)) = false from beq_eq_false_iff_ne.mpr (by omega), Bool.false_and, Bool.and_false]
  · rw [show ((a : Int) == ((0 : Nat) : Int)) = false from beq_eq_false_iff_ne.mpr (by omega), Bool.false_and]
theorem ok_mS {L : List Nat} (h : ∀ c ∈ L, c < 1114112) : PyData.strOk (mS L) = true := by
  show (L.toArray).all (fun c => decide (c < 1114112)) = true
  rw [← Array.all_toList, List.all_eq_true]
  intro c hc
  exact decide_eq_true (h c hc)
def tL (L : List (List Nat)) : PyData := .list (L.map fun x => .str (mS x))
theorem tL_lay : ∀ L : List (List Nat), (∀ x ∈ L, ∀ c ∈ x, c < 1114112) → PyData.canLayAll0 (L.map fun x => PyData.str (mS x)) = true ∧ PyData.depthAll (L.map fun x => PyData.str (mS x)) = 0
  | [], _ => by simp [PyData.canLayAll0, PyData.depthAll]
  | x :: L, h => by
    obtain ⟨h1, h2⟩ := tL_lay L fun y hy => h y (List.mem_cons_of_mem _ hy)
    have := ok_mS (h x List.mem_cons_self)
    simp [PyData.canLayAll0, PyData.depthAll, PyData.canLay0, PyData.depth, h1, h2, this]
theorem tL_sh {L : List (List Nat)} (h : ∀ x ∈ L, ∀ c ∈ x, c < 1114112) : SeqAt.shaped (tL L) = true := by
  obtain ⟨h1, h2⟩ := tL_lay L h
  simp [SeqAt.shaped, tL, PyData.canLay0, PyData.depth, h1, h2]
theorem tL_at {K : PySem.W.Frag} {H : Hp} {l : Addr} {L : List (List Nat)} (e : H l = some (.lst (L.map fun x => V.str (mS x)))) : Dp K H (.ref l) (tL L) := by
  refine .lst (SqL.of e) ?_
  clear e
  induction L with
  | nil => exact .nil
  | cons x L ih => exact .cons (.str _) ih
theorem tL_eq : ∀ L : List (List Nat), PyData.eqv (tL L) (tL L) = true
  | [] => rfl
  | x :: L => by
    have ih : PyData.eqvAll (L.map fun x => PyData.str (mS x)) (L.map fun x => PyData.str (mS x)) = true := tL_eq L
    show ((mS x == mS x) && PyData.eqvAll (L.map fun x => PyData.str (mS x)) (L.map fun x => PyData.str (mS x))) = true
    rw [ih, beq_self_eq_true]
    rfl
theorem TX_hd {n : Nat} {t : T3} (f : Fit n t) : headL (2 * t.2.2) ++ LT n t.1 t.2.1 = TX n t := by
  unfold TX
  have := f.2.2
  rcases (by omega : t.2.2 = 0 ∨ t.2.2 = 1) with e | e <;> rw [e] <;> rfl
theorem TX_lt {n : Nat} {t : T3} : ∀ c ∈ TX n t, c < 1114112 := fun c hc => by
  unfold TX at hc
  rcases List.mem_append.mp hc with h | h
  · split at h
    · cases h
    · rw [List.mem_singleton.mp h]; decide
  · have := isL_iff.mp (LT_lts n t.1 t.2.1 c h)
    omega
theorem gD_keys {H : Hp} : ∀ {ts : List T3} {bs : List Addr}, L2.IsKeys H (gD ts) bs → bs.length = ts.length ∧ ∀ b ∈ bs, ∃ u ∈ ts, H b = some (.tup [.int (u.1 : Nat), .int (u.2.1 : Nat)])
  | [], [], _ => ⟨rfl, fun b hb => (by cases hb)⟩
  | t :: ts, b :: bs, .cons h k => by
    obtain ⟨e, r⟩ := gD_keys (ts := ts) k
    refine ⟨by rw [List.length_cons, List.length_cons, e], fun x hx => ?_⟩
    rcases List.mem_cons.mp hx with rfl | hx
    · exact ⟨t, List.mem_cons_self, h⟩
    · obtain ⟨u, hu, e⟩ := r x hx
      exact ⟨u, List.mem_cons_of_mem _ hu, e⟩
/-- what a group answers about a string -/
def sgV (n : Nat) (M : GLs) (q : List Nat × Nat) : V := if q.2 % 2 = 1 then .non else if (rsH n (hls M) (hdS q)).1 ≠ 0 then .non else .int (1 - ((rsH n (hls M) (hdS q)).2 : Nat))
theorem sgV_odd {n ph : Nat} {M : GLs} {L : List Nat} (h : ph % 2 = 1) : sgV n M (L, ph) = .non := if_pos h
section
variable {n : Nat} {bs bs' : List Hl} {R N : RLs} {M : GLs} {ts : List T3}
theorem sgV_out (G : MadeG n bs R N M) (g : GrU n R bs' ts) (fR : ∀ r ∈ R, Fit n r.2) {t : T3} (f : Fit n t) {ph : Nat} (h : ph % 2 ≠ 1) (h4 : ph < 4) (no : bt t ∉ ts.map bt) : sgV n M (LT n t.1 t.2.1, ph) = .non := by
  have fu : Fit n (t.1, t.2.1, ph / 2) := ⟨f.1, f.2.1, by show ph / 2 < 2; omega⟩
  have e : hdS (LT n t.1 t.2.1, ph) = phi n (t.1, t.2.1, ph / 2) := by
    have := hdS_LT fu
    rw [← this]
    show hdS (LT n t.1 t.2.1, ph) = hdS (LT n t.1 t.2.1, 2 * (ph / 2))
    rw [show 2 * (ph / 2) = ph by omega]
  unfold sgV
  rw [if_neg h]
  refine if_pos fun z => no ?_
  rw [e] at z
  exact (key_iff G g fR fu).mpr z
theorem sgV_in (B : Bse n bs) (G : MadeG n bs R N M) (g : GrU n R bs' ts) (fR : ∀ r ∈ R, Fit n r.2) (inR : ∀ r ∈ R, InG n bs (phi n r.2)) {t u : T3} (f : Fit n t) {ph : Nat} (h : ph % 2 ≠ 1) (h4 : ph < 4) (hu : u ∈ ts) (eu : bt u = bt t) :
    sgV n M (LT n t.1 t.2.1, ph) = .int (if 2 * u.2.2 = ph then 1 else -1) := by
  have fu : Fit n (t.1, t.2.1, ph / 2) := ⟨f.1, f.2.1, by show ph / 2 < 2; omega⟩
  have e : hdS (LT n t.1 t.2.1, ph) = phi n (t.1, t.2.1, ph / 2) := by
    have := hdS_LT fu
    rw [← this]
    show hdS (LT n t.1 t.2.1, ph) = hdS (LT n t.1 t.2.1, 2 * (ph / 2))
    rw [show 2 * (ph / 2) = ph by omega]
  have s := ts_sign B G g fR inR hu fu (show bt (t.1, t.2.1, ph / 2) = bt u from eu.symm)
  unfold sgV
  rw [if_neg h]
  show (if (rsH n (hls M) (hdS (LT n t.1 t.2.1, ph))).1 ≠ 0 then V.non else .int (1 - ((rsH n (hls M) (hdS (LT n t.1 t.2.1, ph))).2 : Nat))) = _
  rw [e, s]
  have k : (ph / 2 = u.2.2) ↔ (2 * u.2.2 = ph) := by omega
  by_cases c : ph / 2 = u.2.2
  · rw [if_pos (show ((t.1, t.2.1, ph / 2) : T3).2.2 = u.2.2 from c), if_neg (fun z => z rfl), if_pos (k.mp c)]
    rfl
  · rw [if_neg (show ¬ ((t.1, t.2.1, ph / 2) : T3).2.2 = u.2.2 from c), if_neg (fun z => z rfl), if_neg (fun z => c (k.mpr z))]
    rfl
end
theorem headL_hd {p : Nat} (h : p < 4) : Hd4L (headL p) ∧ phH (headL p) = p := by
  match p, h with
  | 0, _ => exact ⟨.inl rfl, rfl⟩
  | 1, _ => exact ⟨.inr (.inr (.inl rfl)), rfl⟩
  | 2, _ => exact ⟨.inr (.inl rfl), rfl⟩
  | 3, _ => exact ⟨.inr (.inr (.inr rfl)), rfl⟩
def tN (ks : List Nat) : PyData := .tuple (ks.map fun x => PyData.int (x : Nat))
theorem tN_sh (ks : List Nat) : SeqAt.shaped (tN ks) = true := by
  obtain ⟨h1, h2⟩ := lay_ints (ks.map fun x => ((x : Nat) : Int))
  rw [List.map_map] at h1 h2
  have e : (PyData.int ∘ fun x : Nat => ((x : Nat) : Int)) = fun x : Nat => PyData.int (x : Nat) := rfl
  rw [e] at h1 h2
  simp [SeqAt.shaped, tN, PyData.canLay0, PyData.depth, h1]
  omega
theorem tN_eq : ∀ ks : List Nat, PyData.eqv (tN ks) (tN ks) = true
  | [] => rfl
  | x :: ks => by
    have ih : PyData.eqvAll (ks.map fun x => PyData.int (x : Nat)) (ks.map fun x => PyData.int (x : Nat)) = true := tN_eq ks
    show (((x : Int) == (x : Int)) && PyData.eqvAll (ks.map fun x => PyData.int (x : Nat)) (ks.map fun x => PyData.int (x : Nat))) = true
    rw [ih, beq_self_eq_true]
    rfl
theorem tN_at {K : PySem.W.Frag} {H : Hp} {a : Addr} {ks : List Nat} (e : SqT K H a (natV ks)) : Dp K H (.ref a) (tN ks) := .tup e (dpall_natR K H ks)
theorem PauliAt.ext {C : Addr} {H H' : Hp} {a : Addr} {R : List Nat} {p : Nat} (s : ExtN H H') (h : PauliAt C H a R p) : PauliAt C H' a R p := by
  obtain ⟨dx, fs, e, r⟩ := h
  exact ⟨dx, fs, s _ _ e (fun ps z => by cases z), r⟩
theorem GroupAt.ext {CG C : Addr} {H H' : Hp} {a : Addr} {n : Nat} {M : GLs} (h : GroupAt CG C H a n M) (x : ExtN H H') : GroupAt CG C H' a n M := by
  obtain ⟨dx, fs, p, b, r, M', e, l1, l2, l3, l4, l5, l6, hp, hM, hb, hr, hP, eM⟩ := h
  exact ⟨dx, fs, p, b, r, M', x _ _ e (fun ps z => by cases z), l1, l2, l3, l4, l5, l6, x _ _ hp (fun ps z => by cases z), fun q hq => x _ _ (hM q hq) (fun ps z => by cases z), x _ _ hb (fun ps z => by cases z), x _ _ hr (fun ps z => by cases z), fun q hq => (hP q hq).ext x, eM⟩
def unlD : PyData := .tuple [.str "unlike", .str "size"]
theorem unl_at {K : PySem.W.Frag} {H : Hp} {a : Addr} (e : H a = some (.tup [.str "unlike", .str "size"])) : Dp K H (.ref a) unlD := .tup (SqT.of e) (.cons (.str _) (.cons (.str _) .nil))
section
variable {P : Program} {w : World} {K : PySem.W.Frag} {mg : Str → Option Value} {base : Heap}
set_option linter.unusedVariables false in
theorem ok_law {f c tP C CT CB fI fE fB fBN hA lA fIs fHo fBo fHp fPa fCr fSh fBt fLg fLn fCk fRt fSo fFr fLo fC CG fGI CU fU CA CM fSgn fSyn fGe fPn fDr fPk fSu fOn fCx fPr fLe fTx fOt fSm fGr fJn fGa fDc fBo2 fRd fSy fPl fWy fPh fSt fOh fPx : Addr} {dB dBN dI dIs dHo dBo dHp dPa dCr dSh dBt dLg dLn dCk dRt dSo dFr dLo dC dGI dU dSgn dSyn dGe dE dPn dDr dPk dSu dOn dCx dPr dLe dTx dOt dSm dGr dJn dGa dDc dBo2 dRd dSy dPl dWy dPh dSt dOh dPx : FuncData} {oc : Value} {od an : Option Addr} {osl : Array (Option Value)} {kV doc pm ct : Value}
    (lk : K.lookup f = some ⟨oc, od, .func (PySem.W.fnOf "law" "law" (defArgs sLaw) (defBody sLaw) (defScope sLaw) .none kV doc pm an (.ref c) ct), osl⟩) (hcd : PySem.W.codeIn K (.ref c) "law" = true) (TB : TabB base mg c tP)
    (T_G : GEnv K w mg C CT CB fI fE fB fBN hA lA dB dBN fIs fHo fBo fHp fPa fCr fSh fBt fLg fLn fCk fRt fSo fFr fLo fC dI dIs dHo dBo dHp dPa dCr dSh dBt dLg dLn dCk dRt dSo dFr dLo dC) (T_FGI : Fun K "__init__" "Group.__init__" sGI fGI dGI) (T_bGI : Binds K dGI ["self", "size", "strings"] []) (T_GC : GCl K mg CG fGI) (T_cne : C ≠ CG) (T_md : mg "dict" = none) (T_FE : Fun K "__eq__" "Pauli.__eq__" sEq fE dE) (T_bE : Binds K dE ["self", "other"] []) (T_XU : EX1 K mg "Unlike" "Unlike.__init__" "what" sIUnlike CU fU dU) (T_V : Four K mg CT CB CU CA CM) (T_OG : OCl K CG) (T_kGG : PySem.W.kitOne K (.ref CG) (.ref CG) = some true) (T_kTG : PySem.W.kitOne K (.type "tuple") (.ref CG) = some false) (T_FSgn : Fun K "sign_of" "Group.sign_of" sSg fSgn dSgn) (T_bSgn : Binds K dSgn ["self", "string"] []) (T_mSgn : Meth K CG "sign_of" fSgn) (T_FSyn : Fun K "syndrome_of" "Group.syndrome_of" sSyn fSyn dSyn) (T_bSyn : Binds K dSyn ["self", "string"] []) (T_mSyn : Meth K CG "syndrome_of" fSyn) (T_FGe : Fun K "__eq__" "Group.__eq__" sGe fGe dGe) (T_bGe : Binds K dGe ["self", "other"] []) (T_eqG : PySem.W.findIn K (.ref CG) "__eq__" = some (some (.ref fGe))) (T_efG : PySem.W.isFn K (.ref fGe) = true) (T_enG : PySem.W.notFirst K CG (.type "tuple") = true) (T_FPn : Fun K "_law_pen" "_law_pen" sPen fPn dPn) (T_bPn : Binds K dPn ["_law_script"] []) (T_gPn : mg "_law_pen" = some (.ref fPn)) (T_FDr : Fun K "_law_draw" "_law_draw" sDraw fDr dDr) (T_bDr : Binds K dDr ["_law_pen_here", "_law_many"] []) (T_gDr : mg "_law_draw" = some (.ref fDr)) (T_FPk : Fun K "_law_pick" "_law_pick" sPick fPk dPk) (T_bPk : Binds K dPk ["_law_pen_here", "_law_some"] []) (T_gPk : mg "_law_pick" = some (.ref fPk)) (T_FSu : Fun K "_law_shuffled" "_law_shuffled" sShuf fSu dSu) (T_bSu : Binds K dSu ["_law_pen_here", "_law_some"] []) (T_gSu : mg "_law_shuffled" = some (.ref fSu)) (T_FOn : Fun K "_law_ones" "_law_ones" sOnes fOn dOn) (T_bOn : Binds K dOn ["_law_number"] []) (T_gOn : mg "_law_ones" = some (.ref fOn)) (T_FCx : Fun K "_law_crosses" "_law_crosses" sCross fCx dCx) (T_bCx : Binds K dCx ["_law_one", "_law_two"] []) (T_gCx : mg "_law_crosses" = some (.ref fCx)) (T_FPr : Fun K "_law_product" "_law_product" sProd fPr dPr) (T_bPr : Binds K dPr ["_law_one", "_law_two"] []) (T_gPr : mg "_law_product" = some (.ref fPr)) (T_FLe : Fun K "_law_letters" "_law_letters" sLett fLe dLe) (T_bLe : Binds K dLe ["_law_string", "_law_size"] []) (T_gLe : mg "_law_letters" = some (.ref fLe)) (T_FTx : Fun K "_law_text" "_law_text" sText fTx dTx) (T_bTx : Binds K dTx ["_law_string", "_law_size"] []) (T_gTx : mg "_law_text" = some (.ref fTx)) (T_FOt : Fun K "_law_of_text" "_law_of_text" sOfT fOt dOt) (T_bOt : Binds K dOt ["_law_text_here"] []) (T_gOt : mg "_law_of_text" = some (.ref fOt)) (T_FSm : Fun K "_law_some_string" "_law_some_string" sSome fSm dSm) (T_bSm : Binds K dSm ["_law_pen_here", "_law_size"] []) (T_gSm : mg "_law_some_string" = some (.ref fSm)) (T_FGr : Fun K "_law_group" "_law_group" sGr fGr dGr) (T_bGr : Binds K dGr ["_law_strings_here"] []) (T_gGr : mg "_law_group" = some (.ref fGr)) (T_FJn : Fun K "_law_joined" "_law_joined" sJn fJn dJn) (T_bJn : Binds K dJn ["_law_group_here", "_law_string"] []) (T_gJn : mg "_law_joined" = some (.ref fJn)) (T_FGa : Fun K "_law_gate" "_law_gate" sGate fGa dGa) (T_bGa : Binds K dGa ["_law_string", "_law_kind", "_law_places"] []) (T_gGa : mg "_law_gate" = some (.ref fGa)) (T_FDc : Fun K "_law_drawn_code" "_law_drawn_code" sCode fDc dDc) (T_bDc : Binds K dDc ["_law_pen_here", "_law_size", "_law_rank", "_law_gauged"] []) (T_gDc : mg "_law_drawn_code" = some (.ref fDc)) (T_FBo2 : Fun K "_law_bits_order" "_law_bits_order" sBo fBo2 dBo2) (T_bBo2 : Binds K dBo2 ["_law_size"] []) (T_gBo2 : mg "_law_bits_order" = some (.ref fBo2)) (T_FRd : Fun K "_law_reduced" "_law_reduced" sRd fRd dRd) (T_bRd : Binds K dRd ["_law_strings_here", "_law_size"] []) (T_gRd : mg "_law_reduced" = some (.ref fRd)) (T_FSy : Fun K "_law_syndrome" "_law_syndrome" sSy2 fSy dSy) (T_bSy : Binds K dSy ["_law_rows", "_law_string"] []) (T_gSy : mg "_law_syndrome" = some (.ref fSy)) (T_FPl : Fun K "_law_pauli" "_law_pauli" sPau fPl dPl) (T_bPl : Binds K dPl ["_law_string", "_law_size"] []) (T_gPl : mg "_law_pauli" = some (.ref fPl)) (T_FWy : Fun K "_law_why" "_law_why" sWhy fWy dWy) (T_bWy : Binds K dWy ["_law_call"] []) (T_gWy : mg "_law_why" = some (.ref fWy)) (T_FPh : Fun K "_law_phased" "_law_phased" sPhas fPh dPh) (T_bPh : Binds K dPh ["_law_string", "_law_phase", "_law_size"] []) (T_gPh : mg "_law_phased" = some (.ref fPh)) (T_FSt : Fun K "_law_strings" "_law_strings" sStrs fSt dSt) (T_bSt : Binds K dSt ["_law_pen_here", "_law_size", "_law_many"] []) (T_gSt : mg "_law_strings" = some (.ref fSt)) (T_FOh : Fun K "_law_other" "_law_other" sOther fOh dOh) (T_bOh : Binds K dOh ["_law_pen_here", "_law_rows"] []) (T_gOh : mg "_law_other" = some (.ref fOh)) (T_FPx : Fun K "pauli_text" "pauli_text" sPtx fPx dPx) (T_bPx : Binds K dPx ["p"] []) (T_gPx : mg "pauli_text" = some (.ref fPx)) : FnOk P w K mg base CX0 13 f (PySem.W.fnOf "law" "law" (defArgs sLaw) (defBody sLaw) (defScope sLaw) .none kV doc pm an (.ref c) ct) ["_law_script"] (spLawT K tP) := by
  have GG : FnOk P w K mg base (L2.CX P w) 8 fGI dGI ["self", "size", "strings"] (spGI K C CG) := ok_ginit T_FGI T_GC T_cne T_G
  have GGT : FnOk P w K mg base (L2.CX P w) 8 fGI dGI ["self", "size", "strings"] (spGIT K C CG) := ok_ginitT T_FGI T_GC T_cne T_G
  have GI : FnOk P w K mg base (L2.CX P w) 4 fI dI ["self", "text"] (spInit C CT) := ok_init T_G.FI T_G.N T_G.FC T_G.bC T_G.gC T_G.TT T_G.hd T_G.B
  have GPn : FnOk P w K mg base CX0 1 fPn dPn ["_law_script"] (spPen K) := ok_pen T_FPn T_G.B.int T_G.B.list
  have GDr : FnOk P w K mg base CX0 1 fDr dDr ["_law_pen_here", "_law_many"] (Wr spDraw) := (ok_draw T_FDr T_G.B.int T_G.B.len).imp fun _ _ _ _ h => h.out
  have GPk : FnOk P w K mg base CX0 2 fPk dPk ["_law_pen_here", "_law_some"] (Wr (spPick K)) := (ok_pick T_FPk T_FDr T_bDr T_gDr T_G.B.int T_G.B.len).imp fun _ _ _ _ h => h.out
  have GTx : FnOk P w K mg base CX0 7 fTx dTx ["_law_string", "_law_size"] spText := ok_text (k := 5) T_FTx T_FLe T_bLe T_gLe T_G.B
  have GSm : FnOk P w K mg base CX0 3 fSm dSm ["_law_pen_here", "_law_size"] (Wr spSome) := (ok_some T_FSm T_FDr T_bDr T_gDr T_FPk T_bPk T_gPk T_FOt T_bOt T_gOt T_G.B).imp fun _ _ _ _ h => h.out
  have GSt : FnOk P w K mg base CX0 7 fSt dSt ["_law_pen_here", "_law_size", "_law_many"] (Wr spStrs) := (ok_strs (k := 3) T_FSt T_FDc T_bDc T_gDc T_FDr T_bDr T_gDr T_FPk T_bPk T_gPk T_FSu T_bSu T_gSu T_FOt T_bOt T_gOt T_FGa T_bGa T_gGa T_FPr T_bPr T_gPr T_FOn T_bOn T_gOn T_G.B).imp fun _ _ _ _ h => h.out
  have GGr : FnOk P w K mg base CX0 7 fGr dGr ["_law_strings_here"] (Wr (spGr K)) := (ok_gr (k := 3) T_FGr T_FJn T_bJn T_gJn T_FPr T_bPr T_gPr T_FOn T_bOn T_gOn T_G.B T_md).imp fun _ _ _ _ h => h.out
  have GPl : FnOk P w K mg base (L2.CX P w) 6 fPl dPl ["_law_string", "_law_size"] (spPau C) := ok_pau T_FPl T_FTx T_bTx T_gTx T_FLe T_bLe T_gLe T_G.N T_G.FI T_G.bI T_G.FC T_G.bC T_G.gC T_G.TT T_G.hd T_G.B
  have GRd : FnOk P w K mg base CX0 7 fRd dRd ["_law_strings_here", "_law_size"] (Wr (spRd K)) := (ok_rd (k := 4) T_FRd T_FPr T_bPr T_gPr T_FOn T_bOn T_gOn T_FBo2 T_bBo2 T_gBo2 T_G.B).imp fun _ _ _ _ h => h.out
  have GPx : FnOk P w K mg base CX0 7 fPx dPx ["p"] (spPtx C) := ok_ptx (k := 6) T_FPx T_G.N T_G.hd
  have GPh : FnOk P w K mg base CX0 7 fPh dPh ["_law_string", "_law_phase", "_law_size"] spPh := ok_ph (k := 5) T_FPh T_FLe T_bLe T_gLe T_G.B
  have GSgn : FnOk P w K mg base (L2.CX P w) 7 fSgn dSgn ["self", "string"] (spSgW CG C CU) := ok_sgW (k := 2) T_FSgn T_GC T_XU T_G
  have GSyn : FnOk P w K mg base (L2.CX P w) 7 fSyn dSyn ["self", "string"] (spSynW CG C CU) := ok_synW (k := 2) T_FSyn T_GC T_XU T_G
  have GSy : FnOk P w K mg base CX0 7 fSy dSy ["_law_rows", "_law_string"] spSy2 := ok_sy2 (k := 4) T_FSy T_FCx T_bCx T_gCx T_FOn T_bOn T_gOn T_G.B
  have GOh : FnOk P w K mg base CX0 7 fOh dOh ["_law_pen_here", "_law_rows"] (Wr spOt) := (ok_ot (k := 3) T_FOh T_FDr T_bDr T_gDr T_FSu T_bSu T_gSu T_FPr T_bPr T_gPr T_FOn T_bOn T_gOn T_G.B).imp fun _ _ _ _ h => h.out
  have GGe : FnOk P w K mg base CX0 7 fGe dGe ["self", "other"] (spGe K CG C) := ok_ge (k := 4) T_FGe T_GC T_OG T_kGG T_kTG T_G.N T_FE T_bE T_G.B
  obtain ⟨ocW, odW, kVW, dcW, pmW, anW, cdvW, ctW, oslW, eW, lkW, hcW⟩ := T_FWy.ex
  have bW' := T_bWy
  rw [eW] at bW' lkW
  refine ok_lawcode lk hcd scLaw (fun vs H Q E h => ?_) (fun A outer s H vs Q E hr h => ?_)
  · obtain ⟨a, ns, rfl, _⟩ := h
    rfl
  · obtain ⟨a, ns, rfl, hS, hlen, hTP, q⟩ := h
    have r1 : Room 1 _ := hr.mono (by decide)
    have r2 : Room 2 _ := hr.mono (by decide)
    have r3 : Room 3 _ := hr.mono (by decide)
    have r5 : Room 5 _ := hr.mono (by decide)
    have r6 : Room 6 _ := hr.mono (by decide)
    have r7 : Room 7 _ := hr.mono (by decide)
    have r9 : Room 9 _ := hr.mono (by decide)
    have hu := hu64_of hr
    have hu1 : (A.deeper (envOfC "law" (defScope sLaw) s.heap.objs.size f (.ref c))).units + 1 < cLine := by omega
    have hu2 : (A.deeper (envOfC "law" (defScope sLaw) s.heap.objs.size f (.ref c))).units + 2 < cLine := by omega
    let TT : List (Addr × Str) := [(tP, (envOfC "law" (defScope sLaw) s.heap.objs.size f (.ref c)).qual ++ "<lambda>")]
    refine ⟨_, (C8.pss_cut (ps_set (i := 1) scLaw.nd rfl (.inl rfl) (pe_call GPn r1 (by rfl) T_gPn T_FPn.kp T_bPn .nil pass0 (pa_cons (pv 0) pa_nil)))
      (C8.pss_cut (ps_for PassesOwn.never rfl (pi_range1 (by rfl) T_G.B.range (pa_cons pe_int pa_nil)) (pg_name (i := 2) scLaw.nd rfl (.inl rfl)) (C8.pss_cut (ps_set (i := 15) scLaw.nd rfl (.inr rfl) (pe_ifExp (pt_cmpR op_eq (pe_call GDr r1 (by rfl) T_gDr T_FDr.kp T_bDr .nil pass0 (pa_cons (pv 1) (pa_cons pe_int pa_nil))) pe_int (nomark _)) pe_int (pe_op op_add pe_int (pe_call GDr r1 (by rfl) T_gDr T_FDr.kp T_bDr .nil pass0 (pa_cons (pv 1) (pa_cons pe_int pa_nil))))))
      (C8.pss_cut (ps_set (i := 3) scLaw.nd rfl (.inl rfl) (pe_call GSt r7 (by rfl) T_gSt T_FSt.kp T_bSt .nil pass0 (pa_cons (pv 1) (pa_cons (pv 15) (pa_cons (pe_call GDr r1 (by rfl) T_gDr T_FDr.kp T_bDr .nil pass0 (pa_cons (pv 1) (pa_cons (pe_op op_add (pe_callB (r := rMin K) (cr_min rfl) (by rfl) T_G.B.min bootMin (pa_cons (pe_lst (pa_cons (pv 15) (pa_cons pe_int pa_nil))) pa_nil)) pe_int) pa_nil))) pa_nil)))))
      (C8.pss_cut (ps_asg (pe_tup (pa_cons (pe_call GGr r7 (by rfl) T_gGr T_FGr.kp T_bGr .nil pass0 (pa_cons (pv 3) pa_nil)) (pa_cons (pe_make T_GC.mkf GG r9 (by rfl) T_GC.g T_bGI .nil passL (pa_cons (pv 15) (pa_cons (pe_lc (own := [("_law_row", 18)]) (g := gName 18) (by rfl) scLaw.nd (pi_list (pv 3)) (blkOk_by (own := [("_law_row", 18)]) (N := ["_law_script", "_law_pen_here", "_law_lap", "_law_rows", "_law_group_here", "_law_independent", "_law_turn", "_law_plain", "_law_phase", "_law_key", "_law_due", "_law_string", "_law_other_here", "_law_second", "_law_told", "_law_size", "_law_made", "_law_wide", "_law_row"]) (sc := defScope sLaw) (by decide +kernel)) (fun _ _ _ _ _ => (pg_name (i := 18) scLaw.nd rfl (Or.inl rfl))) (fun _ _ _ _ _ => pts_nil) (fun _ _ _ _ _ => (pe_call GPl r6 (by rfl) T_gPl T_FPl.kp T_bPl .nil passL (pa_cons (pv 18) (pa_cons (pv 15) pa_nil))))) pa_nil))) pa_nil))) (pg_tup rfl (pgs_cons (pg_name (i := 4) scLaw.nd rfl (.inl rfl)) (pgs_cons (pg_name (i := 16) scLaw.nd rfl (.inr rfl)) pgs_nil))))
      (C8.pss_cut (ps_setLc (i := 5) (own := [("_law_row", 18)]) (g := gName 18) (by rfl) scLaw.nd rfl rfl (sw_true rfl rfl rfl (by decide +kernel)) (pi_list (pe_call GRd r7 (by rfl) T_gRd T_FRd.kp T_bRd .nil pass0 (pa_cons (pv 3) (pa_cons (pv 15) pa_nil)))) (blkOk_by (own := [("_law_row", 18)]) (N := ["_law_script", "_law_pen_here", "_law_lap", "_law_rows", "_law_group_here", "_law_independent", "_law_turn", "_law_plain", "_law_phase", "_law_key", "_law_due", "_law_string", "_law_other_here", "_law_second", "_law_told", "_law_size", "_law_made", "_law_wide", "_law_row"]) (sc := defScope sLaw) (by decide +kernel)) (fun _ _ _ _ _ => (pg_name (i := 18) scLaw.nd rfl (Or.inl rfl))) (fun _ _ _ _ _ => pts_one (pt_cmpR (op_neDK K rfl hu) (pe_tup (pa_cons (pe_ixK K rfl (ix_tupK K rfl) (pv 18) pe_int (fun _ _ => rfl)) (pa_cons (pe_ixK K rfl (ix_tupK K rfl) (pv 18) pe_int (fun _ _ => rfl)) pa_nil))) (pe_tup (pa_cons pe_int (pa_cons pe_int pa_nil))) (nomark _))) (fun _ _ _ _ _ => (pv 18)))
      (C8.pss_cut (ps_if (PW.pt (pw_or (pt_cmpR op_ne (pe_fld (pv 16) rfl) (pv 15) (nomark _)) (pw_or (pt_cmpR op_ne (pe_fld (pv 16) rfl) (pe_callB call_len_seq (by rfl) T_G.B.len PySem.boot_len (pa_cons (pv 5) pa_nil)) (nomark _)) (pw_or1 (pt_cmpR op_ne (pe_callB call_len_dT (by rfl) T_G.B.len PySem.boot_len (pa_cons (pv 4) pa_nil)) (pe_op op_oneShl pe_int (pe_fld (pv 16) rfl)) (nomark _)))))) (pss_one (ps_ret pe_bl)) pss_nil)
      (C8.pss_cut (ps_if (pt_cmpR (op_neD hu) (pe_lc (own := [("_law_row", 18)]) (g := gName 18) (by rfl) scLaw.nd (pi_tup (pe_fld (pv 16) rfl)) (blkOk_by (own := [("_law_row", 18)]) (N := ["_law_script", "_law_pen_here", "_law_lap", "_law_rows", "_law_group_here", "_law_independent", "_law_turn", "_law_plain", "_law_phase", "_law_key", "_law_due", "_law_string", "_law_other_here", "_law_second", "_law_told", "_law_size", "_law_made", "_law_wide", "_law_row"]) (sc := defScope sLaw) (by decide +kernel)) (fun _ _ _ _ _ => (pg_name (i := 18) scLaw.nd rfl (Or.inl rfl))) (fun _ _ _ _ _ => pts_nil) (fun _ _ _ _ _ => (pe_call GPx r7 (by rfl) T_gPx T_FPx.kp T_bPx .nil pass0 (pa_cons (pv 18) pa_nil)))) (pe_lc (own := [("_law_row", 18)]) (g := gName 18) (by rfl) scLaw.nd (pi_list (pv 5)) (blkOk_by (own := [("_law_row", 18)]) (N := ["_law_script", "_law_pen_here", "_law_lap", "_law_rows", "_law_group_here", "_law_independent", "_law_turn", "_law_plain", "_law_phase", "_law_key", "_law_due", "_law_string", "_law_other_here", "_law_second", "_law_told", "_law_size", "_law_made", "_law_wide", "_law_row"]) (sc := defScope sLaw) (by decide +kernel)) (fun _ _ _ _ _ => (pg_name (i := 18) scLaw.nd rfl (Or.inl rfl))) (fun _ _ _ _ _ => pts_nil) (fun _ _ _ _ _ => (pe_call GTx r7 (by rfl) T_gTx T_FTx.kp T_bTx .nil pass0 (pa_cons (pv 18) (pa_cons (pv 15) pa_nil))))) (nomark _)) (pss_one (ps_ret pe_bl)) pss_nil)
      (C8.pss_cut (ps_if (pt_not (pt_val (pe_callB call_isi (by rfl) T_G.B.isi PyProof.Rows.boot_isinstance (pa_cons (pe_fld (pv 16) rfl) (pa_cons (pe_bltn (v := .ty "tuple") (by rfl) T_G.B.tuple bootT rfl) pa_nil))))) (pss_one (ps_ret pe_bl)) pss_nil)
      (C8.pss_cut (ps_for PassesOwn.never rfl (pi_range1 (by rfl) T_G.B.range (pa_cons pe_int pa_nil)) (pg_name (i := 6) scLaw.nd rfl (.inl rfl)) (C8.pss_cut (ps_par (i := 7) (j := 8) rfl scLaw.nd rfl rfl (by decide) rfl rfl (pa_cons (pe_call GSm r3 (by rfl) T_gSm T_FSm.kp T_bSm .nil pass0 (pa_cons (pv 1) (pa_cons (pv 15) pa_nil))) (pa_cons (pe_call GDr r1 (by rfl) T_gDr T_FDr.kp T_bDr .nil pass0 (pa_cons (pv 1) (pa_cons pe_int pa_nil))) pa_nil)) rfl)
      (C8.pss_cut (ps_if (pt_cmpR op_eq (pe_call GDr r1 (by rfl) T_gDr T_FDr.kp T_bDr .nil pass0 (pa_cons (pv 1) (pa_cons pe_int pa_nil))) pe_int (nomark _)) (C8.pss_cut (ps_set (i := 9) scLaw.nd rfl (.inl rfl) (pe_call GPk r2 (by rfl) T_gPk T_FPk.kp T_bPk .nil pass0 (pa_cons (pv 1) (pa_cons (pe_callB cr_sortedPO (by rfl) T_G.B.sorted PyProof.Rows.boot_sorted (pa_cons (pe_callTy (call_list_dT rfl) (by rfl) T_G.B.list bootL (pa_cons (pv 4) pa_nil)) pa_nil)) pa_nil))))
      (pss_one (ps_set (i := 7) scLaw.nd rfl (.inl rfl) (pe_tup (pa_cons (pe_ix ix_tup (pv 9) pe_int (fun _ _ => rfl)) (pa_cons (pe_ix ix_tup (pv 9) pe_int (fun _ _ => rfl)) (pa_cons pe_int pa_nil))))))) pss_nil)
      (C8.pss_cut (ps_par (i := 9) (j := 10) rfl scLaw.nd rfl rfl (by decide) rfl rfl (pa_cons (pe_tup (pa_cons (pe_ix ix_tup (pv 7) pe_int (fun _ _ => rfl)) (pa_cons (pe_ix ix_tup (pv 7) pe_int (fun _ _ => rfl)) pa_nil))) (pa_cons pe_non pa_nil)) rfl)
      (C8.pss_cut (ps_if (PW.pt (pw_and (pt_cmpR op_eq (pe_op op_mod (pe_callTy call_int1 (by rfl) T_G.B.int bootI (pa_cons (pv 8) pa_nil)) pe_int) pe_int (nomark _)) (pw_and1 (pt_cmp (pc_din hu1 (pv 9) (pv 4)))))) (pss_one (ps_set (i := 10) scLaw.nd rfl (.inl rfl) (pe_ifExp (pt_cmpR op_eq (pe_op op_mul pe_int (pe_dget hu1 (pv 4) (pv 9) (fun _ _ => rfl))) (pv 8) (nomark _)) pe_int (pe_un un_neg pe_int)))) pss_nil)
      (C8.pss_cut (ps_set (i := 11) scLaw.nd rfl (.inl rfl) (pe_make T_G.N.mkf GI r5 (by rfl) T_G.N.g T_G.bI .nil passL (pa_cons (pe_call GPh r7 (by rfl) T_gPh T_FPh.kp T_bPh .nil pass0 (pa_cons (pv 7) (pa_cons (pv 8) (pa_cons (pv 15) pa_nil)))) pa_nil)))
      (C8.pss_cut (ps_if (PW.pt (pw_or (pt_cmpR op_ne (pe_meth (pv 16) T_GC.cl T_mSgn GSgn r7 T_bSgn .nil passL (pa_cons (pv 11) pa_nil)) (pv 10) (nomark _)) (pw_or1 (pt_val (pe_callB call_isi (by rfl) T_G.B.isi PyProof.Rows.boot_isinstance (pa_cons (pe_meth (pv 16) T_GC.cl T_mSgn GSgn r7 T_bSgn .nil passL (pa_cons (pv 11) pa_nil)) (pa_cons (pe_bltn (v := .ty "bool") (by rfl) T_G.B.bool bootB rfl) pa_nil))))))) (pss_one (ps_ret pe_bl)) pss_nil)
      (pss_one (ps_if (pt_cmpR (op_neD hu) (pe_meth (pv 16) T_GC.cl T_mSyn GSyn r7 T_bSyn .nil passL (pa_cons (pv 11) pa_nil)) (pe_call GSy r7 (by rfl) T_gSy T_FSy.kp T_bSy .nil pass0 (pa_cons (pv 5) (pa_cons (pv 7) pa_nil))) (nomark _)) (pss_one (ps_ret pe_bl)) pss_nil)))))))))
      (C8.pss_cut (ps_set (i := 12) scLaw.nd rfl (.inl rfl) (pe_call GOh r7 (by rfl) T_gOh T_FOh.kp T_bOh .nil pass0 (pa_cons (pv 1) (pa_cons (pv 3) pa_nil))))
      (C8.pss_cut (ps_set (i := 13) scLaw.nd rfl (.inl rfl) (pe_call GGr r7 (by rfl) T_gGr T_FGr.kp T_bGr .nil pass0 (pa_cons (pv 12) pa_nil)))
      (C8.pss_cut (ps_if (pt_cmpR op_notN (pv 13) pe_non (nomark _)) (C8.pss_cut (ps_set (i := 14) scLaw.nd rfl (.inl rfl) (pe_make T_GC.mkf GGT r9 (by rfl) T_GC.g T_bGI .nil passL (pa_cons (pv 15) (pa_cons (pe_callTy call_tuple_of (by rfl) T_G.B.tuple bootT (pa_cons (pe_lc (own := [("_law_row", 18)]) (g := gName 18) (by rfl) scLaw.nd (pi_list (pv 12)) (blkOk_by (own := [("_law_row", 18)]) (N := ["_law_script", "_law_pen_here", "_law_lap", "_law_rows", "_law_group_here", "_law_independent", "_law_turn", "_law_plain", "_law_phase", "_law_key", "_law_due", "_law_string", "_law_other_here", "_law_second", "_law_told", "_law_size", "_law_made", "_law_wide", "_law_row"]) (sc := defScope sLaw) (by decide +kernel)) (fun _ _ _ _ _ => (pg_name (i := 18) scLaw.nd rfl (Or.inl rfl))) (fun _ _ _ _ _ => pts_nil) (fun _ _ _ _ _ => (pe_call GPl r6 (by rfl) T_gPl T_FPl.kp T_bPl .nil passL (pa_cons (pv 18) (pa_cons (pv 15) pa_nil))))) pa_nil)) pa_nil))))
      (pss_one (ps_if (PW.pt (pw_or (pt_cmpR op_ne (pe_cmpR (op_ownT GGe r7 T_eqG T_efG T_enG T_bGe pass0) (pv 14) (pv 16) (nomark _)) (pe_cmpR (op_eqDT hu2) (pv 13) (pv 4) (nomark _)) (nomark _)) (pw_or1 (pt_cmpR (op_ownT GGe r7 T_eqG T_efG T_enG T_bGe pass0) (pv 16) (pe_fld (pv 16) rfl) (nomark _))))) (pss_one (ps_ret pe_bl)) pss_nil))) pss_nil)
      (C8.pss_cut (ps_set (i := 17) scLaw.nd rfl (.inr rfl) (pe_make T_G.N.mkf GI r5 (by rfl) T_G.N.g T_G.bI .nil passL (pa_cons (pe_op op_mul_sign pe_str (pe_op op_add (pv 15) pe_int)) pa_nil)))
      (C8.pss_cut (ps_if (pt_cmpR (op_neD hu) (pe_mid (pe_lamcall (T := TT) (TT := TTg CB CU CA CM) (Ng := ["_law_call", "_law_found", "e"]) (by rfl) T_gWy T_FWy.kp lkW hcW bW' scWhy rfl (.inl rfl) (why_gives T_V) TB rfl (List.mem_singleton.mpr rfl) (fun p hp _ => by rw [List.mem_singleton.mp hp]; rfl) hr (lamS_by (sc := defScope sLaw) (by decide +kernel)) rfl (fun _ _ _ _ _ => rfl) (fun A2 o2 s2 H2 E2 f2 c2 hr2 => (pe_meth (pv 16) T_GC.cl T_mSgn GSgn (hr2.mono (by decide)) T_bSgn .nil (passes_call (takes_of rfl rfl rfl rfl) (fun _ _ _ _ h => h)) (pa_cons (pv 17) pa_nil))))) (pe_tup (pa_cons pe_str (pa_cons pe_str pa_nil))) (nomark _)) (pss_one (ps_ret pe_bl)) pss_nil)
      (C8.pss_cut (ps_if (pt_cmpR (op_neD hu) (pe_mid (pe_lamcall (T := TT) (TT := TTg CB CU CA CM) (Ng := ["_law_call", "_law_found", "e"]) (by rfl) T_gWy T_FWy.kp lkW hcW bW' scWhy rfl (.inl rfl) (why_gives T_V) TB rfl (List.mem_singleton.mpr rfl) (fun p hp _ => by rw [List.mem_singleton.mp hp]; rfl) hr (lamS_by (sc := defScope sLaw) (by decide +kernel)) rfl (fun _ _ _ _ _ => rfl) (fun A2 o2 s2 H2 E2 f2 c2 hr2 => (pe_meth (pv 16) T_GC.cl T_mSyn GSyn (hr2.mono (by decide)) T_bSyn .nil (passes_call (takes_of rfl rfl rfl rfl) (fun _ _ _ _ h => h)) (pa_cons (pv 17) pa_nil))))) (pe_tup (pa_cons pe_str (pa_cons pe_str pa_nil))) (nomark _)) (pss_one (ps_ret pe_bl)) pss_nil)
      (pss_one (ps_if (pt_cmpR (op_ownT GGe r7 T_eqG T_efG T_enG T_bGe pass0) (pv 16) (pe_make T_GC.mkf GG r9 (by rfl) T_GC.g T_bGI .nil passL (pa_cons (pe_op op_add (pv 15) pe_int) (pa_cons (pe_lc (own := [("_law_row", 18)]) (g := gName 18) (by rfl) scLaw.nd (pi_tup (pe_fld (pv 16) rfl)) (blkOk_by (own := [("_law_row", 18)]) (N := ["_law_script", "_law_pen_here", "_law_lap", "_law_rows", "_law_group_here", "_law_independent", "_law_turn", "_law_plain", "_law_phase", "_law_key", "_law_due", "_law_string", "_law_other_here", "_law_second", "_law_told", "_law_size", "_law_made", "_law_wide", "_law_row"]) (sc := defScope sLaw) (by decide +kernel)) (fun _ _ _ _ _ => (pg_name (i := 18) scLaw.nd rfl (Or.inl rfl))) (fun _ _ _ _ _ => pts_nil) (fun _ _ _ _ _ => (pe_make T_G.N.mkf GI r5 (by rfl) T_G.N.g T_G.bI .nil passL (pa_cons (pe_op op_add_str (pe_call GPx r7 (by rfl) T_gPx T_FPx.kp T_bPx .nil pass0 (pa_cons (pv 18) pa_nil)) pe_str) pa_nil)))) pa_nil))) (nomark _)) (pss_one (ps_ret pe_bl)) pss_nil)))))))))))))))))
      (pss_one (ps_ret pe_bl)))), ?_⟩
    refine ⟨fun σ' H' => ∃ p pc : Addr, σ' = L19 a p none none none none none none none none none none none none none none none none none ∧ Sx TT p pc 0 H', ?_, ?_⟩
    · refine ⟨_, rfl, a, ns, rfl, hS, hlen, fun H' p pc sm np nc hP => ⟨p, pc, rfl, 0, Nat.le_refl _, hP, fun q hq => ?_⟩⟩
      rw [List.mem_singleton.mp hq]
      exact TabS.nil (sm _ _ hTP)
    rintro _ H1 ⟨p, pc, rfl, x1⟩
    clear hTP hS
    -- three laps
    refine ⟨fun σ' H' => ∃ v2 v3 v4 v5 v6 v7 v8 v9 v10 v11 v12 v13 v14 v15 v16 v17 v18 : Option V, σ' = L19 a p v2 v3 v4 v5 v6 v7 v8 v9 v10 v11 v12 v13 v14 v15 v16 v17 v18 ∧ Sx TT p pc 60000 H', ?_, ?_⟩
    · refine ⟨3, rfl, by decide, by decide, for_range (n := 3) (fun i σ' H' => ∃ v2 v3 v4 v5 v6 v7 v8 v9 v10 v11 v12 v13 v14 v15 v16 v17 v18 : Option V, σ' = L19 a p v2 v3 v4 v5 v6 v7 v8 v9 v10 v11 v12 v13 v14 v15 v16 v17 v18 ∧ Sx TT p pc (20000 * i) H') ⟨none, none, none, none, none, none, none, none, none, none, none, none, none, none, none, none, none, rfl, x1⟩ ?_ ?_⟩
      rotate_left
      · rintro _ H3 ⟨v2, v3, v4, v5, v6, v7, v8, v9, v10, v11, v12, v13, v14, v15, v16, v17, v18, rfl, x3⟩
        exact ⟨_, _, _, _, _, _, _, _, _, _, _, _, _, _, _, _, _, rfl, x3⟩
      rintro i _ H3 hi ⟨v2, v3, v4, v5, v6, v7, v8, v9, v10, v11, v12, v13, v14, v15, v16, v17, v18, rfl, x3⟩
      clear x1
      -- size
      refine ⟨fun σ' H' => ∃ n : Nat, 1 ≤ n ∧ n ≤ 23 ∧ σ' = L19 a p (some (.int (0 + (i : Nat)))) v3 v4 v5 v6 v7 v8 v9 v10 v11 v12 v13 v14 (some (.int (n : Nat))) v16 v17 v18 ∧ Sx TT p pc (20000 * i + 2) H', ?_, ?_⟩
      · refine ⟨_, rfl, dr_of x3 (by omega) (by decide) (by decide) fun y H4 hy x4 _ => ⟨rfl, _, rfl, ite2 (fun _ => ?_) (fun _ => ?_)⟩⟩
        · exact ⟨23, by decide, by decide, rfl, x4.mono (by omega)⟩
        · refine ⟨_, rfl, dr_of x4 (by omega) (by decide) (by decide) fun y1 H5 hy1 x5 _ => ⟨_, _, rfl, rfl, 1 + y1, by omega, by omega, ?_, x5.mono (by omega)⟩⟩
          rw [Int.natCast_add]
          rfl
      clear x3
      rintro _ H4 ⟨n, n1, n2, rfl, x4⟩
      -- rows
      refine ⟨fun σ' H' => ∃ (l : Addr) (R : RLs), σ' = L19 a p (some (.int (0 + (i : Nat)))) (some (.ref l)) v4 v5 v6 v7 v8 v9 v10 v11 v12 v13 v14 (some (.int (n : Nat))) v16 v17 v18 ∧ Sx TT p pc (20000 * i + 6010) H' ∧ H' l = some (.lst (refR R)) ∧ RsAt n H' R ∧ R.length ≤ 9 ∧ Grpd n R, ?_, ?_⟩
      · refine ⟨_, rfl, _, rfl, _, rfl, _, rfl, by show 2 ≤ sizeLine; decide, fun lm nm => ⟨lm, [(n : Int), 6], rfl, SqL.of upd_same, by show 0 < 2; decide, fun mn hm1 hm2 => ?_⟩⟩
        have m0 : 0 < mn ∧ mn ≤ 6 := by
          simp only [List.mem_cons, List.mem_nil_iff, or_false] at hm1
          have := hm2 6 (by simp)
          rcases hm1 with rfl | rfl <;> omega
        refine ⟨_, _, rfl, rfl, dr_of (x4.same (same_new nm)) (by omega) (by omega) (by omega) fun y H5 hy x5 _ => st_of x5 (by omega) n1 (by omega) (by omega) fun H6 l R kb x6 nl el hR lR gd => ?_⟩
        exact ⟨l, R, rfl, x6.mono (by omega), el, hR, by omega, gd⟩
      clear x4
      rintro _ H5 ⟨l, R, rfl, x5, el, hR, lR, bs, B, lb, inR⟩
      have fR : ∀ r ∈ R, Fit n r.2 := fun r hr => (hR r hr).2
      -- the group, as the law has it and as the program makes it
      refine ⟨fun σ' H' => ∃ (d g : Addr) (ts : List T3) (bs' : List Hl) (M : GLs) (T : List Hl), σ' = L19 a p (some (.int (0 + (i : Nat)))) (some (.ref l)) (some (.ref d)) v5 v6 v7 v8 v9 v10 v11 v12 v13 v14 (some (.int (n : Nat))) (some (.ref g)) v17 v18 ∧ Same H5 H' ∧ H' d = some (.dT (gD ts)) ∧ GrU n R bs' ts ∧ GroupAt CG C H' g n M ∧
          (hls M).Perm T ∧ (hls M).Pairwise (fun a b => b.1 ≤ a.1) ∧ RedAt n (gsT n R) (gsT n R).length T, ?_, ?_⟩
      · refine ⟨_, rfl, l, n, R, rfl, SqL.of el, hR, by omega, by omega, fun i' j' _ q' r' hq hr' => (crN_com (fR q' (List.mem_of_getElem? hq)) (fR r' (List.mem_of_getElem? hr'))).mpr ((inR q' (List.mem_of_getElem? hq)).com B.cs (inR r' (List.mem_of_getElem? hr'))), fun H' _ h => absurd ⟨bs, B, inR⟩ h, fun H6 d ts bs' s6 ed g6 => ?_⟩
        have el6 := s6 _ _ el
        have hR6 := hR.same s6
        refine ⟨_, rfl, _, rfl, l, rfl, ⟨_, SqL.of el6⟩, fun D nD => ?_⟩
        refine lc_list (K := K) (a := l) (xs := refR R) (Pv := fun j Hc => Same H6 Hc ∧ ∃ PR : RLs, Hc D = some (.lst (refR PR)) ∧ PAt C n Hc PR ∧ PR.map (·.2) = (R.take j).map (·.2)) ⟨same_new nD, [], upd_same, fun q hq => (by cases hq), rfl⟩ (fun j Hc _ ⟨sc, _⟩ => SqL.of (sc _ _ el6)) ?_ ?_
        · rintro j v Hc hj ⟨sc, PR, eD, hP, eP⟩
          obtain ⟨r, hr', rfl⟩ := refR_at hj
          obtain ⟨er, fr⟩ := hR6 r (List.mem_of_getElem? hr')
          have hjl : j < R.length := (List.getElem?_eq_some_iff.mp hr').1
          have lPR : PR.length = j := by
            have := congrArg List.length eP
            rw [List.length_map, List.length_map, List.length_take] at this
            omega
          refine ⟨rfl, _, rfl, _, rfl, r.1, n, r.2, rfl, sc _ _ er, fr, n1, by omega, fun H7 x s7 PX => ?_⟩
          have eD7 := s7 _ _ eD
          refine ⟨refR PR, eD7, ?_, same_put0 (sc.trans s7) nD, PR ++ [(x, r.2)], ?_, ?_, ?_⟩
          · rw [refR_len, lPR]
            exact Nat.lt_of_le_of_lt (by omega : j ≤ 9) (by decide)
          · rw [upd_same]
            unfold refR
            rw [List.map_append]
            rfl
          · intro q hq
            rcases List.mem_append.mp hq with h | h
            · exact PAt.put eD7 ((hP.same s7) q h)
            · rw [List.mem_singleton.mp h]
              exact PAt.put eD7 PX
          · rw [List.map_append, eP, take_snoc hr', List.map_append]
            rfl
        · rintro Hc ⟨sc, PR, eD, hP, eP⟩
          rw [refR_len, List.take_length] at eP
          have inP : ∀ r ∈ PR, ∃ r' ∈ R, r'.2 = r.2 := fun r hr => by
            have := List.mem_map_of_mem (f := (·.2)) hr
            rw [eP] at this
            exact List.mem_map.mp this
          have eg : gsT n PR = gsT n R := by
            have := congrArg (List.map (phi n)) eP
            rw [List.map_map, List.map_map] at this
            exact this
          have lP : PR.length = R.length := by
            have := congrArg List.length eP
            rwa [List.length_map, List.length_map] at this
          refine fun x dx nx ndx ne => mkG_of (bs := bs) (R := PR) nx ndx ne B (fun r hr => ?_) (fun r hr => ?_) n1 (by omega) (by omega) (SqL.of eD) hP fun H8 M T s8 G8 pm pw RA => ⟨rfl, ?_⟩
          · obtain ⟨r', h', e⟩ := inP r hr
            rw [← e]
            exact fR r' h'
          · obtain ⟨r', h', e⟩ := inP r hr
            rw [← e]
            exact inR r' h'
          refine ⟨by show 2 ≤ sizeLine; decide, fun t nt => ?_⟩
          have sA := ((s6.trans sc).trans s8).trans (same_new (o := .tup [V.ref d, V.ref x]) nt)
          have s9 := same_new (o := .tup [V.ref d, V.ref x]) nt
          refine ⟨t, _, rfl, .inl (.inl upd_same), rfl, _, _, rfl, _, _, rfl, rfl, d, x, ts, bs', M, T, rfl, sA, ((sc.trans s8).trans s9) _ _ ed, g6, G8.same s9, pm, pw, ?_⟩
          rw [eg] at RA
          exact RA
      rintro _ H6 ⟨d, g, ts, bs', M, T, rfl, s6, ed, gu, gM, pm, pw, RA⟩
      have x6 := x5.same s6
      have el6 := s6 _ _ el
      have hR6 := hR.same s6
      clear x5
      -- the independent rows
      refine ⟨fun σ' H' => ∃ (iD : Addr) (N : RLs), σ' = L19 a p (some (.int (0 + (i : Nat)))) (some (.ref l)) (some (.ref d)) (some (.ref iD)) v6 v7 v8 v9 v10 v11 v12 v13 v14 (some (.int (n : Nat))) (some (.ref g)) v17 v18 ∧ Same H6 H' ∧ H' iD = some (.lst (refR N)) ∧ RsAt n H' N ∧ MadeG n bs R N M ∧
          Red (bw n (N.map (·.2))) ∧ (bw n (N.map (·.2))).Pairwise (· > ·) ∧ ∀ r ∈ N, InG n bs (phi n r.2), ?_, ?_⟩
      · refine ⟨_, rfl, _, rfl, l, n, R, bs, rfl, SqL.of el6, hR6, n1, by omega, by omega, B.cs, inR, fun H7 ln N s7 eln hN rN dN sN iN => ?_⟩
        have mg := made_of B inR RA pm pw rN dN sN iN
        refine ⟨ln, rfl, ⟨_, SqL.of eln⟩, fun D nD => ?_⟩
        have lN : N.length ≤ 9 := by
          have := mg.len
          obtain ⟨_, _, l1⟩ := made_tab RA pm
          have l2 := keptL_len (gsT n R) (gsT n R).length
          rw [show (gsT n R).length = R.length from List.length_map ..] at l1 l2
          omega
        refine lc_list (K := K) (a := ln) (xs := refR N) (Pv := fun j Hc => Same H7 Hc ∧ Hc D = some (.lst (refR (N.take j)))) ⟨same_new nD, upd_same⟩ (fun j Hc _ ⟨sc, _⟩ => SqL.of (sc _ _ eln)) ?_ ?_
        · rintro j v Hc hj ⟨sc, eD⟩
          obtain ⟨r, hr', rfl⟩ := refR_at hj
          obtain ⟨er, fr⟩ := hN r (List.mem_of_getElem? hr')
          have hjl : j < N.length := (List.getElem?_eq_some_iff.mp hr').1
          have er1 := sc _ _ er
          refine ⟨rfl, _, rfl, r.1, _, _, _, rfl, rfl, SqT.of er1, tri0 _ _ _, _, rfl, r.1, _, _, _, rfl, rfl, SqT.of er1, tri1 _ _ _, by show 2 ≤ sizeLine; decide, fun t nt => ⟨by show 2 ≤ sizeLine; decide, fun u nu => ?_⟩⟩
          have st := same_new (o := .tup [V.int (r.2.1 : Nat), V.int (r.2.2.1 : Nat)]) nt
          have su := same_new (o := .tup [V.int 0, V.int 0]) nu
          have nz : ¬ (r.2.1 = 0 ∧ r.2.2.1 = 0) := fun ⟨z1, z2⟩ => by
            refine rN.nz (bN n r.2) (List.mem_map_of_mem (List.mem_map_of_mem (List.mem_of_getElem? hr'))) ?_
            show KQ.fB n r.2.1 r.2.2.1 = 0
            rw [z1, z2, fB_zero]
          refine ⟨d2 r.2.1 r.2.2.1, d2 0 0, d2_at (su _ _ upd_same), d2_at upd_same, d2_sh _ _, d2_sh _ _, ?_⟩
          rw [d2_ne nz]
          have eD3 := su _ _ (st _ _ eD)
          refine ⟨_, rfl, iteT ⟨_, rfl, _, eD3, ?_, same_put0 ((sc.trans st).trans su) nD, ?_⟩⟩
          · rw [refR_len, List.length_take]
            exact Nat.lt_of_le_of_lt (by omega : min j N.length ≤ 9) (by decide)
          · rw [upd_same, take_snoc hr']
            unfold refR
            rw [List.map_append]
            rfl
        · rintro Hc ⟨sc, eD⟩
          rw [refR_len, List.take_length] at eD
          exact ⟨D, N, rfl, s7.trans sc, eD, hN.same sc, mg, rN, dN, iN⟩
      rintro _ H7 ⟨iD, N, rfl, s7, ei, hN, mg, rN, dN, iN⟩
      have x7 := x6.same s7
      have ed7 := s7 _ _ ed
      have gM7 := gM.same s7
      have el7 := s7 _ _ el6
      have hR7 := hR6.same s7
      clear x6 hR6 ed gM
      have fN : ∀ r ∈ N, Fit n r.2 := fun r hr => (hN r hr).2
      have lN : M.length = N.length := mg.len
      have lN9 : N.length ≤ 9 := by
        obtain ⟨_, _, l1⟩ := made_tab RA pm
        have l2 := keptL_len (gsT n R) (gsT n R).length
        rw [show (gsT n R).length = R.length from List.length_map ..] at l1 l2
        omega
      obtain ⟨dx, fs, p1, b1, r1', M', eg, l1, l2, l3, l4, l5, l6, hp1, hHl, hb, hr1, hPs, eM⟩ := id gM7
      -- size, rank, number of products
      refine ⟨fun σ' H' => σ' = L19 a p (some (.int (0 + (i : Nat)))) (some (.ref l)) (some (.ref d)) (some (.ref iD)) v6 v7 v8 v9 v10 v11 v12 v13 v14 (some (.int (n : Nat))) (some (.ref g)) v17 v18 ∧ H' = H7, ?_, ?_⟩
      · refine ⟨_, rfl, g, CG, dx, fs, _, rfl, eg, T_GC.cl, T_GC.nS, l1, _, rfl, rfl, false, ?_, iteF ⟨_, rfl, g, CG, dx, fs, _, rfl, eg, T_GC.cl, T_GC.nK, l5, _, rfl, iD, _, rfl, .inl (SqL.of ei), rfl, false, ?_, iteF ⟨_, rfl, d, _, rfl, ed7, _, rfl, g, CG, dx, fs, _, rfl, eg, T_GC.cl, T_GC.nK, l5, M.length, rfl, rfl, by omega, rfl, false, ?_, iteF ⟨rfl, rfl⟩⟩⟩⟩
        · exact congrArg V.bl (by rw [decide_eq_true rfl]; rfl)
        · exact congrArg V.bl (by rw [refR_len, ← lN, decide_eq_true rfl]; rfl)
        · refine congrArg V.bl ?_
          rw [gD_len, ts_len mg gu fR, decide_eq_true (congrArg V.int (by push_cast; rfl))]
          rfl
      rintro _ H8 ⟨rfl, e8⟩
      have e8' := e8.symm
      subst e8'
      -- the texts of the rows
      have eT : (M'.map fun q => headL q.2.2 ++ q.2.1) = N.map fun r => TX n r.2 := by
        have := congrArg (List.map fun q : List Nat × Nat => headL q.2 ++ q.1) (eM.trans (rwS_N fN mg.rows))
        rw [List.map_map, List.map_map] at this
        exact this.trans (List.map_congr_left fun r hr => TX_hd (fN r hr))
      have lM' : M'.length = N.length := by
        have := congrArg List.length eT
        rwa [List.length_map, List.length_map] at this
      have pM : ∀ q ∈ M', q.2.2 < 4 ∧ q.2.1.length = n := fun q hq => by
        have m1 := List.mem_map_of_mem (f := (·.2)) hq
        rw [eM] at m1
        have e := rwS_N fN mg.rows
        unfold rwS at e
        rw [e] at m1
        obtain ⟨r, hr, e2⟩ := List.mem_map.mp m1
        have := (fN r hr).2.2
        rw [← e2]
        exact ⟨by show 2 * r.2.2.2 < 4; omega, LT_len ..⟩
      refine ⟨fun σ' H' => σ' = L19 a p (some (.int (0 + (i : Nat)))) (some (.ref l)) (some (.ref d)) (some (.ref iD)) v6 v7 v8 v9 v10 v11 v12 v13 v14 (some (.int (n : Nat))) (some (.ref g)) v17 v18 ∧ Same H7 H', ?_, ?_⟩
      · refine ⟨_, rfl, g, CG, dx, fs, _, rfl, eg, T_GC.cl, T_GC.nR, l4, r1', rfl, ⟨_, SqT.of hr1⟩, fun D nD => ?_⟩
        refine lc_tup (K := K) (a := r1') (xs := refP M') (Pv := fun j Hc => Same H7 Hc ∧ Hc D = some (.lst ((M'.take j).map fun q => V.str (mS (headL q.2.2 ++ q.2.1))))) ⟨same_new nD, upd_same⟩ (fun j Hc _ ⟨sc, _⟩ => SqT.of (sc _ _ hr1)) ?_ ?_
        · rintro j v Hc hj ⟨sc, eD⟩
          obtain ⟨q', hq', rfl⟩ := refP_at hj
          have mq := List.mem_of_getElem? hq'
          obtain ⟨q4, qn⟩ := pM q' mq
          have hjl : j < M'.length := (List.getElem?_eq_some_iff.mp hq').1
          refine ⟨rfl, _, rfl, q'.1, q'.2.1, q'.2.2, rfl, (hPs q' mq).same sc, q4, by omega, _, eD, ?_, same_put0 sc nD, ?_⟩
          · rw [List.length_map, List.length_take]
            exact Nat.lt_of_le_of_lt (by omega : min j M'.length ≤ 9) (by decide)
          · rw [upd_same, take_snoc hq', List.map_append]
            rfl
        · rintro Hc ⟨sc, eD⟩
          rw [show (refP M').length = M'.length from List.length_map .., List.take_length] at eD
          have ei2 := sc _ _ ei
          refine ⟨_, rfl, iD, rfl, ⟨_, SqL.of ei2⟩, fun D2 nD2 => ?_⟩
          refine lc_list (K := K) (a := iD) (xs := refR N) (Pv := fun j Hd => Same Hc Hd ∧ Hd D2 = some (.lst ((N.take j).map fun r => V.str (mS (TX n r.2))))) ⟨same_new nD2, upd_same⟩ (fun j Hd _ ⟨sd, _⟩ => SqL.of (sd _ _ ei2)) ?_ ?_
          · rintro j v Hd hj ⟨sd, eD2⟩
            obtain ⟨r, hr', rfl⟩ := refR_at hj
            obtain ⟨er, fr⟩ := hN r (List.mem_of_getElem? hr')
            have hjl : j < N.length := (List.getElem?_eq_some_iff.mp hr').1
            refine ⟨rfl, _, rfl, _, rfl, r.1, n, r.2, rfl, sd _ _ (sc _ _ er), fr, by omega, _, eD2, ?_, same_put0 sd nD2, ?_⟩
            · rw [List.length_map, List.length_take]
              exact Nat.lt_of_le_of_lt (by omega : min j N.length ≤ 9) (by decide)
            · rw [upd_same, take_snoc hr', List.map_append]
              rfl
          · rintro Hd ⟨sd, eD2⟩
            rw [refR_len, List.take_length] at eD2
            have k1 : Dp K Hd (.ref D) (tL (N.map fun r => TX n r.2)) := by
              refine tL_at ?_
              rw [sd _ _ eD, ← eT, List.map_map]
              rfl
            have k2 : Dp K Hd (.ref D2) (tL (N.map fun r => TX n r.2)) := by
              refine tL_at ?_
              rw [eD2, List.map_map]
              rfl
            have sh : SeqAt.shaped (tL (N.map fun r => TX n r.2)) = true := tL_sh fun x hx => by
              obtain ⟨r, hr, rfl⟩ := List.mem_map.mp hx
              exact TX_lt
            refine ⟨_, _, k1, k2, sh, sh, ?_⟩
            rw [tL_eq]
            exact ⟨_, rfl, iteF ⟨rfl, sc.trans sd⟩⟩
      rintro _ H9 ⟨rfl, s9⟩
      have eg9 := s9 _ _ eg
      have hr9 := s9 _ _ hr1
      refine ⟨fun σ' H' => σ' = L19 a p (some (.int (0 + (i : Nat)))) (some (.ref l)) (some (.ref d)) (some (.ref iD)) v6 v7 v8 v9 v10 v11 v12 v13 v14 (some (.int (n : Nat))) (some (.ref g)) v17 v18 ∧ H' = H9, ?_, ?_⟩
      · refine ⟨_, rfl, g, CG, dx, fs, _, rfl, eg9, T_GC.cl, T_GC.nR, l4, _, _, _, _, true, rfl, .ty "tuple", .base (.tup hr9), by first | rfl | decide +kernel, ?_⟩
        exact ⟨_, rfl, iteF ⟨rfl, rfl⟩⟩
      rintro _ HA ⟨rfl, eA⟩
      have eA' := eA.symm
      subst eA'
      have x9 := x7.same s9
      have ed9 := s9 _ _ ed7
      have gM9 := gM7.same s9
      have el9 := s9 _ _ el7
      have hR9 := hR7.same s9
      have ei9 := s9 _ _ ei
      have hN9 := hN.same s9
      clear x7 ed7 gM7 el7 hR7 ei hN s9
      have keepG : ∀ {Hx : Hp}, KB p H9 Hx → GroupAt CG C Hx g n M := fun {Hx} kx => by
        obtain ⟨_, _, hP, _⟩ := x9
        obtain ⟨kv, hp⟩ := pen_dk hP
        have kk2 : ∀ {b : Addr} {o : HO}, H9 b = some o → (∀ kv, o ≠ .dK kv) → Hx b = some o := fun {b o} e ne => kx b o e (ne_of e hp (ne kv))
        obtain ⟨dx, fs, p1, b1, r, M', e, l1, l2, l3, l4, l5, l6, hp1, hM, hb, hr, hP, eM⟩ := gM9
        refine ⟨dx, fs, p1, b1, r, M', kk2 e (fun _ z => nomatch z), l1, l2, l3, l4, l5, l6, kk2 hp1 (fun _ z => nomatch z), fun q hq => kk2 (hM q hq) (fun _ z => nomatch z), kk2 hb (fun _ z => nomatch z), kk2 hr (fun _ z => nomatch z), fun q hq => ?_, eM⟩
        obtain ⟨dy, gs, e2, r2⟩ := hP q hq
        exact ⟨dy, gs, kk2 e2 (fun _ z => nomatch z), r2⟩
      -- eight strings
      refine ⟨fun σ' H' => ∃ v6 v7 v8 v9 v10 v11 : Option V, σ' = L19 a p (some (.int (0 + (i : Nat)))) (some (.ref l)) (some (.ref d)) (some (.ref iD)) v6 v7 v8 v9 v10 v11 v12 v13 v14 (some (.int (n : Nat))) (some (.ref g)) v17 v18 ∧ Sx TT p pc (20000 * i + 8000) H' ∧ KB p H9 H', ?_, ?_⟩
      · refine ⟨8, rfl, by decide, by decide, for_range (n := 8) (fun k σ' H' => ∃ v6 v7 v8 v9 v10 v11 : Option V, σ' = L19 a p (some (.int (0 + (i : Nat)))) (some (.ref l)) (some (.ref d)) (some (.ref iD)) v6 v7 v8 v9 v10 v11 v12 v13 v14 (some (.int (n : Nat))) (some (.ref g)) v17 v18 ∧ Sx TT p pc (20000 * i + 6010 + 200 * k) H' ∧ KB p H9 H')
          ⟨v6, v7, v8, v9, v10, v11, rfl, x9, KB.refl _ _⟩ ?_ ?_⟩
        rotate_left
        · rintro _ HB ⟨v6, v7, v8, v9, v10, v11, rfl, xB, kB⟩
          exact ⟨v6, v7, v8, v9, v10, v11, rfl, xB.mono (by omega), kB⟩
        rintro k _ HB hk ⟨v6, v7, v8, v9, v10, v11, rfl, xB, kB⟩
        -- a string and a phase
        refine ⟨fun σ' H' => ∃ (pt : Addr) (t : T3) (ph : Nat), σ' = L19 a p (some (.int (0 + (i : Nat)))) (some (.ref l)) (some (.ref d)) (some (.ref iD)) (some (.int (0 + (k : Nat)))) (some (.ref pt)) (some (.int (ph : Nat))) v9 v10 v11 v12 v13 v14 (some (.int (n : Nat))) (some (.ref g)) v17 v18 ∧ Sx TT p pc (20000 * i + 6010 + 200 * k + 101) H' ∧ KB p H9 H' ∧ TrAt H' pt t ∧ Fit n t ∧ t.2.2 = 0 ∧ ph < 4, ?_, ?_⟩
        · refine ⟨_, rfl, _, rfl, sm_of xB (by omega) (by omega) fun pt t HC ft zt et xC kC => ⟨_, rfl, dr_of xC (by omega) (by decide) (by decide) fun y HD hy xD kD => ?_⟩⟩
          have et' : TrAt HD pt t := by
            obtain ⟨_, _, hP, _⟩ := xC
            obtain ⟨kv, hp⟩ := pen_dk hP
            exact kD _ _ et (ne_of et hp (by intro z; cases z))
          exact ⟨_, _, rfl, pt, t, y, rfl, xD, (kB.trans kC).trans kD, et', ft, zt, by omega⟩
        clear xB kB
        rintro _ HC ⟨pt, t, ph, rfl, xC, kC, et, ft, zt, hph⟩
        -- perhaps one of the group
        refine ⟨fun σ' H' => ∃ (v9 : Option V) (pt : Addr) (t : T3), σ' = L19 a p (some (.int (0 + (i : Nat)))) (some (.ref l)) (some (.ref d)) (some (.ref iD)) (some (.int (0 + (k : Nat)))) (some (.ref pt)) (some (.int (ph : Nat))) v9 v10 v11 v12 v13 v14 (some (.int (n : Nat))) (some (.ref g)) v17 v18 ∧ Sx TT p pc (20000 * i + 6010 + 200 * k + 103) H' ∧ KB p H9 H' ∧ TrAt H' pt t ∧ Fit n t ∧ t.2.2 = 0, ?_, ?_⟩
        · refine ⟨_, rfl, dr_of xC (by omega) (by decide) (by decide) fun y HD hy xD kD => ⟨rfl, _, rfl, ite2 (fun _ => ?_) (fun _ => ?_)⟩⟩
          rotate_left
          · have et' : TrAt HD pt t := by
              obtain ⟨_, _, hP, _⟩ := xC
              obtain ⟨kv, hp⟩ := pen_dk hP
              exact kD _ _ et (ne_of et hp (by intro z; cases z))
            exact ⟨v9, pt, t, rfl, xD.mono (by omega), kC.trans kD, et', ft, zt⟩
          have edD : HD d = some (.dT (gD ts)) := by
            obtain ⟨_, _, hP, _⟩ := x9
            obtain ⟨kv, hp⟩ := pen_dk hP
            exact (kC.trans kD) _ _ ed9 (ne_of ed9 hp (by intro z; cases z))
          refine ⟨fun σ' H' => ∃ (kp : Addr) (u : T3), σ' = L19 a p (some (.int (0 + (i : Nat)))) (some (.ref l)) (some (.ref d)) (some (.ref iD)) (some (.int (0 + (k : Nat)))) (some (.ref pt)) (some (.int (ph : Nat))) (some (.ref kp)) v10 v11 v12 v13 v14 (some (.int (n : Nat))) (some (.ref g)) v17 v18 ∧ Sx TT p pc (20000 * i + 6010 + 200 * k + 103) H' ∧ KB p H9 H' ∧ H' kp = some (.tup [.int (u.1 : Nat), .int (u.2.1 : Nat)]) ∧ u ∈ ts, ?_, ?_⟩
          · refine ⟨_, rfl, _, rfl, d, gD ts, rfl, .inl edD, fun pl ks npl isk => ?_⟩
            obtain ⟨lk', hk'⟩ := gD_keys isk
            have sp := same_new (o := .lst (ks.map V.ref)) npl
            have lts := ts_len mg gu fR
            have l512 : ts.length ≤ 512 := by
              rw [lts]
              exact Nat.le_trans (Nat.pow_le_pow_right (by decide) (by omega : M.length ≤ 9)) (by decide)
            have l0 : 0 < ts.length := by
              rw [lts]
              exact Nat.two_pow_pos _
            refine ⟨pl, ks.map V.ref, kV2 (upd HD pl (.lst (ks.map V.ref))), rfl, SqL.of upd_same, fun x hx => ?_, fun ys ps srt stb nps => ?_⟩
            · obtain ⟨b, hb, rfl⟩ := List.mem_map.mp hx
              obtain ⟨u, _, e⟩ := hk' b hb
              have e' := sp _ _ e
              refine ⟨b, rfl, ?_⟩
              rw [kV2_at (h := (u.1, u.2.1)) e']
              exact e'
            · have s2 := same_new (o := .lst ys) nps
              have ly : ys.length = ts.length := by
                rw [stb.perm.length_eq, List.length_map]
                exact lk'
              have xE := xD.same (sp.trans s2)
              refine pk_of xE (by omega) upd_same (fun z => ?_) (by omega) fun v HE hv xF kF => ?_
              · rw [z] at ly
                simp at ly
                omega
              · obtain ⟨b, hb, rfl⟩ := List.mem_map.mp (stb.perm.mem_iff.mp hv)
                obtain ⟨u, mu, e⟩ := hk' b hb
                have e2 := s2 _ _ (sp _ _ e)
                refine ⟨b, u, rfl, xF.mono (by omega), ((kC.trans kD).sm (sp.trans s2)).trans kF, ?_, mu⟩
                obtain ⟨_, _, hP, _⟩ := xE
                obtain ⟨kv, hp⟩ := pen_dk hP
                exact kF _ _ e2 (ne_of e2 hp (by intro z; cases z))
          rintro _ HE ⟨kp, u, rfl, xE, kE, ek, mu⟩
          refine ⟨_, rfl, kp, _, _, _, rfl, rfl, SqT.of ek, at_pair0 _ _, _, rfl, kp, _, _, _, rfl, rfl, SqT.of ek, at_pair1 _ _, by show 3 ≤ sizeLine; decide, fun q' nq => ?_⟩
          have sq := same_new (o := .tup [V.int (u.1 : Nat), V.int (u.2.1 : Nat), V.int 0]) nq
          have fu := gu.g.fit u mu
          exact ⟨_, q', (u.1, u.2.1, 0), rfl, xE.same sq, kE.sm sq, upd_same, ⟨fu.1, fu.2.1, by show 0 < 2; decide⟩, rfl⟩
        clear xC kC et ft zt t pt v9
        rintro _ HD ⟨v9, pt, t, rfl, xD, kD, et, ft, zt⟩
        -- its key
        refine ⟨fun σ' H' => ∃ kp : Addr, σ' = L19 a p (some (.int (0 + (i : Nat)))) (some (.ref l)) (some (.ref d)) (some (.ref iD)) (some (.int (0 + (k : Nat)))) (some (.ref pt)) (some (.int (ph : Nat))) (some (.ref kp)) (some .non) v11 v12 v13 v14 (some (.int (n : Nat))) (some (.ref g)) v17 v18 ∧ Sx TT p pc (20000 * i + 6010 + 200 * k + 103) H' ∧ KB p H9 H' ∧ TrAt H' pt t ∧ H' kp = some (.tup [.int (t.1 : Nat), .int (t.2.1 : Nat)]), ?_, ?_⟩
        · refine ⟨_, rfl, pt, _, _, _, rfl, rfl, SqT.of et, tri0 _ _ _, _, rfl, pt, _, _, _, rfl, rfl, SqT.of et, tri1 _ _ _, by show 2 ≤ sizeLine; decide, fun q' nq => ?_⟩
          have sq := same_new (o := .tup [V.int (t.1 : Nat), V.int (t.2.1 : Nat)]) nq
          exact ⟨_, _, rfl, q', rfl, xD.same sq, kD.sm sq, sq _ _ et, upd_same⟩
        clear xD kD et
        rintro _ HE ⟨kp, rfl, xE, kE, et, ek⟩
        have edE : HE d = some (.dT (gD ts)) := by
          obtain ⟨_, _, hP, _⟩ := x9
          obtain ⟨kv, hp⟩ := pen_dk hP
          exact kE _ _ ed9 (ne_of ed9 hp (by intro z; cases z))
        -- what is due
        refine ⟨fun σ' H' => σ' = L19 a p (some (.int (0 + (i : Nat)))) (some (.ref l)) (some (.ref d)) (some (.ref iD)) (some (.int (0 + (k : Nat)))) (some (.ref pt)) (some (.int (ph : Nat))) (some (.ref kp)) (some (sgV n M (LT n t.1 t.2.1, ph))) v11 v12 v13 v14 (some (.int (n : Nat))) (some (.ref g)) v17 v18 ∧ H' = HE, ?_, ?_⟩
        · refine ⟨_, rfl, .inl ⟨_, rfl, _, _, rfl, rfl, by show (0 : Int) < 2; decide, rfl, decide (ph % 2 = 0), ?_, ?_⟩⟩
          · refine congrArg V.bl (decide_eq_decide.mpr ⟨fun z => ?_, fun z => ?_⟩)
            · have := V.int.inj z
              omega
            · exact congrArg V.int (by omega)
          by_cases hp2 : ph % 2 = 0
          · rw [decide_eq_true hp2]
            refine iteT ?_
            have eK : HE kp = some (.tup ((kk (bt t)).map L2.kV)) := ek
            refine ⟨_, rfl, _, rfl, d, _, rfl, DGet.t edE eK, _, rfl, ?_⟩
            rw [gD_some]
            by_cases hk : bt t ∈ ts.map bt
            · rw [decide_eq_true hk]
              obtain ⟨u, hu, eu⟩ := List.mem_map.mp hk
              have fu := gu.g.fit u hu
              have sv := sgV_in B mg gu fR inR ft (show ph % 2 ≠ 1 by omega) hph hu eu
              have gv : valV (gD ts) (kk (bt t)) = some (V.int (u.2.2 : Nat)) := by rw [← eu]; exact gD_get gu.g.all.nd hu
              refine iteT ⟨_, rfl, _, rfl, d, V.int (u.2.2 : Nat), rfl, .inr ⟨gD ts, kk (bt t), kp, .inl edE, rfl, eK, gv.symm⟩, _, _, rfl, rfl, ?_, _, rfl, rfl, decide (2 * u.2.2 = ph), ?_, ?_⟩
              · exact .inl ⟨by decide, by decide⟩
              · refine congrArg V.bl (decide_eq_decide.mpr ⟨fun z => ?_, fun z => ?_⟩)
                · have := V.int.inj z
                  omega
                · exact congrArg V.int (by omega)
              by_cases c2 : 2 * u.2.2 = ph
              · rw [if_pos c2] at sv
                rw [decide_eq_true c2]
                exact iteT ⟨by rw [sv]; rfl, rfl⟩
              · rw [if_neg c2] at sv
                rw [decide_eq_false c2]
                exact iteF ⟨1, rfl, by rw [sv]; rfl, rfl⟩
            · rw [decide_eq_false hk]
              have sv := sgV_out mg gu fR ft (show ph % 2 ≠ 1 by omega) hph hk
              exact iteF ⟨by rw [sv], rfl⟩
          · rw [decide_eq_false hp2]
            have := sgV_odd (n := n) (M := M) (L := LT n t.1 t.2.1) (show ph % 2 = 1 by omega)
            exact iteF (iteF ⟨by rw [this], rfl⟩)
        rintro _ HF ⟨rfl, eF⟩
        have eF' := eF.symm
        subst eF'
        -- the string
        refine ⟨fun σ' H' => ∃ sp : Addr, σ' = L19 a p (some (.int (0 + (i : Nat)))) (some (.ref l)) (some (.ref d)) (some (.ref iD)) (some (.int (0 + (k : Nat)))) (some (.ref pt)) (some (.int (ph : Nat))) (some (.ref kp)) (some (sgV n M (LT n t.1 t.2.1, ph))) (some (.ref sp)) v12 v13 v14 (some (.int (n : Nat))) (some (.ref g)) v17 v18 ∧ Same HE H' ∧ PauliAt C H' sp (LT n t.1 t.2.1) ph, ?_, ?_⟩
        · have el' : HE pt = some (.tup [.int (bv lx (LT n t.1 t.2.1) : Nat), .int (bv lz (LT n t.1 t.2.1) : Nat), .int (t.2.2 : Nat)]) := by
            rw [lx_LT _ ft.1, lz_LT _ ft.2.1]
            exact et
          refine ⟨_, rfl, _, rfl, _, rfl, pt, LT n t.1 t.2.1, ((t.2.2 : Nat) : Int), ph, by rw [LT_len]; rfl, hph, el', LT_lts _ _ _, by rw [LT_len]; omega, fun HF sF => ?_⟩
          refine fun x dx nx ndx ne => ?_
          have L0 : LT n t.1 t.2.1 ≠ [] := fun z => by
            have := LT_len n t.1 t.2.1
            rw [z] at this
            simp at this
            omega
          obtain ⟨hh, hp⟩ := headL_hd hph
          obtain ⟨u1, u2, u3⟩ := read_tx hh (LT_lts n t.1 t.2.1) L0
          have s0 := made_sm (C := C) nx ndx
          refine ⟨x, dx, _, rfl, upd_same, .inl ⟨_, rfl, ?_, .inl ⟨u3, fun H' PX kk' => ⟨rfl, ?_⟩⟩⟩⟩
          · rw [List.length_append, LT_len]
            have : (headL ph).length ≤ 2 := by
              rcases hh with e | e | e | e <;> rw [e] <;> decide
            omega
          · rw [u1, u2, hp] at PX
            exact ⟨x, rfl, fun b o e => kk' b o (ne_of_none (sF b o e) nx) (s0 _ _ (sF b o e)), PX⟩
        rintro _ HF ⟨sp, rfl, sF, PX⟩
        have xF := xE.same sF
        have kF := kE.sm sF
        have etF := sF _ _ et
        clear xE kE et ek edE
        have gMF := keepG kF
        have M2 : ∀ q ∈ M, q.2.1 < 2 ^ (2 * n) := fun q hq => by
          have : q.2 ∈ hls M := List.mem_map_of_mem hq
          rw [mg.rows] at this
          obtain ⟨r, _, e⟩ := List.mem_map.mp this
          rw [← e]
          exact fB_lt ..
        obtain ⟨dxF, fsF, p1F, b1F, r1F, M1F, egF, l1F, l2F, l3F, l4F, l5F, l6F, hpF, hHF, hbF, hrF, hPF, eMF⟩ := id gMF
        have L0 : LT n t.1 t.2.1 ≠ [] := fun z => by
          have := LT_len n t.1 t.2.1
          rw [z] at this
          simp at this
          omega
        -- its sign
        refine ⟨fun σ' H' => σ' = L19 a p (some (.int (0 + (i : Nat)))) (some (.ref l)) (some (.ref d)) (some (.ref iD)) (some (.int (0 + (k : Nat)))) (some (.ref pt)) (some (.int (ph : Nat))) (some (.ref kp)) (some (sgV n M (LT n t.1 t.2.1, ph))) (some (.ref sp)) v12 v13 v14 (some (.int (n : Nat))) (some (.ref g)) v17 v18 ∧ Same HF H', ?_, ?_⟩
        · refine ⟨_, rfl, g, dxF, fsF, rfl, egF, l6F.2, _, rfl, g, sp, n, M, LT n t.1 t.2.1, ph, rfl, gMF, PX, LT_lts _ _ _, L0, by rw [LT_len]; omega, by omega, M2, fun z => absurd (LT_len ..) z, fun _ HG sG => ?_⟩
          have gMG := gMF.same sG
          have PXG := PX.same sG
          have es : (if ph % 2 = 1 then V.non else if (rsH n (hls M) (hdS (LT n t.1 t.2.1, ph))).1 ≠ 0 then V.non else .int (1 - ((rsH n (hls M) (hdS (LT n t.1 t.2.1, ph))).2 : Nat))) = sgV n M (LT n t.1 t.2.1, ph) := rfl
          rw [es]
          have sc : sgV n M (LT n t.1 t.2.1, ph) = .non ∨ ∃ z : Int, sgV n M (LT n t.1 t.2.1, ph) = .int z := by
            unfold sgV
            split
            · exact .inl rfl
            · split
              · exact .inl rfl
              · exact .inr ⟨_, rfl⟩
          generalize sgV n M (LT n t.1 t.2.1, ph) = sv at sc es ⊢
          have hs : scal sv sv = true := by
            rcases sc with rfl | ⟨z, rfl⟩ <;> rfl
          refine ⟨_, rfl, hs, _, rfl, ?_⟩
          rw [decide_eq_true rfl]
          refine iteF ⟨_, rfl, g, dxF, fsF, rfl, sG _ _ egF, l6F.2, _, rfl, g, sp, n, M, LT n t.1 t.2.1, ph, rfl, gMG, PXG, LT_lts _ _ _, L0, by rw [LT_len]; omega, by omega, M2, fun z => absurd (LT_len ..) z, fun _ HI sI => ?_⟩
          rw [es]
          rcases sc with rfl | ⟨z, rfl⟩
          · exact ⟨_, _, _, _, false, rfl, .ty "bool", .base .non, by first | rfl | decide +kernel, _, rfl, iteF ⟨rfl, sG.trans sI⟩⟩
          · exact ⟨_, _, _, _, false, rfl, .ty "bool", .base (.int z), by first | rfl | decide +kernel, _, rfl, iteF ⟨rfl, sG.trans sI⟩⟩
        rintro _ HG ⟨rfl, sG⟩
        have gMG := gMF.same sG
        have PXG := PX.same sG
        have xG := xF.same sG
        have kG := kF.sm sG
        have etG := sG _ _ etF
        have eiG : HG iD = some (.lst (refR N)) := sx_lst x9 kG ei9
        have hNG : RsAt n HG N := sx_kb x9 kG hN9
        -- its syndrome
        refine ⟨_, rfl, g, dxF, fsF, rfl, sG _ _ egF, l6F.1, _, rfl, g, sp, n, M, LT n t.1 t.2.1, ph, rfl, gMG, PXG, LT_lts _ _ _, L0, by rw [LT_len]; omega, by omega, by omega, fun z => absurd (LT_len ..) z, fun _ HH st sH hT => ?_⟩
        refine ⟨_, rfl, _, rfl, iD, pt, n, N, t, rfl, sH _ _ eiG, hNG.same sH, by omega, by omega, sH _ _ etG, ft, fun HI sy sI ny ey => ?_⟩
        have hT2 := hT.same sI
        rw [syn_eq mg fN ft] at hT2
        obtain ⟨o, _, _, h3⟩ := hT2
        have k1 : Dp K HI (.ref st) (tN (N.map fun r => crN r.2 t)) := tN_at (.inl (.inr ⟨o, h3⟩))
        have k2 : Dp K HI (.ref sy) (tN (N.map fun r => crN r.2 t)) := tN_at (SqT.of ey)
        refine ⟨_, _, k1, k2, tN_sh _, tN_sh _, ?_⟩
        rw [tN_eq]
        exact ⟨_, rfl, iteF ⟨_, _, _, _, _, _, rfl, ((xG.same sH).same sI).mono (by omega), (kG.sm sH).sm sI⟩⟩
      rintro _ HB ⟨v6, v7, v8, v9, v10, v11, rfl, xB, kB⟩
      have elB : HB l = some (.lst (refR R)) := sx_lst x9 kB el9
      have hRB : RsAt n HB R := sx_kb x9 kB hR9
      -- other strings
      refine ⟨fun σ' H' => ∃ (lo : Addr) (R2 : RLs), σ' = L19 a p (some (.int (0 + (i : Nat)))) (some (.ref l)) (some (.ref d)) (some (.ref iD)) v6 v7 v8 v9 v10 v11 (some (.ref lo)) v13 v14 (some (.int (n : Nat))) (some (.ref g)) v17 v18 ∧ Sx TT p pc (20000 * i + 8060) H' ∧ KB p H9 H' ∧ H' lo = some (.lst (refR R2)) ∧ RsAt n H' R2 ∧ R2.length ≤ 9 ∧ ∀ q ∈ R2, ∀ r ∈ R2, crN q.2 r.2 = 0, ?_, ?_⟩
      · exact ⟨_, rfl, _, rfl, ot_of xB (by omega) elB hRB (by omega) (by omega) B lb inR fun H' l' R' kk xx e1 h1 l1' cm => ⟨l', R', rfl, xx.mono (by omega), kB.trans kk, e1, h1, by omega, cm⟩⟩
      clear xB kB elB hRB
      rintro _ HC ⟨lo, R2, rfl, xC, kC, elo, hR2, lR2, cm⟩
      have fR2 : ∀ r ∈ R2, Fit n r.2 := fun r hr => (hR2 r hr).2
      -- their products
      refine ⟨fun σ' H' => ∃ sv : V, σ' = L19 a p (some (.int (0 + (i : Nat)))) (some (.ref l)) (some (.ref d)) (some (.ref iD)) v6 v7 v8 v9 v10 v11 (some (.ref lo)) (some sv) v14 (some (.int (n : Nat))) (some (.ref g)) v17 v18 ∧ Same HC H' ∧ (sv = .non ∨ ∃ (d2' : Addr) (ts2 : List T3) (bs2 : List Hl), sv = .ref d2' ∧ H' d2' = some (.dT (gD ts2)) ∧ GrU n R2 bs2 ts2), ?_, ?_⟩
      · exact ⟨_, rfl, lo, n, R2, rfl, SqL.of elo, hR2, by omega, by omega, fun i' j' _ q' r' hq hr' => cm q' (List.mem_of_getElem? hq) r' (List.mem_of_getElem? hr'), fun H' s' _ => ⟨.non, rfl, s', .inl rfl⟩, fun H' d2' ts2 bs2 s' e2 g2 => ⟨.ref d2', rfl, s', .inr ⟨d2', ts2, bs2, rfl, e2, g2⟩⟩⟩
      rintro _ HD ⟨sv, rfl, sD, hsv⟩
      have xD := xC.same sD
      have kD := kC.sm sD
      have eloD := sD _ _ elo
      have hR2D := hR2.same sD
      clear xC kC elo hR2
      have gMD := keepG kD
      -- another group
      refine ⟨fun σ' H' => ∃ v14 : Option V, σ' = L19 a p (some (.int (0 + (i : Nat)))) (some (.ref l)) (some (.ref d)) (some (.ref iD)) v6 v7 v8 v9 v10 v11 (some (.ref lo)) (some sv) v14 (some (.int (n : Nat))) (some (.ref g)) v17 v18 ∧ Same HD H', ?_, ?_⟩
      · rcases hsv with rfl | ⟨d2', ts2, bs2, rfl, ed2, g2⟩
        · refine ⟨_, rfl, rfl, _, rfl, ?_⟩
          rw [decide_eq_true rfl]
          exact iteF ⟨v14, rfl, fun _ _ e => e⟩
        · refine ⟨_, rfl, rfl, _, rfl, ?_⟩
          rw [decide_eq_false (fun z => nomatch z)]
          refine iteT ?_
          refine ⟨fun σ' H' => ∃ (g2' : Addr) (M2 : GLs) (T2 : List Hl), σ' = L19 a p (some (.int (0 + (i : Nat)))) (some (.ref l)) (some (.ref d)) (some (.ref iD)) v6 v7 v8 v9 v10 v11 (some (.ref lo)) (some (.ref d2')) (some (.ref g2')) (some (.int (n : Nat))) (some (.ref g)) v17 v18 ∧ Same HD H' ∧ GroupAt CG C H' g2' n M2 ∧
              (hls M2).Perm T2 ∧ (hls M2).Pairwise (fun a b => b.1 ≤ a.1) ∧ RedAt n (gsT n R2) (gsT n R2).length T2, ?_, ?_⟩
          · refine ⟨_, rfl, _, rfl, lo, rfl, ⟨_, SqL.of eloD⟩, fun D nD => ?_⟩
            refine lc_list (K := K) (a := lo) (xs := refR R2) (Pv := fun j Hc => Same HD Hc ∧ ∃ PR : RLs, Hc D = some (.lst (refR PR)) ∧ PAt C n Hc PR ∧ PR.map (·.2) = (R2.take j).map (·.2)) ⟨same_new nD, [], upd_same, fun q hq => (by cases hq), rfl⟩ (fun j Hc _ ⟨sc, _⟩ => SqL.of (sc _ _ eloD)) ?_ ?_
            · rintro j v Hc hj ⟨sc, PR, eD, hP, eP⟩
              obtain ⟨r, hr', rfl⟩ := refR_at hj
              obtain ⟨er, fr⟩ := hR2D r (List.mem_of_getElem? hr')
              have hjl : j < R2.length := (List.getElem?_eq_some_iff.mp hr').1
              have lPR : PR.length = j := by
                have := congrArg List.length eP
                rw [List.length_map, List.length_map, List.length_take] at this
                omega
              refine ⟨rfl, _, rfl, _, rfl, r.1, n, r.2, rfl, sc _ _ er, fr, n1, by omega, fun H7 x s7 PX => ?_⟩
              have eD7 := s7 _ _ eD
              refine ⟨refR PR, eD7, ?_, same_put0 (sc.trans s7) nD, PR ++ [(x, r.2)], ?_, ?_, ?_⟩
              · rw [refR_len, lPR]
                exact Nat.lt_of_le_of_lt (by omega : j ≤ 9) (by decide)
              · rw [upd_same]
                unfold refR
                rw [List.map_append]
                rfl
              · intro q hq
                rcases List.mem_append.mp hq with h | h
                · exact PAt.put eD7 ((hP.same s7) q h)
                · rw [List.mem_singleton.mp h]
                  exact PAt.put eD7 PX
              · rw [List.map_append, eP, take_snoc hr', List.map_append]
                rfl
            · rintro Hc ⟨sc, PR, eD, hP, eP⟩
              rw [refR_len, List.take_length] at eP
              have inP : ∀ r ∈ PR, ∃ r' ∈ R2, r'.2 = r.2 := fun r hr => by
                have := List.mem_map_of_mem (f := (·.2)) hr
                rw [eP] at this
                exact List.mem_map.mp this
              have eg : gsT n PR = gsT n R2 := by
                have := congrArg (List.map (phi n)) eP
                rw [List.map_map, List.map_map] at this
                exact this
              have lP : PR.length = R2.length := by
                have := congrArg List.length eP
                rwa [List.length_map, List.length_map] at this
              refine ⟨D, refR PR, rfl, .inl ⟨SqL.of eD, fun tq ntq => ?_⟩⟩
              have stq := same_new (o := .tup (refR PR)) ntq
              refine fun x dx nx ndx ne => mkGT_of (bs := bs2) (R := PR) nx ndx ne g2.B (fun r hr => ?_) (fun r hr => ?_) n1 (by omega) (by omega) (SqT.of upd_same) (hP.same stq) fun H8 M T s8 G8 pm pw RA => ⟨rfl, ?_⟩
              · obtain ⟨r', h', e⟩ := inP r hr
                rw [← e]
                exact fR2 r' h'
              · obtain ⟨r', h', e⟩ := inP r hr
                rw [← e]
                exact g2.inR r' h'
              rw [eg] at RA
              exact ⟨x, M, T, rfl, (sc.trans stq).trans s8, G8, pm, pw, RA⟩
          rintro _ HE ⟨g2', M2, T2, rfl, sE, gM2, pm2, pw2, RA2⟩
          obtain ⟨N2, mg2, fN2⟩ := made_ex g2 fR2 RA2 pm2
          have gME := gMD.same sE
          have edE : HE d = some (.dT (gD ts)) := by
            obtain ⟨_, _, hP, _⟩ := x9
            obtain ⟨kv, hp⟩ := pen_dk hP
            exact sE _ _ (kD _ _ ed9 (ne_of ed9 hp (by intro z; cases z)))
          have ed2E := sE _ _ ed2
          have key : rwS n M2 = rwS n M ↔ ∀ t, t ∈ ts2 ↔ t ∈ ts := rows_iff g2.B mg2 g2 fR2 g2.inR fN2 B mg gu fR inR fN (gbs_desc mg2.red pw2) (gbs_desc mg.red pw)
          have same : (decide (n = n) && decide (rwS n M2 = rwS n M)) = eqDT (gD ts2) (gD ts) := by
            rw [decide_eq_true rfl, Bool.true_and, Bool.eq_iff_iff, decide_eq_true_iff, key, eqDT_iff g2.g.all.nd gu.g.all.nd]
          obtain ⟨dxA, fsA, _, _, _, _, eA, _⟩ := id gM2
          obtain ⟨dxE, fsE, p1E, b1E, r1E, M1E, egE, l1E, l2E, l3E, l4E, l5E, l6E, hpE, hHE, hbE, hrE, hPE, eME⟩ := id gME
          refine ⟨_, rfl, _, rfl, g2', dxA, fsA, rfl, eA, .inl ⟨g, dxE, fsE, rfl, egE⟩, g2', .ref g, n, M2, rfl, gM2, .inl ⟨g, n, M, rfl, gME, fun HF xF => ⟨⟨_, rfl⟩, ?_⟩⟩⟩
          have sF : Same HE HF := xF
          refine ⟨_, rfl, _, rfl, d2', d, gD ts2, gD ts, rfl, rfl, .inl (sF _ _ ed2E), .inl (sF _ _ edE), gD_intV _, gD_intV _, rfl, _, rfl, ?_⟩
          rw [same, decide_eq_true rfl]
          refine iteF ⟨_, rfl, _, rfl, g, CG, dxE, fsE, _, rfl, sF _ _ egE, T_GC.cl, T_GC.nR, l4E, g, dxE, fsE, rfl, sF _ _ egE, .inr ⟨r1E, _, rfl, SqT.of (sF _ _ hrE)⟩, g, .ref r1E, n, M, rfl, gME.same sF, .inr ⟨.base (.tup (sF _ _ hrE)), ⟨_, rfl⟩, ?_⟩⟩
          exact ⟨_, rfl, iteF ⟨_, rfl, sE.trans sF⟩⟩
      rintro _ HE ⟨v14, rfl, sE⟩
      have xE := xD.same sE
      have kE := kD.sm sE
      have gME := gMD.same sE
      clear xD kD gMD hsv eloD hR2D sD sE
      -- a string too wide
      refine ⟨fun σ' H' => ∃ wp : Addr, σ' = L19 a p (some (.int (0 + (i : Nat)))) (some (.ref l)) (some (.ref d)) (some (.ref iD)) v6 v7 v8 v9 v10 v11 (some (.ref lo)) (some sv) v14 (some (.int (n : Nat))) (some (.ref g)) (some (.ref wp)) v18 ∧ Same HE H' ∧ PauliAt C H' wp (List.replicate (n + 1) 90) 0, ?_, ?_⟩
      · refine ⟨_, rfl, _, _, rfl, rfl, 90, n + 1, by rw [e_Zc], by push_cast; rfl, by omega, by omega, ?_⟩
        refine fun x dx nx ndx ne => ?_
        have hZ : Lts8 (List.replicate (n + 1) 90) := fun c hc => by
          rw [(List.mem_replicate.mp hc).2]
          exact isL_iff.mpr (by omega)
        obtain ⟨u1, u2, u3⟩ := read_tx (h := []) (.inl rfl) hZ (fun z => by simp at z)
        have s0 := made_sm (C := C) nx ndx
        refine ⟨x, dx, _, rfl, upd_same, .inl ⟨_, rfl, ?_, .inl ⟨u3, fun H' PX kk' => ⟨rfl, ?_⟩⟩⟩⟩
        · show (List.replicate (n + 1) 90).length ≤ 1000
          rw [List.length_replicate]
          omega
        · rw [List.nil_append] at u1 u2
          rw [u1, u2] at PX
          exact ⟨x, rfl, fun b o e => kk' b o (ne_of_none e nx) (s0 _ _ e), PX⟩
      rintro _ HF ⟨wp, rfl, sF, PW⟩
      have xF := xE.same sF
      have gMF := gME.same sF
      clear xE kE gME sF
      have hZ : Lts8 (List.replicate (n + 1) 90) := fun c hc => by
        rw [(List.mem_replicate.mp hc).2]
        exact isL_iff.mpr (by omega)
      have zl : (List.replicate (n + 1) 90).length = n + 1 := List.length_replicate
      have z0 : List.replicate (n + 1) 90 ≠ [] := fun z => by simp at z
      have M2 : ∀ q ∈ M, q.2.1 < 2 ^ (2 * n) := fun q hq => by
        have : q.2 ∈ hls M := List.mem_map_of_mem hq
        rw [mg.rows] at this
        obtain ⟨r, _, e⟩ := List.mem_map.mp this
        rw [← e]
        exact fB_lt ..
      -- what is too wide for sign_of
      refine ⟨fun σ' H' => σ' = L19 a p (some (.int (0 + (i : Nat)))) (some (.ref l)) (some (.ref d)) (some (.ref iD)) v6 v7 v8 v9 v10 v11 (some (.ref lo)) (some sv) v14 (some (.int (n : Nat))) (some (.ref g)) (some (.ref wp)) v18 ∧ ExtN HF H' ∧ Tabs TT H', ?_, ?_⟩
      · refine ⟨fun v H' => ∃ tt, v = .ref tt ∧ H' tt = some (.tup [.str "unlike", .str "size"]) ∧ ExtN HF H' ∧ Tabs TT H', ?_, ?_⟩
        · obtain ⟨m, hm, hPn, tb⟩ := id xF
          refine ⟨tb, fun Ha xa tba p0 np0 => ?_⟩
          have s0 : Same Ha (upd Ha p0 (.tup [.str "none"])) := same_new np0
          have gMa := (gMF.ext xa).same s0
          have PWa := (PW.ext xa).same s0
          obtain ⟨dxa, fsa, p1a, b1a, r1a, M1a, ega, l1a, l2a, l3a, l4a, l5a, l6a, hpa, hHa, hba, hra, hPa, eMa⟩ := id gMa
          refine ⟨_, rfl, g, dxa, fsa, rfl, ega, l6a.2, _, rfl, g, wp, n, M, List.replicate (n + 1) 90, 0, rfl, gMa, PWa, hZ, z0, by rw [zl]; omega, by omega, M2, fun _ dd H' s' e' => ⟨dd, rfl, .inr (.inl ⟨_, rfl, e', fun pp npp => ⟨pp, rfl, upd_same, xa.trans (ExtN.of (s0.trans (s'.trans (same_new npp)))), Tabs.ext tba (s0.trans (s'.trans (same_new npp)))⟩⟩)⟩, fun z => absurd z (by rw [zl]; omega)⟩
        rintro _ HG ⟨tt, rfl, eT2, xG, tG⟩
        refine ⟨by show 2 ≤ sizeLine; decide, fun p2 np2 => ⟨unlD, unlD, unl_at ((same_new np2) _ _ eT2), unl_at upd_same, by decide +kernel, by decide +kernel, ?_⟩⟩
        rw [show PyData.eqv unlD unlD = true by decide +kernel]
        exact ⟨_, rfl, iteF ⟨rfl, xG.trans (ExtN.of (same_new np2)), Tabs.ext tG (same_new np2)⟩⟩
      rintro _ HG ⟨rfl, eG, tG⟩
      have xG := xF.ext eG tG
      have gMG := gMF.ext eG
      have PWG := PW.ext eG
      clear xF gMF PW eG tG
      -- and for syndrome_of
      refine ⟨fun σ' H' => σ' = L19 a p (some (.int (0 + (i : Nat)))) (some (.ref l)) (some (.ref d)) (some (.ref iD)) v6 v7 v8 v9 v10 v11 (some (.ref lo)) (some sv) v14 (some (.int (n : Nat))) (some (.ref g)) (some (.ref wp)) v18 ∧ ExtN HG H' ∧ Tabs TT H', ?_, ?_⟩
      · refine ⟨fun v H' => ∃ tt, v = .ref tt ∧ H' tt = some (.tup [.str "unlike", .str "size"]) ∧ ExtN HG H' ∧ Tabs TT H', ?_, ?_⟩
        · obtain ⟨m, hm, hPn, tb⟩ := id xG
          refine ⟨tb, fun Ha xa tba p0 np0 => ?_⟩
          have s0 : Same Ha (upd Ha p0 (.tup [.str "none"])) := same_new np0
          have gMa := (gMG.ext xa).same s0
          have PWa := (PWG.ext xa).same s0
          obtain ⟨dxa, fsa, p1a, b1a, r1a, M1a, ega, l1a, l2a, l3a, l4a, l5a, l6a, hpa, hHa, hba, hra, hPa, eMa⟩ := id gMa
          refine ⟨_, rfl, g, dxa, fsa, rfl, ega, l6a.1, _, rfl, g, wp, n, M, List.replicate (n + 1) 90, 0, rfl, gMa, PWa, hZ, z0, by rw [zl]; omega, by omega, by omega, fun _ dd H' s' e' => ⟨dd, rfl, .inr (.inl ⟨_, rfl, e', fun pp npp => ⟨pp, rfl, upd_same, xa.trans (ExtN.of (s0.trans (s'.trans (same_new npp)))), Tabs.ext tba (s0.trans (s'.trans (same_new npp)))⟩⟩)⟩, fun z => absurd z (by rw [zl]; omega)⟩
        rintro _ HH ⟨tt, rfl, eT2, xH, tH⟩
        refine ⟨by show 2 ≤ sizeLine; decide, fun p2 np2 => ⟨unlD, unlD, unl_at ((same_new np2) _ _ eT2), unl_at upd_same, by decide +kernel, by decide +kernel, ?_⟩⟩
        rw [show PyData.eqv unlD unlD = true by decide +kernel]
        exact ⟨_, rfl, iteF ⟨rfl, xH.trans (ExtN.of (same_new np2)), Tabs.ext tH (same_new np2)⟩⟩
      rintro _ HH ⟨rfl, eH, tH⟩
      have xH := xG.ext eH tH
      have gMH := gMG.ext eH
      clear xG gMG PWG eH tH
      -- a group of one place more
      have bwN : gbs M = bw n (N.map (·.2)) := by
        rw [bw_gs]
        show (hls M).map Prod.fst = _
        rw [mg.rows]
        rfl
      have inN : ∀ r ∈ N, InG n bs (phi n r.2) := fun r hr => mg.ing _ (by rw [mg.rows]; exact List.mem_map_of_mem (f := fun r => phi n r.2) hr)
      have IN : Indep (bw n (N.map (·.2))) := red_ind (bwN ▸ mg.red)
      obtain ⟨dxa, fsa, p1a, b1a, r1a, M1a, ega, l1a, l2a, l3a, l4a, l5a, l6a, hpa, hHa, hba, hra, hPa, eMa⟩ := id gMH
      have eMN : M1a.map (·.2) = N.map fun r => (LT n r.2.1 r.2.2.1, 2 * r.2.2.2) := eMa.trans (rwS_N fN mg.rows)
      have lMN : M1a.length = N.length := by
        have := congrArg List.length eMN
        rwa [List.length_map, List.length_map] at this
      refine ⟨_, rfl, _, rfl, _, _, rfl, rfl, _, rfl, g, CG, dxa, fsa, _, rfl, ega, T_GC.cl, T_GC.nR, l4a, r1a, rfl, ⟨_, SqT.of hra⟩, fun D nD => ?_⟩
      refine lc_tup (K := K) (a := r1a) (xs := refP M1a) (Pv := fun j Hc => Same HH Hc ∧ ∃ PR : RLs, Hc D = some (.lst (refR PR)) ∧ PAt C (n + 1) Hc PR ∧ PR.map (·.2) = (N.take j).map (·.2)) ⟨same_new nD, [], upd_same, fun q hq => (by cases hq), rfl⟩ (fun j Hc _ ⟨sc, _⟩ => SqT.of (sc _ _ hra)) ?_ ?_
      · rintro j v Hc hj ⟨sc, PR, eD, hP, eP⟩
        obtain ⟨q', hq', rfl⟩ := refP_at hj
        have mq := List.mem_of_getElem? hq'
        have hjl : j < M1a.length := (List.getElem?_eq_some_iff.mp hq').1
        obtain ⟨r, hr, e2⟩ : ∃ r, N[j]? = some r ∧ q'.2 = (LT n r.2.1 r.2.2.1, 2 * r.2.2.2) := by
          have e := congrArg (fun l => l[j]?) eMN
          rw [List.getElem?_map, List.getElem?_map, hq'] at e
          obtain ⟨r, hr, e3⟩ := Option.map_eq_some_iff.mp e.symm
          exact ⟨r, hr, e3.symm⟩
        have fr := fN r (List.mem_of_getElem? hr)
        have lPR : PR.length = j := by
          have := congrArg List.length eP
          rw [List.length_map, List.length_map, List.length_take] at this
          omega
        obtain ⟨q1, qL, qp⟩ := q'
        obtain ⟨rfl, rfl⟩ : qL = LT n r.2.1 r.2.2.1 ∧ qp = 2 * r.2.2.2 := ⟨congrArg (·.1) e2, congrArg (·.2) e2⟩
        have h2 : r.2.2.2 < 2 := fr.2.2
        obtain ⟨hh, hp2⟩ := headL_hd (show 2 * r.2.2.2 < 4 by omega)
        obtain ⟨u1, u2, u3⟩ := read_tx hh (LT_lts (n + 1) r.2.1 r.2.2.1) (fun z => by
          have := congrArg List.length z
          rw [LT_len] at this
          simp at this)
        have lh : (headL (2 * r.2.2.2)).length ≤ 2 := by
          rcases hh with h | h | h | h <;> rw [h] <;> decide
        refine ⟨rfl, _, rfl, q1, LT n r.2.1 r.2.2.1, 2 * r.2.2.2, rfl, (hPa _ mq).same sc, by omega, by rw [LT_len]; omega, _, _, rfl, rfl, ?_, ?_⟩
        · rw [mS_len, List.length_append, LT_len]
          exact sizeBig (by show _ + 1 ≤ _; omega)
        rw [show ("I" : Str) = mS [73] by decide +kernel, mS_app, List.append_assoc, ← LT_pad fr.1 fr.2.1]
        refine fun x dx nx ndx ne => ⟨x, dx, _, rfl, upd_same, .inl ⟨_, rfl, ?_, .inl ⟨u3, fun H7 PX kk => ⟨rfl, ?_⟩⟩⟩⟩
        · rw [List.length_append, LT_len]
          omega
        rw [u1, u2, hp2] at PX
        have s7 : Same Hc H7 := made_same nx ndx kk
        have eD7 := s7 _ _ eD
        refine ⟨refR PR, eD7, ?_, same_put0 (sc.trans s7) nD, PR ++ [(x, r.2)], ?_, ?_, ?_⟩
        · rw [refR_len, lPR]
          exact Nat.lt_of_le_of_lt (by omega : j ≤ 9) (by decide)
        · rw [upd_same]
          unfold refR
          rw [List.map_append]
          rfl
        · intro q hq
          rcases List.mem_append.mp hq with h | h
          · exact PAt.put eD7 ((hP.same s7) q h)
          · rw [List.mem_singleton.mp h]
            exact PAt.put eD7 PX
        · rw [List.map_append, eP, take_snoc hr, List.map_append]
          rfl
      · rintro Hc ⟨sc, PR, eD, hP, eP⟩
        rw [show (refP M1a).length = M1a.length from List.length_map .., lMN, List.take_length] at eP
        have inP : ∀ r ∈ PR, ∃ r' ∈ N, r'.2 = r.2 := fun r hr => by
          have := List.mem_map_of_mem (f := (·.2)) hr
          rw [eP] at this
          exact List.mem_map.mp this
        have lP : PR.length = N.length := by
          have := congrArg List.length eP
          rwa [List.length_map, List.length_map] at this
        refine fun x dx nx ndx ne => mkG_of (n := n + 1) (R := PR) nx ndx ne (bse_pad B fN inN IN) (fun r hr => ?_) (fun r hr => ?_) (by omega) (by omega) (by omega) (SqL.of eD) hP fun H8 M8 T8 s8 G8 pm8 pw8 RA8 => ⟨rfl, ?_⟩
        · obtain ⟨r', h', e⟩ := inP r hr
          rw [← e]
          exact fit_pad (fN r' h')
        · obtain ⟨r', h', e⟩ := inP r hr
          rw [← e]
          exact in_pad B fN inN IN r' h'
        have sG := sc.trans s8
        obtain ⟨dxb, fsb, _, _, _, _, eb, _⟩ := id G8
        refine ⟨g, dxa, fsa, rfl, sG _ _ ega, .inl ⟨x, dxb, fsb, rfl, eb⟩, g, .ref x, n, M, rfl, gMH.same sG, .inl ⟨x, n + 1, M8, rfl, G8, fun HI sI => ⟨⟨_, rfl⟩, ?_⟩⟩⟩
        rw [decide_eq_false (show ¬ n = n + 1 by omega), Bool.false_and]
        exact ⟨_, rfl, iteF ⟨_, _, _, _, _, _, _, _, _, _, _, _, _, _, _, _, _, rfl, ((xH.same sG).same sI).mono (by omega)⟩⟩
    -- the end
    rintro _ H2 ⟨v2, v3, v4, v5, v6, v7, v8, v9, v10, v11, v12, v13, v14, v15, v16, v17, v18, rfl, x2⟩
    exact q H2
end
end KQ
namespace KQ
open PySem PySem.Spec PyProof.Rows L2 LamX
/-- an own exception class straight over the class at cK, which is straight over ValueError -/
structure KC (K : PySem.W.Frag) (cK C : Addr) : Prop where
  l : ∃ nm q N bs sn sub ab col dd k0 k1 k2 k3 k5, K.lookup C = some (excClassObj nm q C N bs [.ref cK, .type "ValueError", .type "Exception", .type "BaseException", .type "object"] true sn sub ab col dd k0 k1 k2 k3 k5 "ValueError.__new__")
  sa : PySem.W.findIn K (Value.ref C) "__setattr__" = some (some (.builtin "object.__setattr__"))
  ty : PySem.W.typeIn K (.ref C) = some (.type "type")
  kp : PySem.W.keepIn K (Value.ref C) = true
  hg : PySem.W.findIn K (.ref C) "__getattribute__" = some (some (.builtin "BaseException.__getattribute__"))
  hk : PySem.W.findIn K (.ref C) "__getattr__" = some none
  ha : PySem.W.findIn K (Value.ref C) "__class__" = some (some (.builtin "object.__class__"))
theorem KC.of {K : PySem.W.Frag} {cK C N : Addr} {nm q : Str} {bs : List Value} {sn : List Str} {sub : List Value} {ab : Bool} {col : Option Bool} {dd : Option Addr} {k0 k1 k2 k3 k5 : Option Value}
    (l : K.lookup C = some (excClassObj nm q C N bs [.ref cK, .type "ValueError", .type "Exception", .type "BaseException", .type "object"] true sn sub ab col dd k0 k1 k2 k3 k5 "ValueError.__new__"))
    (sa : PySem.W.findIn K (.ref C) "__setattr__" = some (some (.builtin "object.__setattr__"))) (ty : PySem.W.typeIn K (.ref C) = some (.type "type")) (kp : PySem.W.keepIn K (.ref C) = true)
    (hg : PySem.W.findIn K (.ref C) "__getattribute__" = some (some (.builtin "BaseException.__getattribute__"))) (hk : PySem.W.findIn K (.ref C) "__getattr__" = some none)
    (ha : PySem.W.findIn K (.ref C) "__class__" = some (some (.builtin "object.__class__"))) : KC K cK C := ⟨⟨_, _, _, _, _, _, _, _, _, _, _, _, _, _, l⟩, sa, ty, kp, hg, hk, ha⟩
theorem fun_ex {K : PySem.W.Frag} {x qual : Str} {st : Stmt} {f : Addr} {oc : Value} {od an : Option Addr} {osl : Array (Option Value)} {kV doc pm cdv ct : Value} (l : K.lookup f = some ⟨oc, od, .func (PySem.W.fnOf x qual (defArgs st) (defBody st) (defScope st) .none kV doc pm an cdv ct), osl⟩)
    (c : PySem.W.codeIn K cdv qual = true) (k : PySem.W.keepIn K (.ref f) = true) : ∃ d, Fun K x qual st f d := ⟨_, L2.fun_mk l c k⟩
theorem KC.cls {K : PySem.W.Frag} {cK C : Addr} (h : KC K cK C) : ∃ cd, PySem.W.clsIn K C = some cd ∧ cd.mro = [.ref C, .ref cK, .type "ValueError", .type "Exception", .type "BaseException", .type "object"] ∧ cd.hasDict = true := by
  obtain ⟨nm, q, N, bs, sn, sub, ab, col, dd, k0, k1, k2, k3, k5, hl⟩ := h.l
  refine ⟨_, by unfold PySem.W.clsIn; rw [hl] <;> rfl, rfl, rfl⟩
theorem KC.mro {K : PySem.W.Frag} {cK C : Addr} (h : KC K cK C) (b : Value) : PySem.W.mroIn K C b = some ([Value.ref C, .ref cK, .type "ValueError", .type "Exception", .type "BaseException", .type "object"].contains b) := by
  obtain ⟨cd, e, m, _⟩ := h.cls
  unfold PySem.W.mroIn
  rw [e, Option.bind_some, m]
  rfl
theorem KC.exC {K : PySem.W.Frag} {cK C : Addr} (h : KC K cK C) : PySem.W.subIn K (.ref C) (.type "BaseException") = some true := by
  show PySem.W.mroIn K C _ = _
  rw [h.mro]
  rfl
theorem KC.ox {K : PySem.W.Frag} {cK C : Addr} (h : KC K cK C) : OexC K C := by
  obtain ⟨nm, q, N, bs, sn, sub, ab, col, dd, k0, k1, k2, k3, k5, hl⟩ := h.l
  exact ⟨⟨nm, q, N, bs, _, sn, sub, ab, col, dd, k0, k1, k2, k3, k5, hl, rfl⟩, h.sa, h.exC, h.ty, h.kp⟩
theorem KC.hd {K : PySem.W.Frag} {cK C : Addr} (h : KC K cK C) : PySem.W.hasDictIn K C = true := by
  obtain ⟨cd, e, _, d⟩ := h.cls
  show (PySem.W.clsIn K C).any _ = true
  rw [e]
  exact d
theorem KC.xf {K : PySem.W.Frag} {cK C : Addr} (h : KC K cK C) : XfC K C := ⟨h.hg, h.hk, h.exC, h.hd⟩
theorem KC.ex {K : PySem.W.Frag} {cK C : Addr} (h : KC K cK C) : PySem.W.exmOne K (.ref C) (.ref C) = some true := by
  refine PySem.W.exm_ref h.exC h.hd h.ty ?_
  show PySem.W.mroIn K C _ = _
  rw [h.mro, List.contains_cons, beq_self_eq_true, Bool.true_or]
theorem hd_ex {K : PySem.W.Frag} {A : Addr} {t0 t1 t2 t3 : Tok} {n : Nat} {sl : Array (Option Value)} (l : K.lookup A = some ⟨.type "tuple", none, .seq #[.str "" t0, .str "i" t1, .str "-" t2, .str "-i" t3] n, sl⟩) : ∃ t0 t1 t2 t3 n sl, K.lookup A = some ⟨.type "tuple", none, .seq #[.str "" t0, .str "i" t1, .str "-" t2, .str "-i" t3] n, sl⟩ := ⟨_, _, _, _, _, _, l⟩
theorem lett_one {K : PySem.W.Frag} {w : World} {A : Addr} {es : Array DictEntry} {n : Nat} {x y : Str} {L M : List Nat} {t : Tok} (hl : K.lookup A = some ⟨.type "dict", none, .dict es n, #[]⟩) (hk : PySem.W.KeysLit w.params es.toList)
    (hx : x = mS L) (hy : y = mS M) (e : PySem.W.nsIn K A x = some (some (.str y t))) : KDct K w A (mS L) (.str (mS M)) := by
  subst hx hy
  exact ⟨es, n, _, hl, hk, e, ⟨t, rfl⟩⟩
theorem all_mk {l : PySem.W.OpenLaw} {w : World} {K : PySem.W.Frag} {h : Heap} {mg : Str → Option Value} {fa : Addr} {CX : CXT} (eCX : CX = CX0) (X : K.In h) (G : h.Ns mainGlobals mg) (hfa : mg "law" = some (.ref fa)) {ts : List Addr} (hTs : ∀ R ∈ ts, h.get? R = some (PySem.W.tabObj #[]))
    {cK C CT CB fI fE fB fBN hA lA fIs fHo fBo fHp fPa fCr fSh fBt fLg fLn fCk fRt fSo fFr fLo fC CG fGI CU fU CA CM fSgn fSyn fGe fPn fDr fPk fSu fOn fCx fPr fLe fTx fOt fSm fGr fJn fGa fDc fBo2 fRd fSy fPl fWy fPh fSt fOh fPx fLa c tP : Addr} {es : Array DictEntry} {pn : Nat} {t00 t10 t11 t01 : Tok} {oc ec kV doc pm ct : Value} {od an dc : Option Addr} {osl sc : Array (Option Value)} {vc : Array Value}
    (aK : PySem.W.nsIn K mainGlobals "KeptError" = some (some (.ref cK)))
    (aT : PySem.W.nsIn K mainGlobals "BadText" = some (some (.ref CT)))
    (aB : PySem.W.nsIn K mainGlobals "BadNumber" = some (some (.ref CB)))
    (aU : PySem.W.nsIn K mainGlobals "Unlike" = some (some (.ref CU)))
    (aA : PySem.W.nsIn K mainGlobals "Anticommute" = some (some (.ref CA)))
    (aM : PySem.W.nsIn K mainGlobals "MinusOne" = some (some (.ref CM)))
    (aP : PySem.W.nsIn K mainGlobals "Pauli" = some (some (.ref C)))
    (aG : PySem.W.nsIn K mainGlobals "Group" = some (some (.ref CG)))
    (aH : PySem.W.nsIn K mainGlobals "HEADS" = some (some (.ref hA)))
    (kcT : KC K cK CT)
    (nT0 : PySem.W.findIn K (.ref CT) "line" = some none)
    (nT1 : PySem.W.findIn K (.ref CT) "column" = some none)
    (icT : PySem.W.findIn K (.ref CT) "__init__" = some (some (.ref fB)))
    (tiT : PySem.W.typeIn K (.ref fB) = some (.type "function"))
    (F_T : ∃ d, Fun K "__init__" "BadText.__init__" sInitT fB d)
    (kcB : KC K cK CB)
    (nB0 : PySem.W.findIn K (.ref CB) "what" = some none)
    (nB1 : PySem.W.findIn K (.ref CB) "number" = some none)
    (icB : PySem.W.findIn K (.ref CB) "__init__" = some (some (.ref fBN)))
    (tiB : PySem.W.typeIn K (.ref fBN) = some (.type "function"))
    (F_B : ∃ d, Fun K "__init__" "BadNumber.__init__" sIBadNumber fBN d)
    (kcU : KC K cK CU)
    (nU0 : PySem.W.findIn K (.ref CU) "what" = some none)
    (icU : PySem.W.findIn K (.ref CU) "__init__" = some (some (.ref fU)))
    (tiU : PySem.W.typeIn K (.ref fU) = some (.type "function"))
    (F_U : ∃ d, Fun K "__init__" "Unlike.__init__" sIUnlike fU d)
    (kcA : KC K cK CA)
    (nA0 : PySem.W.findIn K (.ref CA) "one" = some none)
    (nA1 : PySem.W.findIn K (.ref CA) "other" = some none)
    (kcM : KC K cK CM)
    (nM0 : PySem.W.findIn K (.ref CM) "indices" = some none)
    (nUl : PySem.W.findIn K (.ref CU) "line" = some none)
    (nUc : PySem.W.findIn K (.ref CU) "column" = some none)
    (exBT : PySem.W.exmOne K (.ref CB) (.ref CT) = some false)
    (exUT : PySem.W.exmOne K (.ref CU) (.ref CT) = some false)
    (exUB : PySem.W.exmOne K (.ref CU) (.ref CB) = some false)
    (exAT : PySem.W.exmOne K (.ref CA) (.ref CT) = some false)
    (exAB : PySem.W.exmOne K (.ref CA) (.ref CB) = some false)
    (exAU : PySem.W.exmOne K (.ref CA) (.ref CU) = some false)
    (exMT : PySem.W.exmOne K (.ref CM) (.ref CT) = some false)
    (exMB : PySem.W.exmOne K (.ref CM) (.ref CB) = some false)
    (exMU : PySem.W.exmOne K (.ref CM) (.ref CU) = some false)
    (exMA : PySem.W.exmOne K (.ref CM) (.ref CA) = some false)
    (pgP : PySem.W.plainGet K C Str.empty = true)
    (hdiP : PySem.W.hasDictIn K C = true)
    (poP : PySem.W.plainOver K C = true)
    (saP : PySem.W.findIn K (.ref C) "__setattr__" = some (some (.builtin "object.__setattr__")))
    (nP0 : PySem.W.findIn K (.ref C) "letters" = some none)
    (nP1 : PySem.W.findIn K (.ref C) "phase" = some none)
    (nP2 : PySem.W.findIn K (.ref C) "size" = some none)
    (nP3 : PySem.W.findIn K (.ref C) "weight" = some none)
    (mkP : PySem.W.makesIn K C = true)
    (icP : PySem.W.findIn K (.ref C) "__init__" = some (some (.ref fI)))
    (ifP : PySem.W.isFn K (.ref fI) = true)
    (kpP : PySem.W.keepIn K (.ref C) = true)
    (haP : PySem.W.findIn K (.ref C) "__class__" = some (some (.builtin "object.__class__")))
    (hmP : PySem.W.mroIn K C (.type "object") = some true)
    (eqP : PySem.W.findIn K (.ref C) "__eq__" = some (some (.ref fE)))
    (efP : PySem.W.isFn K (.ref fE) = true)
    (enP : PySem.W.notFirst K C (.type "str") = true)
    (kCP : PySem.W.kitOne K (.ref C) (.ref C) = some true)
    (kSP : PySem.W.kitOne K (.type "str") (.ref C) = some false)
    (pgG : PySem.W.plainGet K CG Str.empty = true)
    (hdiG : PySem.W.hasDictIn K CG = true)
    (poG : PySem.W.plainOver K CG = true)
    (saG : PySem.W.findIn K (.ref CG) "__setattr__" = some (some (.builtin "object.__setattr__")))
    (nG0 : PySem.W.findIn K (.ref CG) "size" = some none)
    (nG1 : PySem.W.findIn K (.ref CG) "held" = some none)
    (nG2 : PySem.W.findIn K (.ref CG) "bits" = some none)
    (nG3 : PySem.W.findIn K (.ref CG) "rows" = some none)
    (nG4 : PySem.W.findIn K (.ref CG) "rank" = some none)
    (mkG : PySem.W.makesIn K CG = true)
    (icG : PySem.W.findIn K (.ref CG) "__init__" = some (some (.ref fGI)))
    (ifG : PySem.W.isFn K (.ref fGI) = true)
    (kpG : PySem.W.keepIn K (.ref CG) = true)
    (haG : PySem.W.findIn K (.ref CG) "__class__" = some (some (.builtin "object.__class__")))
    (hmG : PySem.W.mroIn K CG (.type "object") = some true)
    (eqG : PySem.W.findIn K (.ref CG) "__eq__" = some (some (.ref fGe)))
    (efG : PySem.W.isFn K (.ref fGe) = true)
    (enG : PySem.W.notFirst K CG (.type "tuple") = true)
    (kCG : PySem.W.kitOne K (.ref CG) (.ref CG) = some true)
    (kSG : PySem.W.kitOne K (.type "tuple") (.ref CG) = some false)
    (hnP : PySem.W.specialIn K (.builtin "object.__class__") "__get__" = some (some (.builtin "getset_descriptor.__get__")))
    (htP : PySem.W.takesIn K (.builtin "object.__class__") = some true)
    (hl : ∃ t0 t1 t2 t3 n sl, K.lookup hA = some ⟨.type "tuple", none, .seq #[.str "" t0, .str "i" t1, .str "-" t2, .str "-i" t3] n, sl⟩)
    (aL : PySem.W.nsIn K mainGlobals "LETTERS" = some (some (.ref lA)))
    (ll : K.lookup lA = some ⟨.type "dict", none, .dict es pn, #[]⟩)
    (lkk : PySem.W.KeysLit w.params es.toList)
    (l00 : PySem.W.nsIn K lA "00" = some (some (.str "I" t00)))
    (l10 : PySem.W.nsIn K lA "10" = some (some (.str "X" t10)))
    (l11 : PySem.W.nsIn K lA "11" = some (some (.str "Y" t11)))
    (l01 : PySem.W.nsIn K lA "01" = some (some (.str "Z" t01)))
    (FI : ∃ d, Fun K "__init__" "Pauli.__init__" sInit fI d)
    (FE : ∃ d, Fun K "__eq__" "Pauli.__eq__" sEq fE d)
    (FGI : ∃ d, Fun K "__init__" "Group.__init__" sGI fGI d)
    (FGe : ∃ d, Fun K "__eq__" "Group.__eq__" sGe fGe d)
    (mSgn : PySem.W.findIn K (.ref CG) "sign_of" = some (some (.ref fSgn)))
    (miSgn : PySem.W.isFn K (.ref fSgn) = true)
    (mkSgn : PySem.W.keepIn K (.ref fSgn) = true)
    (FSgn : ∃ d, Fun K "sign_of" "Group.sign_of" sSg fSgn d)
    (mSyn : PySem.W.findIn K (.ref CG) "syndrome_of" = some (some (.ref fSyn)))
    (miSyn : PySem.W.isFn K (.ref fSyn) = true)
    (mkSyn : PySem.W.keepIn K (.ref fSyn) = true)
    (FSyn : ∃ d, Fun K "syndrome_of" "Group.syndrome_of" sSyn fSyn d)
    (cne : C ≠ CG)
    (gC : PySem.W.nsIn K mainGlobals "_cut_text" = some (some (.ref fC)))
    (FC : ∃ d, Fun K "_cut_text" "_cut_text" sCut fC d)
    (gIs : PySem.W.nsIn K mainGlobals "is_integer" = some (some (.ref fIs)))
    (FIs : ∃ d, Fun K "is_integer" "is_integer" sIsI fIs d)
    (gHo : PySem.W.nsIn K mainGlobals "held_of" = some (some (.ref fHo)))
    (FHo : ∃ d, Fun K "held_of" "held_of" sHeld fHo d)
    (gBo : PySem.W.nsIn K mainGlobals "bits_of" = some (some (.ref fBo)))
    (FBo : ∃ d, Fun K "bits_of" "bits_of" sBof fBo d)
    (gHp : PySem.W.nsIn K mainGlobals "held_product" = some (some (.ref fHp)))
    (FHp : ∃ d, Fun K "held_product" "held_product" sHprod fHp d)
    (gPa : PySem.W.nsIn K mainGlobals "parity" = some (some (.ref fPa)))
    (FPa : ∃ d, Fun K "parity" "parity" sPar fPa d)
    (gCr : PySem.W.nsIn K mainGlobals "crossing" = some (some (.ref fCr)))
    (FCr : ∃ d, Fun K "crossing" "crossing" sCrossg fCr d)
    (gSh : PySem.W.nsIn K mainGlobals "second_half" = some (some (.ref fSh)))
    (FSh : ∃ d, Fun K "second_half" "second_half" sHalf fSh d)
    (gBt : PySem.W.nsIn K mainGlobals "bit_tuple" = some (some (.ref fBt)))
    (FBt : ∃ d, Fun K "bit_tuple" "bit_tuple" sBits fBt d)
    (gCk : PySem.W.nsIn K mainGlobals "_check_commuting" = some (some (.ref fCk)))
    (FCk : ∃ d, Fun K "_check_commuting" "_check_commuting" sChk fCk d)
    (gRt : PySem.W.nsIn K mainGlobals "_reduced_table" = some (some (.ref fRt)))
    (FRt : ∃ d, Fun K "_reduced_table" "_reduced_table" sRedT fRt d)
    (gSo : PySem.W.nsIn K mainGlobals "string_of" = some (some (.ref fSo)))
    (FSo : ∃ d, Fun K "string_of" "string_of" sSof fSo d)
    (gFr : PySem.W.nsIn K mainGlobals "string_from" = some (some (.ref fFr)))
    (FFr : ∃ d, Fun K "string_from" "string_from" sFrom fFr d)
    (gLo : PySem.W.nsIn K mainGlobals "letters_of" = some (some (.ref fLo)))
    (FLo : ∃ d, Fun K "letters_of" "letters_of" sLof fLo d)
    (gLg : PySem.W.nsIn K mainGlobals "lowered_groups" = some (some (.ref fLg)))
    (FLg : ∃ d, Fun K "_lowered" "_lowered" sLowG fLg d)
    (gLn : PySem.W.nsIn K mainGlobals "lowered_bitnumbers" = some (some (.ref fLn)))
    (FLn : ∃ d, Fun K "_lowered" "_lowered" sLow fLn d)
    (gPn : PySem.W.nsIn K mainGlobals "_law_pen" = some (some (.ref fPn)))
    (FPn : ∃ d, Fun K "_law_pen" "_law_pen" sPen fPn d)
    (gDr : PySem.W.nsIn K mainGlobals "_law_draw" = some (some (.ref fDr)))
    (FDr : ∃ d, Fun K "_law_draw" "_law_draw" sDraw fDr d)
    (gPk : PySem.W.nsIn K mainGlobals "_law_pick" = some (some (.ref fPk)))
    (FPk : ∃ d, Fun K "_law_pick" "_law_pick" sPick fPk d)
    (gSu : PySem.W.nsIn K mainGlobals "_law_shuffled" = some (some (.ref fSu)))
    (FSu : ∃ d, Fun K "_law_shuffled" "_law_shuffled" sShuf fSu d)
    (gOn : PySem.W.nsIn K mainGlobals "_law_ones" = some (some (.ref fOn)))
    (FOn : ∃ d, Fun K "_law_ones" "_law_ones" sOnes fOn d)
    (gCx : PySem.W.nsIn K mainGlobals "_law_crosses" = some (some (.ref fCx)))
    (FCx : ∃ d, Fun K "_law_crosses" "_law_crosses" sCross fCx d)
    (gPr : PySem.W.nsIn K mainGlobals "_law_product" = some (some (.ref fPr)))
    (FPr : ∃ d, Fun K "_law_product" "_law_product" sProd fPr d)
    (gLe : PySem.W.nsIn K mainGlobals "_law_letters" = some (some (.ref fLe)))
    (FLe : ∃ d, Fun K "_law_letters" "_law_letters" sLett fLe d)
    (gTx : PySem.W.nsIn K mainGlobals "_law_text" = some (some (.ref fTx)))
    (FTx : ∃ d, Fun K "_law_text" "_law_text" sText fTx d)
    (gOt : PySem.W.nsIn K mainGlobals "_law_of_text" = some (some (.ref fOt)))
    (FOt : ∃ d, Fun K "_law_of_text" "_law_of_text" sOfT fOt d)
    (gSm : PySem.W.nsIn K mainGlobals "_law_some_string" = some (some (.ref fSm)))
    (FSm : ∃ d, Fun K "_law_some_string" "_law_some_string" sSome fSm d)
    (gGr : PySem.W.nsIn K mainGlobals "_law_group" = some (some (.ref fGr)))
    (FGr : ∃ d, Fun K "_law_group" "_law_group" sGr fGr d)
    (gJn : PySem.W.nsIn K mainGlobals "_law_joined" = some (some (.ref fJn)))
    (FJn : ∃ d, Fun K "_law_joined" "_law_joined" sJn fJn d)
    (gGa : PySem.W.nsIn K mainGlobals "_law_gate" = some (some (.ref fGa)))
    (FGa : ∃ d, Fun K "_law_gate" "_law_gate" sGate fGa d)
    (gDc : PySem.W.nsIn K mainGlobals "_law_drawn_code" = some (some (.ref fDc)))
    (FDc : ∃ d, Fun K "_law_drawn_code" "_law_drawn_code" sCode fDc d)
    (gBo2 : PySem.W.nsIn K mainGlobals "_law_bits_order" = some (some (.ref fBo2)))
    (FBo2 : ∃ d, Fun K "_law_bits_order" "_law_bits_order" sBo fBo2 d)
    (gRd : PySem.W.nsIn K mainGlobals "_law_reduced" = some (some (.ref fRd)))
    (FRd : ∃ d, Fun K "_law_reduced" "_law_reduced" sRd fRd d)
    (gSy : PySem.W.nsIn K mainGlobals "_law_syndrome" = some (some (.ref fSy)))
    (FSy : ∃ d, Fun K "_law_syndrome" "_law_syndrome" sSy2 fSy d)
    (gPl : PySem.W.nsIn K mainGlobals "_law_pauli" = some (some (.ref fPl)))
    (FPl : ∃ d, Fun K "_law_pauli" "_law_pauli" sPau fPl d)
    (gWy : PySem.W.nsIn K mainGlobals "_law_why" = some (some (.ref fWy)))
    (FWy : ∃ d, Fun K "_law_why" "_law_why" sWhy fWy d)
    (gPh : PySem.W.nsIn K mainGlobals "_law_phased" = some (some (.ref fPh)))
    (FPh : ∃ d, Fun K "_law_phased" "_law_phased" sPhas fPh d)
    (gSt : PySem.W.nsIn K mainGlobals "_law_strings" = some (some (.ref fSt)))
    (FSt : ∃ d, Fun K "_law_strings" "_law_strings" sStrs fSt d)
    (gOh : PySem.W.nsIn K mainGlobals "_law_other" = some (some (.ref fOh)))
    (FOh : ∃ d, Fun K "_law_other" "_law_other" sOther fOh d)
    (gPx : PySem.W.nsIn K mainGlobals "pauli_text" = some (some (.ref fPx)))
    (FPx : ∃ d, Fun K "pauli_text" "pauli_text" sPtx fPx d)
    (z_isinstance : PySem.W.nsIn K mainGlobals "isinstance" = some none)
    (z_int : PySem.W.nsIn K mainGlobals "int" = some none)
    (z_bool : PySem.W.nsIn K mainGlobals "bool" = some none)
    (z_str : PySem.W.nsIn K mainGlobals "str" = some none)
    (z_len : PySem.W.nsIn K mainGlobals "len" = some none)
    (z_range : PySem.W.nsIn K mainGlobals "range" = some none)
    (z_list : PySem.W.nsIn K mainGlobals "list" = some none)
    (z_enumerate : PySem.W.nsIn K mainGlobals "enumerate" = some none)
    (z_tuple : PySem.W.nsIn K mainGlobals "tuple" = some none)
    (z_min : PySem.W.nsIn K mainGlobals "min" = some none)
    (z_sorted : PySem.W.nsIn K mainGlobals "sorted" = some none)
    (z_reversed : PySem.W.nsIn K mainGlobals "reversed" = some none)
    (z_zip : PySem.W.nsIn K mainGlobals "zip" = some none)
    (z_dict : PySem.W.nsIn K mainGlobals "dict" = some none)
    (gLa : PySem.W.nsIn K mainGlobals "law" = some (some (.ref fLa)))
    (lk : K.lookup fLa = some ⟨oc, od, .func (PySem.W.fnOf "law" "law" (defArgs sLaw) (defBody sLaw) (defScope sLaw) .none kV doc pm an (.ref c) ct), osl⟩)
    (hcd : PySem.W.codeIn K (.ref c) "law" = true)
    (lc : K.lookup c = some ⟨ec, dc, .fields vc, sc⟩)
    (h11 : vc[11]? = some (.ref tP))
    (nP_ : K.lookup tP = none)
    (hb : PySem.W.codeHdIn K c tP = true)
    (mem : tP ∈ ts) :
    LawAtS l w K CX 13 63 "_law_script" mg fa h := by
  subst eCX
  have e := hfa.symm.trans (PySem.W.mg_of X G gLa)
  cases e
  obtain ⟨dB, F_T⟩ := F_T
  have b_T := F_T.binds (ps := ["self", "line", "column"]) fun _ _ _ _ _ _ us hl => match us, hl with | [_, _, _], _ => rfl
  obtain ⟨dBN, F_B⟩ := F_B
  have b_B := F_B.binds (ps := ["self", "what", "number"]) fun _ _ _ _ _ _ us hl => match us, hl with | [_, _, _], _ => rfl
  obtain ⟨dU, F_U⟩ := F_U
  have b_U := F_U.binds (ps := ["self", "what"]) fun _ _ _ _ _ _ us hl => match us, hl with | [_, _], _ => rfl
  obtain ⟨dI, FI⟩ := FI
  have bI := FI.binds (ps := ["self", "text"]) fun _ _ _ _ _ _ us hl => match us, hl with | [_, _], _ => rfl
  obtain ⟨dE, FE⟩ := FE
  have bE := FE.binds (ps := ["self", "other"]) fun _ _ _ _ _ _ us hl => match us, hl with | [_, _], _ => rfl
  obtain ⟨dGI, FGI⟩ := FGI
  have bGI := FGI.binds (ps := ["self", "size", "strings"]) fun _ _ _ _ _ _ us hl => match us, hl with | [_, _, _], _ => rfl
  obtain ⟨dGe, FGe⟩ := FGe
  have bGe := FGe.binds (ps := ["self", "other"]) fun _ _ _ _ _ _ us hl => match us, hl with | [_, _], _ => rfl
  obtain ⟨dSgn, FSgn⟩ := FSgn
  have bSgn := FSgn.binds (ps := ["self", "string"]) fun _ _ _ _ _ _ us hl => match us, hl with | [_, _], _ => rfl
  obtain ⟨dSyn, FSyn⟩ := FSyn
  have bSyn := FSyn.binds (ps := ["self", "string"]) fun _ _ _ _ _ _ us hl => match us, hl with | [_, _], _ => rfl
  obtain ⟨dC, FC⟩ := FC
  have bC := FC.binds (ps := ["text"]) fun _ _ _ _ _ _ us hl => match us, hl with | [_], _ => rfl
  obtain ⟨dIs, FIs⟩ := FIs
  have bIs := FIs.binds (ps := ["value"]) fun _ _ _ _ _ _ us hl => match us, hl with | [_], _ => rfl
  obtain ⟨dHo, FHo⟩ := FHo
  have bHo := FHo.binds (ps := ["string"]) fun _ _ _ _ _ _ us hl => match us, hl with | [_], _ => rfl
  obtain ⟨dBo, FBo⟩ := FBo
  have bBo := FBo.binds (ps := ["string"]) fun _ _ _ _ _ _ us hl => match us, hl with | [_], _ => rfl
  obtain ⟨dHp, FHp⟩ := FHp
  have bHp := FHp.binds (ps := ["size", "one", "other"]) fun _ _ _ _ _ _ us hl => match us, hl with | [_, _, _], _ => rfl
  obtain ⟨dPa, FPa⟩ := FPa
  have bPa := FPa.binds (ps := ["number"]) fun _ _ _ _ _ _ us hl => match us, hl with | [_], _ => rfl
  obtain ⟨dCr, FCr⟩ := FCr
  have bCr := FCr.binds (ps := ["size", "bits", "others"]) fun _ _ _ _ _ _ us hl => match us, hl with | [_, _, _], _ => rfl
  obtain ⟨dSh, FSh⟩ := FSh
  have bSh := FSh.binds (ps := ["size", "bits"]) fun _ _ _ _ _ _ us hl => match us, hl with | [_, _], _ => rfl
  obtain ⟨dBt, FBt⟩ := FBt
  have bBt := FBt.binds (ps := ["number", "many"]) fun _ _ _ _ _ _ us hl => match us, hl with | [_, _], _ => rfl
  obtain ⟨dCk, FCk⟩ := FCk
  have bCk := FCk.binds (ps := ["size", "rows"]) fun _ _ _ _ _ _ us hl => match us, hl with | [_, _], _ => rfl
  obtain ⟨dRt, FRt⟩ := FRt
  have bRt := FRt.binds (ps := ["size", "given"]) fun _ _ _ _ _ _ us hl => match us, hl with | [_, _], _ => rfl
  obtain ⟨dSo, FSo⟩ := FSo
  have bSo := FSo.binds (ps := ["size", "held"]) fun _ _ _ _ _ _ us hl => match us, hl with | [_, _], _ => rfl
  obtain ⟨dFr, FFr⟩ := FFr
  have bFr := FFr.binds (ps := ["letters", "phase"]) fun _ _ _ _ _ _ us hl => match us, hl with | [_, _], _ => rfl
  obtain ⟨dLo, FLo⟩ := FLo
  have bLo := FLo.binds (ps := ["size", "bits"]) fun _ _ _ _ _ _ us hl => match us, hl with | [_, _], _ => rfl
  obtain ⟨dLg, FLg⟩ := FLg
  have bLg := FLg.binds (ps := ["size", "held", "table"]) fun _ _ _ _ _ _ us hl => match us, hl with | [_, _, _], _ => rfl
  obtain ⟨dLn, FLn⟩ := FLn
  have bLn := FLn.binds (ps := ["number", "marks", "table"]) fun _ _ _ _ _ _ us hl => match us, hl with | [_, _, _], _ => rfl
  obtain ⟨dPn, FPn⟩ := FPn
  have bPn := FPn.binds (ps := ["_law_script"]) fun _ _ _ _ _ _ us hl => match us, hl with | [_], _ => rfl
  obtain ⟨dDr, FDr⟩ := FDr
  have bDr := FDr.binds (ps := ["_law_pen_here", "_law_many"]) fun _ _ _ _ _ _ us hl => match us, hl with | [_, _], _ => rfl
  obtain ⟨dPk, FPk⟩ := FPk
  have bPk := FPk.binds (ps := ["_law_pen_here", "_law_some"]) fun _ _ _ _ _ _ us hl => match us, hl with | [_, _], _ => rfl
  obtain ⟨dSu, FSu⟩ := FSu
  have bSu := FSu.binds (ps := ["_law_pen_here", "_law_some"]) fun _ _ _ _ _ _ us hl => match us, hl with | [_, _], _ => rfl
  obtain ⟨dOn, FOn⟩ := FOn
  have bOn := FOn.binds (ps := ["_law_number"]) fun _ _ _ _ _ _ us hl => match us, hl with | [_], _ => rfl
  obtain ⟨dCx, FCx⟩ := FCx
  have bCx := FCx.binds (ps := ["_law_one", "_law_two"]) fun _ _ _ _ _ _ us hl => match us, hl with | [_, _], _ => rfl
  obtain ⟨dPr, FPr⟩ := FPr
  have bPr := FPr.binds (ps := ["_law_one", "_law_two"]) fun _ _ _ _ _ _ us hl => match us, hl with | [_, _], _ => rfl
  obtain ⟨dLe, FLe⟩ := FLe
  have bLe := FLe.binds (ps := ["_law_string", "_law_size"]) fun _ _ _ _ _ _ us hl => match us, hl with | [_, _], _ => rfl
  obtain ⟨dTx, FTx⟩ := FTx
  have bTx := FTx.binds (ps := ["_law_string", "_law_size"]) fun _ _ _ _ _ _ us hl => match us, hl with | [_, _], _ => rfl
  obtain ⟨dOt, FOt⟩ := FOt
  have bOt := FOt.binds (ps := ["_law_text_here"]) fun _ _ _ _ _ _ us hl => match us, hl with | [_], _ => rfl
  obtain ⟨dSm, FSm⟩ := FSm
  have bSm := FSm.binds (ps := ["_law_pen_here", "_law_size"]) fun _ _ _ _ _ _ us hl => match us, hl with | [_, _], _ => rfl
  obtain ⟨dGr, FGr⟩ := FGr
  have bGr := FGr.binds (ps := ["_law_strings_here"]) fun _ _ _ _ _ _ us hl => match us, hl with | [_], _ => rfl
  obtain ⟨dJn, FJn⟩ := FJn
  have bJn := FJn.binds (ps := ["_law_group_here", "_law_string"]) fun _ _ _ _ _ _ us hl => match us, hl with | [_, _], _ => rfl
  obtain ⟨dGa, FGa⟩ := FGa
  have bGa := FGa.binds (ps := ["_law_string", "_law_kind", "_law_places"]) fun _ _ _ _ _ _ us hl => match us, hl with | [_, _, _], _ => rfl
  obtain ⟨dDc, FDc⟩ := FDc
  have bDc := FDc.binds (ps := ["_law_pen_here", "_law_size", "_law_rank", "_law_gauged"]) fun _ _ _ _ _ _ us hl => match us, hl with | [_, _, _, _], _ => rfl
  obtain ⟨dBo2, FBo2⟩ := FBo2
  have bBo2 := FBo2.binds (ps := ["_law_size"]) fun _ _ _ _ _ _ us hl => match us, hl with | [_], _ => rfl
  obtain ⟨dRd, FRd⟩ := FRd
  have bRd := FRd.binds (ps := ["_law_strings_here", "_law_size"]) fun _ _ _ _ _ _ us hl => match us, hl with | [_, _], _ => rfl
  obtain ⟨dSy, FSy⟩ := FSy
  have bSy := FSy.binds (ps := ["_law_rows", "_law_string"]) fun _ _ _ _ _ _ us hl => match us, hl with | [_, _], _ => rfl
  obtain ⟨dPl, FPl⟩ := FPl
  have bPl := FPl.binds (ps := ["_law_string", "_law_size"]) fun _ _ _ _ _ _ us hl => match us, hl with | [_, _], _ => rfl
  obtain ⟨dWy, FWy⟩ := FWy
  have bWy := FWy.binds (ps := ["_law_call"]) fun _ _ _ _ _ _ us hl => match us, hl with | [_], _ => rfl
  obtain ⟨dPh, FPh⟩ := FPh
  have bPh := FPh.binds (ps := ["_law_string", "_law_phase", "_law_size"]) fun _ _ _ _ _ _ us hl => match us, hl with | [_, _, _], _ => rfl
  obtain ⟨dSt, FSt⟩ := FSt
  have bSt := FSt.binds (ps := ["_law_pen_here", "_law_size", "_law_many"]) fun _ _ _ _ _ _ us hl => match us, hl with | [_, _, _], _ => rfl
  obtain ⟨dOh, FOh⟩ := FOh
  have bOh := FOh.binds (ps := ["_law_pen_here", "_law_rows"]) fun _ _ _ _ _ _ us hl => match us, hl with | [_, _], _ => rfl
  obtain ⟨dPx, FPx⟩ := FPx
  have bPx := FPx.binds (ps := ["p"]) fun _ _ _ _ _ _ us hl => match us, hl with | [_], _ => rfl
  have B : Bl mg := ⟨PySem.W.mg_none_of X G z_isinstance, PySem.W.mg_none_of X G z_int, PySem.W.mg_none_of X G z_bool, PySem.W.mg_none_of X G z_str, PySem.W.mg_none_of X G z_len, PySem.W.mg_none_of X G z_range, PySem.W.mg_none_of X G z_list, PySem.W.mg_none_of X G z_enumerate, PySem.W.mg_none_of X G z_tuple, PySem.W.mg_none_of X G z_min, PySem.W.mg_none_of X G z_sorted, PySem.W.mg_none_of X G z_reversed⟩
  have TT : BT K mg CT fB dB := ⟨kcT.ox, icT, tiT, nT0, nT1, PySem.W.mg_of X G aT, F_T, b_T⟩
  have XB : EX2 K mg "BadNumber" "BadNumber.__init__" "what" "number" sIBadNumber CB fBN dBN := ⟨kcB.ox, icB, tiB, nB0, nB1, PySem.W.mg_of X G aB, F_B, b_B⟩
  have XU : EX1 K mg "Unlike" "Unlike.__init__" "what" sIUnlike CU fU dU := ⟨kcU.ox, icU, tiU, nU0, PySem.W.mg_of X G aU, F_U, b_U⟩
  have N : PCl K mg C fI fE := ⟨⟨pgP, hdiP, poP, saP⟩, nP0, nP1, nP2, nP3, ⟨mkP, icP, ifP, kpP⟩, haP, hnP, htP, hmP, kCP, kSP, eqP, efP, enP, PySem.W.mg_of X G aP⟩
  have hd : Hd4 K mg hA := ⟨hl, PySem.W.mg_of X G aH⟩
  have lt : Lets K w mg lA := by
    refine ⟨PySem.W.mg_of X G aL, fun x z hx hz => ?_⟩
    have hx' : x = 0 ∨ x = 1 := by omega
    have hz' : z = 0 ∨ z = 1 := by omega
    rcases hx' with rfl | rfl <;> rcases hz' with rfl | rfl
    · exact lett_one ll lkk (by decide +kernel) (by decide +kernel) l00
    · exact lett_one ll lkk (by decide +kernel) (by decide +kernel) l01
    · exact lett_one ll lkk (by decide +kernel) (by decide +kernel) l10
    · exact lett_one ll lkk (by decide +kernel) (by decide +kernel) l11
  have GC : GCl K mg CG fGI := ⟨⟨pgG, hdiG, poG, saG⟩, nG0, nG1, nG2, nG3, nG4, ⟨mkG, icG, ifG, kpG⟩, PySem.W.mg_of X G aG⟩
  have V : Four K mg CT CB CU CA CM := ⟨PySem.W.mg_of X G aT, PySem.W.mg_of X G aB, PySem.W.mg_of X G aU, PySem.W.mg_of X G aA, PySem.W.mg_of X G aM, nUl, nUc, nB0, nB1, nU0, nA0, nA1, nM0, kcB.xf, kcU.xf, kcA.xf, kcM.xf, exBT, kcB.ex, exUT, exUB, kcU.ex, exAT, exAB, exAU, kcA.ex, exMT, exMB, exMU, exMA, kcM.ex⟩
  have GE : GEnv K w mg C CT CB fI fE fB fBN hA lA dB dBN fIs fHo fBo fHp fPa fCr fSh fBt fLg fLn fCk fRt fSo fFr fLo fC dI dIs dHo dBo dHp dPa dCr dSh dBt dLg dLn dCk dRt dSo dFr dLo dC := ⟨N, FI, bI, FC, bC, PySem.W.mg_of X G gC, TT, XB, hd, lt, PySem.W.mg_none_of X G z_zip, B, FIs, bIs, PySem.W.mg_of X G gIs, FHo, bHo, PySem.W.mg_of X G gHo, FBo, bBo, PySem.W.mg_of X G gBo, FHp, bHp, PySem.W.mg_of X G gHp, FPa, bPa, PySem.W.mg_of X G gPa, FCr, bCr, PySem.W.mg_of X G gCr, FSh, bSh, PySem.W.mg_of X G gSh, FBt, bBt, PySem.W.mg_of X G gBt, FLg, bLg, PySem.W.mg_of X G gLg, FLn, bLn, PySem.W.mg_of X G gLn, FCk, bCk, PySem.W.mg_of X G gCk, FRt, bRt, PySem.W.mg_of X G gRt, FSo, bSo, PySem.W.mg_of X G gSo, FFr, bFr, PySem.W.mg_of X G gFr, FLo, bLo, PySem.W.mg_of X G gLo⟩
  refine ⟨PySem.W.fnOf "law" "law" (defArgs sLaw) (defBody sLaw) (defScope sLaw) .none kV doc pm an (.ref c) ct, [(c, tP)], spLawT K tP, fun p hp => ?_, fun p hp => ?_, fun p hp => ?_, fun s v => .of_eq rfl, ?_, ?_⟩
  · rw [List.mem_singleton.mp hp]
    exact hTs tP mem
  · rw [List.mem_singleton.mp hp]
    exact nP_
  · rw [List.mem_singleton.mp hp]
    exact PySem.W.codeHd_of_K X hb
  · intro H a ns hl _ hT hS
    exact ⟨a, ns, rfl, hS, hl, hT (c, tP) (List.mem_singleton.mpr rfl), fun _ => rfl⟩
  · intro base _ _ TB
    exact ok_law lk hcd (TB (c, tP) (List.mem_singleton.mpr rfl)) GE FGI bGI GC cne (PySem.W.mg_none_of X G z_dict) FE bE XU V ⟨haG, hnP, htP, hmG⟩ kCG kSG FSgn bSgn ⟨mSgn, miSgn, mkSgn⟩ FSyn bSyn ⟨mSyn, miSyn, mkSyn⟩ FGe bGe eqG efG enG FPn bPn (PySem.W.mg_of X G gPn) FDr bDr (PySem.W.mg_of X G gDr) FPk bPk (PySem.W.mg_of X G gPk) FSu bSu (PySem.W.mg_of X G gSu) FOn bOn (PySem.W.mg_of X G gOn) FCx bCx (PySem.W.mg_of X G gCx) FPr bPr (PySem.W.mg_of X G gPr) FLe bLe (PySem.W.mg_of X G gLe) FTx bTx (PySem.W.mg_of X G gTx) FOt bOt (PySem.W.mg_of X G gOt) FSm bSm (PySem.W.mg_of X G gSm) FGr bGr (PySem.W.mg_of X G gGr) FJn bJn (PySem.W.mg_of X G gJn) FGa bGa (PySem.W.mg_of X G gGa) FDc bDc (PySem.W.mg_of X G gDc) FBo2 bBo2 (PySem.W.mg_of X G gBo2) FRd bRd (PySem.W.mg_of X G gRd) FSy bSy (PySem.W.mg_of X G gSy) FPl bPl (PySem.W.mg_of X G gPl) FWy bWy (PySem.W.mg_of X G gWy) FPh bPh (PySem.W.mg_of X G gPh) FSt bSt (PySem.W.mg_of X G gSt) FOh bOh (PySem.W.mg_of X G gOh) FPx bPx (PySem.W.mg_of X G gPx)
theorem walk {l : PySem.W.OpenLaw} {q : Program} {loose : List Str} {XP : (Str → Option Value) → Heap → Prop} {YP : World → Heap → Prop} {d : DefRec} {K : Params → PySem.W.Frag} (hn : l.most = some 63) (hdf : d.params.defaults = [])
    (ts : List Addr) (hY : ∀ (w : World) (h : Heap), YP w h → (K w.params).In h) (hT : ∀ (w : World) (h : Heap), YP w h → ∀ R ∈ ts, h.get? R = some (PySem.W.tabObj #[]))
    (F : ∀ (w : World) (mg : Str → Option Value) (fa : Addr) (h : Heap), (K w.params).In h → h.Ns mainGlobals mg → mg d.name = some (.ref fa) → (∀ R ∈ ts, h.get? R = some (PySem.W.tabObj #[])) → LawAtS l w (K w.params) CX0 13 63 "_law_script" mg fa h) :
    PySem.W.WalkO q loose XP YP l.row.toRowW d [] (fun f vs => PySem.call f vs) :=
  walk_ofTs (n := 63) (k := 13) (x := "_law_script") (CX := fun _ => CX0) hn (by decide) hdf ⟨rfl, by decide, by decide⟩ hY (fun w mg fa h Y X G e => F w mg fa h X G e (hT w h Y)) (fun _ _ _ _ _ z => z)
end KQ
open PySem PySem.W PyProof.Rows
set_option maxRecDepth 100000 in
set_option maxHeartbeats 0 in
theorem PySem.Challenge.cw_keptqubits_k10_whole_groups_holds : PySem.Challenge.rw_keptqubits_k10_whole_groups.Holds := by
  refine head ?_
  k_fill
  refine KQ.walk (l := PySem.Challenge.rw_keptqubits_k10_whole_groups) rfl rfl _ (fun w h Y => PySem.W.km_in_of Y) (fun w h Y => PySem.W.km_tabs_of Y) ?F
  case F =>
    intro w mg fa h KX G hmg own
    refine' KQ.all_mk rfl KX G hmg own ?zq_aK ?zq_aT ?zq_aB ?zq_aU ?zq_aA ?zq_aM ?zq_aP ?zq_aG ?zq_aH ?zq_kcT ?zq_nT0 ?zq_nT1 ?zq_icT ?zq_tiT ?zq_F_T ?zq_kcB ?zq_nB0 ?zq_nB1 ?zq_icB ?zq_tiB ?zq_F_B ?zq_kcU ?zq_nU0 ?zq_icU ?zq_tiU ?zq_F_U ?zq_kcA ?zq_nA0 ?zq_nA1 ?zq_kcM ?zq_nM0 ?zq_nUl ?zq_nUc ?zq_exBT ?zq_exUT ?zq_exUB ?zq_exAT ?zq_exAB ?zq_exAU ?zq_exMT ?zq_exMB ?zq_exMU ?zq_exMA ?zq_pgP ?zq_hdiP ?zq_poP ?zq_saP ?zq_nP0 ?zq_nP1 ?zq_nP2 ?zq_nP3 ?zq_mkP ?zq_icP ?zq_ifP ?zq_kpP ?zq_haP ?zq_hmP ?zq_eqP ?zq_efP ?zq_enP ?zq_kCP ?zq_kSP ?zq_pgG ?zq_hdiG ?zq_poG ?zq_saG ?zq_nG0 ?zq_nG1 ?zq_nG2 ?zq_nG3 ?zq_nG4 ?zq_mkG ?zq_icG ?zq_ifG ?zq_kpG ?zq_haG ?zq_hmG ?zq_eqG ?zq_efG ?zq_enG ?zq_kCG ?zq_kSG ?zq_hnP ?zq_htP ?zq_hl ?zq_aL ?zq_ll ?zq_lkk ?zq_l00 ?zq_l10 ?zq_l11 ?zq_l01 ?zq_FI ?zq_FE ?zq_FGI ?zq_FGe ?zq_mSgn ?zq_miSgn ?zq_mkSgn ?zq_FSgn ?zq_mSyn ?zq_miSyn ?zq_mkSyn ?zq_FSyn ?zq_cne ?zq_gC ?zq_FC ?zq_gIs ?zq_FIs ?zq_gHo ?zq_FHo ?zq_gBo ?zq_FBo ?zq_gHp ?zq_FHp ?zq_gPa ?zq_FPa ?zq_gCr ?zq_FCr ?zq_gSh ?zq_FSh ?zq_gBt ?zq_FBt ?zq_gCk ?zq_FCk ?zq_gRt ?zq_FRt ?zq_gSo ?zq_FSo ?zq_gFr ?zq_FFr ?zq_gLo ?zq_FLo ?zq_gLg ?zq_FLg ?zq_gLn ?zq_FLn ?zq_gPn ?zq_FPn ?zq_gDr ?zq_FDr ?zq_gPk ?zq_FPk ?zq_gSu ?zq_FSu ?zq_gOn ?zq_FOn ?zq_gCx ?zq_FCx ?zq_gPr ?zq_FPr ?zq_gLe ?zq_FLe ?zq_gTx ?zq_FTx ?zq_gOt ?zq_FOt ?zq_gSm ?zq_FSm ?zq_gGr ?zq_FGr ?zq_gJn ?zq_FJn ?zq_gGa ?zq_FGa ?zq_gDc ?zq_FDc ?zq_gBo2 ?zq_FBo2 ?zq_gRd ?zq_FRd ?zq_gSy ?zq_FSy ?zq_gPl ?zq_FPl ?zq_gWy ?zq_FWy ?zq_gPh ?zq_FPh ?zq_gSt ?zq_FSt ?zq_gOh ?zq_FOh ?zq_gPx ?zq_FPx ?zq_z_isinstance ?zq_z_int ?zq_z_bool ?zq_z_str ?zq_z_len ?zq_z_range ?zq_z_list ?zq_z_enumerate ?zq_z_tuple ?zq_z_min ?zq_z_sorted ?zq_z_reversed ?zq_z_zip ?zq_z_dict ?zq_gLa ?zq_lk ?zq_hcd ?zq_lc ?zq_h11 ?zq_nP_ ?zq_hb ?zq_mem
    (case zq_aK => k_is)
    (case zq_aT => k_is)
    (case zq_aB => k_is)
    (case zq_aU => k_is)
    (case zq_aA => k_is)
    (case zq_aM => k_is)
    (case zq_aP => k_is)
    (case zq_aG => k_is)
    (case zq_aH => k_is)
    (case zq_kcT => refine' KQ.KC.of ?l ?sa ?ty ?kp ?hg ?hk ?ha; (case l => k_is); (case sa => k_is); (case ty => k_is); (case kp => k_is); (case hg => k_is); (case hk => k_is); (case ha => k_is))
    (case zq_nT0 => k_is)
    (case zq_nT1 => k_is)
    (case zq_icT => k_is)
    (case zq_tiT => k_is)
    (case zq_F_T => refine' KQ.fun_ex ?l ?c ?k; (case l => k_is); (case c => k_is); (case k => k_is))
    (case zq_kcB => refine' KQ.KC.of ?l ?sa ?ty ?kp ?hg ?hk ?ha; (case l => k_is); (case sa => k_is); (case ty => k_is); (case kp => k_is); (case hg => k_is); (case hk => k_is); (case ha => k_is))
    (case zq_nB0 => k_is)
    (case zq_nB1 => k_is)
    (case zq_icB => k_is)
    (case zq_tiB => k_is)
    (case zq_F_B => refine' KQ.fun_ex ?l ?c ?k; (case l => k_is); (case c => k_is); (case k => k_is))
    (case zq_kcU => refine' KQ.KC.of ?l ?sa ?ty ?kp ?hg ?hk ?ha; (case l => k_is); (case sa => k_is); (case ty => k_is); (case kp => k_is); (case hg => k_is); (case hk => k_is); (case ha => k_is))
    (case zq_nU0 => k_is)
    (case zq_icU => k_is)
    (case zq_tiU => k_is)
    (case zq_F_U => refine' KQ.fun_ex ?l ?c ?k; (case l => k_is); (case c => k_is); (case k => k_is))
    (case zq_kcA => refine' KQ.KC.of ?l ?sa ?ty ?kp ?hg ?hk ?ha; (case l => k_is); (case sa => k_is); (case ty => k_is); (case kp => k_is); (case hg => k_is); (case hk => k_is); (case ha => k_is))
    (case zq_nA0 => k_is)
    (case zq_nA1 => k_is)
    (case zq_kcM => refine' KQ.KC.of ?l ?sa ?ty ?kp ?hg ?hk ?ha; (case l => k_is); (case sa => k_is); (case ty => k_is); (case kp => k_is); (case hg => k_is); (case hk => k_is); (case ha => k_is))
    (case zq_nM0 => k_is)
    (case zq_nUl => k_is)
    (case zq_nUc => k_is)
    (case zq_exBT => first | k_is | kernel_rfl | decide +kernel)
    (case zq_exUT => first | k_is | kernel_rfl | decide +kernel)
    (case zq_exUB => first | k_is | kernel_rfl | decide +kernel)
    (case zq_exAT => first | k_is | kernel_rfl | decide +kernel)
    (case zq_exAB => first | k_is | kernel_rfl | decide +kernel)
    (case zq_exAU => first | k_is | kernel_rfl | decide +kernel)
    (case zq_exMT => first | k_is | kernel_rfl | decide +kernel)
    (case zq_exMB => first | k_is | kernel_rfl | decide +kernel)
    (case zq_exMU => first | k_is | kernel_rfl | decide +kernel)
    (case zq_exMA => first | k_is | kernel_rfl | decide +kernel)
    (case zq_pgP => k_is)
    (case zq_hdiP => k_is)
    (case zq_poP => k_is)
    (case zq_saP => k_is)
    (case zq_nP0 => k_is)
    (case zq_nP1 => k_is)
    (case zq_nP2 => k_is)
    (case zq_nP3 => k_is)
    (case zq_mkP => k_is)
    (case zq_icP => k_is)
    (case zq_ifP => first | k_is | kernel_rfl | decide +kernel)
    (case zq_kpP => k_is)
    (case zq_haP => k_is)
    (case zq_hmP => first | k_is | kernel_rfl | decide +kernel)
    (case zq_eqP => k_is)
    (case zq_efP => first | k_is | kernel_rfl | decide +kernel)
    (case zq_enP => first | k_is | kernel_rfl | decide +kernel)
    (case zq_kCP => first | k_is | kernel_rfl | decide +kernel)
    (case zq_kSP => first | k_is | kernel_rfl | decide +kernel)
    (case zq_pgG => k_is)
    (case zq_hdiG => k_is)
    (case zq_poG => k_is)
    (case zq_saG => k_is)
    (case zq_nG0 => k_is)
    (case zq_nG1 => k_is)
    (case zq_nG2 => k_is)
    (case zq_nG3 => k_is)
    (case zq_nG4 => k_is)
    (case zq_mkG => k_is)
    (case zq_icG => k_is)
    (case zq_ifG => first | k_is | kernel_rfl | decide +kernel)
    (case zq_kpG => k_is)
    (case zq_haG => k_is)
    (case zq_hmG => first | k_is | kernel_rfl | decide +kernel)
    (case zq_eqG => k_is)
    (case zq_efG => first | k_is | kernel_rfl | decide +kernel)
    (case zq_enG => first | k_is | kernel_rfl | decide +kernel)
    (case zq_kCG => first | k_is | kernel_rfl | decide +kernel)
    (case zq_kSG => first | k_is | kernel_rfl | decide +kernel)
    (case zq_hnP => first | k_is | kernel_rfl | decide +kernel)
    (case zq_htP => first | k_is | kernel_rfl | decide +kernel)
    (case zq_hl => refine' KQ.hd_ex ?l; (case l => k_is))
    (case zq_aL => k_is)
    (case zq_ll => k_is)
    (case zq_lkk => first | k_is | exact ⟨⟨_, _, rfl, rfl⟩, ⟨_, _, rfl, rfl⟩, ⟨_, _, rfl, rfl⟩, ⟨_, _, rfl, rfl⟩, trivial⟩)
    (case zq_l00 => k_is)
    (case zq_l10 => k_is)
    (case zq_l11 => k_is)
    (case zq_l01 => k_is)
    (case zq_FI => refine' KQ.fun_ex ?l ?c ?k; (case l => k_is); (case c => k_is); (case k => k_is))
    (case zq_FE => refine' KQ.fun_ex ?l ?c ?k; (case l => k_is); (case c => k_is); (case k => k_is))
    (case zq_FGI => refine' KQ.fun_ex ?l ?c ?k; (case l => k_is); (case c => k_is); (case k => k_is))
    (case zq_FGe => refine' KQ.fun_ex ?l ?c ?k; (case l => k_is); (case c => k_is); (case k => k_is))
    (case zq_mSgn => k_is)
    (case zq_miSgn => first | k_is | kernel_rfl | decide +kernel)
    (case zq_mkSgn => k_is)
    (case zq_FSgn => refine' KQ.fun_ex ?l ?c ?k; (case l => k_is); (case c => k_is); (case k => k_is))
    (case zq_mSyn => k_is)
    (case zq_miSyn => first | k_is | kernel_rfl | decide +kernel)
    (case zq_mkSyn => k_is)
    (case zq_FSyn => refine' KQ.fun_ex ?l ?c ?k; (case l => k_is); (case c => k_is); (case k => k_is))
    (case zq_cne => first | decide | decide +kernel | simp)
    (case zq_gC => k_is)
    (case zq_FC => refine' KQ.fun_ex ?l ?c ?k; (case l => k_is); (case c => k_is); (case k => k_is))
    (case zq_gIs => k_is)
    (case zq_FIs => refine' KQ.fun_ex ?l ?c ?k; (case l => k_is); (case c => k_is); (case k => k_is))
    (case zq_gHo => k_is)
    (case zq_FHo => refine' KQ.fun_ex ?l ?c ?k; (case l => k_is); (case c => k_is); (case k => k_is))
    (case zq_gBo => k_is)
    (case zq_FBo => refine' KQ.fun_ex ?l ?c ?k; (case l => k_is); (case c => k_is); (case k => k_is))
    (case zq_gHp => k_is)
    (case zq_FHp => refine' KQ.fun_ex ?l ?c ?k; (case l => k_is); (case c => k_is); (case k => k_is))
    (case zq_gPa => k_is)
    (case zq_FPa => refine' KQ.fun_ex ?l ?c ?k; (case l => k_is); (case c => k_is); (case k => k_is))
    (case zq_gCr => k_is)
    (case zq_FCr => refine' KQ.fun_ex ?l ?c ?k; (case l => k_is); (case c => k_is); (case k => k_is))
    (case zq_gSh => k_is)
    (case zq_FSh => refine' KQ.fun_ex ?l ?c ?k; (case l => k_is); (case c => k_is); (case k => k_is))
    (case zq_gBt => k_is)
    (case zq_FBt => refine' KQ.fun_ex ?l ?c ?k; (case l => k_is); (case c => k_is); (case k => k_is))
    (case zq_gCk => k_is)
    (case zq_FCk => refine' KQ.fun_ex ?l ?c ?k; (case l => k_is); (case c => k_is); (case k => k_is))
    (case zq_gRt => k_is)
    (case zq_FRt => refine' KQ.fun_ex ?l ?c ?k; (case l => k_is); (case c => k_is); (case k => k_is))
    (case zq_gSo => k_is)
    (case zq_FSo => refine' KQ.fun_ex ?l ?c ?k; (case l => k_is); (case c => k_is); (case k => k_is))
    (case zq_gFr => k_is)
    (case zq_FFr => refine' KQ.fun_ex ?l ?c ?k; (case l => k_is); (case c => k_is); (case k => k_is))
    (case zq_gLo => k_is)
    (case zq_FLo => refine' KQ.fun_ex ?l ?c ?k; (case l => k_is); (case c => k_is); (case k => k_is))
    (case zq_gLg => k_is)
    (case zq_FLg => refine' KQ.fun_ex ?l ?c ?k; (case l => k_is); (case c => k_is); (case k => k_is))
    (case zq_gLn => k_is)
    (case zq_FLn => refine' KQ.fun_ex ?l ?c ?k; (case l => k_is); (case c => k_is); (case k => k_is))
    (case zq_gPn => k_is)
    (case zq_FPn => refine' KQ.fun_ex ?l ?c ?k; (case l => k_is); (case c => k_is); (case k => k_is))
    (case zq_gDr => k_is)
    (case zq_FDr => refine' KQ.fun_ex ?l ?c ?k; (case l => k_is); (case c => k_is); (case k => k_is))
    (case zq_gPk => k_is)
    (case zq_FPk => refine' KQ.fun_ex ?l ?c ?k; (case l => k_is); (case c => k_is); (case k => k_is))
    (case zq_gSu => k_is)
    (case zq_FSu => refine' KQ.fun_ex ?l ?c ?k; (case l => k_is); (case c => k_is); (case k => k_is))
    (case zq_gOn => k_is)
    (case zq_FOn => refine' KQ.fun_ex ?l ?c ?k; (case l => k_is); (case c => k_is); (case k => k_is))
    (case zq_gCx => k_is)
    (case zq_FCx => refine' KQ.fun_ex ?l ?c ?k; (case l => k_is); (case c => k_is); (case k => k_is))
    (case zq_gPr => k_is)
    (case zq_FPr => refine' KQ.fun_ex ?l ?c ?k; (case l => k_is); (case c => k_is); (case k => k_is))
    (case zq_gLe => k_is)
    (case zq_FLe => refine' KQ.fun_ex ?l ?c ?k; (case l => k_is); (case c => k_is); (case k => k_is))
    (case zq_gTx => k_is)
    (case zq_FTx => refine' KQ.fun_ex ?l ?c ?k; (case l => k_is); (case c => k_is); (case k => k_is))
    (case zq_gOt => k_is)
    (case zq_FOt => refine' KQ.fun_ex ?l ?c ?k; (case l => k_is); (case c => k_is); (case k => k_is))
    (case zq_gSm => k_is)
    (case zq_FSm => refine' KQ.fun_ex ?l ?c ?k; (case l => k_is); (case c => k_is); (case k => k_is))
    (case zq_gGr => k_is)
    (case zq_FGr => refine' KQ.fun_ex ?l ?c ?k; (case l => k_is); (case c => k_is); (case k => k_is))
    (case zq_gJn => k_is)
    (case zq_FJn => refine' KQ.fun_ex ?l ?c ?k; (case l => k_is); (case c => k_is); (case k => k_is))
    (case zq_gGa => k_is)
    (case zq_FGa => refine' KQ.fun_ex ?l ?c ?k; (case l => k_is); (case c => k_is); (case k => k_is))
    (case zq_gDc => k_is)
    (case zq_FDc => refine' KQ.fun_ex ?l ?c ?k; (case l => k_is); (case c => k_is); (case k => k_is))
    (case zq_gBo2 => k_is)
    (case zq_FBo2 => refine' KQ.fun_ex ?l ?c ?k; (case l => k_is); (case c => k_is); (case k => k_is))
    (case zq_gRd => k_is)
    (case zq_FRd => refine' KQ.fun_ex ?l ?c ?k; (case l => k_is); (case c => k_is); (case k => k_is))
    (case zq_gSy => k_is)
    (case zq_FSy => refine' KQ.fun_ex ?l ?c ?k; (case l => k_is); (case c => k_is); (case k => k_is))
    (case zq_gPl => k_is)
    (case zq_FPl => refine' KQ.fun_ex ?l ?c ?k; (case l => k_is); (case c => k_is); (case k => k_is))
    (case zq_gWy => k_is)
    (case zq_FWy => refine' KQ.fun_ex ?l ?c ?k; (case l => k_is); (case c => k_is); (case k => k_is))
    (case zq_gPh => k_is)
    (case zq_FPh => refine' KQ.fun_ex ?l ?c ?k; (case l => k_is); (case c => k_is); (case k => k_is))
    (case zq_gSt => k_is)
    (case zq_FSt => refine' KQ.fun_ex ?l ?c ?k; (case l => k_is); (case c => k_is); (case k => k_is))
    (case zq_gOh => k_is)
    (case zq_FOh => refine' KQ.fun_ex ?l ?c ?k; (case l => k_is); (case c => k_is); (case k => k_is))
    (case zq_gPx => k_is)
    (case zq_FPx => refine' KQ.fun_ex ?l ?c ?k; (case l => k_is); (case c => k_is); (case k => k_is))
    (case zq_z_isinstance => k_is)
    (case zq_z_int => k_is)
    (case zq_z_bool => k_is)
    (case zq_z_str => k_is)
    (case zq_z_len => k_is)
    (case zq_z_range => k_is)
    (case zq_z_list => k_is)
    (case zq_z_enumerate => k_is)
    (case zq_z_tuple => k_is)
    (case zq_z_min => k_is)
    (case zq_z_sorted => k_is)
    (case zq_z_reversed => k_is)
    (case zq_z_zip => k_is)
    (case zq_z_dict => k_is)
    (case zq_gLa => k_is)
    (case zq_lk => k_is)
    (case zq_hcd => k_is)
    (case zq_lc => k_is)
    (case zq_h11 => rfl)
    (case zq_nP_ => kernel_rfl)
    (case zq_hb => kernel_rfl)
    (case zq_mem => simp)
