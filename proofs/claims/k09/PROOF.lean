import PyProof.Rows.All
import Wide.All
import OpenK.AllK
import Wide.FinOn
import HandS.Base
import HandS.Call
import HandS.Iter
import HandS.Codes
import PyProof.Draws
import PyProof.EnumMake
import PyProof.EnumFor
import HandS.ForMost
import HandS.Wide
import HandS.List
import HandS.Text
import HandS.StrMore
import PyProof.Rows.StrStrike
import PyProof.Rows.StrCountLaw
import HandS.Strs
import HandS.Replace
import HandS.ReplaceLit
import HandS.Comp
import HandS.IsInst
import HandS.ExcInit
import HandS.ExcField
import HandS.WordsExc
import HandS.Style
import HandS.DeepEq
import HandS.CallLocal
import HandS.Lambda
import HandS.EndOwn
import HandS.Walk
import HandS.TryMany
import HandS.OwnEq
import HandS.ExcIs
import PyProof.ListStr
import HandS.Exc
import HandS.FStr
import PySem.Challenge.RW_keptqubits_k09_whole_words
set_option Elab.async false
set_option linter.all false
set_option maxRecDepth 100000
set_option maxHeartbeats 4000000
namespace KQ
open PySem PySem.Spec PyProof.Rows L2
/-! ### for i, c in enumerate(text) -/
/-- each sign of x in a new pair with its place -/
def ItEx (x : Str) : It := ⟨fun i _ => i < x.cps.size, fun i H v H' => ∃ T c, v = .ref T ∧ H T = none ∧ x.cps[i]? = some c ∧ H' = upd H T (.tup [.int (i : Nat), .str ⟨#[c]⟩]), fun i _ => i = x.cps.size⟩
theorem draws_txt {prog : Program} {w : World} {A : Around} (calm : A.handled = none) (it : Addr) (x : Str) (t : Tok) :
    Draws prog w A.in1 it [it] x.cps.size (fun i v => ∃ c u, x.cps[i]? = some c ∧ v = .str ⟨#[c]⟩ u) (fun i h => h.IsStrIter it (strIterType x) x t i) := by
  unfold strIterType
  split
  · exact Draws.strAscii (A := A.in1) calm it x t
  · exact Draws.strWide (A := A.in1) calm it x t
theorem turn_enumTxt {P : Program} {w : World} {K : PySem.W.Frag} {elts : List Expr} {kk : Nat} {tpos : Pos} (e it : Addr) (x : Str) (t : Tok) :
    Turn P w K (.Tuple elts kk tpos) (ItEx x) [e, it] e (fun i h => (∃ old, IsEnum h e it ((i : Nat) : Int) old) ∧ h.IsStrIter it (strIterType x) x t i ∧ e ≠ it) where
  mem := List.mem_cons_self
  obj := fun i h st b hb => by
    obtain ⟨⟨old, he⟩, ⟨o, ho, _, hd⟩, _⟩ := st
    rcases List.mem_cons.mp hb with rfl | hb
    · exact ⟨_, he, fun v q => nomatch q⟩
    · rw [List.mem_singleton.mp hb]
      exact ⟨o, ho, fun v q => by rw [hd] at q; cases q⟩
  keep := fun i h h' st k => by
    obtain ⟨⟨old, he⟩, ⟨o, ho, r⟩, hne⟩ := st
    exact ⟨⟨old, k e List.mem_cons_self _ he⟩, ⟨o, k it (by simp) o ho, r⟩, hne⟩
  item := by
    intro X hP hw hK calm i pins s σ H E I fp st hi
    subst hP hw hK
    obtain ⟨⟨old, he⟩, hit, hne⟩ := st
    have le : e < s.heap.objs.size := Heap.lt_size he
    have li : it < s.heap.objs.size := by
      obtain ⟨_, q, _⟩ := hit
      exact Heap.lt_size q
    refine wpAny_pyNext_enum_itemD (draws_txt (I.ok.hd calm) it x t) he hit hi hne (by simpa using hne) fun u h1 tk hu hout hit1 hT hsz hk => ?_
    obtain ⟨c, tc, hc, rfl⟩ := hu
    refine ⟨_, rfl, wpAny_letOwnedTupleGo_enum (s := { s with heap := h1, toks := tk + 1 }) hout fun h2 he2 sb => ?_⟩
    have hT2 := (sb.2 _ (Nat.ne_of_gt le)).trans hT
    have fresh : H s.heap.objs.size = none := I.hok.fresh (Nat.le_refl _)
    have I1 : Inv X pins σ (upd H s.heap.objs.size (.tup [.int (i : Nat), .str ⟨#[c]⟩])) { s with heap := h2, toks := tk + 1 } :=
      I.turnedNew (ch := [e, it]) (fun b ob hb q => by
        have b1 : b ≠ e := fun z => hb (by simp [z])
        have b2 : b ≠ it := fun z => hb (by simp [z])
        exact (sb.2 b b1).trans (hk b ob b1 b2 q)) fp (Nat.le_refl _) ⟨by show 2 ≤ sizeLine; decide, [.int i tk, .str ⟨#[c]⟩ tc], .cons ⟨_, rfl⟩ (.cons ⟨_, rfl⟩ .nil), ⟨_, hT2, rfl, _, rfl⟩⟩
    have ei : ((i + 1 : Nat) : Int) = (i : Int) + 1 := by omega
    refine ⟨.ref s.heap.objs.size, _, I1, rfl, ⟨_, c, rfl, fresh, hc, rfl⟩, ⟨⟨_, by rw [ei]; exact he2⟩, ?_, hne⟩, fun b hb => ?_⟩
    · obtain ⟨o, ho, r⟩ := hit1
      exact ⟨o, (sb.2 it (Ne.symm hne)).trans ho, r⟩
    · have lb : b < s.heap.objs.size := by
        rcases List.mem_cons.mp hb with rfl | hb
        · exact le
        · rw [List.mem_singleton.mp hb]
          exact li
      rw [upd_ne (Nat.ne_of_lt lb)]
      exact (fp b hb).1
  done := by
    intro X hP hw hK calm i pins s σ H E I fp st hi
    subst hP hw hK
    obtain ⟨⟨old, he⟩, hit, hne⟩ := st
    obtain ⟨f0, f1, f2, f3, f4, f5⟩ := fp it (by simp)
    have ei : i = x.cps.size := hi
    subst ei
    exact wpAny_pyNext_enum_endD (draws_txt (I.ok.hd calm) it x t) he hit fun h' eb => ⟨rfl, I.turned (t' := s.toks) (fun b o hb q => eb b o hb q) f0 f1 f3 f4 f5⟩
  self := fun A i s Q E st h => by
    obtain ⟨⟨_, he⟩, _⟩ := st
    exact wpAny_pyIter_enum he h
def iEnumX (ta : TA) : TI := fun σ H R => ta σ H fun vs H1 => ∃ x : Str, vs = [.str x] ∧ R (ItEx x) H1
theorem pi_enumTxt {X : Cx} {e : Expr} {ta : TA} {p pos tpos : Pos} {elts : List Expr} {kk : Nat} (hg : Gl X "enumerate") (hm : X.mg "enumerate" = none) (ha : PA X [e] ta) (hs : starEach [e] X.env = [(false, eval e X.env)] := by rfl) :
    PI X (.Tuple elts kk tpos) (.Call (.Name "enumerate" p) [e] [] pos) (iEnumX ta) := by
  refine ⟨fun pins s σ H R I want => ?_⟩
  refine Call_ (ld_blt I hg hm boot_enumerate (PyProof.Rows.callWith_type1 (thn (ha.run pos pins s σ H _ I want) fun us s1 ⟨vs, H1, I1, r1, q1⟩ => ?_) hs rfl))
  obtain ⟨x, rfl, q⟩ := q1
  obtain ⟨u, rfl, rx⟩ := vals1 r1
  obtain ⟨t, rfl⟩ := rx
  refine call_enumerate_str fun h1 he hit hsz hk => wpAny_pyIter_enum he ?_
  have I2 : Inv X pins σ H1 { s1 with heap := h1 } := I1.kept (t' := s1.toks) hk
  refine ⟨s1.heap.objs.size + 1, [s1.heap.objs.size + 1, s1.heap.objs.size], _, _, H1, rfl, I2, turn_enumTxt (s1.heap.objs.size + 1) s1.heap.objs.size x t, ⟨⟨_, he⟩, hit, Nat.succ_ne_self _⟩, fun b hb => ?_, q⟩
  have hle : s1.heap.objs.size ≤ b := by
    rcases List.mem_cons.mp hb with rfl | hb
    · exact Nat.le_add_right _ _
    · rw [List.mem_singleton.mp hb]
      exact Nat.le_refl _
  exact I1.fpOk hle (I1.hok.fresh hle)
end KQ

namespace KQ
open PySem PySem.Spec PyProof.Rows L2
/-! ### the text -/
def topS (i : Nat) : Stmt := PySem.Challenge.pw_keptqubits_k09_whole_words.main.body.getD i (.Pass ⟨0, 0, 0, 0⟩)
abbrev sPen : Stmt := topS 20
abbrev sDraw : Stmt := topS 21
abbrev sPick : Stmt := topS 22
theorem scPen : FnScope ["_law_script", "_law_fold", "_law_cell"] ["_law_script"] (defScope sPen) := ⟨rfl, rfl, rfl, by decide +kernel, rfl, by decide +kernel, by decide +kernel⟩
theorem scDraw : FnScope ["_law_pen_here", "_law_many", "_law_cell", "_law_digit", "_law_mixed"] ["_law_pen_here", "_law_many"] (defScope sDraw) := ⟨rfl, rfl, rfl, by decide +kernel, rfl, by decide +kernel, by decide +kernel⟩
theorem scPick : FnScope ["_law_pen_here", "_law_some"] ["_law_pen_here", "_law_some"] (defScope sPick) := ⟨rfl, rfl, rfl, by decide +kernel, rfl, by decide +kernel, by decide +kernel⟩
/-! ### the pen -/
theorem k12 : ¬ ("cells" : Str) = "at" := by decide +kernel
theorem k13 : ¬ ("cells" : Str) = "digits" := by decide +kernel
theorem k14 : ¬ ("cells" : Str) = "count" := by decide +kernel
theorem k15 : ¬ ("cells" : Str) = "fold" := by decide +kernel
theorem k21 : ¬ ("at" : Str) = "cells" := by decide +kernel
theorem k23 : ¬ ("at" : Str) = "digits" := by decide +kernel
theorem k24 : ¬ ("at" : Str) = "count" := by decide +kernel
theorem k25 : ¬ ("at" : Str) = "fold" := by decide +kernel
theorem k31 : ¬ ("digits" : Str) = "cells" := by decide +kernel
theorem k32 : ¬ ("digits" : Str) = "at" := by decide +kernel
theorem k34 : ¬ ("digits" : Str) = "count" := by decide +kernel
theorem k35 : ¬ ("digits" : Str) = "fold" := by decide +kernel
theorem k41 : ¬ ("count" : Str) = "cells" := by decide +kernel
theorem k42 : ¬ ("count" : Str) = "at" := by decide +kernel
theorem k43 : ¬ ("count" : Str) = "digits" := by decide +kernel
theorem k45 : ¬ ("count" : Str) = "fold" := by decide +kernel
theorem k51 : ¬ ("fold" : Str) = "cells" := by decide +kernel
theorem k52 : ¬ ("fold" : Str) = "at" := by decide +kernel
theorem k53 : ¬ ("fold" : Str) = "digits" := by decide +kernel
theorem k54 : ¬ ("fold" : Str) = "count" := by decide +kernel
def kvsP (c : Addr) (a d n f : Int) : List (Key × V) := [(.inr "cells", .ref c), (.inr "at", .int a), (.inr "digits", .int d), (.inr "count", .int n), (.inr "fold", .int f)]
section
variable (c : Addr) (a d n f z : Int)
theorem vCells : valV (kvsP c a d n f) (.inr "cells" : Key) = some (.ref c) := by simp [kvsP, valV, List.find?]
theorem vAt : valV (kvsP c a d n f) (.inr "at" : Key) = some (.int a) := by simp [kvsP, valV, List.find?, k12]
theorem vDigits : valV (kvsP c a d n f) (.inr "digits" : Key) = some (.int d) := by simp [kvsP, valV, List.find?, k13, k23]
theorem vCount : valV (kvsP c a d n f) (.inr "count" : Key) = some (.int n) := by simp [kvsP, valV, List.find?, k14, k24, k34]
theorem vFold : valV (kvsP c a d n f) (.inr "fold" : Key) = some (.int f) := by simp [kvsP, valV, List.find?, k15, k25, k35, k45]
theorem pAt : putK (kvsP c a d n f) (.inr "at" : Key) (.int z) = kvsP c z d n f := by simp [kvsP, putK, k12, k32, k42, k52]
theorem pDigits : putK (kvsP c a d n f) (.inr "digits" : Key) (.int z) = kvsP c a z n f := by simp [kvsP, putK, k13, k23, k43, k53]
theorem pCount : putK (kvsP c a d n f) (.inr "count" : Key) (.int z) = kvsP c a d z f := by simp [kvsP, putK, k14, k24, k34, k54]
theorem pFold : putK (kvsP c a d n f) (.inr "fold" : Key) (.int z) = kvsP c a d n z := by simp [kvsP, putK, k15, k25, k35, k45]
theorem mPen : mergeK [] [((.inr "cells" : Key), V.ref c), (.inr "at", .int a), (.inr "digits", .int d), (.inr "count", .int n), (.inr "fold", .int f)] = kvsP c a d n f := by
  simp [mergeK, kvsP, putK, k12, k13, k14, k15, k23, k24, k25, k34, k35, k45]
end
theorem getS {H : Hp} {a : Addr} {kvs : List (Key × V)} {x : Str} {v : V} (e : H a = some (.dK kvs)) (h : valV kvs (.inr x : Key) = some v) : DGet H a (.str x) (some v) := .inl ⟨kvs, .inr x, .inl e, rfl, h.symm⟩
theorem putS {H : Hp} {a : Addr} {kvs kvs' : List (Key × V)} {x : Str} {v : V} (e : H a = some (.dK kvs)) (hl : kvs.length < sizeLine) (h : putK kvs (.inr x : Key) v = kvs') : DPut H a (.str x) v (upd H a (.dK kvs')) := .inl ⟨kvs, .inr x, e, rfl, hl, by rw [h]⟩
theorem lenP {c : Addr} {a d n f : Int} : (kvsP c a d n f).length < sizeLine := small1000 (by show 5 ≤ 1000; decide)
/-- a pen stands at p, its cells at c, n draws so far -/
def PenAt (H : Hp) (p c : Addr) (n : Nat) : Prop := ∃ (ns : List Int) (a d f : Int), H p = some (.dK (kvsP c a d n f)) ∧ H c = some (.lst (ns.map V.int)) ∧ ns.length ≤ 63 ∧ 0 ≤ a ∧ 0 ≤ d ∧ 0 ≤ f ∧ f < 2147483587
theorem PenAt.ne {H : Hp} {p c : Addr} {n : Nat} (h : PenAt H p c n) : p ≠ c := by
  obtain ⟨ns, a, d, f, hp, hc, _⟩ := h
  exact ne_of hp hc (by intro z; cases z)
theorem PenAt.same {H H' : Hp} {p c : Addr} {n : Nat} (h : PenAt H p c n) (hp : H' p = H p) (hc : H' c = H c) : PenAt H' p c n := by
  obtain ⟨ns, a, d, f, e1, e2, r⟩ := h
  exact ⟨ns, a, d, f, hp.trans e1, hc.trans e2, r⟩
theorem PenAt.some {H : Hp} {p c : Addr} {n : Nat} (h : PenAt H p c n) : (∃ o, H p = some o) ∧ ∃ o, H c = some o := by
  obtain ⟨ns, a, d, f, e1, e2, r⟩ := h
  exact ⟨⟨_, e1⟩, ⟨_, e2⟩⟩
theorem PenAt.ext {H H' : Hp} {p c : Addr} {n : Nat} (h : PenAt H p c n) (s : Same H H') : PenAt H' p c n := by
  obtain ⟨⟨o, e1⟩, o', e2⟩ := h.some
  exact h.same ((s _ _ e1).trans e1.symm) ((s _ _ e2).trans e2.symm)
theorem sqL_pen {K : PySem.W.Frag} {H H' : Hp} {p y : Addr} {xs : List V} {kv : List (Key × V)} (hk : ∀ b, b ≠ p → H' b = H b) (hp : H p = some (.dK kv)) (h : SqL K H y xs) : SqL K H' y xs := by
  rcases h with (h | ⟨ob, h⟩) | h
  · exact .inl (.inl ((hk y (ne_of h hp (by intro z; cases z))).trans h))
  · exact .inl (.inr ⟨ob, (hk y (ne_of h hp (by intro z; cases z))).trans h⟩)
  · exact .inr h
theorem sqT_pen {K : PySem.W.Frag} {H H' : Hp} {p y : Addr} {xs : List V} {kv : List (Key × V)} (hk : ∀ b, b ≠ p → H' b = H b) (hp : H p = some (.dK kv)) (h : SqT K H y xs) : SqT K H' y xs := by
  rcases h with (h | ⟨ob, h⟩) | h
  · exact .inl (.inl ((hk y (ne_of h hp (by intro z; cases z))).trans h))
  · exact .inl (.inr ⟨ob, (hk y (ne_of h hp (by intro z; cases z))).trans h⟩)
  · exact .inr h
theorem ix_or {X : Cx} {r1 r2 : R2} (h1 : IxR X r1) (h2 : IxR X r2) : IxR X (fun x y H Q => r1 x y H Q ∨ r2 x y H Q) := by
  intro val sl pins st σ G x y v u Q J rx ry h hs
  rcases h with h | h
  · exact h1 val sl pins st σ G x y v u Q J rx ry h hs
  · exact h2 val sl pins st σ G x y v u Q J rx ry h hs
def spPen (K : PySem.W.Frag) : Sp := fun vs H Q _ => ∃ (a : Addr) (ns : List Int), vs = [.ref a] ∧ SqL K H a (ns.map V.int) ∧ ns.length ≤ 63 ∧
  ∀ H' p c, Same H H' → H p = none → H c = none → PenAt H' p c 0 → Q (.ref p) H'
def spDraw : Sp := fun vs H Q _ => ∃ (p c : Addr) (n : Nat) (m : Int), vs = [.ref p, .int m] ∧ PenAt H p c n ∧ n < 1000000 ∧ 0 < m ∧ m.natAbs < 2 ^ 200 ∧
  ∀ (r : Int) H', 0 ≤ r → r < m → PenAt H' p c (n + 1) → (∀ b, b ≠ p → H' b = H b) → Q (.int r) H'
def spPick (K : PySem.W.Frag) : Sp := fun vs H Q _ => ∃ (p c q : Addr) (n : Nat) (xs : List V), vs = [.ref p, .ref q] ∧ PenAt H p c n ∧ n < 1000000 ∧ (SqL K H q xs ∨ SqT K H q xs) ∧ xs ≠ [] ∧ xs.length ≤ 1000 ∧
  ∀ (i : Nat) (v : V) H', xs[i]? = some v → PenAt H' p c (n + 1) → (∀ b, b ≠ p → H' b = H b) → Q v H'
section
variable {P : Program} {w : World} {K : PySem.W.Frag} {mg : Str → Option Value} {base : Heap}
theorem ok_pen {f : Addr} {fd : FuncData} {k : Nat} (F : Fun K "_law_pen" "_law_pen" sPen f fd) (mi : mg "int" = none) (ml : mg "list" = none) : FnOk P w K mg base CX0 (k + 1) f fd ["_law_script"] (spPen K) := by
  refine F.ok scPen (fun vs H Q E h => ?_) (fun cdv A outer s H vs Q E hr h => ?_)
  · obtain ⟨a, ns, rfl, _⟩ := h
    rfl
  · obtain ⟨a, ns, rfl, hS, hlen, q⟩ := h
    refine ⟨_, pss_cons (ps_set (i := 1) scPen.nd rfl (.inl rfl) pe_int)
      (pss_cons (ps_for PassesOwn.never rfl (pi_list (pv 0)) (pg_name (i := 2) scPen.nd rfl (.inl rfl))
        (pss_one (ps_set (i := 1) scPen.nd rfl (.inl rfl) (pe_op op_mod (pe_callTy call_int1 (by rfl) mi (by decide +kernel) (pa_cons (pe_op op_add (pe_op op_mul (pv 1) pe_int) (pv 2)) pa_nil)) pe_int))))
      (pss_one (ps_ret (pe_disp (pps_cons pe_str (pe_callTy call_list_of (by rfl) ml (by decide +kernel) (pa_cons (pv 0) pa_nil)) (pps_cons pe_str pe_int (pps_cons pe_str pe_int (pps_cons pe_str pe_int (pps_cons pe_str (pv 1) pps_nil))))) (by rfl) (by rfl) (fun z => by cases z) (by decide))))), ?_⟩
    refine ⟨_, rfl, a, rfl, ⟨_, hS⟩, for_list (K := K) (a := a) (xs := ns.map V.int) (fun i σ H2 => ∃ (g : Int) (v : Option V), σ = [some (.ref a), some (.int g), v] ∧ H2 = H ∧ 0 ≤ g ∧ g < 1000000007)
      ⟨0, none, rfl, rfl, by decide, by decide⟩ (fun i σ H2 _ ⟨_, _, _, e, _⟩ => by rw [e]; exact hS) ?_ ?_⟩
    · rintro i y σ H2 hi ⟨g, v, rfl, rfl, h0, h1⟩
      obtain ⟨z, rfl⟩ : ∃ z, y = V.int z := by
        rw [List.getElem?_map] at hi
        cases e : ns[i]? with
        | none => rw [e] at hi; cases hi
        | some z => rw [e] at hi; exact ⟨z, (Option.some.inj hi).symm⟩
      refine ⟨_, rfl, _, _, rfl, rfl, .inr ⟨by decide, by decide⟩, _, rfl, _, _, rfl, rfl, .inl ⟨_, rfl, _, _, rfl, rfl, (by show (0 : Int) < 1000000007; decide), ?_⟩⟩
      exact ⟨_, _, rfl, rfl, Int.emod_nonneg _ (by decide), Int.emod_lt_of_pos _ (by decide)⟩
    · rintro σ H2 ⟨g, v, rfl, rfl, h0, h1⟩
      intro p np
      refine ⟨.ref a, rfl, a, ns.map V.int, rfl, .inl ?_, fun c nc => ?_⟩
      · exact Same.seq (H := H2) (fun b o e => by rw [upd_ne (ne_of_none e np)]; exact e) hS
      have ncp : c ≠ p := fun e => by rw [e, upd_same] at nc; cases nc
      have nc2 : H2 c = none := by rw [upd_ne ncp] at nc; exact nc
      refine ⟨_, rfl, ?_⟩
      refine ⟨by rw [upd_ne ncp.symm, upd_same], [((.inr "cells" : Key), V.ref c), (.inr "at", .int 0), (.inr "digits", .int 0), (.inr "count", .int 0), (.inr "fold", .int g)], rfl, (by show 5 ≤ 15; decide), ?_⟩
      rw [mPen]
      refine q _ p c (fun b o e => ?_) np nc2 ⟨ns, 0, 0, g, upd_same, ?_, hlen, by decide, by decide, h0, by omega⟩
      · rw [upd_ne (ne_of_none e np), upd_ne (ne_of_none e nc2), upd_ne (ne_of_none e np)]
        exact e
      · rw [upd_ne ncp, upd_same]
theorem ok_draw {f : Addr} {fd : FuncData} {k : Nat} (F : Fun K "_law_draw" "_law_draw" sDraw f fd) (mi : mg "int" = none) (ml : mg "len" = none) : FnOk P w K mg base CX0 (k + 1) f fd ["_law_pen_here", "_law_many"] spDraw := by
  refine F.ok scDraw (fun vs H Q E h => ?_) (fun cdv A outer s H vs Q E hr h => ?_)
  · obtain ⟨p, c, n, m, rfl, _⟩ := h
    rfl
  · obtain ⟨p, c, n, m, rfl, hP, hn, hm, hm9, q⟩ := h
    have hu := hu_of hr
    have hpc := hP.ne
    obtain ⟨ns, a0, d0, f0, hp, hc, hlen, ha, hd, hf0, hf1⟩ := hP
    refine ⟨_, pss_cons (ps_dput hu (pv 0) pe_str (pe_op op_add (pe_dget hu (pv 0) pe_str (fun _ _ => rfl)) pe_int) rfl)
      (C8.pss_cut (ps_if (pw_and (pt_cmpR op_eq (pe_dget hu (pv 0) pe_str (fun _ _ => rfl)) pe_int (nomark _))
            (pw_and1 (pt_cmpR op_lt (pe_dget hu (pv 0) pe_str (fun _ _ => rfl)) (pe_callB call_len_seq (by rfl) ml PySem.boot_len (pa_cons (pe_dget hu (pv 0) pe_str (fun _ _ => rfl)) pa_nil)) (nomark _)))).pt
          (pss_cons (ps_set (i := 2) scDraw.nd rfl (.inl rfl) (pe_ix ix_list (pe_dget hu (pv 0) pe_str (fun _ _ => rfl)) (pe_dget hu (pv 0) pe_str (fun _ _ => rfl)) (fun _ _ => rfl)))
          (pss_cons (ps_dput hu (pv 0) pe_str (pe_op op_add (pe_dget hu (pv 0) pe_str (fun _ _ => rfl)) pe_int) rfl)
          (pss_one (ps_if (pt_cmpR op_ge (pv 2) (pe_op op_pow pe_int pe_int) (nomark _))
            (pss_one (ps_dput hu (pv 0) pe_str (pe_op op_sub (pv 2) (pe_op op_pow pe_int pe_int)) rfl))
            (pss_one (ps_dput hu (pv 0) pe_str (pe_op op_mod (pe_callTy call_int1 (by rfl) mi (by decide +kernel) (pa_cons (pe_op op_add (pe_op op_mul (pe_dget hu (pv 0) pe_str (fun _ _ => rfl)) pe_int) (pv 2)) pa_nil)) pe_int) rfl))))))
          pss_nil)
      (pss_cons (ps_if (pt_cmpR op_gt (pe_dget hu (pv 0) pe_str (fun _ _ => rfl)) pe_int (nomark _))
          (pss_cons (ps_set (i := 3) scDraw.nd rfl (.inl rfl) (pe_op op_mod (pe_callTy call_int1 (by rfl) mi (by decide +kernel) (pa_cons (pe_dget hu (pv 0) pe_str (fun _ _ => rfl)) pa_nil)) (pv 1)))
          (pss_cons (ps_dput hu (pv 0) pe_str (pe_op op_fdivW (pe_dget hu (pv 0) pe_str (fun _ _ => rfl)) (pv 1)) rfl)
          (pss_one (ps_ret (pv 3)))))
          pss_nil)
      (pss_cons (ps_set (i := 4) scDraw.nd rfl (.inl rfl) (pe_op op_add (pe_op op_add (pe_dget hu (pv 0) pe_str (fun _ _ => rfl)) (pe_op op_mul (pe_dget hu (pv 0) pe_str (fun _ _ => rfl)) pe_int)) pe_int))
      (pss_one (ps_ret (pe_op op_mod (pe_op op_fdivW (pe_callTy call_int1 (by rfl) mi (by decide +kernel) (pa_cons (pe_op op_mod (pe_op op_pow (pv 4) pe_int) pe_int) pa_nil)) pe_int) (pv 1))))))), ?_⟩
    -- count
    refine ⟨_, rfl, p, _, rfl, getS hp (vCount ..), _, _, rfl, rfl, _, rfl, p, _, rfl, putS hp lenP (pCount ..), ?_⟩
    have up : ∀ {o : HO}, (upd H p o) p = some o := fun {o} => upd_same
    have uc : ∀ {o : HO}, (upd H p o) c = some (.lst (ns.map V.int)) := fun {o} => by rw [upd_ne hpc.symm]; exact hc
    -- the cell
    refine ⟨fun σ' H' => ∃ (a d g : Int) (v2 : Option V), σ' = [some (.ref p), some (.int m), v2, none, none] ∧ H' = upd H p (.dK (kvsP c a d ((n : Int) + 1) g)) ∧ 0 ≤ a ∧ 0 ≤ d ∧ 0 ≤ g ∧ g < 2147483587, ?_, ?_⟩
    · refine ⟨_, rfl, p, _, rfl, getS up (vDigits ..), rfl, _, rfl, ite2 (fun e1 => ?_) (fun e1 => ?_)⟩
      · refine ⟨_, rfl, p, _, rfl, getS up (vAt ..), _, rfl, p, _, rfl, getS up (vCells ..), c, _, rfl, .inl (SqL.of uc), _, _, rfl, rfl, _, rfl, ite2 (fun e2 => ?_) (fun e2 => ?_)⟩
        · have e2' : a0 < (ns.length : Int) := by
            have z := of_decide_eq_true e2
            rw [List.length_map] at z
            exact z
          have hat : (ns.map V.int)[a0.toNat]? = some (V.int (ns[a0.toNat]'(by omega))) := by
            rw [List.getElem?_map, List.getElem?_eq_getElem (by omega)]
            rfl
          refine ⟨_, rfl, p, _, rfl, getS up (vCells ..), _, rfl, p, _, rfl, getS up (vAt ..), c, _, _, _, rfl, rfl, SqL.of uc, at_of (by omega) hat, ?_⟩
          refine ⟨_, rfl, p, _, rfl, getS up (vAt ..), _, _, rfl, rfl, _, rfl, p, _, rfl, putS up lenP (pAt ..), ?_⟩
          rw [upd_upd]
          refine ⟨_, rfl, _, _, rfl, rfl, ⟨by decide, by decide, by decide⟩, _, _, rfl, rfl, _, rfl, ite2 (fun e3 => ?_) (fun e3 => ?_)⟩
          · refine ⟨_, rfl, _, _, rfl, rfl, ⟨by decide, by decide, by decide⟩, _, _, rfl, rfl, _, rfl, p, _, rfl, putS up lenP (pDigits ..), ?_⟩
            rw [upd_upd]
            have e3' := of_decide_eq_true e3
            exact ⟨_, _, _, _, rfl, rfl, by omega, by omega, hf0, hf1⟩
          · refine ⟨_, rfl, p, _, rfl, getS up (vFold ..), _, _, rfl, rfl, .inr ⟨by decide, by decide⟩, _, rfl, _, _, rfl, rfl, .inl ⟨_, rfl, _, _, rfl, rfl, (by show (0 : Int) < 2147483587; decide), _, rfl, p, _, rfl, putS up lenP (pFold ..), ?_⟩⟩
            rw [upd_upd]
            exact ⟨_, _, _, _, rfl, rfl, by omega, hd, Int.emod_nonneg _ (by decide), Int.emod_lt_of_pos _ (by decide)⟩
        · exact ⟨_, _, _, _, rfl, rfl, ha, hd, hf0, hf1⟩
      · refine iteF ?_
        exact ⟨_, _, _, _, rfl, rfl, ha, hd, hf0, hf1⟩
    · rintro σ' H' ⟨a, d, g, v2, rfl, rfl, ha', hd', hg0, hg1⟩
      have fin : ∀ (r a d g : Int), 0 ≤ r → r < m → 0 ≤ a → 0 ≤ d → 0 ≤ g → g < 2147483587 → Q (.int r) (upd H p (.dK (kvsP c a d ((n : Int) + 1) g))) := fun r a d g r0 r1 a0 d0 g0 g1 =>
        q r _ r0 r1 ⟨ns, a, d, g, up, uc, hlen, a0, d0, g0, g1⟩ fun b hb => upd_ne hb
      refine ⟨_, rfl, p, _, rfl, getS up (vDigits ..), _, _, rfl, rfl, _, rfl, ite2 (fun e1 => ?_) (fun e1 => ?_)⟩
      · refine ⟨_, rfl, p, _, rfl, getS up (vDigits ..), .inl ⟨_, rfl, _, rfl, _, _, rfl, rfl, hm, ?_⟩⟩
        refine ⟨_, rfl, p, _, rfl, getS up (vDigits ..), _, rfl, _, _, rfl, rfl, wide_div hm hm9 (by decide) (by decide), _, rfl, p, _, rfl, putS up lenP (pDigits ..), ?_⟩
        rw [upd_upd]
        refine ⟨_, rfl, ?_⟩
        exact fin _ _ _ _ (Int.emod_nonneg _ (by omega)) (Int.emod_lt_of_pos _ hm) ha' (Int.ediv_nonneg hd' (by omega)) hg0 hg1
      · refine ⟨_, rfl, p, _, rfl, getS up (vFold ..), _, rfl, p, _, rfl, getS up (vCount ..), _, _, rfl, rfl, .inr ⟨by decide, by decide⟩, _, _, rfl, rfl, _, _, rfl, rfl, ?_⟩
        refine ⟨_, rfl, _, _, rfl, rfl, ⟨by decide, by decide, ?_⟩, _, _, rfl, rfl, (by show (0 : Int) < 2305843009213693951; decide), .inl ⟨_, rfl, _, _, rfl, rfl, wide_div (b := 200) (by decide) (by decide) (by decide) (by decide), _, rfl, _, _, rfl, rfl, hm, ?_⟩⟩
        · omega
        · exact fin _ _ _ _ (Int.emod_nonneg _ (by omega)) (Int.emod_lt_of_pos _ hm) ha' hd' hg0 hg1
theorem ok_pick {f fD : Addr} {fd fdD : FuncData} {k : Nat} (F : Fun K "_law_pick" "_law_pick" sPick f fd) (FD : Fun K "_law_draw" "_law_draw" sDraw fD fdD) (bD : Binds K fdD ["_law_pen_here", "_law_many"] []) (gD : mg "_law_draw" = some (.ref fD)) (mi : mg "int" = none) (ml : mg "len" = none) :
    FnOk P w K mg base CX0 (k + 2) f fd ["_law_pen_here", "_law_some"] (spPick K) := by
  have GD : FnOk P w K mg base CX0 (k + 1) fD fdD ["_law_pen_here", "_law_many"] spDraw := ok_draw FD mi ml
  refine F.ok scPick (fun vs H Q E h => ?_) (fun cdv A outer s H vs Q E hr h => ?_)
  · obtain ⟨p, c, y, n, xs, rfl, _⟩ := h
    rfl
  · obtain ⟨p, c, y, n, xs, rfl, hP, hn, hS, h0, hl, q⟩ := h
    refine ⟨_, pss_one (ps_ret (pe_ix (ix_or ix_list ix_tup) (pv 1) (pe_call GD hr (by rfl) gD FD.kp bD .nil pass0 (pa_cons (pv 0) (pa_cons (pe_callB call_len_seq (by rfl) ml PySem.boot_len (pa_cons (pv 1) pa_nil)) pa_nil))) (fun _ _ => rfl))), ?_⟩
    have hpos : 0 < xs.length := List.length_pos_iff.mpr h0
    refine ⟨_, rfl, _, rfl, _, rfl, y, xs, rfl, hS, p, c, n, _, rfl, hP, hn, by omega, ?_, fun r H' r0 r1 hP' hk => ?_⟩
    · have e : (xs.length : Int).natAbs = xs.length := by omega
      rw [e]
      exact Nat.lt_of_le_of_lt hl (by decide)
    · obtain ⟨j, rfl⟩ : ∃ j : Nat, r = (j : Int) := ⟨r.toNat, by omega⟩
      have hj : j < xs.length := by omega
      have hx : xs[j]? = some xs[j] := List.getElem?_eq_getElem hj
      obtain ⟨ns, a0, d0, f0, ep, _⟩ := hP
      rcases hS with hS | hS
      · exact .inl ⟨y, xs, _, _, rfl, rfl, sqL_pen hk ep hS, atI_nat hx, q j _ H' hx hP' hk⟩
      · exact .inr ⟨y, xs, _, _, rfl, rfl, sqT_pen hk ep hS, atI_nat hx, q j _ H' hx hP' hk⟩
end
end KQ

namespace KQ
open PySem PySem.Spec PyProof.Rows L2
/-! ### texts as lists of signs -/
abbrev mS (L : List Nat) : Str := ⟨L.toArray⟩
theorem mS_len (L : List Nat) : (mS L).length = L.length := by simp [Str.length]
theorem mS_inj {L M : List Nat} (h : mS L = mS M) : L = M := by
  have := congrArg (fun x : Str => x.cps.toList) h
  simpa using this
theorem mS_app (L M : List Nat) : mS L ++ mS M = mS (L ++ M) := by
  show Str.mk (L.toArray ++ M.toArray) = _
  simp
theorem mS_eta (x : Str) : x = mS x.cps.toList := by
  show x = Str.mk x.cps.toList.toArray
  simp
theorem mS_of {x : Str} {L : List Nat} (h : x.cps.toList = L) : x = mS L := by rw [mS_eta x, h]
theorem mS_cut (L : List Nat) (lo hi : Option Int) : cutS (mS L) lo hi = mS ((L.drop (HT.sIx L.length 0 lo)).take (HT.sIx L.length L.length hi - HT.sIx L.length 0 lo)) := by
  unfold cutS
  rw [mS_len]
theorem cut_from (L : List Nat) (k : Nat) : cutS (mS L) (some (k : Int)) none = mS (L.drop k) := by
  rw [mS_cut, HT.sIx_nat, HT.sIx_none]
  by_cases h : k ≤ L.length
  · rw [Nat.min_eq_left h, List.take_of_length_le (by simp)]
  · rw [Nat.min_eq_right (by omega), List.drop_of_length_le (Nat.le_refl _), List.drop_of_length_le (by omega)]
    simp
theorem cut_to (L : List Nat) (k : Nat) : cutS (mS L) none (some (k : Int)) = mS (L.take k) := by
  rw [mS_cut, HT.sIx_nat, HT.sIx_none, List.drop_zero, Nat.sub_zero]
  by_cases h : k ≤ L.length
  · rw [Nat.min_eq_left h]
  · rw [Nat.min_eq_right (by omega), List.take_of_length_le (Nat.le_refl _), List.take_of_length_le (by omega)]
theorem cut_mid (L : List Nat) (k : Nat) : cutS (mS L) (some (k : Int)) (some ((k : Int) + 1)) = mS (L.drop k |>.take 1) := by
  have e : ((k : Int) + 1) = ((k + 1 : Nat) : Int) := by omega
  rw [e, mS_cut, HT.sIx_nat, HT.sIx_nat]
  by_cases h : k + 1 ≤ L.length
  · rw [Nat.min_eq_left h, Nat.min_eq_left (by omega)]
    congr 2
    omega
  · rw [Nat.min_eq_right (by omega), Nat.min_eq_right (by omega), List.drop_of_length_le (Nat.le_refl _), List.drop_of_length_le (by omega)]
    simp
theorem sw_one (L : List Nat) (c : Nat) : Txt.startswith (mS L) ⟨#[c]⟩ = decide (L.head? = some c) := by
  cases L with
  | nil => rfl
  | cons a L =>
    unfold Txt.startswith Builtin.Str.subAt
    show (decide (0 + 1 ≤ (mS (a :: L)).length) && ((a :: L).toArray.extract 0 (0 + 1) == #[c])) = _
    rw [mS_len]
    by_cases h : a = c
    · subst h
      simp
    · have : ¬ (some a = some c) := fun e => h (Option.some.inj e)
      simp [h]
theorem drop_take {p : Nat → Bool} (L : List Nat) : L.drop (L.takeWhile p).length = L.dropWhile p := by
  have h := List.takeWhile_append_dropWhile (p := p) (l := L)
  have h2 : (L.takeWhile p ++ L.dropWhile p).drop (L.takeWhile p).length = L.dropWhile p := List.drop_left
  rw [h] at h2
  exact h2
theorem lstrip_eq (L S : List Nat) : Txt.lstripChars (mS L) (mS S) = mS (L.dropWhile S.toArray.contains) := by
  have key : Builtin.Str.strSub (mS L) (L.takeWhile S.toArray.contains).length L.length = mS (L.dropWhile S.toArray.contains) := by
    refine mS_of ?_
    rw [PySem.StrLaws.strSub_toList]
    show ((L.drop _).take _) = _
    rw [drop_take, List.take_of_length_le]
    have h := congrArg List.length (List.takeWhile_append_dropWhile (p := S.toArray.contains) (l := L))
    rw [List.length_append] at h
    omega
  unfold Txt.lstripChars Txt.stripBy
  split
  · rename_i h
    have h0 : (L.takeWhile S.toArray.contains).length = 0 := by
      exact eq_of_beq ((Bool.and_eq_true _ _).mp h).1
    rw [← drop_take, h0, List.drop_zero]
  · show Builtin.Str.strSub (mS L) _ (mS L).length = _
    rw [mS_len]
    exact key
theorem strike (L : List Nat) (c : Nat) : Txt.replace (mS L) ⟨#[c]⟩ ⟨#[]⟩ = mS (L.filter (· != c)) := mS_of (by rw [replace_strikes])
/-! ### the letters and their bits -/
def isL (c : Nat) : Bool := (#[73, 88, 89, 90] : Array Nat).contains c
theorem isL_iff {c : Nat} : isL c = true ↔ c = 73 ∨ c = 88 ∨ c = 89 ∨ c = 90 := by
  unfold isL
  simp
def lx (c : Nat) : Nat := if c = 88 ∨ c = 89 then 1 else 0
def lz (c : Nat) : Nat := if c = 90 ∨ c = 89 then 1 else 0
def bv (f : Nat → Nat) : List Nat → Nat
  | [] => 0
  | c :: L => f c + 2 * bv f L
theorem bv_app (f : Nat → Nat) : ∀ (L : List Nat) (c : Nat), bv f (L ++ [c]) = bv f L + 2 ^ L.length * f c
  | [], c => by simp [bv]
  | a :: L, c => by
    show f a + 2 * bv f (L ++ [c]) = f a + 2 * bv f L + 2 ^ (L.length + 1) * f c
    rw [bv_app f L c, Nat.pow_succ, Nat.mul_add, Nat.add_assoc, Nat.mul_comm (2 ^ L.length) 2, Nat.mul_assoc]
theorem bv_take (f : Nat → Nat) {L : List Nat} {k c : Nat} (h : L[k]? = some c) : bv f (L.take (k + 1)) = bv f (L.take k) + 2 ^ k * f c := by
  have hk : k < L.length := by
    rcases Nat.lt_or_ge k L.length with h' | h'
    · exact h'
    · rw [List.getElem?_eq_none h'] at h; cases h
  have e : L.take (k + 1) = L.take k ++ [c] := by
    rw [List.take_succ, h]
    rfl
  rw [e, bv_app, List.length_take, Nat.min_eq_left (by omega)]
theorem bv_bit {f : Nat → Nat} (hf : ∀ c, f c < 2) : ∀ {L : List Nat} {k c : Nat}, L[k]? = some c → bv f L / 2 ^ k % 2 = f c
  | [], k, c, h => by simp at h
  | a :: L, 0, c, h => by
    have e : a = c := by simpa using h
    subst e
    have := hf a
    show (f a + 2 * bv f L) / 2 ^ 0 % 2 = f a
    rw [Nat.pow_zero, Nat.div_one]
    omega
  | a :: L, k + 1, c, h => by
    have h' : L[k]? = some c := by simpa using h
    have := hf a
    show (f a + 2 * bv f L) / 2 ^ (k + 1) % 2 = f c
    rw [Nat.pow_succ, Nat.mul_comm (2 ^ k) 2, ← Nat.div_div_eq_div_mul, show (f a + 2 * bv f L) / 2 = bv f L from by omega]
    exact bv_bit hf h'
theorem bv_lt {f : Nat → Nat} (hf : ∀ c, f c < 2) : ∀ L : List Nat, bv f L < 2 ^ L.length
  | [] => Nat.one_pos
  | a :: L => by
    have := bv_lt hf L
    have := hf a
    show f a + 2 * bv f L < 2 ^ (L.length + 1)
    rw [Nat.pow_succ]
    omega
theorem lx_lt (c : Nat) : lx c < 2 := by unfold lx; split <;> omega
theorem lz_lt (c : Nat) : lz c < 2 := by unfold lz; split <;> omega
theorem letter_back {c : Nat} (h : isL c = true) : ([73, 88, 90, 89] : List Nat)[lx c + 2 * lz c]? = some c := by
  rcases isL_iff.mp h with rfl | rfl | rfl | rfl <;> decide
/-! ### counting ones -/
def pc (n : Nat) : Nat := if h : n = 0 then 0 else n % 2 + pc (n / 2)
termination_by n
decreasing_by omega
theorem pc_zero : pc 0 = 0 := by unfold pc; rfl
theorem pc_two (m b : Nat) (hb : b < 2) : pc (2 * m + b) = b + pc m := by
  by_cases h : 2 * m + b = 0
  · have h1 : m = 0 := by omega
    have h2 : b = 0 := by omega
    subst h1 h2
    rw [pc_zero]
  · rw [pc, dif_neg h, show (2 * m + b) % 2 = b from by omega, show (2 * m + b) / 2 = m from by omega]
theorem and_two (a b i j : Nat) (hi : i < 2) (hj : j < 2) : (2 * a + i) &&& (2 * b + j) = 2 * (a &&& b) + (i &&& j) := by
  have h1 : ((2 * a + i) &&& (2 * b + j)) / 2 = a &&& b := by
    rw [Nat.and_div_two, show (2 * a + i) / 2 = a from by omega, show (2 * b + j) / 2 = b from by omega]
  have h2 : ((2 * a + i) &&& (2 * b + j)) % 2 = i &&& j := by
    have := Nat.and_mod_two_pow (a := 2 * a + i) (b := 2 * b + j) (n := 1)
    rw [Nat.pow_one] at this
    rw [this, show (2 * a + i) % 2 = i from by omega, show (2 * b + j) % 2 = j from by omega]
  omega
theorem or_two (a b i j : Nat) (hi : i < 2) (hj : j < 2) : (2 * a + i) ||| (2 * b + j) = 2 * (a ||| b) + (i ||| j) := by
  have h1 : ((2 * a + i) ||| (2 * b + j)) / 2 = a ||| b := by
    rw [Nat.or_div_two, show (2 * a + i) / 2 = a from by omega, show (2 * b + j) / 2 = b from by omega]
  have h2 : ((2 * a + i) ||| (2 * b + j)) % 2 = i ||| j := by
    have := Nat.or_mod_two_pow (a := 2 * a + i) (b := 2 * b + j) (n := 1)
    rw [Nat.pow_one] at this
    rw [this, show (2 * a + i) % 2 = i from by omega, show (2 * b + j) % 2 = j from by omega]
  omega
theorem pc_step : ∀ (n : Nat), 0 < n → pc (n &&& (n - 1)) + 1 = pc n := by
  intro n
  induction n using Nat.strongRecOn with
  | ind n ih =>
    intro hn
    by_cases h : n % 2 = 1
    · have e : n = 2 * (n / 2) + 1 := by omega
      have e2 : n - 1 = 2 * (n / 2) + 0 := by omega
      have e3 : n &&& (n - 1) = 2 * (n / 2) + 0 := by
        rw [e2]
        conv => lhs; lhs; rw [e]
        rw [and_two _ _ _ _ (by decide) (by decide), Nat.and_self]
        rfl
      rw [e3, pc_two _ _ (by decide)]
      conv => rhs; rw [e]
      rw [pc_two _ _ (by decide)]
      omega
    · have e : n = 2 * (n / 2) + 0 := by omega
      have e2 : n - 1 = 2 * (n / 2 - 1) + 1 := by omega
      have e3 : n &&& (n - 1) = 2 * (n / 2 &&& (n / 2 - 1)) + 0 := by
        rw [e2]
        conv => lhs; lhs; rw [e]
        rw [and_two _ _ _ _ (by decide) (by decide)]
        rfl
      have := ih (n / 2) (by omega) (by omega)
      rw [e3, pc_two _ _ (by decide)]
      conv => rhs; rw [e]
      rw [pc_two _ _ (by decide)]
      omega
def wt (L : List Nat) : Nat := L.length - L.count 73
theorem pc_or : ∀ {L : List Nat}, (∀ c ∈ L, isL c = true) → pc (bv lx L ||| bv lz L) + L.count 73 = L.length
  | [], _ => by
    show pc (0 ||| 0) + 0 = 0
    rw [show (0 ||| 0 : Nat) = 0 from rfl, pc_zero]
  | c :: L, h => by
    have ih := pc_or fun d hd => h d (List.mem_cons_of_mem _ hd)
    show pc ((lx c + 2 * bv lx L) ||| (lz c + 2 * bv lz L)) + (c :: L).count 73 = L.length + 1
    rw [Nat.add_comm (lx c), Nat.add_comm (lz c), or_two _ _ _ _ (lx_lt c) (lz_lt c), List.count_cons]
    have hc := isL_iff.mp (h c List.mem_cons_self)
    have two : (lx c ||| lz c) < 2 ∧ (lx c ||| lz c) + (if c == 73 then 1 else 0) = 1 := by
      rcases hc with rfl | rfl | rfl | rfl <;> decide
    rw [pc_two _ _ two.1]
    omega
theorem pc_wt {L : List Nat} (h : ∀ c ∈ L, isL c = true) : pc (bv lx L ||| bv lz L) = wt L := by
  have := pc_or h
  unfold wt
  omega
/-! ### a text's parts -/
def st1 (B : List Nat) : Nat := if B.head? = some 43 ∨ B.head? = some 45 then 1 else 0
def start (B : List Nat) : Nat := st1 B + (if (B.drop (st1 B)).head? = some 105 then 1 else 0)
def rest (B : List Nat) : List Nat := B.drop (start B)
def fine (B : List Nat) : Prop := (rest B).dropWhile isL = [] ∧ rest B ≠ []
instance (B : List Nat) : Decidable (fine B) := inferInstanceAs (Decidable (_ ∧ _))
def col (B : List Nat) : Nat := if fine B then 0 else B.length - ((rest B).dropWhile isL).length + 1
def ph (B : List Nat) : Nat := (if B.head? = some 45 then 2 else 0) + (if (B.drop (st1 B)).head? = some 105 then 1 else 0)
def headL : Nat → List Nat
  | 0 => []
  | 1 => [105]
  | 2 => [45]
  | _ => [45, 105]
theorem ph_lt (B : List Nat) : ph B < 4 := by
  unfold ph
  split <;> split <;> omega
theorem head_of (B : List Nat) : (B.take (start B)).filter (· != 43) = headL (ph B) := by
  cases B with
  | nil => rfl
  | cons a B =>
    unfold start ph
    by_cases h1 : a = 43
    · subst h1
      have e : st1 (43 :: B) = 1 := rfl
      rw [e]
      cases B with
      | nil => rfl
      | cons b B =>
        by_cases h2 : b = 105
        · subst h2
          rfl
        · have e2 : ((43 :: b :: B).drop 1).head? ≠ some 105 := fun z => h2 (Option.some.inj z)
          rw [if_neg e2, if_neg (by simp : ¬ ((43 :: b :: B).head? = some 45))]
          rfl
    · by_cases h3 : a = 45
      · subst h3
        have e : st1 (45 :: B) = 1 := rfl
        rw [e]
        cases B with
        | nil => rfl
        | cons b B =>
          by_cases h2 : b = 105
          · subst h2
            rfl
          · have e2 : ((45 :: b :: B).drop 1).head? ≠ some 105 := fun z => h2 (Option.some.inj z)
            rw [if_neg e2]
            rfl
      · have e : st1 (a :: B) = 0 := by
          unfold st1
          rw [if_neg]
          rintro (z | z)
          · exact h1 (Option.some.inj z)
          · exact h3 (Option.some.inj z)
        have e3 : ¬ ((a :: B).head? = some 45) := fun z => h3 (Option.some.inj z)
        rw [e, if_neg e3]
        by_cases h2 : a = 105
        · subst h2
          rfl
        · have e2 : ¬ (((a :: B).drop 0).head? = some 105) := fun z => h2 (Option.some.inj z)
          rw [if_neg e2]
          rfl
theorem start_le (B : List Nat) : start B ≤ B.length := by
  unfold start
  cases B with
  | nil => decide
  | cons a B =>
    have h1 : st1 (a :: B) ≤ 1 := by unfold st1; split <;> omega
    split
    · rename_i h
      have : st1 (a :: B) < (a :: B).length := by
        rcases Nat.lt_or_ge (st1 (a :: B)) (a :: B).length with z | z
        · exact z
        · rw [List.drop_of_length_le z] at h
          cases h
      omega
    · show _ ≤ B.length + 1
      omega
theorem dw_all : ∀ {L : List Nat}, (∀ c ∈ L, isL c = true) → L.dropWhile isL = []
  | [], _ => rfl
  | c :: L, h => by
    rw [List.dropWhile_cons_of_pos (h c List.mem_cons_self)]
    exact dw_all fun d hd => h d (List.mem_cons_of_mem _ hd)
/-- a head before letters -/
theorem read_head {L : List Nat} (hL : ∀ c ∈ L, isL c = true) (h0 : L ≠ []) (i : Nat) (T : List Nat) (p : Nat) (hT : ([([], 0), ([43], 0), ([45], 2), ([105], 1), ([43, 105], 1), ([45, 105], 3)] : List (List Nat × Nat))[i]? = some (T, p)) :
    rest (T ++ L) = L ∧ ph (T ++ L) = p ∧ fine (T ++ L) := by
  have hd : ∃ a M, L = a :: M ∧ a ≠ 43 ∧ a ≠ 45 ∧ a ≠ 105 := by
    cases L with
    | nil => exact absurd rfl h0
    | cons a M =>
      refine ⟨a, M, rfl, ?_, ?_, ?_⟩ <;> rintro rfl <;> have := isL_iff.mp (hL _ List.mem_cons_self) <;> omega
  obtain ⟨a, M, rfl, n1, n2, n3⟩ := hd
  have dw : (a :: M).dropWhile isL = [] := by
    exact dw_all hL
  have go : ∀ T p, start (T ++ (a :: M)) = T.length → ph (T ++ (a :: M)) = p → rest (T ++ (a :: M)) = a :: M ∧ ph (T ++ (a :: M)) = p ∧ fine (T ++ (a :: M)) := by
    intro T p hs hp
    have hr : rest (T ++ (a :: M)) = a :: M := by
      unfold rest
      rw [hs]
      exact List.drop_left
    refine ⟨hr, hp, ?_⟩
    unfold fine
    rw [hr]
    exact ⟨dw, by simp⟩
  have s1 : ∀ x : Nat, x ≠ 43 → x ≠ 45 → ∀ M, st1 (x :: M) = 0 := by
    intro x h1 h2 M
    unfold st1
    rw [if_neg]
    rintro (z | z)
    · exact h1 (Option.some.inj z)
    · exact h2 (Option.some.inj z)
  have no : ∀ M : List Nat, ¬ ((a :: M).head? = some 105) := fun M z => n3 (Option.some.inj z)
  match i, hT with
  | 0, e =>
    cases e
    refine go [] 0 ?_ ?_
    · show st1 (a :: M) + (if ((a :: M).drop (st1 (a :: M))).head? = some 105 then 1 else 0) = 0
      rw [s1 a n1 n2, List.drop_zero, if_neg (no M)]
    · have n4 : ¬ ((a :: M).head? = some 45) := fun z => n2 (Option.some.inj z)
      show (if (a :: M).head? = some 45 then 2 else 0) + (if ((a :: M).drop (st1 (a :: M))).head? = some 105 then 1 else 0) = 0
      rw [s1 a n1 n2, if_neg n4, List.drop_zero, if_neg (no M)]
  | 1, e =>
    cases e
    refine go [43] 0 ?_ ?_
    · show 1 + (if (a :: M).head? = some 105 then 1 else 0) = 1
      rw [if_neg (no M)]
    · show 0 + (if (a :: M).head? = some 105 then 1 else 0) = 0
      rw [if_neg (no M)]
  | 2, e =>
    cases e
    refine go [45] 2 ?_ ?_
    · show 1 + (if (a :: M).head? = some 105 then 1 else 0) = 1
      rw [if_neg (no M)]
    · show 2 + (if (a :: M).head? = some 105 then 1 else 0) = 2
      rw [if_neg (no M)]
  | 3, e =>
    cases e
    exact go [105] 1 rfl rfl
  | 4, e =>
    cases e
    exact go [43, 105] 1 rfl rfl
  | 5, e =>
    cases e
    exact go [45, 105] 3 rfl rfl
theorem col_zero {B : List Nat} : col B = 0 ↔ fine B := by
  unfold col
  split
  · exact ⟨fun _ => by assumption, fun _ => rfl⟩
  · exact ⟨fun z => by omega, fun z => absurd z (by assumption)⟩
theorem len_split (B : List Nat) : B.length = start B + ((rest B).takeWhile isL).length + ((rest B).dropWhile isL).length := by
  have h := congrArg List.length (List.takeWhile_append_dropWhile (p := isL) (l := rest B))
  rw [List.length_append] at h
  have h2 : (rest B).length = B.length - start B := List.length_drop
  have := start_le B
  omega
end KQ

namespace KQ
/-! ### words: places, terms, the first wrong sign -/
def dec (p : Nat) : List Nat := if p < 10 then [48 + p] else [48 + p / 10, 48 + p % 10]
def begs (l n : Nat) (ds : List Nat) : Bool := (List.range n).any fun p => decide (l ≤ p) && ((dec p).take ds.length == ds)
theorem begs_iff {l n : Nat} {ds : List Nat} : begs l n ds = true ↔ ∃ p, l ≤ p ∧ p < n ∧ (dec p).take ds.length = ds := by
  unfold begs
  rw [List.any_eq_true]
  constructor
  · rintro ⟨p, hp, h⟩
    rw [Bool.and_eq_true] at h
    exact ⟨p, of_decide_eq_true h.1, List.mem_range.mp hp, eq_of_beq h.2⟩
  · rintro ⟨p, h1, h2, h3⟩
    refine ⟨p, List.mem_range.mpr h2, ?_⟩
    rw [Bool.and_eq_true]
    exact ⟨decide_eq_true h1, by rw [h3]; exact beq_self_eq_true _⟩
/-- the place that these digits tell -/
def plc (l n : Nat) (ds : List Nat) : Option Nat := (List.range n).find? fun p => decide (l ≤ p) && (dec p == ds)
theorem dec_inj {p q : Nat} (hp : p < 100) (hq : q < 100) (h : dec p = dec q) : p = q := by
  unfold dec at h
  split at h <;> split at h <;> simp at h <;> omega
theorem plc_some {l n p : Nat} {ds : List Nat} (h : plc l n ds = some p) : l ≤ p ∧ p < n ∧ dec p = ds := by
  have h1 := List.find?_some h
  have h2 := List.mem_of_find?_eq_some h
  rw [Bool.and_eq_true] at h1
  exact ⟨of_decide_eq_true h1.1, List.mem_range.mp h2, eq_of_beq h1.2⟩
theorem plc_none {l n : Nat} {ds : List Nat} (h : plc l n ds = none) : ∀ p, l ≤ p → p < n → dec p ≠ ds := by
  intro p h1 h2 h3
  have := List.find?_eq_none.mp h p (List.mem_range.mpr h2)
  apply this
  rw [Bool.and_eq_true]
  exact ⟨decide_eq_true h1, by rw [h3]; exact beq_self_eq_true _⟩
theorem plc_dec {l n p : Nat} (hn : n ≤ 100) (h1 : l ≤ p) (h2 : p < n) : plc l n (dec p) = some p := by
  cases h : plc l n (dec p) with
  | none => exact absurd rfl (plc_none h p h1 h2)
  | some q =>
    obtain ⟨_, b, c⟩ := plc_some h
    rw [dec_inj (by omega) (by omega) c]
/-- the digits that are read -/
def dg (l n : Nat) (R : List Nat) : List Nat :=
  if 1 ≤ R.length ∧ begs l n (R.take 1) = true then (if 2 ≤ R.length ∧ begs l n (R.take 2) = true then R.take 2 else R.take 1) else []
def isXYZ (c : Nat) : Prop := c = 88 ∨ c = 89 ∨ c = 90
instance (c : Nat) : Decidable (isXYZ c) := by unfold isXYZ; infer_instance
/-- terms from a place on: the column that is wrong (0 for none), and what is told -/
def rd (n : Nat) : Nat → Nat → List Nat → Nat → Nat × List (Nat × Nat)
  | 0, _, _, i => (i + 1, [])
  | _ + 1, _, [], i => (i + 1, [])
  | k + 1, l, c :: R1, i => if isXYZ c then
      match plc l n (dg l n R1) with
      | none => (i + 1 + (dg l n R1).length + 1, [])
      | some p => match R1.drop (dg l n R1).length with
        | [] => (0, [(c, p)])
        | s :: R3 => if s = 42 ∧ p + 1 < n then ((rd n k (p + 1) R3 (i + 1 + (dg l n R1).length + 1)).1, (c, p) :: (rd n k (p + 1) R3 (i + 1 + (dg l n R1).length + 1)).2) else (i + 1 + (dg l n R1).length + 1, [])
    else (i + 1, [])
def hd1 (B : List Nat) : Nat := if B.head? = some 45 then 1 else 0
def colW (n : Nat) (B : List Nat) : Nat × List (Nat × Nat) :=
  if (B.drop (hd1 B)).head? = some 73 then (if B.length = hd1 B + 1 then (0, []) else (hd1 B + 2, [])) else rd n n 0 (B.drop (hd1 B)) (hd1 B)
section
variable {n k l i c : Nat} {R : List Nat}
theorem rd_no (h : ∀ c, R.head? = some c → ¬ isXYZ c) : rd n k l R i = (i + 1, []) := by
  cases k with
  | zero => rfl
  | succ k =>
    cases R with
    | nil => rfl
    | cons c R1 => rw [rd, if_neg (h c rfl)]
theorem rd_bad {R1 : List Nat} (hc : isXYZ c) (hp : plc l n (dg l n R1) = none) : rd n (k + 1) l (c :: R1) i = (i + 1 + (dg l n R1).length + 1, []) := by
  rw [rd, if_pos hc, hp]
theorem rd_end {R1 : List Nat} {p : Nat} (hc : isXYZ c) (hp : plc l n (dg l n R1) = some p) (he : R1.drop (dg l n R1).length = []) : rd n (k + 1) l (c :: R1) i = (0, [(c, p)]) := by
  rw [rd, if_pos hc, hp]
  simp only [he]
theorem rd_stop {R1 R3 : List Nat} {p s : Nat} (hc : isXYZ c) (hp : plc l n (dg l n R1) = some p) (he : R1.drop (dg l n R1).length = s :: R3) (hs : ¬ (s = 42 ∧ p + 1 < n)) : rd n (k + 1) l (c :: R1) i = (i + 1 + (dg l n R1).length + 1, []) := by
  rw [rd, if_pos hc, hp]
  simp only [he]
  rw [if_neg hs]
theorem rd_go {R1 R3 : List Nat} {p s : Nat} (hc : isXYZ c) (hp : plc l n (dg l n R1) = some p) (he : R1.drop (dg l n R1).length = s :: R3) (hs : s = 42 ∧ p + 1 < n) :
    rd n (k + 1) l (c :: R1) i = ((rd n k (p + 1) R3 (i + 1 + (dg l n R1).length + 1)).1, (c, p) :: (rd n k (p + 1) R3 (i + 1 + (dg l n R1).length + 1)).2) := by
  rw [rd, if_pos hc, hp]
  simp only [he]
  rw [if_pos hs]
end
/-! ### the longest beginning of some word -/
def IsCol (S : List Nat → Prop) (B : List Nat) (c : Nat) : Prop := (S B ∧ c = 0) ∨ (¬ S B ∧ ∃ m, c = m + 1 ∧ m ≤ B.length ∧ (∃ w, S w ∧ w.take m = B.take m) ∧ ∀ m', m < m' → m' ≤ B.length → ¬ ∃ w, S w ∧ w.take m' = B.take m')
section
variable {S T : List Nat → Prop} {B : List Nat} {a c : Nat}
theorem IsCol.uniq {c' : Nat} (h : IsCol S B c) (h' : IsCol S B c') : c = c' := by
  rcases h with ⟨s, e⟩ | ⟨ns, m, e, le, b, u⟩ <;> rcases h' with ⟨s', e'⟩ | ⟨ns', m', e', le', b', u'⟩
  · omega
  · exact absurd s ns'
  · exact absurd s' ns
  · have : m = m' := by
      rcases Nat.lt_trichotomy m m' with h | h | h
      · exact absurd b' (u m' h le')
      · exact h
      · exact absurd b (u' m h le)
    omega
theorem IsCol.nil0 (h : S []) : IsCol S [] 0 := .inl ⟨h, rfl⟩
theorem IsCol.nil1 (h : ¬ S []) (e : ∃ w, S w) : IsCol S [] 1 := by
  obtain ⟨w, hw⟩ := e
  exact .inr ⟨h, 0, rfl, Nat.le_refl _, ⟨w, hw, rfl⟩, fun m' h1 h2 => absurd h2 (by simp; omega)⟩
theorem IsCol.none (e : ∃ w, S w) (h : ∀ w, ¬ S (a :: w)) : IsCol S (a :: B) 1 := by
  obtain ⟨w, hw⟩ := e
  refine .inr ⟨h B, 0, rfl, Nat.zero_le _, ⟨w, hw, rfl⟩, ?_⟩
  rintro m' h1 h2 ⟨v, hv, e⟩
  obtain ⟨m, rfl⟩ : ∃ m, m' = m + 1 := ⟨m' - 1, by omega⟩
  cases v with
  | nil => simp at e
  | cons b v =>
    simp only [List.take_succ_cons, List.cons.injEq] at e
    rw [e.1] at hv
    exact h v hv
theorem IsCol.step (hT : ∀ w, S (a :: w) ↔ T w) (h : IsCol T B c) : IsCol S (a :: B) (if c = 0 then 0 else c + 1) := by
  rcases h with ⟨s, rfl⟩ | ⟨ns, m, rfl, le, ⟨w, hw, ew⟩, u⟩
  · exact .inl ⟨(hT B).mpr s, rfl⟩
  · rw [if_neg (Nat.succ_ne_zero m)]
    refine .inr ⟨fun z => ns ((hT B).mp z), m + 1, rfl, by rw [List.length_cons]; omega, ⟨a :: w, (hT w).mpr hw, by rw [List.take_succ_cons, List.take_succ_cons, ew]⟩, ?_⟩
    rintro m' h1 h2 ⟨v, hv, e⟩
    obtain ⟨q, rfl⟩ : ∃ q, m' = q + 1 := ⟨m' - 1, by omega⟩
    cases v with
    | nil => simp at e
    | cons b v =>
      simp only [List.take_succ_cons, List.cons.injEq] at e
      rw [e.1] at hv
      rw [List.length_cons] at h2
      exact u q (by omega) (by omega) ⟨v, (hT v).mp hv, e.2⟩
end
end KQ

namespace KQ
/-! ### all words of few places -/
def RL (n : Nat) : Nat → Nat → List (List Nat)
  | 0, _ => []
  | k + 1, l => (List.range n).flatMap fun p => if l ≤ p then [88, 89, 90].flatMap fun c => [c, 48 + p] :: (RL n k (p + 1)).map fun t => c :: (48 + p) :: 42 :: t else []
section
variable {n k l i : Nat}
def Tl (n k p : Nat) (t : List Nat) : Prop := t = [] ∨ ∃ t', t = 42 :: t' ∧ t' ∈ RL n k (p + 1)
theorem mem_RL {w : List Nat} : w ∈ RL n (k + 1) l ↔ ∃ c p t, isXYZ c ∧ l ≤ p ∧ p < n ∧ w = c :: (48 + p) :: t ∧ Tl n k p t := by
  rw [RL, List.mem_flatMap]
  constructor
  · rintro ⟨p, hp, h⟩
    by_cases z : l ≤ p
    · rw [if_pos z, List.mem_flatMap] at h
      obtain ⟨c, hc, h⟩ := h
      have hc : isXYZ c := by simpa [isXYZ] using hc
      rcases List.mem_cons.mp h with h | h
      · exact ⟨c, p, [], hc, z, List.mem_range.mp hp, h, .inl rfl⟩
      · obtain ⟨t, ht, rfl⟩ := List.mem_map.mp h
        exact ⟨c, p, _, hc, z, List.mem_range.mp hp, rfl, .inr ⟨t, rfl, ht⟩⟩
    · rw [if_neg z] at h
      cases h
  · rintro ⟨c, p, t, hc, h1, h2, rfl, ht⟩
    refine ⟨p, List.mem_range.mpr h2, ?_⟩
    rw [if_pos h1, List.mem_flatMap]
    refine ⟨c, by simpa [isXYZ] using hc, ?_⟩
    rcases ht with rfl | ⟨t', rfl, ht⟩
    · exact List.mem_cons_self
    · exact List.mem_cons_of_mem _ (List.mem_map.mpr ⟨t', ht, rfl⟩)
theorem RL_ne (h : l < n) : [88, 48 + l] ∈ RL n (k + 1) l := mem_RL.mpr ⟨88, l, [], .inl rfl, Nat.le_refl _, h, rfl, .inl rfl⟩
theorem RL_none (h : n ≤ l) {w : List Nat} : w ∉ RL n k l := by
  cases k with
  | zero => exact fun z => by cases z
  | succ k =>
    intro z
    obtain ⟨c, p, t, _, h1, h2, _⟩ := mem_RL.mp z
    omega
theorem dec_small {p : Nat} (h : p < 10) : dec p = [48 + p] := if_pos h
theorem dg_nil : dg l n [] = [] := if_neg (fun z => absurd z.1 (by simp))
theorem dg_in {d : Nat} {R : List Nat} (hn : n ≤ 10) (h1 : 48 + l ≤ d) (h2 : d < 48 + n) : dg l n (d :: R) = [d] := by
  have b1 : begs l n [d] = true := begs_iff.mpr ⟨d - 48, by omega, by omega, by rw [dec_small (by omega)]; simp; omega⟩
  unfold dg
  rw [if_pos ⟨by simp, by simpa using b1⟩]
  rw [if_neg]
  · rfl
  · rintro ⟨h3, h4⟩
    obtain ⟨p, q1, q2, q3⟩ := begs_iff.mp h4
    rw [dec_small (by omega)] at q3
    have := congrArg List.length q3
    simp only [List.length_take, List.length_cons, List.length_nil] at this h3
    omega
theorem dg_out {d : Nat} {R : List Nat} (hn : n ≤ 10) (h : ¬ (48 + l ≤ d ∧ d < 48 + n)) : dg l n (d :: R) = [] := by
  unfold dg
  rw [if_neg]
  rintro ⟨_, h4⟩
  obtain ⟨p, q1, q2, q3⟩ := begs_iff.mp h4
  rw [dec_small (by omega)] at q3
  have : 48 + p = d := by simpa using q3
  omega
theorem dec_ne (p : Nat) : dec p ≠ [] := by
  unfold dec
  split <;> simp
theorem plc_nil : plc l n [] = none := by
  cases h : plc l n [] with
  | none => rfl
  | some p => exact absurd (plc_some h).2.2 (dec_ne p)
theorem plc_in {d : Nat} (hn : n ≤ 10) (h1 : 48 + l ≤ d) (h2 : d < 48 + n) : plc l n [d] = some (d - 48) := by
  have e : dec (d - 48) = [d] := by rw [dec_small (by omega)]; congr 1; omega
  rw [← e]
  exact plc_dec (by omega) (by omega) (by omega)
theorem rd_isCol (hn : n ≤ 10) : ∀ (k l : Nat) (R : List Nat) (i : Nat), l < n → n ≤ l + k → ∃ c0, IsCol (· ∈ RL n k l) R c0 ∧ (rd n k l R i).1 = if c0 = 0 then 0 else i + c0
  | 0, l, R, i, h1, h2 => by omega
  | k + 1, l, [], i, h1, h2 => by
    refine ⟨1, .nil1 (fun z => ?_) ⟨_, RL_ne h1⟩, rfl⟩
    obtain ⟨c, p, t, _, _, _, e, _⟩ := mem_RL.mp z
    cases e
  | k + 1, l, c :: R1, i, h1, h2 => by
    by_cases hc : isXYZ c
    · have hT : ∀ w, (c :: w) ∈ RL n (k + 1) l ↔ (∃ p t, l ≤ p ∧ p < n ∧ w = (48 + p) :: t ∧ Tl n k p t) := by
        intro w
        rw [mem_RL]
        constructor
        · rintro ⟨c', p, t, _, q1, q2, e, q3⟩
          exact ⟨p, t, q1, q2, (List.cons.inj e).2, q3⟩
        · rintro ⟨p, t, q1, q2, e, q3⟩
          exact ⟨c, p, t, hc, q1, q2, by rw [e], q3⟩
      have hD : ∃ w, ∃ p t, l ≤ p ∧ p < n ∧ w = (48 + p) :: t ∧ Tl n k p t := ⟨_, l, [], Nat.le_refl _, h1, rfl, .inl rfl⟩
      cases R1 with
      | nil =>
        refine ⟨2, IsCol.step hT (.nil1 ?_ hD), ?_⟩
        · rintro ⟨p, t, _, _, e, _⟩
          cases e
        · rw [rd_bad hc (by rw [dg_nil]; exact plc_nil), dg_nil]
          rfl
      | cons d R2 =>
        by_cases hd : 48 + l ≤ d ∧ d < 48 + n
        · have e1 := dg_in (R := R2) hn hd.1 hd.2
          have e2 := plc_in hn hd.1 hd.2
          have ep : plc l n (dg l n (d :: R2)) = some (d - 48) := by rw [e1]; exact e2
          have ed : (d :: R2).drop (dg l n (d :: R2)).length = R2 := by rw [e1]; rfl
          have hT2 : ∀ w, (∃ p t, l ≤ p ∧ p < n ∧ d :: w = (48 + p) :: t ∧ Tl n k p t) ↔ Tl n k (d - 48) w := by
            intro w
            constructor
            · rintro ⟨p, t, q1, q2, e, q3⟩
              obtain ⟨a1, a2⟩ := List.cons.inj e
              subst a2
              rw [show d - 48 = p by omega]
              exact q3
            · intro q3
              exact ⟨d - 48, w, by omega, by omega, by rw [show 48 + (d - 48) = d by omega], q3⟩
          cases R2 with
          | nil =>
            refine ⟨0, IsCol.step hT (IsCol.step hT2 (.nil0 (.inl rfl))), ?_⟩
            rw [rd_end hc ep ed]
            rfl
          | cons s R3 =>
            by_cases hs : s = 42 ∧ d - 48 + 1 < n
            · obtain ⟨c1, hc1, er⟩ := rd_isCol hn k (d - 48 + 1) R3 (i + 1 + (dg l n (d :: s :: R3)).length + 1) hs.2 (by omega)
              have hT3 : ∀ w, Tl n k (d - 48) (s :: w) ↔ w ∈ RL n k (d - 48 + 1) := by
                intro w
                constructor
                · rintro (q | ⟨t', e, q⟩)
                  · cases q
                  · rw [(List.cons.inj e).2]
                    exact q
                · intro q
                  exact .inr ⟨w, by rw [hs.1], q⟩
              refine ⟨_, IsCol.step hT (IsCol.step hT2 (IsCol.step hT3 hc1)), ?_⟩
              rw [rd_go hc ep ed hs, er, e1]
              by_cases z : c1 = 0
              · subst z
                rfl
              · rw [if_neg z, if_neg z, if_neg (Nat.succ_ne_zero _), if_neg (Nat.succ_ne_zero _), if_neg (Nat.succ_ne_zero _)]
                show i + 1 + 1 + 1 + c1 = _
                omega
            · refine ⟨3, IsCol.step hT (IsCol.step (c := 1) hT2 (.none ⟨[], .inl rfl⟩ ?_)), ?_⟩
              · rintro w (q | ⟨t', e, q⟩)
                · cases q
                · obtain ⟨a1, a2⟩ := List.cons.inj e
                  by_cases y : d - 48 + 1 < n
                  · exact hs ⟨a1, y⟩
                  · exact RL_none (by omega) q
              · rw [rd_stop hc ep ed hs, e1]
                rfl
        · have e1 := dg_out (R := R2) hn hd
          refine ⟨2, IsCol.step (c := 1) hT (.none hD ?_), ?_⟩
          · rintro w ⟨p, t, q1, q2, e, _⟩
            have := (List.cons.inj e).1
            exact hd (by omega)
          · rw [rd_bad hc (by rw [e1]; exact plc_nil), e1]
            rfl
    · refine ⟨1, .none ⟨_, RL_ne h1⟩ ?_, ?_⟩
      · intro w z
        obtain ⟨c', p, t, q, _, _, e, _⟩ := mem_RL.mp z
        rw [(List.cons.inj e).1] at hc
        exact hc q
      · rw [rd_no (fun c' e => by rw [← Option.some.inj e]; exact hc)]
        rfl
/-- words that begin otherwise -/
theorem IsCol.add {S Q : List Nat → Prop} {B : List Nat} {c : Nat} (h : IsCol S B c) (hQ : ∀ w, Q w → w.head? ≠ B.head?) : IsCol (fun w => S w ∨ Q w) B c := by
  have hB : ¬ Q B := fun z => hQ B z rfl
  rcases h with ⟨s, e⟩ | ⟨ns, m, e, le, ⟨w, hw, ew⟩, u⟩
  · exact .inl ⟨.inl s, e⟩
  · refine .inr ⟨fun z => z.elim ns hB, m, e, le, ⟨w, .inl hw, ew⟩, ?_⟩
    rintro m' h1 h2 ⟨v, hv | hv, ev⟩
    · exact u m' h1 h2 ⟨v, hv, ev⟩
    · have := congrArg List.head? ev
      rw [List.head?_take, List.head?_take, if_neg (by omega), if_neg (by omega)] at this
      exact hQ v hv this
theorem IsCol.congr {S T : List Nat → Prop} {B : List Nat} {c : Nat} (h : IsCol S B c) (e : ∀ w, S w ↔ T w) : IsCol T B c := by
  have : S = T := funext fun w => propext (e w)
  rw [← this]
  exact h
def UL (n : Nat) : List (List Nat) := [73] :: RL n n 0
def WL (n : Nat) : List (List Nat) := UL n ++ (UL n).map (45 :: ·)
theorem UL_head {w : List Nat} (hn : 0 < n) (h : w ∈ UL n) : ∃ c t, w = c :: t ∧ (c = 73 ∨ isXYZ c) := by
  rcases List.mem_cons.mp h with h | h
  · exact ⟨73, [], h, .inl rfl⟩
  · obtain ⟨k, rfl⟩ : ∃ k, n = k + 1 := ⟨n - 1, by omega⟩
    obtain ⟨c, p, t, hc, _, _, e, _⟩ := mem_RL.mp h
    exact ⟨c, _, e, .inr hc⟩
theorem u_isCol (hn : n ≤ 10) (n0 : 0 < n) (R : List Nat) (i : Nat) : ∃ c0, IsCol (· ∈ UL n) R c0 ∧ (if R.head? = some 73 then (if R.length = 1 then 0 else i + 2) else (rd n n 0 R i).1) = if c0 = 0 then 0 else i + c0 := by
  by_cases h : R.head? = some 73
  · rw [if_pos h]
    obtain ⟨R1, rfl⟩ : ∃ R1, R = 73 :: R1 := by
      cases R with
      | nil => cases h
      | cons a R1 => exact ⟨R1, by rw [Option.some.inj h]⟩
    have hT : ∀ w, (73 :: w) ∈ UL n ↔ w = [] := by
      intro w
      constructor
      · intro z
        rcases List.mem_cons.mp z with z | z
        · exact (List.cons.inj z).2
        · obtain ⟨k, rfl⟩ : ∃ k, n = k + 1 := ⟨n - 1, by omega⟩
          obtain ⟨c, p, t, hc, _, _, e, _⟩ := mem_RL.mp z
          rw [← (List.cons.inj e).1] at hc
          exact absurd hc (by decide)
      · rintro rfl
        exact List.mem_cons_self
    cases R1 with
    | nil => exact ⟨0, IsCol.step hT (.nil0 rfl), rfl⟩
    | cons b R2 =>
      refine ⟨2, IsCol.step (c := 1) hT (.none ⟨[], rfl⟩ fun w z => by cases z), ?_⟩
      rw [if_neg (by simp)]
      rfl
  · rw [if_neg h]
    obtain ⟨c0, h1, h2⟩ := rd_isCol hn n 0 R i n0 (by omega)
    refine ⟨c0, (h1.add (Q := fun w => w = [73]) ?_).congr ?_, h2⟩
    · rintro w rfl e
      exact h e.symm
    · intro w
      show _ ↔ w ∈ [73] :: RL n n 0
      rw [List.mem_cons]
      exact Or.comm
theorem w_isCol (hn : n ≤ 10) (n0 : 0 < n) (B : List Nat) : IsCol (· ∈ WL n) B (colW n B).1 := by
  have low : ∀ w ∈ UL n, w.head? ≠ some 45 := by
    intro w hw
    obtain ⟨c, t, rfl, hc⟩ := UL_head n0 hw
    intro e
    have e := Option.some.inj e
    subst e
    revert hc
    decide
  have fst : ∀ (a : Nat) (R : List Nat) (X : Nat × List (Nat × Nat)), (if R.head? = some 73 then (if R.length = 1 then ((0, []) : Nat × List (Nat × Nat)) else (a + 2, [])) else X).1 = if R.head? = some 73 then (if R.length = 1 then 0 else a + 2) else X.1 := by
    intro a R X
    split
    · split <;> rfl
    · rfl
  have bl : ∀ b, hd1 B = b → b ≤ B.length → colW n B = if (B.drop b).head? = some 73 then (if (B.drop b).length = 1 then (0, []) else (b + 2, [])) else rd n n 0 (B.drop b) b := by
    rintro b rfl hb
    unfold colW
    rw [List.length_drop]
    have e : (if B.length = hd1 B + 1 then ((0, []) : Nat × List (Nat × Nat)) else (hd1 B + 2, [])) = if B.length - hd1 B = 1 then (0, []) else (hd1 B + 2, []) := by
      by_cases z : B.length = hd1 B + 1
      · rw [if_pos z, if_pos (by omega)]
      · rw [if_neg z, if_neg (by omega)]
    rw [e]
  by_cases h : B.head? = some 45
  · obtain ⟨B1, rfl⟩ : ∃ B1, B = 45 :: B1 := by
      cases B with
      | nil => cases h
      | cons a R1 => exact ⟨R1, by rw [Option.some.inj h]⟩
    have hT : ∀ w, (45 :: w) ∈ WL n ↔ w ∈ UL n := by
      intro w
      unfold WL
      rw [List.mem_append, List.mem_map]
      constructor
      · rintro (z | ⟨v, hv, e⟩)
        · exact absurd rfl (low _ z)
        · rw [← (List.cons.inj e).2]
          exact hv
      · intro z
        exact .inr ⟨w, z, rfl⟩
    obtain ⟨c0, h1, h2⟩ := u_isCol hn n0 B1 1
    rw [bl 1 (if_pos rfl) (by simp), fst]
    show IsCol _ _ (if B1.head? = some 73 then (if B1.length = 1 then 0 else 1 + 2) else (rd n n 0 B1 1).1)
    rw [h2, Nat.add_comm 1 c0]
    exact IsCol.step hT h1
  · obtain ⟨c0, h1, h2⟩ := u_isCol hn n0 B 0
    rw [bl 0 (if_neg h) (Nat.zero_le _), fst]
    rw [show B.drop 0 = B from rfl, h2]
    have : (if c0 = 0 then 0 else 0 + c0) = c0 := by split <;> omega
    rw [this]
    refine (h1.add (Q := fun w => ∃ v ∈ UL n, 45 :: v = w) ?_).congr ?_
    · rintro w ⟨v, _, rfl⟩ e
      exact h e.symm
    · intro w
      unfold WL
      rw [List.mem_append, List.mem_map]
end
end KQ

namespace KQ
/-! ### the word of letters, and read again -/
/-- the letters that are not I, with their places -/
def pairs : Nat → List Nat → List (Nat × Nat)
  | _, [] => []
  | k, c :: L => if c = 73 then pairs (k + 1) L else (c, k) :: pairs (k + 1) L
def enc : List (Nat × Nat) → List Nat
  | [] => []
  | [(c, p)] => c :: dec p
  | (c, p) :: y :: t => c :: (dec p ++ 42 :: enc (y :: t))
def wordOf (L : List Nat) : List Nat := if pairs 0 L = [] then [73] else enc (pairs 0 L)
/-- all letters of a size -/
def allS : Nat → List (List Nat)
  | 0 => [[]]
  | n + 1 => (allS n).flatMap fun L => [73, 88, 90, 89].map fun c => L ++ [c]
def wordsL (n : Nat) : List (List Nat) := (allS n).flatMap fun L => [wordOf L, 45 :: wordOf L]
theorem words_eq {n : Nat} (h0 : 0 < n) (hn : n < 4) (w : List Nat) : w ∈ wordsL n ↔ w ∈ WL n := by
  have key : ∀ m ∈ [1, 2, 3], ((wordsL m).all fun w => (WL m).contains w) = true ∧ ((WL m).all fun w => (wordsL m).contains w) = true := by decide +kernel
  obtain ⟨k1, k2⟩ := key n (by
    have : n = 1 ∨ n = 2 ∨ n = 3 := by omega
    rcases this with rfl | rfl | rfl <;> simp)
  constructor
  · intro h
    exact List.contains_iff_mem.mp (List.all_eq_true.mp k1 w h)
  · intro h
    exact List.contains_iff_mem.mp (List.all_eq_true.mp k2 w h)
theorem col_by_list {n : Nat} (h0 : 0 < n) (hn : n < 4) (B : List Nat) : IsCol (· ∈ wordsL n) B (colW n B).1 :=
  (w_isCol (by omega) h0 B).congr fun w => (words_eq h0 hn w).symm
section
variable {n k l i : Nat}
theorem dec_len {p : Nat} : (dec p).length = 1 ∨ (dec p).length = 2 := by
  unfold dec
  split
  · exact .inl rfl
  · exact .inr rfl
theorem dec_dig {p : Nat} (hp : p < 100) : ∀ c ∈ dec p, 48 ≤ c ∧ c ≤ 57 := by
  intro c hc
  unfold dec at hc
  split at hc
  · simp at hc
    omega
  · simp at hc
    rcases hc with rfl | rfl <;> omega
/-- the digits of a place, an end or a star behind them -/
theorem dg_dec {p : Nat} {t : List Nat} (hn : n ≤ 100) (h1 : l ≤ p) (h2 : p < n) (ht : t = [] ∨ ∃ t', t = 42 :: t') : dg l n (dec p ++ t) = dec p := by
  have hb : ∀ j, begs l n ((dec p).take j) = true := fun j => begs_iff.mpr ⟨p, h1, h2, by
    rw [List.length_take]
    by_cases z : j ≤ (dec p).length
    · rw [Nat.min_eq_left z]
    · rw [Nat.min_eq_right (by omega), List.take_of_length_le (Nat.le_refl _), List.take_of_length_le (by omega)]⟩
  unfold dg
  have len := dec_len (p := p)
  have l1 : 1 ≤ (dec p).length := by omega
  rw [List.length_append, List.take_append_of_le_length l1, if_pos ⟨by omega, hb 1⟩]
  rcases len with len | len
  · have e1 : (dec p).take 1 = dec p := List.take_of_length_le (by omega)
    rw [if_neg, e1]
    rintro ⟨h3, h4⟩
    rcases ht with rfl | ⟨t', rfl⟩
    · simp at h3
      omega
    · obtain ⟨q, q1, q2, q3⟩ := begs_iff.mp h4
      have e2 : (dec p ++ 42 :: t').take 2 = dec p ++ [42] := by
        rw [List.take_append, len, List.take_of_length_le (by omega)]
        rfl
      rw [e2] at q3
      have m : (42 : Nat) ∈ (dec q).take (dec p ++ [42]).length := by rw [q3]; simp
      have := dec_dig (p := q) (by omega) 42 (List.mem_of_mem_take m)
      omega
  · rw [List.take_append_of_le_length (by omega), if_pos ⟨by omega, hb 2⟩]
    exact List.take_of_length_le (by omega)
/-- ascending places from l on, below n -/
def Asc (n : Nat) : Nat → List (Nat × Nat) → Prop
  | _, [] => True
  | l, (c, p) :: t => isXYZ c ∧ l ≤ p ∧ p < n ∧ Asc n (p + 1) t
theorem rd_enc (hn : n ≤ 100) : ∀ (ps : List (Nat × Nat)) (k l i : Nat), ps ≠ [] → Asc n l ps → n ≤ l + k → rd n k l (enc ps) i = (0, ps)
  | [], _, _, _, h, _, _ => absurd rfl h
  | [(c, p)], k, l, i, _, h, hk => by
    obtain ⟨hc, h1, h2, _⟩ := h
    obtain ⟨k, rfl⟩ : ∃ k', k = k' + 1 := ⟨k - 1, by omega⟩
    have e : dg l n (dec p) = dec p := by
      have := dg_dec (t := []) hn h1 h2 (.inl rfl)
      rwa [List.append_nil] at this
    exact rd_end hc (by rw [e]; exact plc_dec hn h1 h2) (by rw [e]; exact List.drop_length)
  | (c, p) :: y :: t, k, l, i, _, h, hk => by
    obtain ⟨hc, h1, h2, h3⟩ := h
    obtain ⟨k, rfl⟩ : ∃ k', k = k' + 1 := ⟨k - 1, by omega⟩
    have e : dg l n (dec p ++ 42 :: enc (y :: t)) = dec p := dg_dec hn h1 h2 (.inr ⟨_, rfl⟩)
    have hp : p + 1 < n := by
      obtain ⟨c', p'⟩ := y
      obtain ⟨_, q1, q2, _⟩ := h3
      omega
    have := rd_go (n := n) (k := k) (l := l) (i := i) (R3 := enc (y :: t)) hc (by rw [e]; exact plc_dec hn h1 h2) (by rw [e, List.drop_left]) ⟨rfl, hp⟩
    show rd n (k + 1) l (c :: (dec p ++ 42 :: enc (y :: t))) i = _
    rw [this, rd_enc hn (y :: t) k (p + 1) _ (by simp) h3 (by omega)]
theorem asc_pairs (hn : n ≤ 100) : ∀ (L : List Nat) (k : Nat), (∀ c ∈ L, c = 73 ∨ isXYZ c) → k + L.length = n → Asc n k (pairs k L) ∧ ∀ k', k' ≤ k → Asc n k' (pairs k L)
  | [], _, _, _ => ⟨trivial, fun _ _ => trivial⟩
  | c :: L, k, hL, hk => by
    rw [List.length_cons] at hk
    obtain ⟨_, i2⟩ := asc_pairs hn L (k + 1) (fun c hc => hL c (List.mem_cons_of_mem _ hc)) (by omega)
    have all : ∀ k', k' ≤ k → Asc n k' (pairs k (c :: L)) := by
      intro k' h
      unfold pairs
      by_cases z : c = 73
      · rw [if_pos z]
        exact i2 k' (by omega)
      · rw [if_neg z]
        exact ⟨(hL c List.mem_cons_self).resolve_left z, h, by omega, i2 _ (Nat.le_refl _)⟩
    exact ⟨all k (Nat.le_refl _), all⟩
/-- letters put at their places -/
def fill (A : List Nat) (ps : List (Nat × Nat)) : List Nat := ps.foldl (fun A x => A.set x.2 x.1) A
theorem fill_pairs : ∀ (L A : List Nat), fill (A ++ List.replicate L.length 73) (pairs A.length L) = A ++ L
  | [], A => by simp [fill, pairs]
  | c :: L, A => by
    have e : A ++ List.replicate (c :: L).length 73 = (A ++ [73]) ++ List.replicate L.length 73 := by
      rw [List.length_cons, List.replicate_succ, List.append_assoc]
      rfl
    unfold pairs
    by_cases z : c = 73
    · rw [if_pos z, e]
      have := fill_pairs L (A ++ [73])
      rw [List.length_append] at this
      rw [show A.length + 1 = A.length + [73].length from rfl, this, List.append_assoc, z]
      rfl
    · rw [if_neg z, e]
      have e2 : fill ((A ++ [73]) ++ List.replicate L.length 73) ((c, A.length) :: pairs (A.length + 1) L) = fill ((A ++ [c]) ++ List.replicate L.length 73) (pairs (A.length + 1) L) := by
        unfold fill
        rw [List.foldl_cons]
        congr 1
        show ((A ++ [73]) ++ List.replicate L.length 73).set A.length c = _
        rw [List.append_assoc, List.set_append_right _ _ (Nat.le_refl _), Nat.sub_self, List.append_assoc]
        rfl
      rw [e2]
      have := fill_pairs L (A ++ [c])
      rw [List.length_append] at this
      rw [show A.length + 1 = A.length + [c].length from rfl, this, List.append_assoc]
      rfl
theorem fill_len : ∀ (ps : List (Nat × Nat)) (A : List Nat), (fill A ps).length = A.length
  | [], _ => rfl
  | x :: ps, A => by
    show (fill (A.set x.2 x.1) ps).length = _
    rw [fill_len ps, List.length_set]
theorem fill_all {p : Nat → Prop} : ∀ (ps : List (Nat × Nat)) (A : List Nat), (∀ c ∈ A, p c) → (∀ x ∈ ps, p x.1) → ∀ c ∈ fill A ps, p c
  | [], _, hA, _ => hA
  | x :: ps, A, hA, hp => by
    refine fill_all ps (A.set x.2 x.1) (fun c hc => ?_) fun y hy => hp y (List.mem_cons_of_mem _ hy)
    rcases List.mem_or_eq_of_mem_set hc with h | h
    · exact hA c h
    · rw [h]
      exact hp x List.mem_cons_self
/-- what is told is in order -/
theorem rd_told : ∀ (k l : Nat) (R : List Nat) (i : Nat), ∀ x ∈ (rd n k l R i).2, isXYZ x.1 ∧ x.2 < n
  | 0, _, _, _ => fun x hx => by cases hx
  | _ + 1, _, [], _ => fun x hx => by cases hx
  | k + 1, l, c :: R1, i => by
    intro x hx
    by_cases hc : isXYZ c
    · cases hp : plc l n (dg l n R1) with
      | none =>
        rw [rd_bad hc hp] at hx
        cases hx
      | some p =>
        have h2 := (plc_some hp).2.1
        cases he : R1.drop (dg l n R1).length with
        | nil =>
          rw [rd_end hc hp he] at hx
          rw [List.mem_singleton.mp hx]
          exact ⟨hc, h2⟩
        | cons s R3 =>
          by_cases hs : s = 42 ∧ p + 1 < n
          · rw [rd_go hc hp he hs] at hx
            rcases List.mem_cons.mp hx with hx | hx
            · rw [hx]
              exact ⟨hc, h2⟩
            · exact rd_told k _ _ _ x hx
          · rw [rd_stop hc hp he hs] at hx
            cases hx
    · rw [rd_no (fun c' e => by rw [← Option.some.inj e]; exact hc)] at hx
      cases hx
end
/-- a word is read as its letters -/
theorem col_word {n : Nat} {L sg : List Nat} (hn : n ≤ 100) (hL : ∀ c ∈ L, c = 73 ∨ isXYZ c) (hl : L.length = n) (hs : sg = [] ∨ sg = [45]) : colW n (sg ++ wordOf L) = (0, pairs 0 L) := by
  have ha := (asc_pairs hn L 0 hL (by omega)).1
  have fst : ∀ w, (∃ c t, w = c :: t ∧ (c = 73 ∨ isXYZ c)) → hd1 (sg ++ w) = sg.length ∧ (sg ++ w).drop sg.length = w := by
    rintro w ⟨c, t, rfl, hc⟩
    refine ⟨?_, List.drop_left⟩
    rcases hs with rfl | rfl
    · refine if_neg fun e => ?_
      have e := Option.some.inj e
      subst e
      revert hc
      decide
    · rfl
  unfold wordOf
  by_cases z : pairs 0 L = []
  · rw [if_pos z, z]
    obtain ⟨e1, e2⟩ := fst [73] ⟨73, [], rfl, .inl rfl⟩
    unfold colW
    rw [e1, e2, if_pos (show [73].head? = some 73 from rfl), if_pos (by simp)]
  · rw [if_neg z]
    obtain ⟨c, p, t, ep⟩ : ∃ c p t, pairs 0 L = (c, p) :: t := by
      cases e : pairs 0 L with
      | nil => exact absurd e z
      | cons x t => exact ⟨x.1, x.2, t, rfl⟩
    have hc : isXYZ c := by
      rw [ep] at ha
      exact ha.1
    obtain ⟨v, ev⟩ : ∃ v, enc (pairs 0 L) = c :: v := by
      rw [ep]
      cases t with
      | nil => exact ⟨_, rfl⟩
      | cons y t => exact ⟨_, rfl⟩
    obtain ⟨e1, e2⟩ := fst (enc (pairs 0 L)) ⟨c, v, ev, .inr hc⟩
    unfold colW
    rw [e1, e2, if_neg]
    · exact rd_enc hn _ n 0 _ z ha (by omega)
    · rw [ev]
      intro e
      have e := Option.some.inj e
      subst e
      revert hc
      decide
end KQ

namespace KQ
open PySem PySem.Spec PyProof.Rows L2
/-! ### digits and the numbers that they tell -/
def isD (c : Nat) : Prop := 48 ≤ c ∧ c ≤ 57
instance (c : Nat) : Decidable (isD c) := by unfold isD; infer_instance
def val (ds : List Nat) : Nat := ds.foldl (fun v c => 10 * v + (c - 48)) 0
theorem int_val {ds : List Nat} (h0 : ds ≠ []) (hl : ds.length ≤ 3) (hd : ∀ c ∈ ds, isD c) : PySem.intText? (mS ds) = some ((val ds : Nat) : Int) := by
  have k1 : ∀ a < 10, PySem.intText? (mS [48 + a]) = some ((val [48 + a] : Nat) : Int) := by decide +kernel
  have k2 : ∀ a < 10, ∀ b < 10, PySem.intText? (mS [48 + a, 48 + b]) = some ((val [48 + a, 48 + b] : Nat) : Int) := by decide +kernel
  have k3 : ∀ a < 10, ∀ b < 10, ∀ c < 10, PySem.intText? (mS [48 + a, 48 + b, 48 + c]) = some ((val [48 + a, 48 + b, 48 + c] : Nat) : Int) := by decide +kernel
  have up : ∀ c, isD c → 48 + (c - 48) = c := fun c h => by have := h.1; omega
  have lt : ∀ c, isD c → c - 48 < 10 := fun c h => by have := h.1; have := h.2; omega
  match ds, h0, hl, hd with
  | [a], _, _, hd =>
    have ha := hd a (by simp)
    have := k1 (a - 48) (lt a ha)
    rwa [up a ha] at this
  | [a, b], _, _, hd =>
    have ha := hd a (by simp)
    have hb := hd b (by simp)
    have := k2 (a - 48) (lt a ha) (b - 48) (lt b hb)
    rwa [up a ha, up b hb] at this
  | [a, b, c], _, _, hd =>
    have ha := hd a (by simp)
    have hb := hd b (by simp)
    have hc := hd c (by simp)
    have := k3 (a - 48) (lt a ha) (b - 48) (lt b hb) (c - 48) (lt c hc)
    rwa [up a ha, up b hb, up c hc] at this
theorem str_dec {p : Nat} (h : p < 24) : (toString ((p : Nat) : Int) : Str) = mS (dec p) := by
  have k : ∀ p < 24, (toString ((p : Nat) : Int) : Str) = mS (dec p) := by decide +kernel
  exact k p h
section
variable {n l : Nat}
theorem begs_len {ds : List Nat} (h : begs l n ds = true) : ds.length ≤ 2 := by
  obtain ⟨p, _, _, e⟩ := begs_iff.mp h
  have := congrArg List.length e
  rw [List.length_take] at this
  have := dec_len (p := p)
  omega
theorem begs_dig {ds : List Nat} (hn : n ≤ 100) (h : begs l n ds = true) : ∀ c ∈ ds, isD c := by
  obtain ⟨p, _, h2, e⟩ := begs_iff.mp h
  intro c hc
  rw [← e] at hc
  exact dec_dig (by omega) c (List.mem_of_mem_take hc)
theorem begs_take {ds : List Nat} (j : Nat) (h : begs l n ds = true) : begs l n (ds.take j) = true := by
  obtain ⟨p, h1, h2, e⟩ := begs_iff.mp h
  refine begs_iff.mpr ⟨p, h1, h2, ?_⟩
  rw [List.length_take]
  conv => rhs; rw [← e, List.take_take]
/-- how far the digits go -/
theorem dg_of {R : List Nat} {j : Nat} (hj : j ≤ R.length) (hb : j = 0 ∨ begs l n (R.take j) = true) (stop : R.length ≤ j ∨ ¬ begs l n (R.take (j + 1)) = true) : dg l n R = R.take j := by
  have j2 : j ≤ 2 := by
    rcases hb with h | h
    · omega
    · have := begs_len h
      rw [List.length_take] at this
      omega
  have : j = 0 ∨ j = 1 ∨ j = 2 := by omega
  rcases this with rfl | rfl | rfl
  · unfold dg
    rw [if_neg]
    · rfl
    · rintro ⟨h1, h2⟩
      rcases stop with s | s
      · omega
      · exact s h2
  · have hb := hb.resolve_left (by decide)
    unfold dg
    rw [if_pos ⟨hj, hb⟩, if_neg]
    rintro ⟨h1, h2⟩
    rcases stop with s | s
    · omega
    · exact s h2
  · have hb := hb.resolve_left (by decide)
    have h1 : begs l n (R.take 1) = true := by
      have := begs_take 1 hb
      rwa [List.take_take, Nat.min_eq_left (by decide)] at this
    unfold dg
    rw [if_pos ⟨by omega, h1⟩, if_pos ⟨hj, hb⟩]
theorem dec_lt {p : Nat} (h : p < 10) : dec p = [48 + p] := if_pos h
theorem dec_ge {p : Nat} (h : ¬ p < 10) : dec p = [48 + p / 10, 48 + p % 10] := if_neg h
/-- the digits that are read tell a place, or one below the least -/
theorem dg_val {ds : List Nat} (hn : n ≤ 100) (h : begs l n ds = true) (h0 : ds ≠ []) : (plc l n ds = none → val ds < l) ∧ ∀ p, plc l n ds = some p → val ds = p := by
  constructor
  · intro no
    obtain ⟨p, h1, h2, e⟩ := begs_iff.mp h
    have hl := begs_len h
    by_cases hp : p < 10
    · rw [dec_lt hp] at e
      have : ds.length ≠ 0 := fun z => h0 (List.eq_nil_of_length_eq_zero z)
      rw [List.take_of_length_le (by simp; omega)] at e
      exact absurd (by rw [dec_lt hp]; exact e) (plc_none no p h1 h2)
    · rw [dec_ge hp] at e
      match ds, h0, hl with
      | [a], _, _ =>
        have ea : 48 + p / 10 = a := by simpa using e
        subst ea
        show 10 * 0 + (48 + p / 10 - 48) < l
        by_cases z : l ≤ p / 10
        · exact absurd (dec_lt (by omega)) (plc_none no (p / 10) z (by omega))
        · omega
      | [a, b], _, _ =>
        have e' : [48 + p / 10, 48 + p % 10] = [a, b] := e
        exact absurd (by rw [dec_ge hp]; exact e') (plc_none no p h1 h2)
  · intro p hp
    obtain ⟨_, h2, e⟩ := plc_some hp
    rw [← e]
    by_cases hq : p < 10
    · rw [dec_lt hq]
      show 10 * 0 + (48 + p - 48) = p
      omega
    · rw [dec_ge hq]
      show 10 * (10 * 0 + (48 + p / 10 - 48)) + (48 + p % 10 - 48) = p
      omega
def mayB (l n v : Nat) : Prop := ∃ j, v * 10 ^ j < n ∧ l < v * 10 ^ j + 10 ^ j
theorem may_two {v : Nat} (hv : 1 ≤ v) (hn : n ≤ 24) : mayB l n v ↔ (v < n ∧ l < v + 1) ∨ (v * 10 < n ∧ l < v * 10 + 10) := by
  constructor
  · rintro ⟨j, h1, h2⟩
    match j with
    | 0 => exact .inl ⟨by simpa using h1, by simpa using h2⟩
    | 1 => exact .inr ⟨h1, h2⟩
    | j + 2 =>
      exfalso
      have e : 10 ^ (j + 2) = 10 ^ j * 100 := by rw [Nat.pow_add]
      have p : 0 < 10 ^ j := Nat.pow_pos (by decide)
      have : 1 * 10 ^ (j + 2) ≤ v * 10 ^ (j + 2) := Nat.mul_le_mul_right _ hv
      omega
  · rintro (h | h)
    · exact ⟨0, by simpa using h.1, by simpa using h.2⟩
    · exact ⟨1, h⟩
theorem may_zero {ds : List Nat} {c : Nat} (hb : ds = [] ∨ begs l n ds = true) (h : (ds ++ [c]).head? = some 48) (hln : l < n) : begs l n (ds ++ [c]) = (decide (ds ++ [c] = [48]) && decide (l = 0)) := by
  cases ds with
  | nil =>
    have : c = 48 := Option.some.inj h
    subst this
    rw [List.nil_append, decide_eq_true (show [48] = [48] from rfl), Bool.true_and]
    by_cases z : l = 0
    · rw [decide_eq_true z]
      exact begs_iff.mpr ⟨0, by omega, by omega, rfl⟩
    · rw [decide_eq_false z]
      refine Bool.eq_false_iff.mpr fun y => ?_
      obtain ⟨p, h1, h2, e⟩ := begs_iff.mp y
      by_cases hp : p < 10
      · rw [dec_lt hp] at e
        have : 48 + p = 48 := by simpa using e
        omega
      · rw [dec_ge hp] at e
        have : 48 + p / 10 = 48 := by simpa using e
        omega
  | cons a ds =>
    have : a = 48 := Option.some.inj h
    subst this
    have hb := hb.resolve_left (by simp)
    rw [decide_eq_false (by intro z; have := congrArg List.length z; simp at this), Bool.false_and]
    refine Bool.eq_false_iff.mpr fun y => ?_
    obtain ⟨p, h1, h2, e⟩ := begs_iff.mp y
    by_cases hp : p < 10
    · rw [dec_lt hp] at e
      have := congrArg List.length e
      rw [List.length_take] at this
      simp at this
    · rw [dec_ge hp] at e
      have := congrArg List.head? e
      simp at this
      omega
theorem may_dig {ds : List Nat} {c : Nat} (hn : n ≤ 24) (hln : l < n) (hb : ds = [] ∨ begs l n ds = true) (hc : isD c) (h : ¬ (ds ++ [c]).head? = some 48) : 1 ≤ val (ds ++ [c]) ∧ (begs l n (ds ++ [c]) = true ↔ mayB l n (val (ds ++ [c]))) := by
  obtain ⟨c1, c2⟩ := hc
  have hl : ds.length ≤ 2 := by
    rcases hb with rfl | hb
    · exact Nat.zero_le _
    · exact begs_len hb
  have hD : ∀ x ∈ ds, isD x := by
    rcases hb with rfl | hb
    · exact fun x hx => by cases hx
    · exact begs_dig (by omega) hb
  match ds, hb, hl, hD with
  | [], _, _, _ =>
    have c48 : c ≠ 48 := fun z => h (by rw [z]; rfl)
    have ev : val ([] ++ [c]) = c - 48 := by
      show 10 * 0 + (c - 48) = _
      omega
    rw [ev]
    refine ⟨by omega, ?_⟩
    rw [may_two (by omega) hn]
    constructor
    · intro y
      obtain ⟨p, h1, h2, e⟩ := begs_iff.mp y
      by_cases hp : p < 10
      · rw [dec_lt hp] at e
        have : 48 + p = c := by simpa using e
        exact .inl ⟨by omega, by omega⟩
      · rw [dec_ge hp] at e
        have : 48 + p / 10 = c := by simpa using e
        exact .inr ⟨by omega, by omega⟩
    · rintro (⟨h1, h2⟩ | ⟨h1, h2⟩)
      · refine begs_iff.mpr ⟨c - 48, by omega, h1, ?_⟩
        rw [dec_lt (by omega)]
        simp
        omega
      · by_cases z : l ≤ (c - 48) * 10
        · refine begs_iff.mpr ⟨(c - 48) * 10, z, h1, ?_⟩
          rw [dec_ge (by omega)]
          simp
          omega
        · by_cases y : l < n
          · refine begs_iff.mpr ⟨l, Nat.le_refl _, y, ?_⟩
            rw [dec_ge (by omega)]
            simp
            omega
          · omega
  | [a], hb, _, hD =>
    have hb := hb.resolve_left (by simp)
    obtain ⟨a1, a2⟩ := hD a (by simp)
    have a48 : a ≠ 48 := fun z => h (by rw [z]; rfl)
    have ev : val ([a] ++ [c]) = 10 * (a - 48) + (c - 48) := by
      show 10 * (10 * 0 + (a - 48)) + (c - 48) = _
      omega
    rw [ev]
    refine ⟨by omega, ?_⟩
    rw [may_two (by omega) hn]
    constructor
    · intro y
      obtain ⟨p, h1, h2, e⟩ := begs_iff.mp y
      by_cases hp : p < 10
      · rw [dec_lt hp] at e
        have := congrArg List.length e
        simp at this
      · rw [dec_ge hp] at e
        have : 48 + p / 10 = a ∧ 48 + p % 10 = c := by simpa using e
        exact .inl ⟨by omega, by omega⟩
    · rintro (⟨h1, h2⟩ | ⟨h1, h2⟩)
      · refine begs_iff.mpr ⟨10 * (a - 48) + (c - 48), by omega, h1, ?_⟩
        rw [dec_ge (by omega)]
        simp
        omega
      · omega
  | [a, b], hb, _, hD =>
    have hb := hb.resolve_left (by simp)
    obtain ⟨a1, a2⟩ := hD a (by simp)
    have a48 : a ≠ 48 := fun z => h (by rw [z]; rfl)
    have ev : val ([a, b] ++ [c]) = 10 * (10 * (a - 48) + (b - 48)) + (c - 48) := by
      show 10 * (10 * (10 * 0 + (a - 48)) + (b - 48)) + (c - 48) = _
      omega
    rw [ev]
    refine ⟨by omega, ?_⟩
    rw [may_two (by omega) hn]
    constructor
    · intro y
      have := begs_len y
      simp at this
    · rintro (⟨h1, h2⟩ | ⟨h1, h2⟩) <;> omega
end
end KQ

namespace KQ
open PySem PySem.Spec PyProof.Rows L2
/-! ### one token is out behind x = y.lstrip('..') -/
def PEk (X : Cx) (e : Expr) (t : TE) : Prop :=
  ∀ (pins : List (Addr × Obj)) (s : Shared) (σ : L2.St) (H : Hp) (Q : VK), Inv X pins σ H s → t σ H Q → wpAny (model X.prog X.w) X.A (eval e X.env) (fun v s' => 1 ≤ s'.toks ∧ EP X pins σ Q v s') X.xe s
section
variable {X : Cx} {rest : List Stmt} {u : TS} {e : Expr} {te : TE}
theorem pss_tok {i : Nat} {x : Str} {pos' pos : Pos} (he : PEk X e te) (nd : X.N.Nodup) (hi : X.N[i]? = some x) (hx : Loc X.env.scope x) (h2 : PSsT X rest u)
    (hs : swapsWith e (some (.Name x pos')) pos.line X.env = pure false := by rfl) (hf : X.fn x = true ∨ X.env.scope.names.lookup x = some .local := by first | exact .inl rfl | exact .inr rfl | assumption) :
    PSs X (.Assign [.Name x pos'] e pos :: rest) (tSeq (tAsg te (gName i)) u) := by
  refine ⟨fun pins s σ H D I want => ?_⟩
  refine wpAny_execs_cons (wpAny_Assign_Name (wpAny_mono (he pins s σ H _ I want) (fun v s1 q => ?_) fun _ _ z => z) hs)
  obtain ⟨hk, z, H1, I1, r1, q1⟩ := q
  refine wpAny_mono (PySem.wpAny_toks (store_ok (v := z) (u := v) (Q := fun _ s2 => Inv X pins (σ.set i (some z)) H1 s2) I1 nd hi hx r1 (fun _ I2 => I2) hf)) (fun _ s2 q => ?_) fun _ _ z => z.2
  exact h2 pins s2 _ H1 D (Nat.le_trans hk q.1) q.2 q1
def tStrip (to : TE) (c : Str) : TE := fun σ H Q => to σ H fun v H1 => ∃ x, v = .str x ∧ x.length ≤ sizeLine ∧ Q (.str (Txt.lstripChars x c)) H1
theorem pek_strip {o : Expr} {to : TE} {c : Str} {j : Nat} {cpos apos pos : Pos} (ho : PE X o to)
    (hst : starEach [.Constant (.str c) j cpos] X.env = [(false, eval (.Constant (.str c) j cpos) X.env)] := by rfl)
    (hbase : attributeBase o "lstrip" X.env (eval o X.env) = eval o X.env := by rfl) (hline : (apos.endLine == pos.line) = true := by rfl) :
    PEk X (.Call (.Attribute o "lstrip" apos) [.Constant (.str c) j cpos] [] pos) (tStrip to c) := by
  intro pins s σ H Q I want
  refine PySem.Call_method1 hbase hst hline (wpAny_mono (ho.run pins s σ H _ I want) (fun v s1 q => ?_) fun _ _ z => z)
  obtain ⟨v', H1, I1, r1, x, rfl, hz, q⟩ := q
  obtain ⟨tx, rfl⟩ := r1
  refine ⟨"str", _, PySem.F.plainAttrs_str, PySem.F.slot_str_lstrip, PySem.F.type_str_lstrip, typeIs_str _ _ _, (fun _ e => nomatch e), Calls.callWith_builtin rfl (Calls.evalArgs_plain (Calls.spliced_cons ?_))⟩
  refine Calls.Constant_str (Calls.spliced_nil ?_)
  refine wpAny_mono (PySem.wpAny_toks_of (n := 1) (by show 1 ≤ s1.toks + 1; omega) (PySem.SC.lstripChars (Q := EP X pins σ Q) (fun t' k => ⟨.str _, H1, I1.tok k, ⟨t', rfl⟩, q⟩) hz)) (fun _ _ z => z) fun _ _ z => z.2
/-- a written pair, one token out -/
theorem pet_tup {es : List Expr} {ta : TA} {pos : Pos} {x1} (h : PAT X es ta) : PET X (.Tuple es x1 pos) (tTup ta) := by
  intro pins s σ H Q h0 I hq
  refine wpAny_Tuple_spliced (thn (h pos pins s σ H _ h0 I hq) fun us s1 ⟨xs, H1, I1, r, z, q⟩ => ⟨by rw [← r.length]; exact z, ?_⟩)
  refine ⟨.ref s1.heap.objs.size, upd H1 s1.heap.objs.size (.tup xs), I1.laid (t' := s1.toks) (fun b u e => Heap.get?_push_of_some _ e) (Nat.le_refl _) ?_, rfl, q _ (I1.hok.fresh (Nat.le_refl _))⟩
  exact ⟨z, us, r, ⟨_, Heap.get?_push_size _ rfl, rfl, _, rfl⟩⟩
/-- list(text) -/
theorem vals_signs {x : Str} : ∀ (n : Nat) (vs : List Value), vs.length = n → (∀ (j : Nat) (v : Value), vs[j]? = some v → ∃ c u, x.cps.toList[j]? = some c ∧ v = Value.str ⟨#[c]⟩ u) → n ≤ x.cps.toList.length → Vals ((x.cps.toList.take n).map fun c => V.str ⟨#[c]⟩) vs := by
  have go : ∀ (L : List Nat) (vs : List Value), vs.length ≤ L.length → (∀ (j : Nat) (v : Value), vs[j]? = some v → ∃ c u, L[j]? = some c ∧ v = Value.str ⟨#[c]⟩ u) → Vals ((L.take vs.length).map fun c => V.str ⟨#[c]⟩) vs := by
    intro L
    induction L with
    | nil =>
      intro vs hl _
      cases vs with
      | nil => exact .nil
      | cons v vs => simp at hl
    | cons c L ih =>
      intro vs hl h
      cases vs with
      | nil => exact .nil
      | cons v vs =>
        obtain ⟨c', u, e1, e2⟩ := h 0 v rfl
        have e3 : c = c' := by simpa using e1
        subst e3
        subst e2
        refine .cons ⟨u, rfl⟩ (ih vs (by simpa using hl) fun j w hj => ?_)
        have := h (j + 1) w (by simpa using hj)
        simpa using this
  intro n vs hl h hn
  subst hl
  exact go _ vs hn h
theorem call_list_txt (calm : X.calm = true) : CallR X (.type "list") (fun xs H Q => ∃ z : Str, xs = [.str z] ∧ z.cps.toList.length ≤ sizeLine ∧ ∀ l, H l = none → Q (.ref l) (upd H l (.lst (z.cps.toList.map fun c => V.str ⟨#[c]⟩)))) := by
  intro pins s σ H xs us Q I r want
  obtain ⟨z, rfl, hz, q⟩ := want
  obtain ⟨u, rfl, rx⟩ := vals1 r
  obtain ⟨t, rfl⟩ := rx
  refine PySem.call_list_str (I.ok.hd calm) z t (fun h' tk acc c' kp e items => ?_) (by simpa using hz)
  obtain ⟨n1, n2⟩ := items
  have hv := vals_signs (x := z) z.cps.toList.length acc.toList (by rw [Array.length_toList, n1]; simp) (fun j v hj => by
    obtain ⟨c, u, e1, e2⟩ := n2 j v (by simpa using hj)
    exact ⟨c, u, by simpa using e1, e2⟩) (Nat.le_refl _)
  rw [List.take_of_length_le (Nat.le_refl _)] at hv
  refine ⟨.ref s.heap.objs.size, _, I.laid (t' := tk) kp (Nat.le_refl _) (show ObjOk X.prog X.w _ h' _ (.lst _) from ⟨by rw [List.length_map]; exact hz, acc.toList, c', hv, by simpa using e⟩), rfl, q _ (I.hok.fresh (Nat.le_refl _))⟩
end
/-! ### the program's defs -/
abbrev sPauli : Stmt := topS 12
abbrev sInit : Stmt := inClass (topS 12) 0
abbrev sEq : Stmt := inClass (topS 12) 1
abbrev sCut : Stmt := topS 15
abbrev sInitT : Stmt := inClass (topS 3) 0
theorem scInitT : FnScope ["self", "line", "column"] ["self", "line", "column"] (defScope sInitT) := ⟨rfl, rfl, rfl, by decide +kernel, rfl, by decide +kernel, by decide +kernel⟩
theorem scCut : FnScope ["text", "start", "letters", "wrong"] ["text"] (defScope sCut) := ⟨rfl, rfl, rfl, by decide +kernel, rfl, by decide +kernel, by decide +kernel⟩
theorem scInit : FnScope ["self", "text", "head", "letters"] ["self", "text"] (defScope sInit) := ⟨rfl, rfl, rfl, by decide +kernel, rfl, by decide +kernel, by decide +kernel⟩
theorem scEq : FnScope ["self", "other"] ["self", "other"] (defScope sEq) := ⟨rfl, rfl, rfl, by decide +kernel, rfl, by decide +kernel, by decide +kernel⟩
/-- built-in names -/
structure Bl (mg : Str → Option Value) : Prop where
  isi : mg "isinstance" = none
  int : mg "int" = none
  bool : mg "bool" = none
  str : mg "str" = none
  len : mg "len" = none
  range : mg "range" = none
  list : mg "list" = none
  enum : mg "enumerate" = none
/-- no text -/
def Odd (H : Hp) (v : V) : Prop := v = .non ∨ (∃ b, v = .bl b) ∨ (∃ i, v = .int i) ∨ (∃ p xs, v = .ref p ∧ H p = some (.lst xs)) ∨ (∃ p xs, v = .ref p ∧ H p = some (.tup xs)) ∨ ∃ p kv, v = .ref p ∧ H p = some (.dK kv)
theorem Odd.ty {H : Hp} {v : V} (h : Odd H v) : ∃ n : String, (∀ K, TyX K H v (.type n)) ∧ kitB n "str" = some false := by
  rcases h with h | ⟨b, h⟩ | ⟨i, h⟩ | ⟨p, xs, h, e⟩ | ⟨p, xs, h, e⟩ | ⟨p, kv, h, e⟩ <;> subst h
  · exact ⟨_, fun K => .base .non, by decide +kernel⟩
  · exact ⟨_, fun K => .base (.bl b), by decide +kernel⟩
  · exact ⟨_, fun K => .base (.int i), by decide +kernel⟩
  · exact ⟨_, fun K => .base (.lst e), by decide +kernel⟩
  · exact ⟨_, fun K => .base (.tup e), by decide +kernel⟩
  · exact ⟨_, fun K => .base (.dK e), by decide +kernel⟩
theorem Odd.same {H H' : Hp} {v : V} (s : Same H H') (h : Odd H v) : Odd H' v := by
  rcases h with h | h | h | ⟨p, xs, h, e⟩ | ⟨p, xs, h, e⟩ | ⟨p, kv, h, e⟩
  · exact .inl h
  · exact .inr (.inl h)
  · exact .inr (.inr (.inl h))
  · exact .inr (.inr (.inr (.inl ⟨p, xs, h, s _ _ e⟩)))
  · exact .inr (.inr (.inr (.inr (.inl ⟨p, xs, h, s _ _ e⟩))))
  · exact .inr (.inr (.inr (.inr (.inr ⟨p, kv, h, s _ _ e⟩))))
def xdT (l c : V) : List (Str × V) := [("column", c), ("line", l)]
/-- BadText(l, c) leaves the call -/
def Rz (C : Addr) (l c : V) (H : Hp) (E : XK) : Prop := ∀ d H', Same H H' → H' d = some (.xd (xdT l c)) → E (.ref C) (some d) H'
def spInitT (C : Addr) : Sp := fun vs H Q _ => ∃ (a : Addr) (y0 y1 : V), vs = [.ref a, y0, y1] ∧ H a = some (exo a C none) ∧
  ∀ H' d, H d = none → d ≠ a → H' a = some (exo a C (some d)) → H' d = some (exd d (xdT y0 y1)) → (∀ b o, H b = some o → b ≠ a → H' b = some o) → Q .non H'
def Telling (C : Addr) (B : List Nat) (H : Hp) (Q : VK) (E : XK) : Prop := (fine B ∧ ∀ H' p, Same H H' → H p = none → H' p = some (.tup [.str (mS (headL (ph B))), .str (mS (rest B))]) → Q (.ref p) H') ∨ (¬ fine B ∧ Rz C (.int 1) (.int (col B)) H E)
def spCut (C : Addr) : Sp := fun vs H Q E => ∃ v, vs = [v] ∧ ((∃ B : List Nat, v = .str (mS B) ∧ B.length ≤ 1000 ∧ Telling C B H Q E) ∨ (Odd H v ∧ Rz C (.int 0) (.int 0) H E))
theorem same_new {H : Hp} {r : Addr} {o : HO} (n : H r = none) : Same H (upd H r o) := fun b u e => by
  rw [upd_ne (ne_of_none e n)]
  exact e
/-- what the top has written of BadText -/
structure BT (K : PySem.W.Frag) (mg : Str → Option Value) (C fB : Addr) (dB : FuncData) : Prop where
  ox : OexC K C
  ic : PySem.W.findIn K (.ref C) "__init__" = some (some (.ref fB))
  ti : PySem.W.typeIn K (.ref fB) = some (.type "function")
  n0 : PySem.W.findIn K (.ref C) "line" = some none
  n1 : PySem.W.findIn K (.ref C) "column" = some none
  g : mg "BadText" = some (.ref C)
  F : Fun K "__init__" "BadText.__init__" sInitT fB dB
  b : Binds K dB ["self", "line", "column"] []
theorem bootS : bootBuiltins "str" = some (.type "str") := by decide +kernel
theorem bootI : bootBuiltins "int" = some (.type "int") := by decide +kernel
theorem e_plus : ("+" : Str) = ⟨#[43]⟩ := by decide +kernel
theorem e_minus : ("-" : Str) = ⟨#[45]⟩ := by decide +kernel
theorem e_i : ("i" : Str) = ⟨#[105]⟩ := by decide +kernel
theorem e_all : ("IXYZ" : Str) = mS [73, 88, 89, 90] := by decide +kernel
theorem e_no : ("" : Str) = ⟨#[]⟩ := by decide +kernel
theorem e_I : ("I" : Str) = ⟨#[73]⟩ := by decide +kernel
section
variable {P : Program} {w : World} {K : PySem.W.Frag} {mg : Str → Option Value} {base : Heap}
theorem ok_initT {f C : Addr} {fd : FuncData} {k : Nat} (F : Fun K "__init__" "BadText.__init__" sInitT f fd) (T : OexC K C) (n0 : PySem.W.findIn K (.ref C) "line" = some none) (n1 : PySem.W.findIn K (.ref C) "column" = some none) :
    FnOk P w K mg base CX0 (k + 1) f fd ["self", "line", "column"] (spInitT C) := by
  refine F.ok scInitT (fun vs H Q E h => ?_) (fun cdv A outer s H vs Q E hr h => ?_)
  · obtain ⟨a, y0, y1, rfl, _⟩ := h
    rfl
  · obtain ⟨a, y0, y1, rfl, ha, q⟩ := h
    refine ⟨_, pss_cons (ps_ost (pv 0) (pv 1) rfl) (pss_one (ps_ost (pv 0) (pv 2) rfl)), ?_⟩
    refine ⟨_, rfl, _, rfl, a, C, rfl, T, n0, .inl ⟨ha, fun dx nx dne => ?_⟩⟩
    refine ⟨_, rfl, _, rfl, a, C, rfl, T, n1, .inr ⟨dx, _, upd_same, by rw [upd_ne dne]; exact upd_same, by show _ ≤ 900; exact Nat.le_of_ble_eq_true rfl, ?_⟩⟩
    exact q _ dx nx dne (by rw [upd_ne dne.symm]; exact upd_same) upd_same (fun b o e hb => by rw [upd_ne (ne_of_none e nx), upd_ne hb, upd_ne (ne_of_none e nx)]; exact e)
theorem raise_rd {C : Addr} {y0 y1 : V} {H : Hp} {W : XK} (h : Rz C y0 y1 H W) : ∀ a, H a = none → spInitT C (.ref a :: ([y0, y1] ++ [])) (upd H a (exo a C none))
    (fun v H2 => v = .non ∧ ∃ (d : Addr) (fs : List (Str × V)), H2 a = some (exo a C (some d)) ∧ H2 d = some (exd d fs) ∧ H d = none ∧ W (.ref C) (some d) (upd (del H2 a) d (.xd fs))) (fun _ _ _ => False) := by
  intro a na
  refine ⟨a, y0, y1, rfl, upd_same, fun H' d nd dne e1 e2 kp => ⟨rfl, d, _, e1, e2, ?_, ?_⟩⟩
  · rw [upd_ne dne] at nd
    exact nd
  · have nd' : H d = none := by
      rw [upd_ne dne] at nd
      exact nd
    refine h d _ (fun b o e => ?_) upd_same
    have hba : b ≠ a := ne_of_none e na
    rw [upd_ne (ne_of_none e nd'), del_ne hba]
    exact kp b o (by rw [upd_ne hba]; exact e) hba
theorem sizeBig {n : Nat} (h : n ≤ 1000) : n ≤ sizeLine := Nat.le_trans h (by decide)
theorem ok_cut {f C fB : Addr} {fd dB : FuncData} (F : Fun K "_cut_text" "_cut_text" sCut f fd) (T : BT K mg C fB dB) (B : Bl mg) : FnOk P w K mg base (L2.CX P w) 3 f fd ["text"] (spCut C) := by
  have GB : FnOk P w K mg base CX0 1 fB dB ["self", "line", "column"] (spInitT C) := ok_initT T.F T.ox T.n0 T.n1
  refine F.okX scCut (fun vs H Q E h => ?_) (fun cdv A outer s H vs Q E hr h => ?_)
  · obtain ⟨v, rfl, _⟩ := h
    rfl
  · obtain ⟨v, rfl, h⟩ := h
    have hr1 : Room 1 _ := hr.mono (by decide)
    refine ⟨_, C8.pss_cut (ps_if (pt_not (pt_val (pe_callB call_isi (by rfl) B.isi PyProof.Rows.boot_isinstance (pa_cons (pv 0) (pa_cons (pe_bltn (v := .ty "str") (by rfl) B.str bootS rfl) pa_nil)))))
        (pss_one (ps_raise rfl (takes_of rfl rfl rfl rfl) (pmk_oex T.ox T.ic T.ti GB hr T.b .nil pass0 (by rfl) T.g (pa_cons pe_int (pa_cons pe_int pa_nil))))) pss_nil)
      (C8.pss_cut (ps_set (i := 1) scCut.nd rfl (.inl rfl) pe_int)
      (C8.pss_cut (ps_if (pw_or (pt_val (pe_bm PySem.F.plainAttrs_str PySem.F.slot_str_startswith PySem.F.type_str_startswith mt_startswith (pv 0) (pa_cons pe_str pa_nil))) (pw_or1 (pt_val (pe_bm PySem.F.plainAttrs_str PySem.F.slot_str_startswith PySem.F.type_str_startswith mt_startswith (pv 0) (pa_cons pe_str pa_nil))))).pt
        (pss_one (ps_set (i := 1) scCut.nd rfl (.inl rfl) pe_int)) pss_nil)
      (C8.pss_cut (ps_if (pt_val (pe_bm PySem.F.plainAttrs_str PySem.F.slot_str_startswith PySem.F.type_str_startswith mt_startswith (pe_slice sl_str (pv 0) (po_some (pv 1)) po_none) (pa_cons pe_str pa_nil)))
        (pss_one (ps_aug (i := 1) scCut.nd rfl (.inl rfl) pe_int ip_add)) pss_nil)
      (C8.pss_cut (ps_set (i := 2) scCut.nd rfl (.inl rfl) (pe_slice sl_str (pv 0) (po_some (pv 1)) po_none))
      (pss_tok (i := 3) (pek_strip (pv 2)) scCut.nd rfl (.inl rfl)
        (psst_cons (PST.of (ps_if (pw_or (pt_truth (pv 3) (by intro _; rfl)) (pw_or1 (pt_not (pt_truth (pv 2) (by intro _; rfl))))).pt
          (pss_one (ps_raise rfl (takes_of rfl rfl rfl rfl) (pmk_oex T.ox T.ic T.ti GB hr T.b .nil pass0 (by rfl) T.g (pa_cons pe_int (pa_cons (pe_op op_add (pe_op op_sub (pe_callB call_len_str (by rfl) B.len PySem.boot_len (pa_cons (pv 0) pa_nil)) (pe_callB call_len_str (by rfl) B.len PySem.boot_len (pa_cons (pv 3) pa_nil))) pe_int) pa_nil))))) pss_nil))
        (CwR.psst_one (CwR.pst_ret (pet_tup (pat_cons (CwR.pet_replC (pe_slice sl_str (pv 0) po_none (po_some (pv 1)))) (pat_cons (CwR.PET.of (pv 2)) pat_nil)))))))))))  , ?_⟩
    refine ⟨fun σ' H' => σ' = [some v, none, none, none] ∧ H' = H ∧ ∃ B : List Nat, v = .str (mS B) ∧ B.length ≤ 1000 ∧ Telling C B H Q E, ?_, ?_⟩
    · rcases h with ⟨B, rfl, hl, t⟩ | ⟨ho, q⟩
      · exact ⟨_, rfl, _, _, _, _, true, rfl, .ty "str", .base (.str _), kit_ty (by decide +kernel), _, rfl, iteF ⟨rfl, rfl, B, rfl, hl, t⟩⟩
      · obtain ⟨n, ty, kt⟩ := ho.ty
        refine ⟨_, rfl, v, _, _, _, false, rfl, .ty "str", ty K, kit_ty kt, _, rfl, iteT ⟨by show 2 ≤ 1000; decide, raise_rd q⟩⟩
    rintro _ H1 ⟨rfl, rfl, B, rfl, hl, t⟩
    have hz : (mS B).length ≤ sizeLine := by rw [mS_len]; exact sizeBig hl
    refine ⟨fun σ' H' => σ' = [some (.str (mS B)), some (.int 0), none, none] ∧ H' = H1, ⟨rfl, rfl⟩, ?_⟩
    rintro _ H2 ⟨rfl, rfl⟩
    refine ⟨fun σ' H' => σ' = [some (.str (mS B)), some (.int ((st1 B : Nat) : Int)), none, none] ∧ H' = H2, ?_, ?_⟩
    · have s1 := sw_one B 43
      have s2 := sw_one B 45
      rw [← e_plus] at s1
      rw [← e_minus] at s2
      refine ⟨_, rfl, rfl, _, _, rfl, rfl, _, rfl, ite2 (fun e => ?_) (fun e => ⟨_, rfl, rfl, _, _, rfl, rfl, _, rfl, ite2 (fun e2 => ?_) (fun e2 => ?_)⟩)⟩
      · have h1 : B.head? = some 43 := of_decide_eq_true (s1.symm.trans e)
        have : st1 B = 1 := if_pos (.inl h1)
        rw [this]
        exact ⟨rfl, rfl⟩
      · have h1 : B.head? = some 45 := of_decide_eq_true (s2.symm.trans e2)
        have : st1 B = 1 := if_pos (.inr h1)
        rw [this]
        exact ⟨rfl, rfl⟩
      · have h1 : ¬ B.head? = some 43 := fun z => e (s1.trans (decide_eq_true z))
        have h2 : ¬ B.head? = some 45 := fun z => e2 (s2.trans (decide_eq_true z))
        have : st1 B = 0 := if_neg (fun z => z.elim h1 h2)
        rw [this]
        exact ⟨rfl, rfl⟩
    rintro _ H3 ⟨rfl, rfl⟩
    refine ⟨fun σ' H' => σ' = [some (.str (mS B)), some (.int ((start B : Nat) : Int)), none, none] ∧ H' = H3, ?_, ?_⟩
    · have s1 := sw_one (B.drop (st1 B)) 105
      rw [← e_i, ← cut_from] at s1
      refine ⟨_, rfl, _, rfl, _, rfl, _, rfl, hz, rfl, _, _, rfl, rfl, _, rfl, ite2 (fun e => ?_) (fun e => ?_)⟩
      · have h1 : (B.drop (st1 B)).head? = some 105 := of_decide_eq_true (s1.symm.trans e)
        have : start B = st1 B + 1 := by unfold start; rw [if_pos h1]
        rw [this]
        exact ⟨_, rfl, _, _, rfl, rfl, rfl, rfl⟩
      · have h1 : ¬ (B.drop (st1 B)).head? = some 105 := fun z => e (s1.trans (decide_eq_true z))
        have : start B = st1 B := by unfold start; rw [if_neg h1]; rfl
        rw [this]
        exact ⟨rfl, rfl⟩
    rintro _ H4 ⟨rfl, rfl⟩
    refine ⟨fun σ' H' => σ' = [some (.str (mS B)), some (.int ((start B : Nat) : Int)), some (.str (mS (rest B))), none] ∧ H' = H4, ?_, ?_⟩
    · refine ⟨_, rfl, _, rfl, _, rfl, _, rfl, hz, ?_⟩
      rw [cut_from]
      exact ⟨rfl, rfl⟩
    rintro _ H5 ⟨rfl, rfl⟩
    have hzr : (mS (rest B)).length ≤ sizeLine := by
      rw [mS_len]
      refine sizeBig (Nat.le_trans ?_ hl)
      rw [show rest B = B.drop (start B) from rfl, List.length_drop]
      omega
    have hst : Txt.lstripChars (mS (rest B)) ("IXYZ" : Str) = mS ((rest B).dropWhile isL) := by
      rw [e_all, lstrip_eq]
      rfl
    refine ⟨_, rfl, _, rfl, hzr, ?_⟩
    rw [hst]
    have hw : ((rest B).dropWhile isL).length ≤ B.length := by
      have := len_split B
      omega
    have hzw : (mS ((rest B).dropWhile isL)).length ≤ sizeLine := by rw [mS_len]; exact sizeBig (Nat.le_trans hw hl)
    have no_fine : ¬ fine B → Rz C (.int 1) (.int (((mS B).length : Int) - ((mS ((rest B).dropWhile isL)).length : Int) + 1)) H5 E := by
      intro nf
      rcases t with ⟨y, _⟩ | ⟨_, q⟩
      · exact absurd y nf
      · have e : (((mS B).length : Int) - ((mS ((rest B).dropWhile isL)).length : Int) + 1) = ((col B : Nat) : Int) := by
          rw [mS_len, mS_len]
          unfold col
          rw [if_neg nf]
          omega
        rw [e]
        exact q
    refine ⟨_, rfl, _, ⟨hzw, rfl⟩, ite2 (fun e => ?_) (fun e => ⟨_, rfl, _, ⟨hzr, rfl⟩, ite2 (fun e2 => ?_) (fun e2 => ?_)⟩)⟩
    · have nf : ¬ fine B := by
        rintro ⟨z, _⟩
        rw [z] at e
        revert e
        decide
      refine ⟨_, rfl, _, rfl, hz, _, rfl, _, rfl, hzw, _, _, rfl, rfl, _, _, rfl, rfl, by show 2 ≤ 1000; decide, raise_rd (no_fine nf)⟩
    · have nf : ¬ fine B := by
        rintro ⟨_, z⟩
        have : ((mS (rest B)).length : Int) ≠ 0 := by
          rw [mS_len]
          have := List.length_pos_iff.mpr z
          omega
        rw [(bne_iff_ne).mpr this] at e2
        cases e2
      refine ⟨_, rfl, _, rfl, hz, _, rfl, _, rfl, hzw, _, _, rfl, rfl, _, _, rfl, rfl, by show 2 ≤ 1000; decide, raise_rd (no_fine nf)⟩
    · have f1 : (rest B).dropWhile isL = [] := by
        have : ¬ ((mS ((rest B).dropWhile isL)).length : Int) ≠ 0 := fun z => e ((bne_iff_ne).mpr z)
        rw [mS_len] at this
        exact List.length_eq_zero_iff.mp (by omega)
      have f2 : rest B ≠ [] := by
        intro z
        rw [z] at e2
        exact e2 rfl
      rcases t with ⟨_, q⟩ | ⟨nf, _⟩
      · refine ⟨_, rfl, _, rfl, _, rfl, _, rfl, hz, ?_⟩
        rw [cut_to]
        have l1 : (mS (B.take (start B))).length ≤ 1000 := by
          rw [mS_len, List.length_take]
          omega
        refine ⟨_, rfl, ?_, ?_⟩
        · have : ("" : Str).length = 0 := by decide +kernel
          rw [this, Nat.mul_zero]
          omega
        · rw [show ("+" : Str) = ⟨#[43]⟩ from e_plus, show ("" : Str) = ⟨#[]⟩ from e_no, strike, head_of]
          refine ⟨_, rfl, by show 2 ≤ sizeLine; decide, fun p np => ?_⟩
          exact q _ p (same_new np) np upd_same
      · exact absurd ⟨f1, f2⟩ nf
end
end KQ

namespace KQ
open PySem PySem.Spec PyProof.Rows L2
/-! ### strings as objects -/
def PauliAt (C : Addr) (H : Hp) (a : Addr) (R : List Nat) (p : Nat) : Prop := ∃ dx fs, H a = some (.ins C dx fs) ∧ fs.lookup ("letters" : Str) = some (.str (mS R)) ∧ fs.lookup ("phase" : Str) = some (.int (p : Int)) ∧
  fs.lookup ("size" : Str) = some (.int (R.length : Int)) ∧ fs.lookup ("weight" : Str) = some (.int ((R.length : Int) - (R.count 73 : Int)))
/-- the tuple of heads -/
structure Hd4 (K : PySem.W.Frag) (mg : Str → Option Value) (A : Addr) : Prop where
  l : ∃ t0 t1 t2 t3 n sl, K.lookup A = some ⟨.type "tuple", none, .seq #[.str "" t0, .str "i" t1, .str "-" t2, .str "-i" t3] n, sl⟩
  g : mg "HEADS" = some (.ref A)
theorem e_mi : ("-i" : Str) = mS [45, 105] := by decide +kernel
def headsV : List V := [mS [], mS [105], mS [45], mS [45, 105]].map V.str
theorem Hd4.sq {K : PySem.W.Frag} {mg : Str → Option Value} {A : Addr} (h : Hd4 K mg A) (H : Hp) : SqT K H A ([mS [], mS [105], mS [45], mS [45, 105]].map V.str) := by
  obtain ⟨t0, t1, t2, t3, n, sl, e⟩ := h.l
  refine .inr ⟨_, _, n, e, rfl, rfl, by show 4 ≤ sizeLine; decide, ?_⟩
  refine .cons ⟨t0, ?_⟩ (.cons ⟨t1, ?_⟩ (.cons ⟨t2, ?_⟩ (.cons ⟨t3, ?_⟩ .nil)))
  · rw [e_no]
  · rw [e_i]
  · rw [e_minus]
  · rw [e_mi]
theorem Hd4.ty {K : PySem.W.Frag} {mg : Str → Option Value} {A : Addr} (h : Hd4 K mg A) (H : Hp) : tyV K "tuple" (.ref A) H := by
  obtain ⟨t0, t1, t2, t3, n, sl, e⟩ := h.l
  exact .inr (.inl ⟨rfl, _, e, rfl, rfl⟩)
/-- what the top has written of Pauli -/
structure PCl (K : PySem.W.Frag) (mg : Str → Option Value) (C fI fE : Addr) : Prop where
  cl : Cls K C
  nL : NoAttr K C "letters"
  nP : NoAttr K C "phase"
  nS : NoAttr K C "size"
  nW : NoAttr K C "weight"
  mkf : Mk K C fI
  ha : PySem.W.findIn K (.ref C) "__class__" = some (some (.builtin "object.__class__"))
  hn : PySem.W.specialIn K (.builtin "object.__class__") "__get__" = some (some (.builtin "getset_descriptor.__get__"))
  ht : PySem.W.takesIn K (.builtin "object.__class__") = some true
  hm : PySem.W.mroIn K C (.type "object") = some true
  kC : PySem.W.kitOne K (.ref C) (.ref C) = some true
  kS : PySem.W.kitOne K (.type "str") (.ref C) = some false
  eq : PySem.W.findIn K (.ref C) "__eq__" = some (some (.ref fE))
  ef : PySem.W.isFn K (.ref fE) = true
  en : PySem.W.notFirst K C (.type "str") = true
  g : mg "Pauli" = some (.ref C)
def spInit (C CT : Addr) : Sp := fun vs H Q E => ∃ (a dx : Addr) (v : V), vs = [.ref a, v] ∧ H a = some (.ins C dx []) ∧
  ((∃ B : List Nat, v = .str (mS B) ∧ B.length ≤ 1000 ∧ ((fine B ∧ ∀ H', PauliAt C H' a (rest B) (ph B) → (∀ b o, b ≠ a → H b = some o → H' b = some o) → Q .non H') ∨ (¬ fine B ∧ Rz CT (.int 1) (.int (col B)) H E))) ∨ (Odd H v ∧ Rz CT (.int 0) (.int 0) H E))
def spEqP (C : Addr) : Sp := fun vs H Q _ => ∃ (a : Addr) (y : V) (R : List Nat) (p : Nat), vs = [.ref a, y] ∧ PauliAt C H a R p ∧
  ((∃ b R' p', y = .ref b ∧ PauliAt C H b R' p' ∧ Q (.bl (decide (R = R') && decide (p = p'))) H) ∨ ((∃ z : Str, y = .str z) ∧ Q (.bl false) H))
theorem cnt_count (c : Nat) : ∀ L : List Nat, countIn (.str ⟨#[c]⟩) (L.map fun n => PyData.str ⟨#[n]⟩) = (L.count c : Int)
  | [] => rfl
  | a :: L => by
    show (if same (.str ⟨#[a]⟩) (.str ⟨#[c]⟩) then 1 else 0) + countIn (.str ⟨#[c]⟩) (L.map fun n => PyData.str ⟨#[n]⟩) = _
    rw [cnt_count c L, List.count_cons]
    have e : same (.str ⟨#[a]⟩) (.str ⟨#[c]⟩) = (a == c) := by
      show ((⟨#[a]⟩ : Str) == ⟨#[c]⟩) = _
      by_cases h : a = c
      · subst h
        simp
      · have : (⟨#[a]⟩ : Str) ≠ ⟨#[c]⟩ := fun z => h (by injection z with z; simpa using z)
        rw [beq_eq_false_iff_ne.mpr this, beq_eq_false_iff_ne.mpr h]
    rw [e]
    by_cases h : a = c
    · subst h
      simp
      omega
    · rw [beq_eq_false_iff_ne.mpr h]
      simp
theorem head_at {p : Nat} (h : p < 4) : ([mS [], mS [105], mS [45], mS [45, 105]] : List Str)[p]? = some (mS (headL p)) := by
  match p, h with
  | 0, _ => rfl
  | 1, _ => rfl
  | 2, _ => rfl
  | 3, _ => rfl
theorem head_first {p : Nat} (h : p < 4) : ∀ m, m < p → ([mS [], mS [105], mS [45], mS [45, 105]] : List Str)[m]? ≠ some (mS (headL p)) := by
  match p, h with
  | 0, _ => exact fun m hm => by omega
  | 1, _ => 
    intro m hm
    match m, hm with
    | 0, _ => decide
  | 2, _ =>
    intro m hm
    match m, hm with
    | 0, _ => decide
    | 1, _ => decide
  | 3, _ =>
    intro m hm
    match m, hm with
    | 0, _ => decide
    | 1, _ => decide
    | 2, _ => decide
section
variable {P : Program} {w : World} {K : PySem.W.Frag} {mg : Str → Option Value} {base : Heap}
theorem ok_init {f fC C CT fE fB A : Addr} {fd dC dB : FuncData} (F : Fun K "__init__" "Pauli.__init__" sInit f fd) (N : PCl K mg C f fE) (FC : Fun K "_cut_text" "_cut_text" sCut fC dC) (bC : Binds K dC ["text"] []) (gC : mg "_cut_text" = some (.ref fC))
    (T : BT K mg CT fB dB) (hd : Hd4 K mg A) (B : Bl mg) : FnOk P w K mg base (L2.CX P w) 4 f fd ["self", "text"] (spInit C CT) := by
  have GC : FnOk P w K mg base (L2.CX P w) 3 fC dC ["text"] (spCut CT) := ok_cut FC T B
  refine F.okX scInit (fun vs H Q E h => ?_) (fun cdv A' outer s H vs Q E hr h => ?_)
  · obtain ⟨a, dx, v, rfl, _⟩ := h
    rfl
  · obtain ⟨a, dx, v, rfl, ea, h⟩ := h
    refine ⟨_, C8.pss_cut (ps_asg (pe_call GC hr (by rfl) gC FC.kp bC .nil (passes_call (takes_of rfl rfl rfl rfl) (fun _ _ _ _ h => h)) (pa_cons (pv 1) pa_nil)) (pg_tup rfl (pgs_cons (pg_name (i := 2) scInit.nd rfl (.inl rfl)) (pgs_cons (pg_name (i := 3) scInit.nd rfl (.inl rfl)) pgs_nil))))
      (pss_cons (ps_fld (pv 0) (pv 3) rfl)
      (pss_cons (ps_fld (pv 0) (pe_bm PySem.F.plainAttrs_tuple PySem.F.slot_tuple_index PySem.F.type_tuple_index mt_tup_index (pe_glob (v := .ref A) (by rfl) hd.g rfl) (pa_cons (pv 2) pa_nil)) rfl)
      (pss_cons (ps_fld (pv 0) (pe_callB call_len_str (by rfl) B.len PySem.boot_len (pa_cons (pv 3) pa_nil)) rfl)
      (pss_one (ps_fld (pv 0) (pe_op op_sub (pe_callB call_len_str (by rfl) B.len PySem.boot_len (pa_cons (pv 3) pa_nil)) (pe_bm PySem.F.plainAttrs_str PySem.F.slot_str_count PySem.F.type_str_count mt_count (pv 3) (pa_cons pe_str pa_nil))) rfl))))), ?_⟩
    refine ⟨fun σ' H' => ∃ B : List Nat, fine B ∧ B.length ≤ 1000 ∧ σ' = [some (.ref a), some v, some (.str (mS (headL (ph B)))), some (.str (mS (rest B)))] ∧ Same H H' ∧ ∀ H', PauliAt C H' a (rest B) (ph B) → (∀ b o, b ≠ a → H b = some o → H' b = some o) → Q .non H', ?_, ?_⟩
    · refine ⟨_, rfl, v, rfl, ?_⟩
      rcases h with ⟨B, rfl, hl, h⟩ | ⟨ho, q⟩
      · refine .inl ⟨B, rfl, hl, ?_⟩
        rcases h with ⟨hf, q⟩ | ⟨hf, q⟩
        · exact .inl ⟨hf, fun H' p s np ep => ⟨p, _, rfl, .inl (.inl ep), rfl, _, _, rfl, _, _, rfl, rfl, B, hf, hl, rfl, s, q⟩⟩
        · exact .inr ⟨hf, q⟩
      · exact .inr ⟨ho, q⟩
    rintro _ H1 ⟨B, hf, hl, rfl, s1, q⟩
    have ea1 := s1 _ _ ea
    have hlr : (rest B).length ≤ 1000 := by
      refine Nat.le_trans ?_ hl
      rw [show rest B = B.drop (start B) from rfl, List.length_drop]
      omega
    have hz : (mS (rest B)).length ≤ sizeLine := by rw [mS_len]; exact sizeBig hlr
    refine ⟨_, rfl, _, rfl, a, C, dx, _, rfl, ea1, N.cl, N.nL, by show 0 < 1000; decide, ?_⟩
    refine ⟨hd.ty _, _, rfl, A, _, _, _, rfl, rfl, hd.sq _, head_at (ph_lt B), head_first (ph_lt B), _, rfl, a, C, dx, _, rfl, upd_same, N.cl, N.nP, by show 1 < 1000; decide, ?_⟩
    refine ⟨_, rfl, _, rfl, hz, _, rfl, a, C, dx, _, rfl, upd_same, N.cl, N.nS, by show 2 < 1000; decide, ?_⟩
    refine ⟨_, rfl, _, rfl, hz, _, rfl, rfl, _, _, rfl, rfl, _, _, rfl, rfl, _, rfl, a, C, dx, _, rfl, upd_same, N.cl, N.nW, by show 3 < 1000; decide, ?_⟩
    refine q _ ⟨dx, _, upd_same, ?_, ?_, ?_, ?_⟩ (fun b o hb e => by rw [upd_ne hb, upd_ne hb, upd_ne hb, upd_ne hb]; exact s1 _ _ e)
    · rw [lookup_putF, if_neg (by decide +kernel), lookup_putF, if_neg (by decide +kernel), lookup_putF, if_neg (by decide +kernel), lookup_putF, if_pos rfl]
    · rw [lookup_putF, if_neg (by decide +kernel), lookup_putF, if_neg (by decide +kernel), lookup_putF, if_pos rfl]
    · rw [lookup_putF, if_neg (by decide +kernel), lookup_putF, if_pos rfl, mS_len]
    · rw [lookup_putF, if_pos rfl, mS_len, e_I]
      have : Txt.count (mS (rest B)) ⟨#[73]⟩ = ((rest B).count 73 : Int) := (PyProof.Rows.count_is _ _).trans (cnt_count 73 _)
      rw [this]
theorem PauliAt.ty {C : Addr} {fI fE : Addr} (N : PCl K mg C fI fE) {H : Hp} {a : Addr} {R : List Nat} {p : Nat} (h : PauliAt C H a R p) : TyX K H (.ref a) (.ref C) := by
  obtain ⟨dx, fs, e, _⟩ := h
  exact .base (.ins e N.cl N.ha N.hn N.ht N.hm)
theorem ok_eq {f fI C : Addr} {fd : FuncData} {k : Nat} (F : Fun K "__eq__" "Pauli.__eq__" sEq f fd) (N : PCl K mg C fI f) (B : Bl mg) : FnOk P w K mg base CX0 (k + 1) f fd ["self", "other"] (spEqP C) := by
  refine F.ok scEq (fun vs H Q E h => ?_) (fun cdv A' outer s H vs Q E hr h => ?_)
  · obtain ⟨a, y, R, p, rfl, _⟩ := h
    rfl
  · obtain ⟨a, y, R, p, rfl, hP, h⟩ := h
    refine ⟨_, pss_one (ps_ret (pe_and (pe_callB call_isi (by rfl) B.isi PyProof.Rows.boot_isinstance (pa_cons (pv 1) (pa_cons (pe_glob (v := .ref C) (by rfl) N.g rfl) pa_nil)))
      (pe_and (pe_cmpR op_eq (pe_fld (pv 0) rfl) (pe_fld (pv 1) rfl) (nomark _)) (pe_one (pe_cmpR op_eq (pe_fld (pv 0) rfl) (pe_fld (pv 1) rfl) (nomark _)))))), ?_⟩
    rcases h with ⟨b, R', p', rfl, hP', q⟩ | ⟨⟨z, rfl⟩, q⟩
    · refine ⟨_, rfl, _, _, _, _, true, rfl, .own C, hP'.ty N, N.kC, _, rfl, ?_⟩
      obtain ⟨dx, fs, e, l1, l2, _⟩ := hP
      obtain ⟨dy, gs, e', l1', l2', _⟩ := hP'
      refine ⟨_, rfl, a, C, dx, fs, _, rfl, e, N.cl, N.nL, l1, _, rfl, b, C, dy, gs, _, rfl, e', N.cl, N.nL, l1', rfl, _, rfl, ?_⟩
      by_cases hR : R = R'
      · subst hR
        rw [decide_eq_true rfl] at q ⊢
        refine ⟨_, rfl, a, C, dx, fs, _, rfl, e, N.cl, N.nP, l2, _, rfl, b, C, dy, gs, _, rfl, e', N.cl, N.nP, l2', rfl, ?_⟩
        by_cases hp : p = p'
        · subst hp
          rw [decide_eq_true rfl] at q ⊢
          exact q
        · rw [decide_eq_false hp] at q
          rw [decide_eq_false (fun z => hp (by have := V.int.inj z; omega))]
          exact q
      · rw [decide_eq_false hR] at q
        rw [decide_eq_false (fun z => hR (mS_inj (V.str.inj z)))]
        exact q
    · exact ⟨_, rfl, _, _, _, _, false, rfl, .own C, .base (.str z), N.kS, _, rfl, q⟩
end
end KQ

namespace KQ
open PySem PySem.Spec PyProof.Rows L2
/-! ### places of words -/
abbrev sPlaced : Stmt := topS 13
abbrev sWof : Stmt := topS 14
abbrev sRdW : Stmt := topS 16
abbrev sEnd : Stmt := topS 17
abbrev sMay : Stmt := topS 18
theorem scMay : FnScope ["size", "text", "least", "low", "many"] ["size", "text", "least"] (defScope sMay) := ⟨rfl, rfl, rfl, by decide +kernel, rfl, by decide +kernel, by decide +kernel⟩
theorem scEnd : FnScope ["size", "word", "start", "least", "end"] ["size", "word", "start", "least"] (defScope sEnd) := ⟨rfl, rfl, rfl, by decide +kernel, rfl, by decide +kernel, by decide +kernel⟩
theorem e_digs : ("0123456789" : Str).cps.toList = [48, 49, 50, 51, 52, 53, 54, 55, 56, 57] := by decide +kernel
theorem in_digs (c : Nat) : decide (c ∈ ("0123456789" : Str).cps.toList) = decide (isD c) := by
  rw [e_digs]
  refine decide_eq_decide.mpr ?_
  simp only [List.mem_cons, List.mem_nil_iff, or_false]
  unfold isD
  omega
theorem e_zero : ("0" : Str) = mS [48] := by decide +kernel
theorem at_last (ds : List Nat) (c : Nat) : atI (mS (ds ++ [c])).cps.toList (-1) = some c := by
  have e : (mS (ds ++ [c])).cps.toList = ds ++ [c] := by simp
  rw [e]
  unfold atI ixN
  rw [if_neg (by decide), List.length_append, if_pos (by show -(((ds.length + 1 : Nat) : Int)) ≤ -1; omega)]
  show (ds ++ [c])[(-1 + ((ds.length + 1 : Nat) : Int)).toNat]? = some c
  rw [show (-1 + ((ds.length + 1 : Nat) : Int)).toNat = ds.length by omega, List.getElem?_append_right (Nat.le_refl _), Nat.sub_self]
  rfl
def spMay : Sp := fun vs H Q _ => ∃ (n l : Nat) (ds : List Nat) (c : Nat), vs = [.int (n : Nat), .str (mS (ds ++ [c])), .int (l : Nat)] ∧ l < n ∧ n ≤ 24 ∧ (ds = [] ∨ begs l n ds = true) ∧ Q (.bl (begs l n (ds ++ [c]))) H
theorem cut_two (L : List Nat) (i j : Nat) (h : i ≤ j) : cutS (mS L) (some (i : Int)) (some (j : Int)) = mS ((L.drop i).take (j - i)) := by
  rw [mS_cut, HT.sIx_nat, HT.sIx_nat]
  congr 1
  by_cases h1 : i ≤ L.length
  · rw [Nat.min_eq_left h1]
    by_cases h2 : j ≤ L.length
    · rw [Nat.min_eq_left h2]
    · rw [Nat.min_eq_right (by omega), List.take_of_length_le (by rw [List.length_drop]; omega), List.take_of_length_le (by rw [List.length_drop]; omega)]
  · rw [Nat.min_eq_right (by omega : L.length ≤ i), List.drop_of_length_le (Nat.le_refl _), List.drop_of_length_le (by omega)]
    simp
section
variable {P : Program} {w : World} {K : PySem.W.Frag} {mg : Str → Option Value} {base : Heap}
theorem ok_may {f : Addr} {fd : FuncData} {k : Nat} (F : Fun K "_may_begin" "_may_begin" sMay f fd) (B : Bl mg) : FnOk P w K mg base CX0 (k + 1) f fd ["size", "text", "least"] spMay := by
  refine F.ok scMay (fun vs H Q E h => ?_) (fun cdv A outer s H vs Q E hr h => ?_)
  · obtain ⟨n, l, ds, c, rfl, _⟩ := h
    rfl
  · obtain ⟨n, l, ds, c, rfl, hln, hn, hb, q⟩ := h
    refine ⟨_, C8.pss_cut (ps_if (pt_cmpR op_notIn_sign (pe_ix ix_str (pv 1) (pe_un un_neg pe_int) (fun _ _ => rfl)) pe_str (by with_unfolding_all rfl)) (pss_one (ps_ret pe_bl)) pss_nil)
      (C8.pss_cut (ps_if (pt_cmpR op_eq (pe_ix ix_str (pv 1) pe_int (fun _ _ => rfl)) pe_str (nomark _)) (pss_one (ps_ret (pe_and (pe_cmpR op_eq (pv 1) pe_str (nomark _)) (pe_one (pe_cmpR op_eq (pv 2) pe_int (nomark _)))))) pss_nil)
      (C8.pss_cut (ps_set (i := 3) scMay.nd rfl (.inl rfl) (pe_callTy call_int_str (by rfl) B.int bootI (pa_cons (pv 1) pa_nil)))
      (C8.pss_cut (ps_set (i := 4) scMay.nd rfl (.inl rfl) pe_int)
      (C8.pss_cut (ps_while PassesOwn.never (pt_cmpR op_lt (pv 3) (pv 0) (nomark _))
        (C8.pss_cut (ps_if (pt_cmpR op_gt (pe_op op_add (pv 3) (pv 4)) (pv 2) (nomark _)) (pss_one (ps_ret pe_bl)) pss_nil)
        (C8.pss_cut (ps_set (i := 3) scMay.nd rfl (.inl rfl) (pe_op op_mul (pv 3) pe_int))
        (pss_one (ps_set (i := 4) scMay.nd rfl (.inl rfl) (pe_op op_mul (pv 4) pe_int))))))
      (pss_one (ps_ret pe_bl)))))), ?_⟩
    have dl : ds.length ≤ 2 := by
      rcases hb with rfl | hb
      · exact Nat.zero_le _
      · exact begs_len hb
    have hz : (mS (ds ++ [c])).length ≤ sizeLine := by
      rw [mS_len, List.length_append]
      exact Nat.le_trans (by show ds.length + 1 ≤ 3; omega) (by decide)
    refine ⟨fun σ' H' => σ' = [some (.int (n : Nat)), some (.str (mS (ds ++ [c]))), some (.int (l : Nat)), none, none] ∧ H' = H ∧ isD c, ?_, ?_⟩
    · refine ⟨_, rfl, _, rfl, _, _, c, rfl, rfl, hz, at_last ds c, c, _, rfl, rfl, _, rfl, ?_⟩
      rw [in_digs]
      by_cases hc : isD c
      · rw [decide_eq_true hc]
        exact iteF ⟨rfl, rfl, hc⟩
      · rw [decide_eq_false hc]
        have : begs l n (ds ++ [c]) = false := Bool.eq_false_iff.mpr fun y => hc (begs_dig (by omega) y c (by simp))
        rw [this] at q
        exact iteT q
    rintro _ H1 ⟨rfl, eH, hc⟩
    subst eH
    obtain ⟨d0, hd0⟩ : ∃ d0, (ds ++ [c])[0]? = some d0 := ⟨_, List.getElem?_eq_getElem (by rw [List.length_append]; exact Nat.succ_pos _)⟩
    have hat : atI (mS (ds ++ [c])).cps.toList 0 = some d0 := by
      have e : (mS (ds ++ [c])).cps.toList = ds ++ [c] := by simp
      rw [e]
      exact atI_nat (j := 0) hd0
    have hh : (ds ++ [c]).head? = some d0 := by rw [List.head?_eq_getElem?]; exact hd0
    refine ⟨fun σ' H' => σ' = [some (.int (n : Nat)), some (.str (mS (ds ++ [c]))), some (.int (l : Nat)), none, none] ∧ H' = H1 ∧ ¬ (ds ++ [c]).head? = some 48, ?_, ?_⟩
    · refine ⟨_, rfl, _, _, d0, rfl, rfl, hz, hat, rfl, _, rfl, ite2 (fun z => ?_) (fun z => ?_)⟩
      · have z := mS_inj (V.str.inj (of_decide_eq_true z) : mS [d0] = mS [48])
        have e48 : d0 = 48 := by simpa using z
        subst e48
        rw [may_zero hb hh hln] at q
        refine ⟨_, rfl, rfl, _, rfl, ?_⟩
        rw [e_zero]
        by_cases y : ds ++ [c] = [48]
        · rw [decide_eq_true y, Bool.true_and] at q
          rw [y, decide_eq_true rfl]
          refine iteT ⟨_, rfl, rfl, ?_⟩
          have : decide (V.int (l : Nat) = V.int 0) = decide (l = 0) := decide_eq_decide.mpr ⟨fun e => by have := V.int.inj e; omega, fun e => by rw [e]; rfl⟩
          rw [this]
          exact q
        · rw [decide_eq_false y, Bool.false_and] at q
          rw [decide_eq_false (fun e => y (mS_inj (V.str.inj e)))]
          exact iteF q
      · refine ⟨rfl, rfl, fun e => z ?_⟩
        have : d0 = 48 := Option.some.inj (hh.symm.trans e)
        subst this
        rw [e_zero]
        exact decide_eq_true rfl
    rintro _ H2 ⟨rfl, eH, nz⟩
    subst eH
    have hD : ∀ x ∈ ds ++ [c], isD x := by
      intro x hx
      rcases List.mem_append.mp hx with hx | hx
      · rcases hb with rfl | hb
        · cases hx
        · exact begs_dig (by omega) hb x hx
      · rw [List.mem_singleton.mp hx]
        exact hc
    have iv := int_val (ds := ds ++ [c]) (by simp) (by rw [List.length_append]; show ds.length + 1 ≤ 3; omega) hD
    obtain ⟨v1, key⟩ := may_dig hn hln hb hc nz
    obtain ⟨v, hv⟩ : ∃ v, v = val (ds ++ [c]) := ⟨_, rfl⟩
    rw [← hv] at iv v1 key
    refine ⟨fun σ' H' => σ' = [some (.int (n : Nat)), some (.str (mS (ds ++ [c]))), some (.int (l : Nat)), some (.int (v : Nat)), none] ∧ H' = H2, ?_, ?_⟩
    · exact ⟨_, rfl, _, _, rfl, iv, by rw [mS_len, List.length_append]; show ds.length + 1 ≤ 640; omega, rfl, rfl⟩
    rintro _ H3 ⟨rfl, eH⟩
    subst eH
    refine ⟨fun σ' H' => σ' = [some (.int (n : Nat)), some (.str (mS (ds ++ [c]))), some (.int (l : Nat)), some (.int (v : Nat)), some (.int ((1 : Nat) : Int))] ∧ H' = H3, ⟨rfl, rfl⟩, ?_⟩
    rintro _ H4 ⟨rfl, eH⟩
    subst eH
    refine ⟨fun σ' H' => ∃ v3 v4, σ' = [some (.int (n : Nat)), some (.str (mS (ds ++ [c]))), some (.int (l : Nat)), v3, v4] ∧ H' = H4 ∧ ¬ mayB l n v, ?_, ?_⟩
    · refine ⟨fun m σ' H' => ∃ j, σ' = [some (.int (n : Nat)), some (.str (mS (ds ++ [c]))), some (.int (l : Nat)), some (.int ((v * 10 ^ j : Nat) : Int)), some (.int ((10 ^ j : Nat) : Int))] ∧ H' = H4 ∧ (∀ j', j' < j → ¬ (v * 10 ^ j' < n ∧ l < v * 10 ^ j' + 10 ^ j')) ∧ v * 10 ^ j ≤ 10 * n + v ∧ m = 10 * n + v - v * 10 ^ j, ⟨_, 0, by rw [Nat.pow_zero, Nat.mul_one], rfl, fun j' h => by omega, by rw [Nat.pow_zero]; omega, rfl⟩, ?_⟩
      rintro m _ H5 ⟨j, rfl, eH, no, le, rfl⟩
      subst eH
      have pj : 0 < 10 ^ j := Nat.pow_pos (by decide)
      have vj : 10 ^ j ≤ v * 10 ^ j := Nat.le_mul_of_pos_left _ v1
      refine ⟨_, rfl, _, rfl, _, _, rfl, rfl, _, rfl, ?_⟩
      by_cases z : v * 10 ^ j < n
      · rw [decide_eq_true (by omega)]
        refine iteT ⟨_, fun _ _ w => w, ?_⟩
        refine ⟨fun σ' H' => σ' = [some (.int (n : Nat)), some (.str (mS (ds ++ [c]))), some (.int (l : Nat)), some (.int ((v * 10 ^ j : Nat) : Int)), some (.int ((10 ^ j : Nat) : Int))] ∧ H' = H5 ∧ ¬ l < v * 10 ^ j + 10 ^ j, ?_, ?_⟩
        · refine ⟨_, rfl, _, rfl, _, _, rfl, rfl, _, rfl, _, _, rfl, rfl, _, rfl, ?_⟩
          by_cases y : l < v * 10 ^ j + 10 ^ j
          · rw [decide_eq_true (by omega)]
            rw [key.mpr ⟨j, z, y⟩] at q
            exact iteT q
          · rw [decide_eq_false (by omega)]
            exact iteF ⟨rfl, rfl, y⟩
        rintro _ H6 ⟨rfl, eH, y⟩
        subst eH
        have e1 : ((v * 10 ^ j : Nat) : Int) * 10 = ((v * 10 ^ (j + 1) : Nat) : Int) := by rw [Nat.pow_succ, ← Nat.mul_assoc]; push_cast; rfl
        have e2 : ((10 ^ j : Nat) : Int) * 10 = ((10 ^ (j + 1) : Nat) : Int) := by rw [Nat.pow_succ]; push_cast; rfl
        have e3 : v * 10 ^ (j + 1) = v * 10 ^ j * 10 := by rw [Nat.pow_succ, ← Nat.mul_assoc]
        refine ⟨fun σ' H' => σ' = [some (.int (n : Nat)), some (.str (mS (ds ++ [c]))), some (.int (l : Nat)), some (.int ((v * 10 ^ (j + 1) : Nat) : Int)), some (.int ((10 ^ j : Nat) : Int))] ∧ H' = H6, ?_, ?_⟩
        · refine ⟨_, rfl, _, _, rfl, rfl, .inr ⟨by decide, by decide⟩, ?_, rfl⟩
          show [_, _, _, some (V.int (((v * 10 ^ j : Nat) : Int) * 10)), _] = _
          rw [e1]
        rintro _ H7 ⟨rfl, eH⟩
        subst eH
        refine ⟨_, rfl, _, _, rfl, rfl, .inr ⟨by decide, by decide⟩, 10 * n + v - v * 10 ^ (j + 1), ?_, j + 1, ?_, rfl, ?_, ?_, rfl⟩
        · omega
        · show [_, _, _, _, some (V.int (((10 ^ j : Nat) : Int) * 10))] = _
          rw [e2]
        · intro j' h
          by_cases x : j' = j
          · subst x
            exact fun t => y t.2
          · exact no j' (by omega)
        · omega
      · rw [decide_eq_false (by omega)]
        refine iteF ⟨_, _, rfl, rfl, ?_⟩
        rintro ⟨j', h1, h2⟩
        by_cases x : j' < j
        · exact no j' x ⟨h1, h2⟩
        · have : v * 10 ^ j ≤ v * 10 ^ j' := Nat.mul_le_mul_left _ (Nat.pow_le_pow_right (by decide) (by omega))
          omega
    rintro _ H5 ⟨v3, v4, rfl, eH, no⟩
    subst eH
    have : begs l n (ds ++ [c]) = false := Bool.eq_false_iff.mpr fun y => no (key.mp y)
    rw [this] at q
    exact q
end
end KQ

namespace KQ
open PySem PySem.Spec PyProof.Rows L2
/-! ### where a place ends; the terms of a word -/
theorem scRdW : FnScope ["size", "word", "start", "found", "least", "end", "place"] ["size", "word", "start"] (defScope sRdW) := ⟨rfl, rfl, rfl, by decide +kernel, rfl, by decide +kernel, by decide +kernel⟩
def spEnd (C : Addr) : Sp := fun vs H Q E => ∃ (n l i : Nat) (B : List Nat), vs = [.int (n : Nat), .str (mS B), .int (i : Nat), .int (l : Nat)] ∧ l < n ∧ n ≤ 24 ∧ i ≤ B.length ∧ B.length ≤ 1000 ∧
  ∀ ds, ds = dg l n (B.drop i) → (plc l n ds = none → Rz C (.int 1) (.int (i + ds.length + 1 : Nat)) H E) ∧ ∀ p, plc l n ds = some p → Q (.int (i + ds.length : Nat)) H
theorem dg_pre (l n : Nat) (R : List Nat) : dg l n R = R.take (dg l n R).length := by
  unfold dg
  split
  · split
    · rename_i h1 h2
      rw [List.length_take, Nat.min_eq_left h2.1]
    · rename_i h1 h2
      rw [List.length_take, Nat.min_eq_left h1.1]
  · rfl
/-- told terms: where their pairs stand -/
abbrev Fp := Addr × Nat × Nat
def fpV (L : List Fp) : List V := L.map fun a => .ref a.1
def FpAt (H : Hp) (L : List Fp) : Prop := ∀ a ∈ L, H a.1 = some (.tup [.str (mS [a.2.1]), .int (a.2.2 : Nat)])
theorem FpAt.same {H H' : Hp} {L : List Fp} (h : FpAt H L) (s : Same H H') : FpAt H' L := fun a ha => s _ _ (h a ha)
def spRdW (C : Addr) : Sp := fun vs H Q E => ∃ (n : Nat) (B : List Nat), vs = [.int (n : Nat), .str (mS B), .int (hd1 B : Nat)] ∧ 1 ≤ n ∧ n ≤ 24 ∧ B.length ≤ 1000 ∧ ((colW n B).1 ≠ 0 → Rz C (.int 1) (.int ((colW n B).1 : Nat)) H E) ∧
  ((colW n B).1 = 0 → ∀ H' fo fs, Same H H' → H' fo = some (.lst (fpV fs)) → FpAt H' fs → fs.map (·.2) = (colW n B).2 → Q (.ref fo) H')
theorem in_xyz (R : List Nat) : inV (.str (mS (R.take 1))) [.str "X", .str "Y", .str "Z"] = decide (∃ c, R.head? = some c ∧ isXYZ c) := by
  have eX : ("X" : Str) = mS [88] := by decide +kernel
  have eY : ("Y" : Str) = mS [89] := by decide +kernel
  have eZ : ("Z" : Str) = mS [90] := by decide +kernel
  have e : ∀ a b : List Nat, ((mS a : Str) == mS b) = decide (a = b) := fun a b => by
    by_cases h : a = b
    · rw [h, decide_eq_true rfl]
      exact beq_self_eq_true _
    · rw [decide_eq_false h]
      exact beq_eq_false_iff_ne.mpr fun z => h (mS_inj z)
  rw [eX, eY, eZ]
  show ((mS [88] == mS (R.take 1)) || ((mS [89] == mS (R.take 1)) || ((mS [90] == mS (R.take 1)) || false))) = _
  rw [e, e, e]
  cases R with
  | nil =>
    rw [decide_eq_false (by simp)]
    rfl
  | cons a R =>
    show (decide ([88] = [a]) || (decide ([89] = [a]) || (decide ([90] = [a]) || false))) = _
    have : (∃ c, (a :: R).head? = some c ∧ isXYZ c) ↔ ([88] = [a] ∨ [89] = [a] ∨ [90] = [a]) := by
      constructor
      · rintro ⟨c, h1, h2⟩
        have h1 := Option.some.inj h1
        subst h1
        rcases h2 with rfl | rfl | rfl
        · exact .inl rfl
        · exact .inr (.inl rfl)
        · exact .inr (.inr rfl)
      · rintro (h | h | h)
        · exact ⟨a, rfl, .inl (List.cons.inj h).1.symm⟩
        · exact ⟨a, rfl, .inr (.inl (List.cons.inj h).1.symm)⟩
        · exact ⟨a, rfl, .inr (.inr (List.cons.inj h).1.symm)⟩
    have e2 : decide (∃ c, (a :: R).head? = some c ∧ isXYZ c) = decide ([88] = [a] ∨ [89] = [a] ∨ [90] = [a]) := decide_eq_decide.mpr this
    rw [e2]
    simp [Bool.decide_or]
section
variable {P : Program} {w : World} {K : PySem.W.Frag} {mg : Str → Option Value} {base : Heap}
theorem ok_end {f fM C fB : Addr} {fd dM dB : FuncData} (F : Fun K "_end_of_place" "_end_of_place" sEnd f fd) (FM : Fun K "_may_begin" "_may_begin" sMay fM dM) (bM : Binds K dM ["size", "text", "least"] []) (gM : mg "_may_begin" = some (.ref fM)) (T : BT K mg C fB dB) (B : Bl mg) :
    FnOk P w K mg base (L2.CX P w) 3 f fd ["size", "word", "start", "least"] (spEnd C) := by
  have GM : FnOk P w K mg base CX0 2 fM dM ["size", "text", "least"] spMay := ok_may FM B
  have GB : FnOk P w K mg base CX0 1 fB dB ["self", "line", "column"] (spInitT C) := ok_initT T.F T.ox T.n0 T.n1
  refine F.okX scEnd (fun vs H Q E h => ?_) (fun cdv A outer s H vs Q E hr h => ?_)
  · obtain ⟨n, l, i, B, rfl, _⟩ := h
    rfl
  · obtain ⟨n, l, i, W, rfl, hln, hn, hi, hl, q⟩ := h
    refine ⟨_, C8.pss_cut (ps_set (i := 4) scEnd.nd rfl (.inl rfl) (pv 2))
      (C8.pss_cut (ps_while (passes_of rfl) (PW.pt (pw_and (pt_cmpR op_lt (pv 4) (pe_callB call_len_str (by rfl) B.len PySem.boot_len (pa_cons (pv 1) pa_nil)) (nomark _))
          (pw_and1 (pt_val (pe_call GM hr (by rfl) gM FM.kp bM .nil pass0 (pa_cons (pv 0) (pa_cons (pe_slice sl_str (pv 1) (po_some (pv 2)) (po_some (pe_op op_add (pv 4) pe_int))) (pa_cons (pv 3) pa_nil))))))))
        (pss_one (ps_aug (i := 4) scEnd.nd rfl (.inl rfl) pe_int ip_add)))
      (C8.pss_cut (ps_if (PW.pt (pw_or (pt_cmpR op_eq (pv 4) (pv 2) (nomark _)) (pw_or1 (pt_cmpR op_lt (pe_callTy call_int_str (by rfl) B.int bootI (pa_cons (pe_slice sl_str (pv 1) (po_some (pv 2)) (po_some (pv 4))) pa_nil)) (pv 3) (nomark _)))))
        (pss_one (ps_raise rfl (takes_of rfl rfl rfl rfl) (pmk_oex T.ox T.ic T.ti GB hr T.b .nil pass0 (by rfl) T.g (pa_cons pe_int (pa_cons (pe_op op_add (pv 4) pe_int) pa_nil))))) pss_nil)
      (pss_one (ps_ret (pv 4))))), ?_⟩
    have hz : (mS W).length ≤ sizeLine := by rw [mS_len]; exact sizeBig hl
    obtain ⟨R, hR⟩ : ∃ R, R = W.drop i := ⟨_, rfl⟩
    have hRl : R.length = W.length - i := by rw [hR, List.length_drop]
    refine ⟨fun σ' H' => σ' = [some (.int (n : Nat)), some (.str (mS W)), some (.int (i : Nat)), some (.int (l : Nat)), some (.int ((i + 0 : Nat) : Int))] ∧ H' = H, ⟨_, rfl, rfl, rfl⟩, ?_⟩
    rintro _ H1 ⟨rfl, eH⟩
    subst eH
    refine ⟨fun σ' H' => ∃ j, σ' = [some (.int (n : Nat)), some (.str (mS W)), some (.int (i : Nat)), some (.int (l : Nat)), some (.int ((i + j : Nat) : Int))] ∧ H' = H1 ∧ dg l n R = R.take j ∧ j ≤ R.length ∧ (j = 0 ∨ begs l n (R.take j) = true), ?_, ?_⟩
    · refine ⟨fun m σ' H' => ∃ j, σ' = [some (.int (n : Nat)), some (.str (mS W)), some (.int (i : Nat)), some (.int (l : Nat)), some (.int ((i + j : Nat) : Int))] ∧ H' = H1 ∧ j ≤ R.length ∧ (j = 0 ∨ begs l n (R.take j) = true) ∧ m = R.length - j, ⟨_, 0, rfl, rfl, Nat.zero_le _, .inl rfl, rfl⟩, ?_⟩
      rintro m _ H2 ⟨j, rfl, eH, hj, hb, rfl⟩
      subst eH
      refine ⟨_, rfl, _, rfl, _, rfl, hz, _, _, rfl, rfl, _, rfl, ?_⟩
      rw [mS_len]
      by_cases z : j < R.length
      · rw [decide_eq_true (by omega)]
        have hc : R[j]? = some R[j] := List.getElem?_eq_getElem z
        have ht : R.take (j + 1) = R.take j ++ [R[j]] := by
          rw [List.take_succ, hc]
          rfl
        refine iteT ⟨_, rfl, _, rfl, _, rfl, _, rfl, _, rfl, _, _, rfl, rfl, _, rfl, _, rfl, hz, _, rfl, n, l, R.take j, R[j], ?_, hln, hn, ?_, _, rfl, ?_⟩
        · show [V.int (n : Nat), V.str (cutS (mS W) (some (i : Int)) (some (((i + j : Nat) : Int) + 1))), V.int (l : Nat)] = _
          rw [show ((i + j : Nat) : Int) + 1 = ((i + j + 1 : Nat) : Int) by push_cast; rfl, cut_two W i (i + j + 1) (by omega), ← hR, show i + j + 1 - i = j + 1 by omega, ht]
        · rcases hb with rfl | hb
          · exact .inl (by rw [List.take_zero])
          · exact .inr hb
        · rw [← ht]
          by_cases y : begs l n (R.take (j + 1)) = true
          · rw [y]
            refine iteT ⟨_, fun _ _ w => w, ?_⟩
            refine ⟨_, rfl, _, _, rfl, rfl, R.length - (j + 1), by omega, j + 1, ?_, rfl, by omega, .inr y, rfl⟩
            show [_, _, _, _, some (V.int (((i + j : Nat) : Int) + 1))] = _
            rw [show ((i + j : Nat) : Int) + 1 = ((i + (j + 1) : Nat) : Int) by push_cast; omega]
          · rw [Bool.eq_false_iff.mpr y]
            exact iteF ⟨j, rfl, rfl, dg_of hj hb (.inr y), hj, hb⟩
      · rw [decide_eq_false (by omega)]
        exact iteF (iteF ⟨j, rfl, rfl, dg_of hj hb (.inl (by omega)), hj, hb⟩)
    rintro _ H2 ⟨j, rfl, eH, ed, hj, hb⟩
    subst eH
    obtain ⟨q1, q2⟩ := q _ rfl
    rw [← hR, ed, List.length_take, Nat.min_eq_left hj] at q1 q2
    refine ⟨fun σ' H' => σ' = [some (.int (n : Nat)), some (.str (mS W)), some (.int (i : Nat)), some (.int (l : Nat)), some (.int ((i + j : Nat) : Int))] ∧ H' = H2 ∧ ∃ p, plc l n (R.take j) = some p, ?_, ?_⟩
    · have bad : plc l n (R.take j) = none → ∀ a, H2 a = none → spInitT C (.ref a :: ([V.int 1, V.int (((i + j : Nat) : Int) + 1)] ++ [])) (upd H2 a (exo a C none)) (fun v H2' => v = .non ∧ ∃ (d : Addr) (fs : List (Str × V)), H2' a = some (exo a C (some d)) ∧ H2' d = some (exd d fs) ∧ H2 d = none ∧ E (.ref C) (some d) (upd (del H2' a) d (.xd fs))) (fun _ _ _ => False) := by
        intro no
        have := q1 no
        rw [show ((i + j + 1 : Nat) : Int) = ((i + j : Nat) : Int) + 1 by push_cast; rfl] at this
        exact raise_rd this
      refine ⟨_, rfl, _, rfl, rfl, _, rfl, ?_⟩
      by_cases z : j = 0
      · subst z
        rw [decide_eq_true (by rfl)]
        have no : plc l n (R.take 0) = none := by rw [List.take_zero]; exact plc_nil
        exact iteT ⟨_, rfl, _, _, rfl, rfl, by show 2 ≤ 1000; decide, bad no⟩
      · rw [decide_eq_false (fun e => z (by have := V.int.inj e; omega))]
        have hb := hb.resolve_left z
        have hd0 : R.take j ≠ [] := by
          intro e
          have := congrArg List.length e
          rw [List.length_take, Nat.min_eq_left hj] at this
          exact z this
        obtain ⟨v1, v2⟩ := dg_val (by omega) hb hd0
        have iv := int_val hd0 (Nat.le_trans (begs_len hb) (by decide)) (begs_dig (by omega) hb)
        have ec : cutS (mS W) (some (i : Int)) (some ((i + j : Nat) : Int)) = mS (R.take j) := by
          rw [cut_two W i (i + j) (by omega), ← hR, show i + j - i = j by omega]
        refine iteF ⟨_, rfl, _, rfl, _, rfl, _, rfl, _, rfl, _, rfl, hz, ?_⟩
        rw [ec]
        refine ⟨_, _, rfl, iv, by rw [mS_len]; exact Nat.le_trans (begs_len hb) (by decide), _, rfl, _, _, rfl, rfl, _, rfl, ?_⟩
        cases hp : plc l n (R.take j) with
        | none =>
          rw [decide_eq_true (by have := v1 hp; omega)]
          exact iteT ⟨_, rfl, _, _, rfl, rfl, by show 2 ≤ 1000; decide, bad hp⟩
        | some p =>
          have := (plc_some hp).1
          rw [decide_eq_false (by rw [v2 p hp]; omega)]
          exact iteF ⟨rfl, rfl, p, rfl⟩
    rintro _ H3 ⟨rfl, eH, p, hp⟩
    subst eH
    exact ⟨_, rfl, q2 p hp⟩
end
end KQ

namespace KQ
open PySem PySem.Spec PyProof.Rows L2
section
variable {P : Program} {w : World} {K : PySem.W.Frag} {mg : Str → Option Value} {base : Heap}
theorem fpV_app (L : List Fp) (a : Fp) : fpV (L ++ [a]) = fpV L ++ [.ref a.1] := by
  unfold fpV
  rw [List.map_append]
  rfl
theorem drop_cons {B : List Nat} {i c : Nat} (h : B[i]? = some c) : B.drop i = c :: B.drop (i + 1) := by
  rw [List.drop_eq_getElem_cons (List.getElem?_eq_some_iff.mp h).1, (List.getElem?_eq_some_iff.mp h).2]
theorem ok_read {f fE fM C fB : Addr} {fd dE dM dB : FuncData} (F : Fun K "_read_word" "_read_word" sRdW f fd) (FE : Fun K "_end_of_place" "_end_of_place" sEnd fE dE) (bE : Binds K dE ["size", "word", "start", "least"] []) (gE : mg "_end_of_place" = some (.ref fE))
    (FM : Fun K "_may_begin" "_may_begin" sMay fM dM) (bM : Binds K dM ["size", "text", "least"] []) (gM : mg "_may_begin" = some (.ref fM)) (T : BT K mg C fB dB) (B : Bl mg) :
    FnOk P w K mg base (L2.CX P w) 4 f fd ["size", "word", "start"] (spRdW C) := by
  have GE : FnOk P w K mg base (L2.CX P w) 3 fE dE ["size", "word", "start", "least"] (spEnd C) := ok_end FE FM bM gM T B
  have GB : FnOk P w K mg base CX0 1 fB dB ["self", "line", "column"] (spInitT C) := ok_initT T.F T.ox T.n0 T.n1
  refine F.okX scRdW (fun vs H Q E h => ?_) (fun cdv A outer s H vs Q E hr h => ?_)
  · obtain ⟨n, B, rfl, _⟩ := h
    rfl
  · obtain ⟨n, W, rfl, hn1, hn, hl, qb, qg⟩ := h
    have r2 : Room 2 _ := hr.mono (by decide)
    refine ⟨_, C8.pss_cut (ps_if (pt_val (pe_bm PySem.F.plainAttrs_str PySem.F.slot_str_startswith PySem.F.type_str_startswith mt_startswith (pe_slice sl_str (pv 1) (po_some (pv 2)) po_none) (pa_cons pe_str pa_nil)))
        (C8.pss_cut (ps_if (pt_cmpR op_gt (pe_callB call_len_str (by rfl) B.len PySem.boot_len (pa_cons (pv 1) pa_nil)) (pe_op op_add (pv 2) pe_int) (nomark _))
          (pss_one (ps_raise rfl (takes_of rfl rfl rfl rfl) (pmk_oex T.ox T.ic T.ti GB r2 T.b .nil pass0 (by rfl) T.g (pa_cons pe_int (pa_cons (pe_op op_add (pv 2) pe_int) pa_nil))))) pss_nil)
        (pss_one (ps_ret (pe_lst pa_nil)))) pss_nil)
      (C8.pss_cut (ps_set (i := 3) scRdW.nd rfl (.inl rfl) (pe_lst pa_nil))
      (C8.pss_cut (ps_set (i := 4) scRdW.nd rfl (.inl rfl) pe_int)
      (pss_one (ps_while (passes_of rfl) (pt_val pe_bl)
        (C8.pss_cut (ps_if (pt_cmpR (r := rIn K true) op_notIn_seq (pe_slice sl_str (pv 1) (po_some (pv 2)) (po_some (pe_op op_add (pv 2) pe_int))) (pe_tup (pa_cons pe_str (pa_cons pe_str (pa_cons pe_str pa_nil)))) (by with_unfolding_all rfl))
            (pss_one (ps_raise rfl (takes_of rfl rfl rfl rfl) (pmk_oex T.ox T.ic T.ti GB r2 T.b .nil pass0 (by rfl) T.g (pa_cons pe_int (pa_cons (pe_op op_add (pv 2) pe_int) pa_nil))))) pss_nil)
        (C8.pss_cut (ps_set (i := 5) scRdW.nd rfl (.inl rfl) (pe_call GE hr (by rfl) gE FE.kp bE .nil (passes_call (takes_of rfl rfl rfl rfl) (fun _ _ _ _ h => h)) (pa_cons (pv 0) (pa_cons (pv 1) (pa_cons (pe_op op_add (pv 2) pe_int) (pa_cons (pv 4) pa_nil))))))
        (C8.pss_cut (ps_set (i := 6) scRdW.nd rfl (.inl rfl) (pe_callTy call_int_str (by rfl) B.int bootI (pa_cons (pe_slice sl_str (pv 1) (po_some (pe_op op_add (pv 2) pe_int)) (po_some (pv 5))) pa_nil)))
        (C8.pss_cut (ps_expr (pe_bm PySem.F.plainAttrs_list PySem.F.slot_list_append PySem.F.type_list_append mt_append (pv 3) (pa_cons (pe_tup (pa_cons (pe_ix ix_str (pv 1) (pv 2) (fun _ _ => rfl)) (pa_cons (pv 6) pa_nil))) pa_nil)))
        (C8.pss_cut (ps_if (pt_cmpR op_eq (pv 5) (pe_callB call_len_str (by rfl) B.len PySem.boot_len (pa_cons (pv 1) pa_nil)) (nomark _)) (pss_one (ps_ret (pv 3))) pss_nil)
        (C8.pss_cut (ps_if (PW.pt (pw_or (pt_cmpR op_ne (pe_ix ix_str (pv 1) (pv 5) (fun _ _ => rfl)) pe_str (nomark _)) (pw_or1 (pt_cmpR op_eq (pe_op op_add (pv 6) pe_int) (pv 0) (nomark _)))))
            (pss_one (ps_raise rfl (takes_of rfl rfl rfl rfl) (pmk_oex T.ox T.ic T.ti GB r2 T.b .nil pass0 (by rfl) T.g (pa_cons pe_int (pa_cons (pe_op op_add (pv 5) pe_int) pa_nil))))) pss_nil)
        (C8.pss_cut (ps_set (i := 2) scRdW.nd rfl (.inl rfl) (pe_op op_add (pv 5) pe_int))
        (pss_one (ps_set (i := 4) scRdW.nd rfl (.inl rfl) (pe_op op_add (pv 6) pe_int)))))))))))))), ?_⟩
    have hz : (mS W).length ≤ sizeLine := by rw [mS_len]; exact sizeBig hl
    have hb1 : hd1 W ≤ W.length := by
      unfold hd1
      split
      · rename_i h
        cases W with
        | nil => cases h
        | cons a W => simp
      · exact Nat.zero_le _
    obtain ⟨b, hb⟩ : ∃ b, b = hd1 W := ⟨_, rfl⟩
    have ecol : colW n W = if (W.drop b).head? = some 73 then (if W.length = b + 1 then (0, []) else (b + 2, [])) else rd n n 0 (W.drop b) b := by rw [hb]; rfl
    rw [← hb] at hb1 ⊢
    have bad : ∀ (m : Nat) {H' : Hp}, (colW n W).1 = m + 1 → Same H H' → ∀ a, H' a = none → spInitT C (.ref a :: ([V.int 1, V.int (((m : Nat) : Int) + 1)] ++ [])) (upd H' a (exo a C none)) (fun v H2' => v = .non ∧ ∃ (d : Addr) (fs : List (Str × V)), H2' a = some (exo a C (some d)) ∧ H2' d = some (exd d fs) ∧ H' d = none ∧ E (.ref C) (some d) (upd (del H2' a) d (.xd fs))) (fun _ _ _ => False) := by
      intro m H' em s'
      have q := qb (by omega)
      rw [em, show ((m + 1 : Nat) : Int) = ((m : Nat) : Int) + 1 by push_cast; rfl] at q
      exact raise_rd (fun d H'' s'' e => q d H'' (s'.trans s'') e)
    refine ⟨fun σ' H' => σ' = [some (.int (n : Nat)), some (.str (mS W)), some (.int (b : Nat)), none, none, none, none] ∧ H' = H ∧ ¬ (W.drop b).head? = some 73, ?_, ?_⟩
    · have s1 := sw_one (W.drop b) 73
      rw [← e_I, ← cut_from] at s1
      refine ⟨_, rfl, _, rfl, _, rfl, _, rfl, hz, rfl, _, _, rfl, rfl, _, rfl, ite2 (fun e => ?_) (fun e => ?_)⟩
      · have h1 : (W.drop b).head? = some 73 := of_decide_eq_true (s1.symm.trans e)
        rw [if_pos h1] at ecol
        refine ⟨fun σ' H' => σ' = [some (.int (n : Nat)), some (.str (mS W)), some (.int (b : Nat)), none, none, none, none] ∧ H' = H ∧ W.length = b + 1, ?_, ?_⟩
        · refine ⟨_, rfl, _, rfl, hz, _, rfl, _, _, rfl, rfl, _, _, rfl, rfl, _, rfl, ?_⟩
          rw [mS_len]
          have : W.length ≠ b := fun z => by
            rw [List.drop_of_length_le (by omega)] at h1
            cases h1
          by_cases z : W.length = b + 1
          · rw [decide_eq_false (by omega)]
            exact iteF ⟨rfl, rfl, z⟩
          · rw [decide_eq_true (by omega)]
            rw [if_neg z] at ecol
            refine iteT ⟨_, rfl, _, _, rfl, rfl, by show 2 ≤ 1000; decide, ?_⟩
            have := bad (b + 1) (H' := H) (by rw [ecol]) (Same.refl H)
            rw [show (((b + 1 : Nat) : Int) + 1) = ((b : Nat) : Int) + 2 by push_cast; omega] at this
            exact this
        rintro _ H1 ⟨rfl, eH, z⟩
        subst eH
        rw [if_pos z] at ecol
        refine ⟨by show 0 ≤ sizeLine; decide, fun l nl => qg (by rw [ecol]) _ l [] (same_new nl) upd_same (fun a h => by cases h) (by rw [ecol]; rfl)⟩
      · exact ⟨rfl, rfl, fun z => e (s1.trans (decide_eq_true z))⟩
    rintro _ H1 ⟨rfl, eH, nI⟩
    subst eH
    rw [if_neg nI] at ecol
    refine ⟨fun σ' H' => ∃ fo, σ' = [some (.int (n : Nat)), some (.str (mS W)), some (.int (b : Nat)), some (.ref fo), none, none, none] ∧ Same H1 H' ∧ H1 fo = none ∧ H' fo = some (.lst []), ?_, ?_⟩
    · exact ⟨by show 0 ≤ sizeLine; decide, fun l nl => ⟨l, rfl, same_new nl, nl, upd_same⟩⟩
    rintro _ H2 ⟨fo, rfl, s2, nf, e2⟩
    refine ⟨fun σ' H' => σ' = [some (.int (n : Nat)), some (.str (mS W)), some (.int (b : Nat)), some (.ref fo), some (.int ((0 : Nat) : Int)), none, none] ∧ H' = H2, ⟨rfl, rfl⟩, ?_⟩
    rintro _ H3 ⟨rfl, eH⟩
    subst eH
    refine ⟨fun m σ' H' => ∃ (i l k : Nat) (fs : List Fp) (v5 v6 : Option V), σ' = [some (.int (n : Nat)), some (.str (mS W)), some (.int (i : Nat)), some (.ref fo), some (.int (l : Nat)), v5, v6] ∧ l < n ∧ n ≤ l + k ∧ i ≤ W.length ∧ Same H1 H' ∧ H' fo = some (.lst (fpV fs)) ∧ FpAt H' fs ∧ fs.length ≤ l ∧ (rd n k l (W.drop i) i).1 = (colW n W).1 ∧ ((colW n W).1 = 0 → fs.map (·.2) ++ (rd n k l (W.drop i) i).2 = (colW n W).2) ∧ m = n - l,
      ⟨n, b, 0, n, [], none, none, rfl, by omega, by omega, hb1, s2, e2, (fun a h => by cases h), Nat.le_refl _, by rw [ecol], fun _ => by rw [ecol]; rfl, rfl⟩, ?_⟩
    rintro m _ H4 ⟨i, l, k, fs, v5, v6, rfl, hln, hk, hi, s4, e4, fp, fl, c1, c2, rfl⟩
    obtain ⟨k, rfl⟩ : ∃ k', k = k' + 1 := ⟨k - 1, by omega⟩
    refine ⟨_, rfl, iteT ⟨_, fun _ _ w => w, ?_⟩⟩
    refine ⟨fun σ' H' => σ' = [some (.int (n : Nat)), some (.str (mS W)), some (.int (i : Nat)), some (.ref fo), some (.int (l : Nat)), v5, v6] ∧ Same H4 H' ∧ ∃ c, W[i]? = some c ∧ isXYZ c, ?_, ?_⟩
    · refine ⟨_, rfl, _, rfl, _, rfl, _, rfl, _, _, rfl, rfl, _, rfl, _, rfl, hz, by show 3 ≤ sizeLine; decide, fun t nt => ⟨t, _, rfl, .inr (SqT.of upd_same), rfl, rfl, _, rfl, ?_⟩⟩
      have ec : cutS (mS W) (some (i : Int)) (some ((i : Int) + 1)) = mS ((W.drop i).take 1) := cut_mid W i
      rw [ec, if_pos rfl, in_xyz]
      have hh : (W.drop i).head? = W[i]? := by rw [List.head?_drop]
      by_cases z : ∃ c, (W.drop i).head? = some c ∧ isXYZ c
      · rw [decide_eq_true z]
        obtain ⟨c, z1, z2⟩ := z
        exact iteF ⟨rfl, same_new nt, c, hh ▸ z1, z2⟩
      · rw [decide_eq_false z]
        refine iteT ⟨_, rfl, _, _, rfl, rfl, by show 2 ≤ 1000; decide, bad i ?_ (s4.trans (same_new nt))⟩
        rw [← c1, rd_no (fun c e x => z ⟨c, e, x⟩)]
    rintro _ H5 ⟨rfl, s5, c, hc, hx⟩
    have eR := drop_cons hc
    have iW : i < W.length := (List.getElem?_eq_some_iff.mp hc).1
    rw [eR] at c1 c2
    obtain ⟨R1, hR1⟩ : ∃ R1, R1 = W.drop (i + 1) := ⟨_, rfl⟩
    rw [← hR1] at c1 c2
    obtain ⟨ds, hds⟩ : ∃ ds, ds = dg l n R1 := ⟨_, rfl⟩
    have s45 := s4.trans s5
    -- where the place ends
    refine ⟨fun σ' H' => ∃ p, plc l n ds = some p ∧ σ' = [some (.int (n : Nat)), some (.str (mS W)), some (.int (i : Nat)), some (.ref fo), some (.int (l : Nat)), some (.int ((i + 1 + ds.length : Nat) : Int)), v6] ∧ H' = H5, ?_, ?_⟩
    · refine ⟨_, rfl, _, rfl, _, rfl, _, _, rfl, rfl, _, rfl, n, l, i + 1, W, ?_, hln, hn, iW, hl, fun ds' hds' => ?_⟩
      · show [V.int (n : Nat), V.str (mS W), V.int ((i : Int) + 1), V.int (l : Nat)] = _
        rw [show ((i : Nat) : Int) + 1 = ((i + 1 : Nat) : Int) by push_cast; rfl]
      · have e : ds' = ds := by rw [hds', hds, hR1]
        subst e
        refine ⟨fun no => ?_, fun p hp => ⟨p, hp, rfl, rfl⟩⟩
        have ec : (colW n W).1 = i + 1 + ds'.length + 1 := by
          rw [← c1, rd_bad hx (by rw [← hds]; exact no), ← hds]
        have := qb (by omega)
        rw [ec] at this
        exact fun d H'' s'' e => this d H'' (s45.trans s'') e
    rintro _ H6 ⟨p, hp, rfl, eH⟩
    subst eH
    obtain ⟨hp1, hp2, hp3⟩ := plc_some hp
    have dsp : R1.take ds.length = ds := by
      have := dg_pre l n R1
      rw [← hds] at this
      exact this.symm
    have dl : ds.length ≤ R1.length := by
      have := congrArg List.length dsp
      rw [List.length_take] at this
      omega
    have d0 : ds ≠ [] := by rw [← hp3]; exact dec_ne p
    have dl2 : ds.length ≤ 2 := by rw [← hp3]; have := dec_len (p := p); omega
    have hD : ∀ x ∈ ds, isD x := by rw [← hp3]; exact dec_dig (by omega)
    have iv := int_val d0 (by omega) hD
    have vp : val ds = p := by
      have hbg : begs l n ds = true := begs_iff.mpr ⟨p, hp1, hp2, by rw [hp3]; exact List.take_length⟩
      exact (dg_val (by omega) hbg d0).2 p hp
    rw [vp] at iv
    have hR1l : R1.length = W.length - (i + 1) := by rw [hR1, List.length_drop]
    refine ⟨fun σ' H' => σ' = [some (.int (n : Nat)), some (.str (mS W)), some (.int (i : Nat)), some (.ref fo), some (.int (l : Nat)), some (.int ((i + 1 + ds.length : Nat) : Int)), some (.int (p : Nat))] ∧ H' = H6, ?_, ?_⟩
    · refine ⟨_, rfl, _, rfl, _, _, rfl, rfl, _, rfl, _, rfl, _, rfl, _, rfl, hz, _, _, rfl, ?_, ?_, rfl, rfl⟩
      · have : cutS (mS W) (some ((i : Int) + 1)) (some ((i + 1 + ds.length : Nat) : Int)) = mS ds := by
          rw [show ((i : Nat) : Int) + 1 = ((i + 1 : Nat) : Int) by push_cast; rfl, cut_two W (i + 1) (i + 1 + ds.length) (by omega), ← hR1, show i + 1 + ds.length - (i + 1) = ds.length by omega, dsp]
        show PySem.intText? (cutS (mS W) (some ((i : Int) + 1)) (some ((i + 1 + ds.length : Nat) : Int))) = _
        rw [this]
        exact iv
      · have : cutS (mS W) (some ((i : Int) + 1)) (some ((i + 1 + ds.length : Nat) : Int)) = mS ds := by
          rw [show ((i : Nat) : Int) + 1 = ((i + 1 : Nat) : Int) by push_cast; rfl, cut_two W (i + 1) (i + 1 + ds.length) (by omega), ← hR1, show i + 1 + ds.length - (i + 1) = ds.length by omega, dsp]
        show (cutS (mS W) (some ((i : Int) + 1)) (some ((i + 1 + ds.length : Nat) : Int))).length ≤ 640
        rw [this, mS_len]
        omega
    rintro _ H7 ⟨rfl, eH⟩
    subst eH
    have e7 := s5 _ _ e4
    have hat : atI (mS W).cps.toList ((i : Nat) : Int) = some c := by
      have e : (mS W).cps.toList = W := by simp
      rw [e]
      exact atI_nat hc
    refine ⟨fun σ' H' => ∃ fs', σ' = [some (.int (n : Nat)), some (.str (mS W)), some (.int (i : Nat)), some (.ref fo), some (.int (l : Nat)), some (.int ((i + 1 + ds.length : Nat) : Int)), some (.int (p : Nat))] ∧ Same H1 H' ∧ H' fo = some (.lst (fpV fs')) ∧ FpAt H' fs' ∧ fs'.map (·.2) = fs.map (·.2) ++ [(c, p)] ∧ fs'.length = fs.length + 1, ?_, ?_⟩
    · refine ⟨_, rfl, .inl ⟨rfl, _, SqL.of e7⟩, _, rfl, _, rfl, _, _, c, rfl, rfl, hz, hat, _, rfl, by show 2 ≤ sizeLine; decide, fun r nr => ⟨fo, _, _, rfl, rfl, (upd_ne (ne_of_none e7 nr)).trans e7, ?_, ?_⟩⟩
      · unfold fpV
        rw [List.length_map]
        exact Nat.lt_of_le_of_lt (by omega : _ ≤ 24) (by decide)
      · have hfr : fo ≠ r := ne_of_none e7 nr
        refine ⟨fs ++ [(r, c, p)], rfl, fun b o e => ?_, ?_, fun a ha => ?_, by rw [List.map_append]; rfl, by rw [List.length_append]; rfl⟩
        · have e' := s45 _ _ e
          rw [upd_ne (ne_of_none e nf), upd_ne (ne_of_none e' nr)]
          exact e'
        · rw [upd_same, fpV_app]
        · rcases List.mem_append.mp ha with ha | ha
          · have e' := s5 _ _ (fp a ha)
            rw [upd_ne (ne_of e' e7 (by intro z; cases z)), upd_ne (ne_of_none e' nr)]
            exact e'
          · rw [List.mem_singleton.mp ha]
            show upd _ fo _ r = _
            rw [upd_ne (Ne.symm hfr), upd_same]
    rintro _ H8 ⟨fs', rfl, s8, e8, fp8, m8, l8⟩
    have hpd : plc l n (dg l n R1) = some p := by rw [← hds]; exact hp
    refine ⟨fun σ' H' => σ' = [some (.int (n : Nat)), some (.str (mS W)), some (.int (i : Nat)), some (.ref fo), some (.int (l : Nat)), some (.int ((i + 1 + ds.length : Nat) : Int)), some (.int (p : Nat))] ∧ H' = H8 ∧ i + 1 + ds.length < W.length, ?_, ?_⟩
    · refine ⟨_, rfl, _, rfl, _, rfl, hz, rfl, _, rfl, ?_⟩
      rw [mS_len]
      by_cases z : i + 1 + ds.length = W.length
      · rw [decide_eq_true (by rw [z])]
        have he : R1.drop (dg l n R1).length = [] := by
          rw [← hds]
          exact List.drop_of_length_le (by omega)
        rw [rd_end hx hpd he] at c1 c2
        refine iteT ⟨_, rfl, qg c1.symm _ fo fs' s8 e8 fp8 ?_⟩
        rw [m8]
        exact c2 c1.symm
      · rw [decide_eq_false (fun e => z (by have := V.int.inj e; omega))]
        exact iteF ⟨rfl, rfl, by omega⟩
    rintro _ H9 ⟨rfl, eH, hlt⟩
    subst eH
    obtain ⟨sg, hsg⟩ : ∃ sg, W[i + 1 + ds.length]? = some sg := ⟨_, List.getElem?_eq_getElem hlt⟩
    have hat2 : atI (mS W).cps.toList ((i + 1 + ds.length : Nat) : Int) = some sg := by
      have e : (mS W).cps.toList = W := by simp
      rw [e]
      exact atI_nat hsg
    have he : R1.drop (dg l n R1).length = sg :: W.drop (i + 1 + ds.length + 1) := by
      rw [← hds, hR1, List.drop_drop]
      exact drop_cons hsg
    have eStar : ("*" : Str) = mS [42] := by decide +kernel
    refine ⟨fun σ' H' => σ' = [some (.int (n : Nat)), some (.str (mS W)), some (.int (i : Nat)), some (.ref fo), some (.int (l : Nat)), some (.int ((i + 1 + ds.length : Nat) : Int)), some (.int (p : Nat))] ∧ H' = H9 ∧ sg = 42 ∧ p + 1 < n, ?_, ?_⟩
    · have stop : ¬ (sg = 42 ∧ p + 1 < n) → (colW n W).1 = (i + 1 + ds.length) + 1 := fun z => by rw [← c1, rd_stop hx hpd he z, ← hds]
      refine ⟨_, rfl, _, rfl, _, _, sg, rfl, rfl, hz, hat2, rfl, _, rfl, ?_⟩
      rw [eStar]
      by_cases z1 : sg = 42
      · subst z1
        rw [decide_eq_true rfl]
        refine iteF ⟨_, rfl, _, _, rfl, rfl, _, rfl, rfl, _, rfl, ite2 (fun z => ?_) (fun z => ?_)⟩
        · have z2 : ¬ (p + 1 < n) := by have := V.int.inj (of_decide_eq_true z); omega
          exact ⟨_, rfl, _, _, rfl, rfl, by show 2 ≤ 1000; decide, bad _ (stop fun y => z2 y.2) s8⟩
        · have z2 : p + 1 ≠ n := fun y => z (decide_eq_true (by show V.int ((p : Nat) + 1) = V.int (n : Nat); rw [← y]; push_cast; rfl))
          exact ⟨rfl, rfl, rfl, by omega⟩
      · rw [decide_eq_false (fun y => z1 (by have := mS_inj (V.str.inj y : mS [sg] = mS [42]); simpa using this))]
        exact iteT ⟨_, rfl, _, _, rfl, rfl, by show 2 ≤ 1000; decide, bad _ (stop fun y => z1 y.1) s8⟩
    rintro _ H10 ⟨rfl, eH, z1, z2⟩
    subst eH
    rw [rd_go hx hpd he ⟨z1, z2⟩, ← hds] at c1 c2
    have a1 : ((i + 1 + ds.length : Nat) : Int) + 1 = ((i + 1 + ds.length + 1 : Nat) : Int) := by push_cast; rfl
    have a2 : ((p : Nat) : Int) + 1 = ((p + 1 : Nat) : Int) := by push_cast; rfl
    refine ⟨fun σ' H' => σ' = [some (.int (n : Nat)), some (.str (mS W)), some (.int ((i + 1 + ds.length + 1 : Nat) : Int)), some (.ref fo), some (.int (l : Nat)), some (.int ((i + 1 + ds.length : Nat) : Int)), some (.int (p : Nat))] ∧ H' = H10, ?_, ?_⟩
    · refine ⟨_, rfl, _, _, rfl, rfl, ?_, rfl⟩
      show [_, _, some (V.int (((i + 1 + ds.length : Nat) : Int) + 1)), _, _, _, _] = _
      rw [a1]
    rintro _ H11 ⟨rfl, eH⟩
    subst eH
    refine ⟨_, rfl, _, _, rfl, rfl, n - (p + 1), by omega, i + 1 + ds.length + 1, p + 1, k, fs', some (.int ((i + 1 + ds.length : Nat) : Int)), some (.int (p : Nat)), ?_, z2, by omega, by omega, s8, e8, fp8, by omega, c1, fun z => ?_, rfl⟩
    · show [_, _, _, _, some (V.int (((p : Nat) : Int) + 1)), _, _] = _
      rw [a2]
    · rw [m8, List.append_assoc]
      exact c2 z
end
end KQ

namespace KQ
open PySem PySem.Spec PyProof.Rows L2
/-! ### == by an __eq__ of the class's own, whatever it answers -/
/-- the right side: of the same class, or a text -/
def Beside (C : Addr) (H : Hp) (y : V) : Prop := (∃ b dy gs, y = .ref b ∧ H b = some (.ins C dy gs)) ∨ ∃ z : Str, y = .str z
def rOwn (C : Addr) (sp : Sp) (E : XK) : R2 := fun x y H Q => ∃ a dx fs, x = .ref a ∧ H a = some (.ins C dx fs) ∧ Beside C H y ∧ sp [x, y] H (fun v H' => (∃ b, v = .bl b) ∧ Q v H') E
theorem op_own {X : Cx} {n : Nat} {CX : CXT} {C f : Addr} {fd : FuncData} {ps : List Str} {sp : Sp} {E : XK} (F : FnOk X.prog X.w X.K X.mg X.base CX n f fd ps sp) (hr : Room n X.A)
    (hs : PySem.W.findIn X.K (.ref C) "__eq__" = some (some (.ref f))) (hf : PySem.W.isFn X.K (.ref f) = true) (hn : PySem.W.notFirst X.K C (.type "str") = true) (hb : Binds X.K fd ps []) (hx : Passes CX X E) :
    OpR X (compareOp .Eq) (rOwn C sp E) := by
  intro pins s σ H x y v u Q I rx ry want
  obtain ⟨a, dx, fs, rfl, ha, be, hsp⟩ := want
  cases rx
  show wpAny (model X.prog X.w) X.A (richCompare .Eq (.ref a) u) (EP X pins σ Q) X.xe s
  obtain ⟨m1, I1, _⟩ := ins_get I.hok ha
  obtain ⟨d1, I1, _⟩ := I1.look
  obtain ⟨m, hF⟩ := I.fr
  have hl := F.len _ _ _ _ hsp
  have run : wpAny (model X.prog X.w) X.A (call (.ref f) [.ref a, u]) (PySem.W.CmpBack (EP X pins σ Q)) X.xe s := by
    have r2 : Vals [V.ref a, y] [Value.ref a, u] := .cons rfl (.cons ry .nil)
    refine wpAny_call (codeAny_mono (F.run X.A X.stack s H ⟨[.ref a, u], []⟩ [.ref a, u] [.ref a, y] _ E hr I.env0 (by
      have := hb s [.ref a, u] I.kIn (by simpa using hl)
      simpa using this) r2 hsp) fun r s' hq => ?_)
    cases r with
    | error e => exact hx pins σ H s e s' I hq
    | ok fl =>
      cases fl with
      | ret w =>
        obtain ⟨z, H', I', rz, ⟨b, ez⟩, q⟩ := I.after hq
        subst ez
        cases rz
        exact ⟨.bl b, H', I', rfl, q⟩
      | next => exact False.elim hq
      | brk => exact False.elim hq
      | cont => exact False.elim hq
  rcases be with ⟨b, dy, gs, rfl, hb'⟩ | ⟨z, rfl⟩
  · cases ry
    obtain ⟨m2, I2, _⟩ := ins_get I.hok hb'
    obtain ⟨d2, I2, _⟩ := I2.look
    exact PySem.W.cmp_K (op := .Eq) (tb := .ref C) hr.units0 hF I.ok.mod.kin I1 I2.type (by simp [PySem.W.notFirst]) hs hf run
  · obtain ⟨t, rfl⟩ : ∃ t, u = .str z t := ry
    exact PySem.W.cmp_K (op := .Eq) (tb := .type "str") hr.units0 hF I.ok.mod.kin I1 (PySem.W.Looks.of_pure rfl) hn hs hf run
end KQ

namespace KQ
open PySem PySem.Spec PyProof.Rows L2
/-! ### several clauses, each with a name for the exception -/
/-- what clauses that all write the slot k wish of an exception, one behind the other -/
def wList (K : PySem.W.Frag) (k : Nat) (W0 : WX) (D : Ends) : List (Value × (Addr → Value → Option Addr → TS)) → WX
  | [] => W0
  | z :: more => wAs K z.1 k z.2 (wList K k W0 D more) D
inductive Clauses (X : Cx) (nm : Str) : List ExceptHandler → List (Value × (Addr → Value → Option Addr → TS)) → Prop
  | done : Clauses X nm [] []
  | next {x : Str} {cl : Value} {tk : Addr → Value → Option Addr → TS} {s0 : Stmt} {ss : List Stmt} {p1 p2 : Pos} {hh : List ExceptHandler} {ll : List (Value × (Addr → Value → Option Addr → TS))} (named : Names X x cl)
      (body : ∀ (r : Addr) (ob : Obj) (k : Value) (d : Option Addr) (pn : List (Addr × Obj)), Zc k d ob → (∃ vs, ob.data = .fields vs) → PSs (X.suite r ((r, ob) :: pn)) (s0 :: ss) (tk r k d)) (more : Clauses X nm hh ll) :
      Clauses X nm (.ExceptHandler (some (.Name x p1)) (some nm) (s0 :: ss) p2 :: hh) ((cl, tk) :: ll)
section
variable {X : Cx} {body : List Stmt} {h0 : ExceptHandler} {hh : List ExceptHandler} {ll : List (Value × (Addr → Value → Option Addr → TS))} {pos : Pos} {tb : WX → TS} {W0 : WX} {nm : Str} {k : Nat}
theorem ps_try_list (hst : X.stack = X.env :: X.outer) (hfr0 : X.env.frame = some X.env.locals) (nd : X.N.Nodup) (hk : X.N[k]? = some nm) (hlo : X.env.kindOf nm = some .local) (tk : Takes X W0)
    (hb : ∀ (W : WX) (pn : List (Addr × Obj)) (xe : Value → Shared → Prop), Takes (X.tr pn xe) W → PassesOwn (model X.prog X.w) X.A X.env xe → PSs (X.tr pn xe) body (tb W))
    (cs : Clauses X nm (h0 :: hh) ll) : PS X (.Try body (h0 :: hh) [] [] pos) (fun D σ H => tb (wList X.K k W0 D ll) D σ H) := by
  refine ⟨fun pins s0 σ0 H0 D I0 want => ?_⟩
  have okX := I0.ok
  have frA : X.A.frames = some (X.env :: X.outer) := by rw [okX.frames, hst]
  refine wpAny_Try_except ?_
  refine wpAny_mono ((hb (wList X.K k W0 D ll) (X.pn ++ pins) (fun ex t1 => wpAny (model X.prog X.w) X.A (noteFrame ex X.env) (fun _ t2 => wpAny (model X.prog X.w) X.A (setFlight ex none) (fun _ t3 =>
    wpAny (model X.prog X.w) X.A (handleBy ex X.env (h0 :: hh)) (SP X pins D) X.xe t3) X.xe t2) X.xe t1) (fun u s1 xx => ?_) PassesOwn.looking).run [] s0 σ0 H0 D (I0.toTry _) want) (fun fl s1 got => ?_) (fun _ _ z => z)
  · obtain ⟨a, B, sI, pins1, σ1, H1, kls, d, rfl, J1, nb, up1, sky1, na, os, ag, wish⟩ := xx
    have J : Inv X pins σ1 H1 sI := J1.ofTry okX
    show wpAny (model X.prog X.w) X.A (noteFrame (.ref a) X.env) _ _ _
    refine Sky.land Zc.steady frA hfr0 (by rw [← hst]; exact sky1) fun hp3 fly3 up3 => ?_
    have J3 : Inv X pins σ1 H1 { s1 with heap := hp3 } := J.landed nb fly3.1 (up1.trans up3) os ag
    obtain ⟨o3, vs3, e3, z3, f3⟩ := fly3.there
    have off : a ∉ frs (X.env :: X.outer) := fun hm => by
      obtain ⟨_, o', e', hnf⟩ := fly3.2.2.1.mem hm
      rw [e3] at e'
      cases e'
      exact hnf _ f3
    have nL : a ≠ X.env.locals := fun z => off (List.mem_filterMap.mpr ⟨X.env, List.mem_cons_self, by rw [hfr0, z]⟩)
    have nF : a ∉ X.fs := fun hm => by
      obtain ⟨e, he, q⟩ := List.mem_filterMap.mp hm
      exact off (List.mem_filterMap.mpr ⟨e, List.mem_cons_of_mem _ he, q⟩)
    have S3 := J3.suite e3 f3 na nL nF
    have looks : PySem.W.Looks (model X.prog X.w) hp3 (typeOf (.ref a)) kls := fun A Q E s kk q => wpAny_typeOf_ref (kk _ _ e3) (by rw [z3.1]; exact q)
    have each : ∀ {hs' : List ExceptHandler} {l' : List (Value × (Addr → Value → Option Addr → TS))}, Clauses X nm hs' l' → wList X.K k W0 D l' kls d σ1 H1 →
        wpAny (model X.prog X.w) X.A (handleBy (.ref a) X.env hs') (SP X pins D) X.xe { s1 with heap := hp3 } := by
      intro hs' l' cl
      induction cl with
      | done =>
        intro out
        refine wpAny_handleBy_nil ?_
        obtain ⟨_, _, _, ob, vs, T, oT, tt, he, hz, hd, h1, hr⟩ := id fly3
        unfold PySem.passOn
        refine wpAny_bind (wpAny_field he hd h1 ?_)
        rw [if_neg (by simp : ¬ ((Value.ref T == Value.none) = true))]
        have go : wpAny (model X.prog X.w) X.A (setFlight (.ref a) X.env.frame) (fun _ s4 => wpAny (model X.prog X.w) X.A (throw (.ref a) : Sem Flow) (SP X pins D) X.xe s4) X.xe { s1 with heap := hp3 } := by
          rw [hfr0]
          refine HandSPX.setFlight_upZ fly3 fun hp4 hh4 up4 => wpAny_throw (tk _ _ ?_)
          exact ⟨a, B, sI, pins, σ1, H1, kls, d, rfl, J, nb, (up1.trans up3).trans up4, .inr (.inr (by rw [hst]; exact hh4)), na, os, ag, out⟩
        first
          | exact wpAny_bind (wpAny_pure (wpAny_bind go))
          | exact wpAny_bind go
      | @next x cl tc s0 ss p1 p2 hs2 l2 named suite more ih =>
        intro ask
        obtain ⟨b, hb1, yes, no⟩ := ask
        refine wpAny_handleBy_cons (codeAny_handlers_test ?_) (by intro q; cases q)
        have LM := PySem.W.exm_one (M := model X.prog X.w) (J3.kIn) looks hb1
        have test : ∀ {Q E : Value → Shared → Prop}, Q cl { s1 with heap := hp3 } → wpAny (model X.prog X.w) (X.A.mark (some (.ref a))) (eval (.Name x p1) X.env) Q E { s1 with heap := hp3 } := fun {Q E} q => by
          obtain ⟨hg, nodbg, hm | ⟨hm, hv, hnn⟩⟩ := named
          · exact ld_glob (X := X.suite a ((a, o3) :: (X.pn ++ pins))) S3 hg hm q nodbg
          · exact ld_blt (X := X.suite a ((a, o3) :: (X.pn ++ pins))) S3 hg hm hv q hnn nodbg
        refine test (LM.here ?_)
        cases b with
        | false =>
          show wpAny _ X.A (handleBy (.ref a) X.env hs2) _ _ _
          exact ih (no rfl)
        | true =>
          refine codeAny_handlers_suite_as ?_
          refine HandSPX.lands_againZ fly3 fun hp4 fly4 up4 => ?_
          have J4 : Inv X pins σ1 H1 { s1 with heap := hp4 } := J.landed nb fly4.1 ((up1.trans up3).trans up4) os ag
          obtain ⟨o4, vs4, e4, z4, f4⟩ := fly4.there
          refine store_ok (X := X.suite a ((a, o4) :: (X.pn ++ pins))) (v := .ref a) (J4.suite e4 f4 na nL nF) nd hk (.inl hlo) rfl (fun s5 S5 => ?_) (.inr hlo)
          refine wpAny_mono ((suite a o4 kls d (X.pn ++ pins) z4 ⟨_, f4⟩).run [] s5 _ H1 _ S5 (yes rfl a na)) (fun fl6 s6 got6 => ?_) (fun _ _ z => False.elim z)
          have gone : ∀ {σ6 : L2.St} {H6 : Hp} {Q : Shared → Prop}, Inv (X.suite a ((a, o4) :: (X.pn ++ pins))) [] σ6 H6 s6 → (∀ s7, Inv X pins (σ6.set k none) H6 s7 → Q s7) →
              wpAny (model X.prog X.w) X.A (do bindName X.env nm .none; unbindBehindTheSuite X.env nm p2) (fun _ s7 => Q s7) X.xe s6 := fun S6 hq => gone_ok (S6.unsuite okX) nd hk hlo hq
          cases fl6 with
          | ret u =>
            obtain ⟨v6, σ6, H6, S6, r6, q6⟩ := got6
            exact gone S6 fun s7 J7 => ⟨_, _, _, J7, r6, q6⟩
          | next =>
            obtain ⟨σ6, H6, S6, q6⟩ := got6
            exact gone S6 fun s7 J7 => ⟨_, _, J7, q6⟩
          | brk =>
            obtain ⟨σ6, H6, S6, q6⟩ := got6
            exact gone S6 fun s7 J7 => ⟨_, _, J7, q6⟩
          | cont =>
            obtain ⟨σ6, H6, S6, q6⟩ := got6
            exact gone S6 fun s7 J7 => ⟨_, _, J7, q6⟩
    exact each cs wish
  · cases fl with
    | ret u =>
      obtain ⟨v, σ', H', J', r, q⟩ := got
      exact ⟨v, σ', H', J'.ofTry okX, r, q⟩
    | next =>
      obtain ⟨σ', H', J', q⟩ := got
      exact wpAny_execs_nil ⟨σ', H', J'.ofTry okX, q⟩
    | brk =>
      obtain ⟨σ', H', J', q⟩ := got
      exact ⟨σ', H', J'.ofTry okX, q⟩
    | cont =>
      obtain ⟨σ', H', J', q⟩ := got
      exact ⟨σ', H', J'.ofTry okX, q⟩
end
end KQ

namespace KQ
open PySem PySem.Spec PyProof.Rows L2
/-! ### the law's helpers -/
abbrev sOnes : Stmt := topS 23
abbrev sLett : Stmt := topS 24
abbrev sTextL : Stmt := topS 25
abbrev sOfT : Stmt := topS 26
abbrev sWord : Stmt := topS 27
abbrev sWt : Stmt := topS 28
abbrev sSome : Stmt := topS 29
abbrev sWhy : Stmt := topS 30
abbrev sTold : Stmt := topS 31
abbrev sEvery : Stmt := topS 32
abbrev sCol : Stmt := topS 33
abbrev sList : Stmt := topS 34
abbrev sLaw : Stmt := topS 35
theorem scOnes : FnScope ["_law_number", "_law_count", "_law_lap"] ["_law_number"] (defScope sOnes) := ⟨rfl, rfl, rfl, by decide +kernel, rfl, by decide +kernel, by decide +kernel⟩
theorem scLett : FnScope ["_law_string", "_law_size", "_law_found", "_law_k"] ["_law_string", "_law_size"] (defScope sLett) := ⟨rfl, rfl, rfl, by decide +kernel, rfl, by decide +kernel, by decide +kernel⟩
theorem scOfT : FnScope ["_law_text_here", "_law_sign", "_law_letters_here", "_law_x", "_law_z", "_law_k"] ["_law_text_here"] (defScope sOfT) := ⟨rfl, rfl, rfl, by decide +kernel, rfl, by decide +kernel, by decide +kernel⟩
theorem scWt : FnScope ["_law_string"] ["_law_string"] (defScope sWt) := ⟨rfl, rfl, rfl, by decide +kernel, rfl, by decide +kernel, by decide +kernel⟩
theorem scSome : FnScope ["_law_pen_here", "_law_size", "_law_letters_here", "_law_k"] ["_law_pen_here", "_law_size"] (defScope sSome) := ⟨rfl, rfl, rfl, by decide +kernel, rfl, by decide +kernel, by decide +kernel⟩
theorem scTold : FnScope ["_law_pauli", "_law_string", "_law_phase", "_law_size"] ["_law_pauli", "_law_string", "_law_phase", "_law_size"] (defScope sTold) := ⟨rfl, rfl, rfl, by decide +kernel, rfl, by decide +kernel, by decide +kernel⟩
theorem band (a b : Nat) : Builtin.bitAnd (a : Int) (b : Int) = ((a &&& b : Nat) : Int) := by
  unfold Builtin.bitAnd
  rw [decide_eq_true (Int.natCast_nonneg a), decide_eq_true (Int.natCast_nonneg b)]
  rfl
theorem bor (a b : Nat) : Builtin.bitOr (a : Int) (b : Int) = ((a ||| b : Nat) : Int) := by
  have n1 : ∀ n : Nat, Builtin.bitNot (n : Int) = -(n : Int) - 1 := fun n => by
    unfold Builtin.bitNot
    omega
  have n2 : ∀ n : Nat, Builtin.bitNot (-(n : Int) - 1) = (n : Int) := fun n => by
    unfold Builtin.bitNot
    omega
  unfold Builtin.bitOr
  rw [n1, n1]
  unfold Builtin.bitAnd
  rw [decide_eq_false (by omega : ¬ (0 ≤ -(a : Int) - 1)), decide_eq_false (by omega : ¬ (0 ≤ -(b : Int) - 1))]
  show Builtin.bitNot (Builtin.bitNot (((Builtin.bitNot (-(a : Int) - 1)).toNat ||| (Builtin.bitNot (-(b : Int) - 1)).toNat : Nat) : Int)) = _
  rw [n2, n2, n1, n2]
  rfl
theorem shr_bit {f : Nat → Nat} (hf : ∀ c, f c < 2) {L : List Nat} {k c : Nat} (h : L[k]? = some c) : ((bv f L : Nat) : Int) / 2 ^ ((0 : Int) + (k : Nat)).toNat % 2 = ((f c : Nat) : Int) := by
  rw [Int.zero_add, Int.toNat_natCast]
  have e := bv_bit hf h
  have : (((bv f L / 2 ^ k % 2 : Nat)) : Int) = ((f c : Nat) : Int) := by rw [e]
  rw [← this]
  push_cast
  rfl
theorem e_XY : ("XY" : Str).cps.toList = [88, 89] := by decide +kernel
theorem e_ZY : ("ZY" : Str).cps.toList = [90, 89] := by decide +kernel
theorem e_IXZY : ("IXZY" : Str) = mS [73, 88, 90, 89] := by decide +kernel
theorem e_IXYZ : ("IXYZ" : Str).cps.toList = [73, 88, 89, 90] := by decide +kernel
theorem e_some : ("IIXYZ" : Str).cps.toList = [73, 73, 88, 89, 90] := by decide +kernel
theorem e_pm : ("+-" : Str) = mS [43, 45] := by decide +kernel
theorem in_XY (c : Nat) : (if decide (c ∈ ("XY" : Str).cps.toList) then (1 : Int) else 0) = ((lx c : Nat) : Int) := by
  rw [e_XY]
  unfold lx
  by_cases h : c = 88 ∨ c = 89
  · rw [if_pos h, if_pos (decide_eq_true (by simpa using h))]
    rfl
  · rw [if_neg h, if_neg (by simpa using h)]
    rfl
theorem in_ZY (c : Nat) : (if decide (c ∈ ("ZY" : Str).cps.toList) then (1 : Int) else 0) = ((lz c : Nat) : Int) := by
  rw [e_ZY]
  unfold lz
  by_cases h : c = 90 ∨ c = 89
  · rw [if_pos h, if_pos (decide_eq_true (by simpa using h))]
    rfl
  · rw [if_neg h, if_neg (by simpa using h)]
    rfl
def Lets (L : List Nat) : Prop := ∀ c ∈ L, isL c = true
theorem Lets.at {L : List Nat} (h : Lets L) {k c : Nat} (e : L[k]? = some c) : isL c = true := h c (List.mem_of_getElem? e)
def spOnes : Sp := fun vs H Q _ => ∃ n : Nat, vs = [.int (n : Int)] ∧ pc n ≤ 63 ∧ Q (.int (pc n : Nat)) H
def spLett : Sp := fun vs H Q _ => ∃ (t : Addr) (L : List Nat) (z : Int), vs = [.ref t, .int (L.length : Int)] ∧ H t = some (.tup [.int (bv lx L : Nat), .int (bv lz L : Nat), .int z]) ∧ Lets L ∧ L.length ≤ 60 ∧ Q (.str (mS L)) H
def spOfT : Sp := fun vs H Q _ => ∃ L : List Nat, vs = [.str (mS L)] ∧ Lets L ∧ L.length ≤ 60 ∧ ∀ H' t, Same H H' → H t = none → H' t = some (.tup [.int (bv lx L : Nat), .int (bv lz L : Nat), .int 0]) → Q (.ref t) H'
def spWt : Sp := fun vs H Q _ => ∃ (t : Addr) (L : List Nat) (z : Int), vs = [.ref t] ∧ H t = some (.tup [.int (bv lx L : Nat), .int (bv lz L : Nat), .int z]) ∧ Lets L ∧ L.length ≤ 60 ∧ Q (.int (wt L : Nat)) H
section
variable {P : Program} {w : World} {K : PySem.W.Frag} {mg : Str → Option Value} {base : Heap}
theorem ok_ones {f : Addr} {fd : FuncData} {k : Nat} (F : Fun K "_law_ones" "_law_ones" sOnes f fd) (B : Bl mg) : FnOk P w K mg base CX0 (k + 1) f fd ["_law_number"] spOnes := by
  refine F.ok scOnes (fun vs H Q E h => ?_) (fun cdv A outer s H vs Q E hr h => ?_)
  · obtain ⟨n, rfl, _⟩ := h
    rfl
  · obtain ⟨n, rfl, hn, q⟩ := h
    refine ⟨_, C8.pss_cut (ps_set (i := 1) scOnes.nd rfl (.inl rfl) pe_int)
      (C8.pss_cut (ps_for PassesOwn.never rfl (pi_range1 (by rfl) B.range (pa_cons pe_int pa_nil)) (pg_name (i := 2) scOnes.nd rfl (.inl rfl))
        (pss_cons (ps_if (pt_cmpR op_eq (pv 0) pe_int (nomark _)) (pss_one ps_break) pss_nil)
        (pss_one (ps_par (i := 0) (j := 1) rfl scOnes.nd rfl rfl (by decide) rfl rfl (pa_cons (pe_op op_and (pv 0) (pe_op op_sub (pv 0) pe_int)) (pa_cons (pe_op op_add (pv 1) pe_int) pa_nil)) rfl))))
      (pss_one (ps_ret (pv 1)))), ?_⟩
    refine ⟨fun σ' H' => σ' = [some (.int (n : Int)), some (.int 0), none] ∧ H' = H, ⟨rfl, rfl⟩, ?_⟩
    rintro _ H1 ⟨rfl, rfl⟩
    refine ⟨fun σ' H' => ∃ lap, σ' = [some (.int 0), some (.int (pc n : Nat)), lap] ∧ H' = H1, ?_, ?_⟩
    · refine ⟨64, rfl, by decide, by decide, for_range (n := 64) (fun i σ' H' => ∃ (m : Nat) (lap : Option V), σ' = [some (.int (m : Int)), some (.int (i : Int)), lap] ∧ H' = H1 ∧ pc m + i = pc n) ⟨n, none, rfl, rfl, rfl⟩ ?_ ?_⟩
      · rintro i _ _ hi ⟨m, lap, rfl, rfl, he⟩
        refine ⟨_, rfl, rfl, _, rfl, ite2 (fun e => ?_) (fun e => ?_)⟩
        · have e' : m = 0 := by have := V.int.inj (of_decide_eq_true e); omega
          subst e'
          rw [pc_zero] at he
          exact ⟨_, by rw [← he, Nat.zero_add]; rfl, rfl⟩
        · have e' : m ≠ 0 := fun z => e (decide_eq_true (by rw [z]; rfl))
          have em : ((m : Nat) : Int) - 1 = ((m - 1 : Nat) : Int) := by omega
          refine ⟨_, rfl, _, rfl, _, _, rfl, rfl, _, _, rfl, rfl, _, rfl, _, _, rfl, rfl, _, _, rfl, m &&& (m - 1), some (.int (0 + (i : Int))), ?_, rfl, ?_⟩
          · show [some (V.int (Builtin.bitAnd (m : Int) ((m : Int) - 1))), some (V.int ((i : Int) + 1)), some (V.int (0 + (i : Int)))] = _
            rw [em, band]
            rfl
          · have := pc_step m (by omega)
            omega
      · rintro _ _ ⟨m, lap, rfl, rfl, he⟩
        omega
    rintro _ H2 ⟨lap, rfl, rfl⟩
    exact ⟨_, rfl, q⟩
theorem ok_lett {f : Addr} {fd : FuncData} {k : Nat} (F : Fun K "_law_letters" "_law_letters" sLett f fd) (B : Bl mg) : FnOk P w K mg base CX0 (k + 1) f fd ["_law_string", "_law_size"] spLett := by
  refine F.ok scLett (fun vs H Q E h => ?_) (fun cdv A outer s H vs Q E hr h => ?_)
  · obtain ⟨t, L, z, rfl, _⟩ := h
    rfl
  · obtain ⟨t, L, z, rfl, et, hL, hl, q⟩ := h
    refine ⟨_, C8.pss_cut (ps_set (i := 2) scLett.nd rfl (.inl rfl) pe_str)
      (C8.pss_cut (ps_for PassesOwn.never rfl (pi_range1 (by rfl) B.range (pa_cons (pv 1) pa_nil)) (pg_name (i := 3) scLett.nd rfl (.inl rfl))
        (pss_one (ps_set (i := 2) scLett.nd rfl (.inl rfl) (pe_op op_add_str (pv 2) (pe_ix ix_str pe_str (pe_op op_add
          (pe_op op_mod (pe_callTy call_int1 (by rfl) B.int bootI (pa_cons (pe_op op_shr (pe_ix ix_tup (pv 0) pe_int (fun _ _ => rfl)) (pv 3)) pa_nil)) pe_int)
          (pe_op op_mul pe_int (pe_op op_mod (pe_callTy call_int1 (by rfl) B.int bootI (pa_cons (pe_op op_shr (pe_ix ix_tup (pv 0) pe_int (fun _ _ => rfl)) (pv 3)) pa_nil)) pe_int))) (fun _ _ => rfl))))))
      (pss_one (ps_ret (pv 2)))), ?_⟩
    have sq : SqT K H t [.int (bv lx L : Nat), .int (bv lz L : Nat), .int z] := .inl (.inl et)
    have j0 : atI [V.int (bv lx L : Nat), V.int (bv lz L : Nat), V.int z] 0 = some (.int (bv lx L : Nat)) := at_of (j := 0) rfl rfl
    have j1 : atI [V.int (bv lx L : Nat), V.int (bv lz L : Nat), V.int z] 1 = some (.int (bv lz L : Nat)) := at_of (j := 1) rfl rfl
    refine ⟨fun σ' H' => σ' = [some (.ref t), some (.int (L.length : Int)), some (.str (mS [])), none] ∧ H' = H, ⟨by rw [show mS [] = ("" : Str) from e_no.symm]; rfl, rfl⟩, ?_⟩
    rintro _ H1 ⟨rfl, rfl⟩
    refine ⟨fun σ' H' => ∃ lap, σ' = [some (.ref t), some (.int (L.length : Int)), some (.str (mS L)), lap] ∧ H' = H1, ?_, ?_⟩
    · refine ⟨_, rfl, _, rfl, by omega, by omega, for_range (n := L.length) (fun i σ' H' => ∃ lap, σ' = [some (.ref t), some (.int (L.length : Int)), some (.str (mS (L.take i))), lap] ∧ H' = H1) ⟨none, rfl, rfl⟩ ?_ ?_⟩
      · rintro i _ _ hi ⟨lap, rfl, rfl⟩
        have hx : L[i]? = some L[i] := List.getElem?_eq_getElem hi
        have hc := hL.at hx
        have b0 := shr_bit lx_lt hx
        have b1 := shr_bit lz_lt hx
        refine ⟨_, rfl, _, rfl, t, _, _, _, rfl, rfl, sq, j0, _, rfl, _, _, rfl, rfl, by show (0 : Int) ≤ 0 + (i : Int); omega, .inl ⟨_, rfl, _, _, rfl, rfl, by show (0 : Int) < 2; decide, ?_⟩⟩
        refine ⟨_, rfl, t, _, _, _, rfl, rfl, sq, j1, _, rfl, _, _, rfl, rfl, by show (0 : Int) ≤ 0 + (i : Int); omega, .inl ⟨_, rfl, _, _, rfl, rfl, by show (0 : Int) < 2; decide, _, _, rfl, rfl, .inl ⟨by decide, by decide⟩, ?_⟩⟩
        refine ⟨_, _, rfl, rfl, _, _, L[i], rfl, rfl, by show (4 : Nat) ≤ sizeLine; decide, ?_, _, _, rfl, rfl, ?_, ?_⟩
        · show atI _ (((bv lx L : Nat) : Int) / 2 ^ ((0 : Int) + (i : Nat)).toNat % 2 + 2 * (((bv lz L : Nat) : Int) / 2 ^ ((0 : Int) + (i : Nat)).toNat % 2)) = _
          rw [b0, b1, e_IXZY]
          have e2 : ((lx L[i] : Nat) : Int) + 2 * ((lz L[i] : Nat) : Int) = ((lx L[i] + 2 * lz L[i] : Nat) : Int) := by omega
          rw [e2]
          exact atI_nat (letter_back hc)
        · rw [mS_len, List.length_take]
          exact Nat.le_trans (by show _ + 1 ≤ 61; omega) (by decide : 61 ≤ sizeLine)
        · refine ⟨some (.int (0 + (i : Int))), ?_, rfl⟩
          show [_, _, some (V.str (mS (L.take i) ++ mS [L[i]])), _] = _
          rw [mS_app]
          have e3 : L.take (i + 1) = L.take i ++ [L[i]] := by rw [List.take_succ, hx]; rfl
          rw [e3]
      · rintro _ _ ⟨lap, rfl, rfl⟩
        rw [List.take_of_length_le (Nat.le_refl _)]
        exact ⟨_, rfl, rfl⟩
    rintro _ H2 ⟨lap, rfl, rfl⟩
    exact ⟨_, rfl, q⟩
end
end KQ

namespace KQ
open PySem PySem.Spec PyProof.Rows L2
theorem cut_one (L : List Nat) : cutS (mS L) none (some 1) = mS (L.take 1) := cut_to L 1
theorem take_one (L : List Nat) (c : Nat) : decide (V.str (mS (L.take 1)) = V.str (mS [c])) = decide (L.head? = some c) := by
  cases L with
  | nil =>
    rw [decide_eq_false (fun z => by cases mS_inj (V.str.inj z)), decide_eq_false (fun z => by cases z)]
  | cons a L =>
    show decide (V.str (mS [a]) = V.str (mS [c])) = decide (some a = some c)
    by_cases h : a = c
    · subst h
      rw [decide_eq_true rfl, decide_eq_true rfl]
    · rw [decide_eq_false (fun z => h (List.cons.inj (mS_inj (V.str.inj z))).1), decide_eq_false (fun z => h (Option.some.inj z))]
theorem Lets.strip {L : List Nat} (h : Lets L) : L.dropWhile (#[43, 45] : Array Nat).contains = L := by
  cases L with
  | nil => rfl
  | cons a M =>
    have := isL_iff.mp (h a List.mem_cons_self)
    rw [List.dropWhile_cons_of_neg]
    rcases this with rfl | rfl | rfl | rfl <;> simp
theorem Lets.head {L : List Nat} (h : Lets L) : ¬ L.head? = some 45 := by
  cases L with
  | nil => exact fun z => by cases z
  | cons a M =>
    intro z
    have := isL_iff.mp (h a List.mem_cons_self)
    have e := Option.some.inj z
    omega
section
variable {P : Program} {w : World} {K : PySem.W.Frag} {mg : Str → Option Value} {base : Heap}
theorem ok_oft {f : Addr} {fd : FuncData} {k : Nat} (F : Fun K "_law_of_text" "_law_of_text" sOfT f fd) (B : Bl mg) : FnOk P w K mg base CX0 (k + 1) f fd ["_law_text_here"] spOfT := by
  refine F.ok scOfT (fun vs H Q E h => ?_) (fun cdv A outer s H vs Q E hr h => ?_)
  · obtain ⟨L, rfl, _⟩ := h
    rfl
  · obtain ⟨L, rfl, hL, hl, q⟩ := h
    refine ⟨_, C8.pss_cut (ps_par (i := 1) (j := 2) rfl scOfT.nd rfl rfl (by decide) rfl rfl (pa_cons (pe_callTy call_int1 (by rfl) B.int bootI (pa_cons (pe_cmpR op_eq (pe_slice sl_str (pv 0) po_none (po_some pe_int)) pe_str (nomark _)) pa_nil))
        (pa_cons (pe_bm PySem.F.plainAttrs_str PySem.F.slot_str_lstrip PySem.F.type_str_lstrip mt_lstripChars (pv 0) (pa_cons pe_str pa_nil)) pa_nil)) rfl)
      (C8.pss_cut (ps_asg (pe_tup (pa_cons pe_int (pa_cons pe_int pa_nil))) (pg_tup rfl (pgs_cons (pg_name (i := 3) scOfT.nd rfl (.inl rfl)) (pgs_cons (pg_name (i := 4) scOfT.nd rfl (.inl rfl)) pgs_nil))))
      (C8.pss_cut (ps_for PassesOwn.never rfl (pi_range1 (by rfl) B.range (pa_cons (pe_callB call_len_str (by rfl) B.len PySem.boot_len (pa_cons (pv 2) pa_nil)) pa_nil)) (pg_name (i := 5) scOfT.nd rfl (.inl rfl))
        (pss_cons (ps_set (i := 3) scOfT.nd rfl (.inl rfl) (pe_op op_add (pv 3) (pe_op op_mul (pe_op op_shl pe_int (pv 5)) (pe_callTy call_int1 (by rfl) B.int bootI (pa_cons (pe_cmpR op_in_sign (pe_ix ix_str (pv 2) (pv 5) (fun _ _ => rfl)) pe_str (by rfl)) pa_nil)))))
        (pss_one (ps_set (i := 4) scOfT.nd rfl (.inl rfl) (pe_op op_add (pv 4) (pe_op op_mul (pe_op op_shl pe_int (pv 5)) (pe_callTy call_int1 (by rfl) B.int bootI (pa_cons (pe_cmpR op_in_sign (pe_ix ix_str (pv 2) (pv 5) (fun _ _ => rfl)) pe_str (by rfl)) pa_nil))))))))
      (pss_one (ps_ret (pe_tup (pa_cons (pv 3) (pa_cons (pv 4) (pa_cons (pv 1) pa_nil)))))))), ?_⟩
    have hz : (mS L).length ≤ sizeLine := by rw [mS_len]; exact sizeBig (by omega)
    refine ⟨fun σ' H' => σ' = [some (.str (mS L)), some (.int 0), some (.str (mS L)), none, none, none] ∧ H' = H, ?_, ?_⟩
    · refine ⟨_, rfl, _, rfl, _, rfl, hz, rfl, .inr ⟨_, rfl, _, rfl, rfl, _, _, rfl, rfl, hz, _, _, rfl, ?_⟩⟩
      rw [cut_one, show ("-" : Str) = mS [45] from e_minus, take_one, decide_eq_false hL.head, e_pm, lstrip_eq, hL.strip]
      exact ⟨rfl, rfl⟩
    rintro _ H1 ⟨rfl, rfl⟩
    refine ⟨fun σ' H' => σ' = [some (.str (mS L)), some (.int 0), some (.str (mS L)), some (.int 0), some (.int 0), none] ∧ Same H1 H', ⟨by show 2 ≤ sizeLine; decide, fun r nr => ⟨r, _, rfl, .inl (.inl upd_same), rfl, _, _, rfl, _, _, rfl, rfl, rfl, same_new nr⟩⟩, ?_⟩
    rintro _ H2 ⟨rfl, s12⟩
    refine ⟨fun σ' H' => ∃ lap, σ' = [some (.str (mS L)), some (.int 0), some (.str (mS L)), some (.int (bv lx L : Nat)), some (.int (bv lz L : Nat)), lap] ∧ H' = H2, ?_, ?_⟩
    · refine ⟨_, rfl, _, rfl, hz, _, rfl, by rw [mS_len]; omega, by rw [mS_len]; omega, for_range (n := (mS L).length) (fun i σ' H' => ∃ lap, σ' = [some (.str (mS L)), some (.int 0), some (.str (mS L)), some (.int (bv lx (L.take i) : Nat)), some (.int (bv lz (L.take i) : Nat)), lap] ∧ H' = H2) ⟨none, rfl, rfl⟩ ?_ ?_⟩
      · rintro i _ _ hi ⟨lap, rfl, rfl⟩
        rw [mS_len] at hi
        have hx : L[i]? = some L[i] := List.getElem?_eq_getElem hi
        have hat : atI (mS L).cps.toList ((0 : Int) + (i : Nat)) = some L[i] := by
          rw [Int.zero_add]
          exact atI_nat hx
        have cp : CPow 1 ((0 : Int) + (i : Nat)) := ⟨by omega, by omega, by decide⟩
        have cm : ∀ (m : Int) (b : Bool), CMul m (if b then 1 else 0) := fun m b => .inr (by cases b <;> decide)
        refine ⟨_, rfl, _, rfl, _, _, rfl, rfl, cp, _, rfl, _, rfl, _, _, L[i], rfl, rfl, hz, hat, _, _, rfl, rfl, .inr ⟨_, rfl, _, _, rfl, rfl, cm _ _, _, _, rfl, rfl, ?_⟩⟩
        refine ⟨_, rfl, _, rfl, _, _, rfl, rfl, cp, _, rfl, _, rfl, _, _, L[i], rfl, rfl, hz, hat, _, _, rfl, rfl, .inr ⟨_, rfl, _, _, rfl, rfl, cm _ _, _, _, rfl, rfl, ?_⟩⟩
        refine ⟨some (.int (0 + (i : Int))), ?_, rfl⟩
        show [_, _, _, some (V.int (((bv lx (L.take i) : Nat) : Int) + 1 * 2 ^ ((0 : Int) + (i : Nat)).toNat * (if decide (L[i] ∈ ("XY" : Str).cps.toList) then 1 else 0))), some (V.int (((bv lz (L.take i) : Nat) : Int) + 1 * 2 ^ ((0 : Int) + (i : Nat)).toNat * (if decide (L[i] ∈ ("ZY" : Str).cps.toList) then 1 else 0))), _] = _
        rw [in_XY, in_ZY, bv_take lx hx, bv_take lz hx, Int.zero_add, Int.toNat_natCast, Int.one_mul]
        push_cast
        rfl
      · rintro _ _ ⟨lap, rfl, rfl⟩
        rw [mS_len, List.take_of_length_le (Nat.le_refl _)]
        exact ⟨_, rfl, rfl⟩
    rintro _ H3 ⟨lap, rfl, rfl⟩
    exact ⟨_, rfl, _, rfl, _, rfl, by show 3 ≤ sizeLine; decide, fun p np => q _ p (s12.trans (same_new np)) (s12.free np) upd_same⟩
theorem ok_wt {f fO : Addr} {fd dO : FuncData} {k : Nat} (F : Fun K "_law_weight" "_law_weight" sWt f fd) (FO : Fun K "_law_ones" "_law_ones" sOnes fO dO) (bO : Binds K dO ["_law_number"] []) (gO : mg "_law_ones" = some (.ref fO)) (B : Bl mg) : FnOk P w K mg base CX0 (k + 2) f fd ["_law_string"] spWt := by
  have GO : FnOk P w K mg base CX0 (k + 1) fO dO ["_law_number"] spOnes := ok_ones FO B
  refine F.ok scWt (fun vs H Q E h => ?_) (fun cdv A outer s H vs Q E hr h => ?_)
  · obtain ⟨t, L, z, rfl, _⟩ := h
    rfl
  · obtain ⟨t, L, z, rfl, et, hL, hl, q⟩ := h
    refine ⟨_, pss_one (ps_ret (pe_call GO hr (by rfl) gO FO.kp bO .nil pass0 (pa_cons (pe_op op_or (pe_ix ix_tup (pv 0) pe_int (fun _ _ => rfl)) (pe_ix ix_tup (pv 0) pe_int (fun _ _ => rfl))) pa_nil))), ?_⟩
    have sq : SqT K H t [.int (bv lx L : Nat), .int (bv lz L : Nat), .int z] := .inl (.inl et)
    have j0 : atI [V.int (bv lx L : Nat), V.int (bv lz L : Nat), V.int z] 0 = some (.int (bv lx L : Nat)) := at_of (j := 0) rfl rfl
    have j1 : atI [V.int (bv lx L : Nat), V.int (bv lz L : Nat), V.int z] 1 = some (.int (bv lz L : Nat)) := at_of (j := 1) rfl rfl
    have hp := pc_wt hL
    have hw : wt L ≤ 60 := by unfold wt; omega
    refine ⟨_, rfl, t, _, _, _, rfl, rfl, sq, j0, _, rfl, t, _, _, _, rfl, rfl, sq, j1, _, _, rfl, rfl, bv lx L ||| bv lz L, ?_, by rw [hp]; omega, by rw [hp]; exact q⟩
    show [V.int (Builtin.bitOr _ _)] = _
    rw [bor]
def spPickS : Sp := fun vs H Q _ => ∃ (p c : Addr) (z : Str) (n : Nat), vs = [.ref p, .str z] ∧ PenAt H p c n ∧ n < 1000000 ∧ z.cps.toList ≠ [] ∧ z.length ≤ 1000 ∧
  ∀ (i ch : Nat) H', z.cps.toList[i]? = some ch → PenAt H' p c (n + 1) → (∀ b, b ≠ p → H' b = H b) → Q (.str ⟨#[ch]⟩) H'
theorem ok_pickS {f fD : Addr} {fd fdD : FuncData} {k : Nat} (F : Fun K "_law_pick" "_law_pick" sPick f fd) (FD : Fun K "_law_draw" "_law_draw" sDraw fD fdD) (bD : Binds K fdD ["_law_pen_here", "_law_many"] []) (gD : mg "_law_draw" = some (.ref fD)) (B : Bl mg) :
    FnOk P w K mg base CX0 (k + 2) f fd ["_law_pen_here", "_law_some"] spPickS := by
  have GD : FnOk P w K mg base CX0 (k + 1) fD fdD ["_law_pen_here", "_law_many"] spDraw := ok_draw FD B.int B.len
  refine F.ok scPick (fun vs H Q E h => ?_) (fun cdv A outer s H vs Q E hr h => ?_)
  · obtain ⟨p, c, z, n, rfl, _⟩ := h
    rfl
  · obtain ⟨p, c, z, n, rfl, hP, hn, h0, hl, q⟩ := h
    refine ⟨_, pss_one (ps_ret (pe_ix ix_str (pv 1) (pe_call GD hr (by rfl) gD FD.kp bD .nil pass0 (pa_cons (pv 0) (pa_cons (pe_callB call_len_str (by rfl) B.len PySem.boot_len (pa_cons (pv 1) pa_nil)) pa_nil))) (fun _ _ => rfl))), ?_⟩
    have hlen : z.cps.toList.length = z.length := by simp [Str.length]
    have hpos : 0 < z.cps.toList.length := List.length_pos_iff.mpr h0
    refine ⟨_, rfl, _, rfl, _, rfl, _, rfl, sizeBig hl, p, c, n, _, rfl, hP, hn, by omega, ?_, fun r H' r0 r1 hP' hk => ?_⟩
    · have e : (z.length : Int).natAbs = z.length := by omega
      rw [e]
      exact Nat.lt_of_le_of_lt hl (by decide)
    · obtain ⟨j, rfl⟩ : ∃ j : Nat, r = (j : Int) := ⟨r.toNat, by omega⟩
      have hj : j < z.cps.toList.length := by omega
      have hx : z.cps.toList[j]? = some z.cps.toList[j] := List.getElem?_eq_getElem hj
      exact ⟨_, _, _, rfl, rfl, sizeBig hl, atI_nat hx, q j _ H' hx hP' hk⟩
end
end KQ

namespace KQ
open PySem PySem.Spec PyProof.Rows L2
/-- all but the pen is as it was -/
def KeepP (p : Addr) (H H' : Hp) : Prop := ∀ q o, q ≠ p → H q = some o → H' q = some o
theorem KeepP.refl (p : Addr) (H : Hp) : KeepP p H H := fun _ _ _ e => e
theorem KeepP.trans {p : Addr} {H H1 H2 : Hp} (a : KeepP p H H1) (b : KeepP p H1 H2) : KeepP p H H2 := fun q o n e => b q o n (a q o n e)
theorem KeepP.of_same {p : Addr} {H H' : Hp} (s : Same H H') : KeepP p H H' := fun q o _ e => s q o e
theorem KeepP.of_eq {p : Addr} {H H' : Hp} (s : ∀ b, b ≠ p → H' b = H b) : KeepP p H H' := fun q o n e => (s q n).trans e
theorem pen_upd {H : Hp} {p c y : Addr} {n : Nat} {o : HO} (h : PenAt H p c n) (hp : y ≠ p) (hc : y ≠ c) : PenAt (upd H y o) p c n := h.same (upd_ne (Ne.symm hp)) (upd_ne (Ne.symm hc))
theorem pen_sm {H H' : Hp} {p c : Addr} {n : Nat} (h : PenAt H p c n) (s : Same H H') : PenAt H' p c n := by
  obtain ⟨ns, a, d, f, e1, e2, r⟩ := h
  exact ⟨ns, a, d, f, s _ _ e1, s _ _ e2, r⟩
theorem pen_get {H : Hp} {p c : Addr} {n : Nat} (h : PenAt H p c n) : (∃ o, H p = some o) ∧ ∃ o, H c = some o := by
  obtain ⟨ns, a, d, f, e1, e2, r⟩ := h
  exact ⟨⟨_, e1⟩, ⟨_, e2⟩⟩
theorem pen_off {H : Hp} {p c y : Addr} {n : Nat} {o : HO} (h : PenAt H p c n) (hy : H y = some o) (d : ∀ kv, o ≠ .dK kv) : y ≠ p := by
  obtain ⟨ns, a, d', f, hp, _⟩ := h
  exact ne_of hy hp (d _)
theorem bootB : bootBuiltins "bool" = some (.type "bool") := by decide +kernel
def signs1 (L : List Nat) : List Str := L.map fun c => (⟨#[c]⟩ : Str)
theorem join_signs (L : List Nat) : Txt.join ("" : Str) (signs1 L) = mS L := by
  rw [TL.join_eq, e_no]
  exact PyProof.Rows.join_ones L
theorem signs_len : ∀ L : List Nat, ((signs1 L).map (·.length)).sum = L.length
  | [] => rfl
  | c :: L => by
    show 1 + ((signs1 L).map (·.length)).sum = L.length + 1
    rw [signs_len L]
    omega
def spSome : Sp := fun vs H Q _ => ∃ (p c : Addr) (n m : Nat), vs = [.ref p, .int (m : Int)] ∧ PenAt H p c n ∧ n + m < 1000000 ∧ m ≤ 60 ∧
  ∀ (L : List Nat) (t : Addr) (H' : Hp), L.length = m → Lets L → H' t = some (.tup [.int (bv lx L : Nat), .int (bv lz L : Nat), .int 0]) → PenAt H' p c (n + m) → KeepP p H H' → Q (.ref t) H'
def spTold (C : Addr) : Sp := fun vs H Q _ => ∃ (a t : Addr) (L : List Nat) (z : Int) (p : Nat), vs = [.ref a, .ref t, .int (p : Int), .int (L.length : Int)] ∧ PauliAt C H a L p ∧ H t = some (.tup [.int (bv lx L : Nat), .int (bv lz L : Nat), .int z]) ∧ Lets L ∧ L.length ≤ 60 ∧ Q (.bl true) H
section
variable {P : Program} {w : World} {K : PySem.W.Frag} {mg : Str → Option Value} {base : Heap}
theorem ok_some {f fD fP fT : Addr} {fd dD dP dT : FuncData} (F : Fun K "_law_some_string" "_law_some_string" sSome f fd) (FD : Fun K "_law_draw" "_law_draw" sDraw fD dD) (bD : Binds K dD ["_law_pen_here", "_law_many"] []) (gD : mg "_law_draw" = some (.ref fD))
    (FP : Fun K "_law_pick" "_law_pick" sPick fP dP) (bP : Binds K dP ["_law_pen_here", "_law_some"] []) (gP : mg "_law_pick" = some (.ref fP)) (FT : Fun K "_law_of_text" "_law_of_text" sOfT fT dT) (bT : Binds K dT ["_law_text_here"] []) (gT : mg "_law_of_text" = some (.ref fT)) (B : Bl mg) :
    FnOk P w K mg base CX0 3 f fd ["_law_pen_here", "_law_size"] spSome := by
  have GP : FnOk P w K mg base CX0 2 fP dP ["_law_pen_here", "_law_some"] spPickS := ok_pickS FP FD bD gD B
  have GT : FnOk P w K mg base CX0 2 fT dT ["_law_text_here"] spOfT := ok_oft FT B
  refine F.ok scSome (fun vs H Q E h => ?_) (fun cdv A outer s H vs Q E hr h => ?_)
  · obtain ⟨p, c, n, m, rfl, _⟩ := h
    rfl
  · obtain ⟨p, c, n, m, rfl, hP, hn, hm, q⟩ := h
    refine ⟨_, C8.pss_cut (ps_set (i := 2) scSome.nd rfl (.inl rfl) (pe_bm PySem.F.plainAttrs_str PySem.F.slot_str_join PySem.F.type_str_join mt_join pe_str
        (pa_cons (pe_lc (own := [("_law_k", 3)]) (g := gName 3) (by rfl) scSome.nd (pi_range1 (by rfl) B.range (pa_cons (pv 1) pa_nil)) (blkOk_by (own := [("_law_k", 3)]) (N := ["_law_pen_here", "_law_size", "_law_letters_here", "_law_k"]) (sc := defScope sSome) (by decide +kernel))
          (fun _ _ _ _ _ => pg_name (i := 3) scSome.nd rfl (Or.inl rfl)) (fun _ _ _ _ _ => pts_nil) (fun _ _ _ _ _ => pe_call GP hr (by rfl) gP FP.kp bP .nil pass0 (pa_cons (pv 0) (pa_cons pe_str pa_nil)))) pa_nil)))
      (pss_one (ps_ret (pe_call GT hr (by rfl) gT FT.kp bT .nil pass0 (pa_cons (pv 2) pa_nil)))), ?_⟩
    obtain ⟨⟨op, ep⟩, ⟨oc, ec⟩⟩ := pen_get hP
    refine ⟨fun σ' H' => ∃ L : List Nat, L.length = m ∧ Lets L ∧ σ' = [some (.ref p), some (.int (m : Int)), some (.str (mS L)), none] ∧ PenAt H' p c (n + m) ∧ KeepP p H H', ?_, ?_⟩
    · refine ⟨rfl, _, rfl, _, rfl, by omega, by omega, fun D nD => ?_⟩
      have hDp : D ≠ p := Ne.symm (ne_of_none ep nD)
      have hDc : D ≠ c := Ne.symm (ne_of_none ec nD)
      refine lc_range (lo := 0) (n := m) (Pv := fun i Hc => ∃ L : List Nat, L.length = i ∧ Lets L ∧ Hc D = some (.lst ((signs1 L).map V.str)) ∧ PenAt Hc p c (n + i) ∧ KeepP p H Hc) ⟨[], rfl, (fun c hc => by cases hc), upd_same, pen_upd hP hDp hDc, fun y o hy e => by rw [upd_ne (ne_of_none e nD)]; exact e⟩ ?_ ?_
      · rintro i Hc hi ⟨L, hl, hL, eD, hP', kp⟩
        refine ⟨rfl, _, rfl, p, c, _, n + i, rfl, hP', by omega, by rw [e_some]; decide, by decide +kernel, fun j ch H2 hj hP2 hk => ?_⟩
        refine ⟨_, by rw [hk D hDp]; exact eD, ?_, L ++ [ch], by rw [List.length_append, hl]; rfl, ?_, ?_, ?_, ?_⟩
        · show (((signs1 L).map V.str).length) < sizeLine
          rw [List.length_map, signs1, List.length_map, hl]
          exact Nat.lt_of_lt_of_le (by omega : i < 61) (by decide)
        · intro x hx
          rcases List.mem_append.mp hx with hx | hx
          · exact hL x hx
          · rw [List.mem_singleton.mp hx]
            rw [e_some] at hj
            have := List.mem_of_getElem? hj
            revert this
            simp only [List.mem_cons, List.mem_nil_iff, or_false]
            rintro (h | h | h | h | h) <;> subst h <;> exact isL_iff.mpr (by omega)
        · rw [upd_same, signs1, signs1, List.map_append, List.map_append]
          rfl
        · exact pen_upd hP2 hDp hDc
        · intro y o hy e
          have hyD : y ≠ D := ne_of_none e nD
          rw [upd_ne hyD, hk y hy]
          exact kp y o hy e
      · rintro Hc ⟨L, hl, hL, eD, hP', kp⟩
        refine ⟨_, D, signs1 L, rfl, rfl, .inl (SqL.of eD), ?_, ?_⟩
        · rw [signs_len, show ("" : Str).length = 0 from by decide +kernel]
          omega
        · rw [join_signs]
          exact ⟨L, hl, hL, rfl, hP', kp⟩
    rintro _ H1 ⟨L, hl, hL, rfl, hP', kp⟩
    refine ⟨_, rfl, L, rfl, hL, by omega, fun H' t s' nt et => q L t H' hl hL et (pen_sm hP' s') (kp.trans (KeepP.of_same s'))⟩
theorem ok_told {f fL fW fO fI fE C : Addr} {fd dL dW dO : FuncData} (F : Fun K "_law_told" "_law_told" sTold f fd) (FL : Fun K "_law_letters" "_law_letters" sLett fL dL) (bL : Binds K dL ["_law_string", "_law_size"] []) (gL : mg "_law_letters" = some (.ref fL))
    (FW : Fun K "_law_weight" "_law_weight" sWt fW dW) (bW : Binds K dW ["_law_string"] []) (gW : mg "_law_weight" = some (.ref fW)) (FO : Fun K "_law_ones" "_law_ones" sOnes fO dO) (bO : Binds K dO ["_law_number"] []) (gO : mg "_law_ones" = some (.ref fO))
    (N : PCl K mg C fI fE) (B : Bl mg) : FnOk P w K mg base CX0 3 f fd ["_law_pauli", "_law_string", "_law_phase", "_law_size"] (spTold C) := by
  have GL : FnOk P w K mg base CX0 2 fL dL ["_law_string", "_law_size"] spLett := ok_lett FL B
  have GW : FnOk P w K mg base CX0 2 fW dW ["_law_string"] spWt := ok_wt FW FO bO gO B
  refine F.ok scTold (fun vs H Q E h => ?_) (fun cdv A outer s H vs Q E hr h => ?_)
  · obtain ⟨a, t, L, z, p, rfl, _⟩ := h
    rfl
  · obtain ⟨a, t, L, z, p, rfl, hP, et, hL, hl, q⟩ := h
    refine ⟨_, C8.pss_cut (ps_if (pw_or (pt_not (pt_val (pe_callB call_isi (by rfl) B.isi PyProof.Rows.boot_isinstance (pa_cons (pv 0) (pa_cons (pe_glob (v := .ref C) (by rfl) N.g rfl) pa_nil)))))
        (pw_or (pt_cmpR op_ne (pe_fld (pv 0) rfl) (pe_call GL hr (by rfl) gL FL.kp bL .nil pass0 (pa_cons (pv 1) (pa_cons (pv 3) pa_nil))) (nomark _)) (pw_or1 (pt_cmpR op_ne (pe_fld (pv 0) rfl) (pv 2) (nomark _))))).pt (pss_one (ps_ret pe_bl)) pss_nil)
      (pss_one (ps_ret (pe_and (pe_cmpR op_eq (pe_fld (pv 0) rfl) (pv 3) (nomark _)) (pe_and (pe_cmpR op_eq (pe_fld (pv 0) rfl) (pe_call GW hr (by rfl) gW FW.kp bW .nil pass0 (pa_cons (pv 1) pa_nil)) (nomark _))
        (pe_one (pe_not (pe_callB call_isi (by rfl) B.isi PyProof.Rows.boot_isinstance (pa_cons (pe_fld (pv 0) rfl) (pa_cons (pe_bltn (v := .ty "bool") (by rfl) B.bool bootB rfl) pa_nil))))))))), ?_⟩
    have ty := hP.ty N
    obtain ⟨dx, fs, e, l1, l2, l3, l4⟩ := hP
    refine ⟨fun σ' H' => σ' = [some (.ref a), some (.ref t), some (.int (p : Int)), some (.int (L.length : Int))] ∧ H' = H, ?_, ?_⟩
    · refine ⟨_, rfl, _, _, _, _, true, rfl, .own C, ty, N.kC, _, rfl, iteF ?_⟩
      refine ⟨_, rfl, a, C, dx, fs, _, rfl, e, N.cl, N.nL, l1, _, rfl, _, rfl, t, L, z, rfl, et, hL, hl, rfl, _, rfl, ?_⟩
      rw [decide_eq_true rfl]
      refine iteF ⟨_, rfl, a, C, dx, fs, _, rfl, e, N.cl, N.nP, l2, _, rfl, rfl, _, rfl, ?_⟩
      rw [decide_eq_true rfl]
      exact iteF ⟨rfl, rfl⟩
    rintro _ H1 ⟨rfl, rfl⟩
    refine ⟨_, rfl, a, C, dx, fs, _, rfl, e, N.cl, N.nS, l3, _, rfl, rfl, _, rfl, ?_⟩
    rw [decide_eq_true rfl]
    refine iteT ⟨_, rfl, a, C, dx, fs, _, rfl, e, N.cl, N.nW, l4, _, rfl, t, L, z, rfl, et, hL, hl, rfl, _, rfl, ?_⟩
    have ew : ((L.length : Int) - (L.count 73 : Int)) = ((wt L : Nat) : Int) := by
      have := List.count_le_length (a := 73) (l := L)
      unfold wt
      omega
    rw [ew, decide_eq_true rfl]
    exact iteT ⟨_, rfl, a, C, dx, fs, _, rfl, e, N.cl, N.nP, l2, _, _, _, _, false, rfl, .ty "bool", .base (.int _), kit_ty (by decide +kernel), _, rfl, q⟩
end
end KQ

namespace KQ
open PySem PySem.Spec PyProof.Rows L2
/-! ### placed, word_of -/
abbrev sIsI : Stmt := topS 9
abbrev sInitB : Stmt := inClass (topS 4) 0
theorem scInitB : FnScope ["self", "what", "number"] ["self", "what", "number"] (defScope sInitB) := ⟨rfl, rfl, rfl, by decide +kernel, rfl, by decide +kernel, by decide +kernel⟩
theorem scIsI : FnScope ["value"] ["value"] (defScope sIsI) := ⟨rfl, rfl, rfl, by decide +kernel, rfl, by decide +kernel, by decide +kernel⟩
theorem scPlaced : FnScope ["size", "word", "head", "told", "letters", "letter", "place"] ["size", "word"] (defScope sPlaced) := ⟨rfl, rfl, rfl, by decide +kernel, rfl, by decide +kernel, by decide +kernel⟩
def xdB (w v : V) : List (Str × V) := [("number", v), ("what", w)]
/-- BadNumber(w, v) leaves the call -/
def RzN (C : Addr) (w v : V) (H : Hp) (E : XK) : Prop := ∀ d H', Same H H' → H' d = some (.xd (xdB w v)) → E (.ref C) (some d) H'
def spInitN (C : Addr) : Sp := fun vs H Q _ => ∃ (a : Addr) (y0 y1 : V), vs = [.ref a, y0, y1] ∧ H a = some (exo a C none) ∧
  ∀ H' d, H d = none → d ≠ a → H' a = some (exo a C (some d)) → H' d = some (exd d (xdB y0 y1)) → (∀ b o, H b = some o → b ≠ a → H' b = some o) → Q .non H'
structure BN (K : PySem.W.Frag) (mg : Str → Option Value) (C fB : Addr) (dB : FuncData) : Prop where
  ox : OexC K C
  ic : PySem.W.findIn K (.ref C) "__init__" = some (some (.ref fB))
  ti : PySem.W.typeIn K (.ref fB) = some (.type "function")
  n0 : PySem.W.findIn K (.ref C) "what" = some none
  n1 : PySem.W.findIn K (.ref C) "number" = some none
  g : mg "BadNumber" = some (.ref C)
  F : Fun K "__init__" "BadNumber.__init__" sInitB fB dB
  b : Binds K dB ["self", "what", "number"] []
theorem raise_rdN {C : Addr} {y0 y1 : V} {H : Hp} {W : XK} (h : RzN C y0 y1 H W) : ∀ a, H a = none → spInitN C (.ref a :: ([y0, y1] ++ [])) (upd H a (exo a C none))
    (fun v H2 => v = .non ∧ ∃ (d : Addr) (fs : List (Str × V)), H2 a = some (exo a C (some d)) ∧ H2 d = some (exd d fs) ∧ H d = none ∧ W (.ref C) (some d) (upd (del H2 a) d (.xd fs))) (fun _ _ _ => False) := by
  intro a na
  refine ⟨a, y0, y1, rfl, upd_same, fun H' d nd dne e1 e2 kp => ⟨rfl, d, _, e1, e2, ?_, ?_⟩⟩
  · rw [upd_ne dne] at nd
    exact nd
  · have nd' : H d = none := by
      rw [upd_ne dne] at nd
      exact nd
    refine h d _ (fun b o e => ?_) upd_same
    have hba : b ≠ a := ne_of_none e na
    rw [upd_ne (ne_of_none e nd'), del_ne hba]
    exact kp b o (by rw [upd_ne hba]; exact e) hba
/-- values that are told apart -/
def Kd (H : Hp) (v : V) : Prop := (∃ i, v = .int i) ∨ v = .non ∨ (∃ b, v = .bl b) ∨ (∃ x, v = .str x) ∨ ∃ p xs, v = .ref p ∧ H p = some (.lst xs)
def isI : V → Bool
  | .int _ => true
  | _ => false
def spIsI : Sp := fun vs H Q _ => ∃ v, vs = [v] ∧ Kd H v ∧ Q (.bl (isI v)) H
theorem Kd.ty {H : Hp} {v : V} (h : Kd H v) : ∃ n : String, (∀ K, TyX K H v (.type n)) ∧ ((kitB n "int" = some true ∧ kitB n "bool" = some false ∧ isI v = true) ∨ (kitB n "int" = some false ∧ isI v = false) ∨ (kitB n "int" = some true ∧ kitB n "bool" = some true ∧ isI v = false)) := by
  rcases h with ⟨i, rfl⟩ | rfl | ⟨b, rfl⟩ | ⟨x, rfl⟩ | ⟨p, xs, rfl, e⟩
  · exact ⟨_, fun K => .base (.int i), .inl ⟨by decide +kernel, by decide +kernel, rfl⟩⟩
  · exact ⟨_, fun K => .base .non, .inr (.inl ⟨by decide +kernel, rfl⟩)⟩
  · exact ⟨_, fun K => .base (.bl b), .inr (.inr ⟨by decide +kernel, by decide +kernel, rfl⟩)⟩
  · exact ⟨_, fun K => .base (.str x), .inr (.inl ⟨by decide +kernel, rfl⟩)⟩
  · exact ⟨_, fun K => .base (.lst e), .inr (.inl ⟨by decide +kernel, rfl⟩)⟩
/-- a size that is none -/
def OddS (H : Hp) (v : V) : Prop := Kd H v ∧ ∀ i, v = .int i → i < 1
theorem isI_of {v : V} (h : isI v = true) : ∃ i, v = .int i := by
  cases v <;> first | exact ⟨_, rfl⟩ | cases h
def LetsOf (n : Nat) (ps : List (Nat × Nat)) : List Nat := fill (List.replicate n 73) ps
theorem lets_of {n : Nat} {ps : List (Nat × Nat)} (h : ∀ x ∈ ps, isXYZ x.1 ∧ x.2 < n) : Lets (LetsOf n ps) ∧ (LetsOf n ps).length = n := by
  refine ⟨fun c hc => ?_, ?_⟩
  · refine fill_all (p := fun c => isL c = true) ps _ (fun c hc => ?_) (fun x hx => ?_) c hc
    · rw [List.eq_of_mem_replicate hc]
      exact isL_iff.mpr (.inl rfl)
    · exact isL_iff.mpr (.inr (h x hx).1)
  · unfold LetsOf
    rw [fill_len, List.length_replicate]
theorem told_ok (n : Nat) (B : List Nat) : ∀ x ∈ (colW n B).2, isXYZ x.1 ∧ x.2 < n := by
  unfold colW
  split
  · split
    · exact fun x hx => by cases hx
    · exact fun x hx => by cases hx
  · exact rd_told _ _ _ _
def spPlaced (C CT CN : Addr) : Sp := fun vs H Q E => ∃ sv wv, vs = [sv, wv] ∧ ((OddS H sv ∧ RzN CN (.str "size") sv H E) ∨
  ∃ n : Nat, sv = .int (n : Nat) ∧ 1 ≤ n ∧ n ≤ 24 ∧ ((Odd H wv ∧ Rz CT (.int 0) (.int 0) H E) ∨ ∃ B : List Nat, wv = .str (mS B) ∧ B.length ≤ 900 ∧ ((colW n B).1 ≠ 0 → Rz CT (.int 1) (.int ((colW n B).1 : Nat)) H E) ∧
    ((colW n B).1 = 0 → ∀ H' a, Same H H' → PauliAt C H' a (LetsOf n (colW n B).2) (2 * hd1 B) → Q (.ref a) H')))
theorem read_own {L : List Nat} (hL : Lets L) (h0 : L ≠ []) {q : Nat} (hq : q < 4) : rest (headL q ++ L) = L ∧ ph (headL q ++ L) = q ∧ fine (headL q ++ L) := by
  match q, hq with
  | 0, _ => exact read_head hL h0 0 _ _ rfl
  | 1, _ => exact read_head hL h0 3 _ _ rfl
  | 2, _ => exact read_head hL h0 2 _ _ rfl
  | 3, _ => exact read_head hL h0 5 _ _ rfl
theorem headL_len {q : Nat} (hq : q < 4) : (headL q).length ≤ 2 := by
  match q, hq with
  | 0, _ => decide
  | 1, _ => decide
  | 2, _ => decide
  | 3, _ => decide
theorem make_same {H H' : Hp} {x dx C : Addr} (nx : H x = none) (nd : H dx = none) (k : ∀ b o, b ≠ x → (upd (upd H dx (.own x)) x (.ins C dx [])) b = some o → H' b = some o) : Same H H' := by
  intro b o e
  have h1 : b ≠ x := ne_of_none e nx
  have h2 : b ≠ dx := ne_of_none e nd
  exact k b o h1 (by rw [upd_ne h1, upd_ne h2]; exact e)
theorem hd1_le (B : List Nat) : hd1 B ≤ 1 := by
  unfold hd1
  split <;> omega
theorem headL_two (B : List Nat) : headL (2 * hd1 B) = if B.head? = some 45 then [45] else [] := by
  unfold hd1
  split <;> rfl
/-- values of letters -/
def lV (L : List Nat) : List V := L.map fun c => .str ⟨#[c]⟩
theorem rep_I : ∀ n : Nat, (List.replicate n [V.str ⟨#[73]⟩]).flatten = lV (List.replicate n 73)
  | 0 => rfl
  | n + 1 => by
    rw [List.replicate_succ, List.replicate_succ, List.flatten_cons, rep_I n]
    rfl
theorem lV_signs (L : List Nat) : lV L = (signs1 L).map V.str := by
  unfold lV signs1
  rw [List.map_map]
  rfl
section
variable {P : Program} {w : World} {K : PySem.W.Frag} {mg : Str → Option Value} {base : Heap}
theorem ok_initB {f C : Addr} {fd : FuncData} {k : Nat} (F : Fun K "__init__" "BadNumber.__init__" sInitB f fd) (T : OexC K C) (n0 : PySem.W.findIn K (.ref C) "what" = some none) (n1 : PySem.W.findIn K (.ref C) "number" = some none) :
    FnOk P w K mg base CX0 (k + 1) f fd ["self", "what", "number"] (spInitN C) := by
  refine F.ok scInitB (fun vs H Q E h => ?_) (fun cdv A outer s H vs Q E hr h => ?_)
  · obtain ⟨a, y0, y1, rfl, _⟩ := h
    rfl
  · obtain ⟨a, y0, y1, rfl, ha, q⟩ := h
    refine ⟨_, pss_cons (ps_ost (pv 0) (pv 1) rfl) (pss_one (ps_ost (pv 0) (pv 2) rfl)), ?_⟩
    refine ⟨_, rfl, _, rfl, a, C, rfl, T, n0, .inl ⟨ha, fun dx nx dne => ?_⟩⟩
    refine ⟨_, rfl, _, rfl, a, C, rfl, T, n1, .inr ⟨dx, _, upd_same, by rw [upd_ne dne]; exact upd_same, by show _ ≤ 900; exact Nat.le_of_ble_eq_true rfl, ?_⟩⟩
    exact q _ dx nx dne (by rw [upd_ne dne.symm]; exact upd_same) upd_same (fun b o e hb => by rw [upd_ne (ne_of_none e nx), upd_ne hb, upd_ne (ne_of_none e nx)]; exact e)
theorem ok_isI {f : Addr} {fd : FuncData} {k : Nat} (F : Fun K "is_integer" "is_integer" sIsI f fd) (B : Bl mg) : FnOk P w K mg base CX0 (k + 1) f fd ["value"] spIsI := by
  refine F.ok scIsI (fun vs H Q E h => ?_) (fun cdv A outer s H vs Q E hr h => ?_)
  · obtain ⟨v, rfl, _⟩ := h
    rfl
  · obtain ⟨v, rfl, hk, q⟩ := h
    refine ⟨_, pss_one (ps_ret (pe_and (pe_callB call_isi (by rfl) B.isi PyProof.Rows.boot_isinstance (pa_cons (pv 0) (pa_cons (pe_bltn (v := .ty "int") (by rfl) B.int bootI rfl) pa_nil)))
      (pe_one (pe_not (pe_callB call_isi (by rfl) B.isi PyProof.Rows.boot_isinstance (pa_cons (pv 0) (pa_cons (pe_bltn (v := .ty "bool") (by rfl) B.bool bootB rfl) pa_nil))))))), ?_⟩
    obtain ⟨n, ty, h⟩ := hk.ty
    rcases h with ⟨h1, h2, h3⟩ | ⟨h1, h3⟩ | ⟨h1, h2, h3⟩ <;> rw [h3] at q
    · refine ⟨_, rfl, v, _, _, _, true, rfl, .ty "int", ty K, kit_ty h1, _, rfl, ?_⟩
      exact ⟨_, rfl, v, _, _, _, false, rfl, .ty "bool", ty K, kit_ty h2, _, rfl, q⟩
    · exact ⟨_, rfl, v, _, _, _, false, rfl, .ty "int", ty K, kit_ty h1, _, rfl, q⟩
    · refine ⟨_, rfl, v, _, _, _, true, rfl, .ty "int", ty K, kit_ty h1, _, rfl, ?_⟩
      exact ⟨_, rfl, v, _, _, _, true, rfl, .ty "bool", ty K, kit_ty h2, _, rfl, q⟩
theorem ok_placed {f fI fE fC fR fD fM fG C CT CN fB fN hA : Addr} {fd dI dC dR dD dM dG dB dN : FuncData} (F : Fun K "placed" "placed" sPlaced f fd) (FI : Fun K "__init__" "Pauli.__init__" sInit fI dI) (bI : Binds K dI ["self", "text"] []) (N : PCl K mg C fI fE)
    (FC : Fun K "_cut_text" "_cut_text" sCut fC dC) (bC : Binds K dC ["text"] []) (gC : mg "_cut_text" = some (.ref fC)) (hd : Hd4 K mg hA)
    (FR : Fun K "_read_word" "_read_word" sRdW fR dR) (bR : Binds K dR ["size", "word", "start"] []) (gR : mg "_read_word" = some (.ref fR)) (FD : Fun K "_end_of_place" "_end_of_place" sEnd fD dD) (bD : Binds K dD ["size", "word", "start", "least"] []) (gD : mg "_end_of_place" = some (.ref fD))
    (FM : Fun K "_may_begin" "_may_begin" sMay fM dM) (bM : Binds K dM ["size", "text", "least"] []) (gM : mg "_may_begin" = some (.ref fM)) (FG : Fun K "is_integer" "is_integer" sIsI fG dG) (bG : Binds K dG ["value"] []) (gG : mg "is_integer" = some (.ref fG))
    (T : BT K mg CT fB dB) (TN : BN K mg CN fN dN) (B : Bl mg) : FnOk P w K mg base (L2.CX P w) 6 f fd ["size", "word"] (spPlaced C CT CN) := by
  have GI : FnOk P w K mg base (L2.CX P w) 4 fI dI ["self", "text"] (spInit C CT) := ok_init FI N FC bC gC T hd B
  have GR : FnOk P w K mg base (L2.CX P w) 4 fR dR ["size", "word", "start"] (spRdW CT) := ok_read FR FD bD gD FM bM gM T B
  have GG : FnOk P w K mg base CX0 2 fG dG ["value"] spIsI := ok_isI FG B
  have GB : FnOk P w K mg base CX0 1 fB dB ["self", "line", "column"] (spInitT CT) := ok_initT T.F T.ox T.n0 T.n1
  have GN : FnOk P w K mg base CX0 1 fN dN ["self", "what", "number"] (spInitN CN) := ok_initB TN.F TN.ox TN.n0 TN.n1
  refine F.okX scPlaced (fun vs H Q E h => ?_) (fun cdv A outer s H vs Q E hr h => ?_)
  · obtain ⟨sv, wv, rfl, _⟩ := h
    rfl
  · obtain ⟨sv, wv, rfl, h⟩ := h
    have r2 : Room 2 _ := hr.mono (by decide)
    have r4 : Room 4 _ := hr.mono (by decide)
    refine ⟨_, C8.pss_cut (ps_if (PW.pt (pw_or (pt_not (pt_val (pe_call GG r2 (by rfl) gG FG.kp bG .nil pass0 (pa_cons (pv 0) pa_nil)))) (pw_or1 (pt_cmpR op_lt (pv 0) pe_int (nomark _)))))
        (pss_one (ps_raise rfl (takes_of rfl rfl rfl rfl) (pmk_oex TN.ox TN.ic TN.ti GN r2 TN.b .nil pass0 (by rfl) TN.g (pa_cons pe_str (pa_cons (pv 0) pa_nil))))) pss_nil)
      (C8.pss_cut (ps_if (pt_not (pt_val (pe_callB call_isi (by rfl) B.isi PyProof.Rows.boot_isinstance (pa_cons (pv 1) (pa_cons (pe_bltn (v := .ty "str") (by rfl) B.str bootS rfl) pa_nil)))))
        (pss_one (ps_raise rfl (takes_of rfl rfl rfl rfl) (pmk_oex T.ox T.ic T.ti GB r2 T.b .nil pass0 (by rfl) T.g (pa_cons pe_int (pa_cons pe_int pa_nil))))) pss_nil)
      (C8.pss_cut (ps_set (i := 2) scPlaced.nd rfl (.inl rfl) (pe_ifExp (pt_val (pe_bm PySem.F.plainAttrs_str PySem.F.slot_str_startswith PySem.F.type_str_startswith mt_startswith (pv 1) (pa_cons pe_str pa_nil))) pe_str pe_str))
      (C8.pss_cut (ps_set (i := 3) scPlaced.nd rfl (.inl rfl) (pe_call GR r4 (by rfl) gR FR.kp bR .nil (passes_call (takes_of rfl rfl rfl rfl) (fun _ _ _ _ h => h)) (pa_cons (pv 0) (pa_cons (pv 1) (pa_cons (pe_callB call_len_str (by rfl) B.len PySem.boot_len (pa_cons (pv 2) pa_nil)) pa_nil)))))
      (C8.pss_cut (ps_set (i := 4) scPlaced.nd rfl (.inl rfl) (pe_op op_rep (pe_lst (pa_cons pe_str pa_nil)) (pv 0)))
      (C8.pss_cut (ps_for (passes_of rfl) rfl (pi_list (pv 3)) (pg_tup rfl (pgs_cons (pg_name (i := 5) scPlaced.nd rfl (.inl rfl)) (pgs_cons (pg_name (i := 6) scPlaced.nd rfl (.inl rfl)) pgs_nil)))
        (pss_one (ps_asg (pv 5) (pg_sub (pv 4) (pv 6) set_list))))
      (pss_one (ps_ret (pe_make N.mkf GI hr (by rfl) N.g bI .nil (passes_call (takes_of rfl rfl rfl rfl) (fun _ _ _ _ h => h)) (pa_cons (pe_op op_add_str (pv 2) (pe_bm PySem.F.plainAttrs_str PySem.F.slot_str_join PySem.F.type_str_join mt_join pe_str (pa_cons (pv 4) pa_nil))) pa_nil))))))))), ?_⟩
    refine ⟨fun σ' H' => σ' = [some sv, some wv, none, none, none, none, none] ∧ H' = H ∧ ∃ n : Nat, sv = .int (n : Nat) ∧ 1 ≤ n ∧ n ≤ 24 ∧ ((Odd H wv ∧ Rz CT (.int 0) (.int 0) H E) ∨ ∃ B : List Nat, wv = .str (mS B) ∧ B.length ≤ 900 ∧ ((colW n B).1 ≠ 0 → Rz CT (.int 1) (.int ((colW n B).1 : Nat)) H E) ∧
    ((colW n B).1 = 0 → ∀ H' a, Same H H' → PauliAt C H' a (LetsOf n (colW n B).2) (2 * hd1 B) → Q (.ref a) H')), ?_, ?_⟩
    · rcases h with ⟨odd, rz⟩ | ⟨n, rfl, hn1, hn, h⟩
      · refine ⟨_, rfl, sv, rfl, odd.1, _, rfl, ?_⟩
        cases hi : isI sv with
        | false => exact ⟨_, rfl, by show 2 ≤ 1000; decide, raise_rdN rz⟩
        | true =>
          obtain ⟨i, rfl⟩ := isI_of hi
          refine ⟨_, rfl, _, _, rfl, rfl, _, rfl, ?_⟩
          rw [decide_eq_true (odd.2 i rfl)]
          exact ⟨_, rfl, by show 2 ≤ 1000; decide, raise_rdN rz⟩
      · refine ⟨_, rfl, _, rfl, .inl ⟨_, rfl⟩, _, rfl, ⟨_, rfl, _, _, rfl, rfl, _, rfl, ?_⟩⟩
        rw [decide_eq_false (by omega)]
        exact ⟨rfl, rfl, n, rfl, hn1, hn, h⟩
    rintro _ H1 ⟨rfl, eH, n, rfl, hn1, hn, h⟩
    subst eH
    refine ⟨fun σ' H' => σ' = [some (.int (n : Nat)), some wv, none, none, none, none, none] ∧ H' = H1 ∧ ∃ B : List Nat, wv = .str (mS B) ∧ B.length ≤ 900 ∧ ((colW n B).1 ≠ 0 → Rz CT (.int 1) (.int ((colW n B).1 : Nat)) H1 E) ∧
    ((colW n B).1 = 0 → ∀ H' a, Same H1 H' → PauliAt C H' a (LetsOf n (colW n B).2) (2 * hd1 B) → Q (.ref a) H'), ?_, ?_⟩
    · rcases h with ⟨ho, rz⟩ | ⟨W, rfl, hl, h⟩
      · obtain ⟨nm, ty, kt⟩ := ho.ty
        exact ⟨_, rfl, wv, _, _, _, false, rfl, .ty "str", ty K, kit_ty kt, _, rfl, iteT ⟨by show 2 ≤ 1000; decide, raise_rd rz⟩⟩
      · exact ⟨_, rfl, _, _, _, _, true, rfl, .ty "str", .base (.str _), kit_ty (by decide +kernel), _, rfl, iteF ⟨rfl, rfl, W, rfl, hl, h⟩⟩
    rintro _ H2 ⟨rfl, eH, W, rfl, hl, qb, qg⟩
    subst eH
    have hz : (mS W).length ≤ sizeLine := by rw [mS_len]; exact sizeBig (by omega)
    obtain ⟨hL, hb⟩ : ∃ hL, hL = headL (2 * hd1 W) := ⟨_, rfl⟩
    have h1 := hd1_le W
    have hLl : hL.length = hd1 W := by
      rw [hb, headL_two]
      unfold hd1
      split <;> rfl
    refine ⟨fun σ' H' => σ' = [some (.int (n : Nat)), some (.str (mS W)), some (.str (mS hL)), none, none, none, none] ∧ H' = H2, ?_, ?_⟩
    · have s1 := sw_one W 45
      rw [← e_minus] at s1
      refine ⟨_, rfl, rfl, _, _, rfl, rfl, _, rfl, ite2 (fun e => ?_) (fun e => ?_)⟩
      · have : W.head? = some 45 := of_decide_eq_true (s1.symm.trans e)
        rw [hb, headL_two, if_pos this]
        exact ⟨by rw [e_minus]; rfl, rfl⟩
      · have : ¬ W.head? = some 45 := fun z => e (s1.trans (decide_eq_true z))
        rw [hb, headL_two, if_neg this]
        exact ⟨by rw [e_no]; rfl, rfl⟩
    rintro _ H3 ⟨rfl, eH⟩
    subst eH
    have hzh : (mS hL).length ≤ sizeLine := by rw [mS_len]; exact sizeBig (by omega)
    refine ⟨fun σ' H' => ∃ fo fs, σ' = [some (.int (n : Nat)), some (.str (mS W)), some (.str (mS hL)), some (.ref fo), none, none, none] ∧ Same H3 H' ∧ H' fo = some (.lst (fpV fs)) ∧ FpAt H' fs ∧ fs.map (·.2) = (colW n W).2 ∧ (colW n W).1 = 0, ?_, ?_⟩
    · refine ⟨_, rfl, _, rfl, _, rfl, _, rfl, hzh, n, W, ?_, hn1, hn, by omega, qb, fun c0 H' fo fs s' e' fp m => ⟨fo, fs, rfl, s', e', fp, m, c0⟩⟩
      show [V.int (n : Nat), V.str (mS W), V.int ((mS hL).length : Nat)] = _
      rw [mS_len, hLl]
    rintro _ H4 ⟨fo, fs, rfl, s4, e4, fp, mfs, c0⟩
    have tk := told_ok n W
    obtain ⟨lts, ltl⟩ := lets_of tk
    refine ⟨fun σ' H' => ∃ ls, σ' = [some (.int (n : Nat)), some (.str (mS W)), some (.str (mS hL)), some (.ref fo), some (.ref ls), none, none] ∧ H4 ls = none ∧ Same H4 H' ∧ H' ls = some (.lst (lV (List.replicate n 73))), ?_, ?_⟩
    · refine ⟨by show 1 ≤ sizeLine; decide, fun l nl => ⟨_, rfl, l, _, _, rfl, rfl, upd_same, by omega, by omega, ?_, fun l2 nl2 => ⟨l2, rfl, ?_, (same_new nl).trans (same_new nl2), ?_⟩⟩⟩
      · show 1 * ((n : Nat) : Int).toNat ≤ sizeLine
        rw [Int.toNat_natCast]
        exact Nat.le_trans (by omega : 1 * n ≤ 24) (by decide)
      · exact (same_new nl).free nl2
      · rw [upd_same, Int.toNat_natCast]
        rw [e_I, rep_I]
    rintro _ H5 ⟨ls, rfl, nls, s5, e5⟩
    have fp5 := fp.same s5
    have e45 := s5 _ _ e4
    have nfl : fo ≠ ls := ne_of_none e4 nls
    refine ⟨fun σ' H' => ∃ v5 v6, σ' = [some (.int (n : Nat)), some (.str (mS W)), some (.str (mS hL)), some (.ref fo), some (.ref ls), v5, v6] ∧ Same H4 H' ∧ H' ls = some (.lst (lV (LetsOf n (colW n W).2))), ?_, ?_⟩
    · refine ⟨_, rfl, fo, rfl, ⟨_, SqL.of e45⟩, ?_⟩
      have lfs : (fpV fs).length = fs.length := by unfold fpV; rw [List.length_map]
      refine for_list (xs := fpV fs) (fun i σ' H' => ∃ v5 v6, σ' = [some (.int (n : Nat)), some (.str (mS W)), some (.str (mS hL)), some (.ref fo), some (.ref ls), v5, v6] ∧ Same H4 H' ∧ H' ls = some (.lst (lV (LetsOf n ((fs.map (·.2)).take i))))) ⟨none, none, rfl, s5, e5⟩ (fun i σ' H' _ h => by
        obtain ⟨_, _, _, s, _⟩ := h
        exact SqL.of (s _ _ e4)) ?_ ?_
      · rintro i x _ H6 hx ⟨v5, v6, rfl, s6, e6⟩
        obtain ⟨a, ha, rfl⟩ : ∃ a, fs[i]? = some a ∧ V.ref a.1 = x := by
          unfold fpV at hx
          simpa using hx
        obtain ⟨q1, c, pl⟩ := a
        have ea : H6 q1 = some (.tup [.str (mS [c]), .int (pl : Nat)]) := s6 _ _ (fp _ (List.mem_of_getElem? ha))
        have hm : (fs.map (·.2))[i]? = some (c, pl) := by rw [List.getElem?_map, ha]; rfl
        have hpl : pl < n := (tk (c, pl) (by rw [← mfs]; exact List.mem_of_getElem? hm)).2
        refine ⟨q1, _, rfl, .inl (.inl ea), rfl, _, _, rfl, _, _, rfl, rfl, _, rfl, _, rfl, _, rfl, ls, _, (pl : Int), pl, rfl, rfl, e6, ?_, _, _, rfl, ?_, ?_⟩
        · have : (lV (LetsOf n ((fs.map (·.2)).take i))).length = n := by
            unfold lV LetsOf
            rw [List.length_map, fill_len, List.length_replicate]
          rw [this]
          unfold ixN
          rw [if_pos (by omega), if_pos (by omega), Int.toNat_natCast]
        · intro b o e
          rw [upd_ne (ne_of_none e nls)]
          exact s6 _ _ e
        · have tt : (fs.map (·.2)).take (i + 1) = (fs.map (·.2)).take i ++ [(c, pl)] := by
            rw [List.take_succ, hm]
            rfl
          rw [upd_same, tt]
          congr 2
          unfold LetsOf fill lV
          rw [List.foldl_append, List.foldl_cons, List.foldl_nil, List.map_set]
      · rintro _ H6 ⟨v5, v6, rfl, s6, e6⟩
        rw [lfs, List.take_of_length_le (by rw [List.length_map]; exact Nat.le_refl _), mfs] at e6
        exact ⟨v5, v6, rfl, s6, e6⟩
    rintro _ H6 ⟨v5, v6, rfl, s6, e6⟩
    obtain ⟨L, eL⟩ : ∃ L, L = LetsOf n (colW n W).2 := ⟨_, rfl⟩
    rw [← eL] at e6 lts ltl qg
    have L0 : L ≠ [] := fun z => by rw [z] at ltl; simp at ltl; omega
    refine ⟨_, rfl, rfl, _, rfl, _, ls, signs1 L, rfl, rfl, .inl (SqL.of (by rw [← lV_signs]; exact e6)), ?_, _, _, rfl, rfl, ?_, ?_⟩
    · rw [signs_len, show ("" : Str).length = 0 from by decide +kernel]
      omega
    · rw [join_signs, mS_len, mS_len, hLl, ltl]
      exact sizeBig (by omega)
    rw [join_signs, mS_app, hb]
    obtain ⟨u1, u2, u3⟩ := read_own lts L0 (q := 2 * hd1 W) (by omega)
    refine fun x dx nx nd ne => ⟨x, dx, _, rfl, upd_same, .inl ⟨headL (2 * hd1 W) ++ L, rfl, ?_, .inl ⟨u3, fun H' PB k => ⟨rfl, ?_⟩⟩⟩⟩
    · rw [List.length_append, ← hb, hLl, ltl]
      omega
    · rw [u1, u2] at PB
      exact qg c0 H' x ((s4.trans s6).trans (make_same nx nd k)) PB
end
end KQ

namespace KQ
open PySem PySem.Spec PyProof.Rows L2
theorem scWof : FnScope ["p", "parts", "place", "letter"] ["p"] (defScope sWof) := ⟨rfl, rfl, rfl, by decide +kernel, rfl, by decide +kernel, by decide +kernel⟩
theorem e_star : ("*" : Str) = mS [42] := by decide +kernel
def ptxt (x : Nat × Nat) : Str := mS (x.1 :: dec x.2)
theorem join_star : ∀ ps : List (Nat × Nat), Txt.join ("*" : Str) (ps.map ptxt) = mS (enc ps) := by
  intro ps
  rw [TL.join_eq, e_star]
  induction ps with
  | nil => rfl
  | cons x t ih =>
    cases t with
    | nil => rfl
    | cons y t =>
      show ptxt x ++ mS [42] ++ Str.join (mS [42]) ((y :: t).map ptxt) = mS (x.1 :: (dec x.2 ++ 42 :: enc (y :: t)))
      rw [ih]
      unfold ptxt
      rw [mS_app, mS_app]
      simp
theorem pairs_snoc : ∀ (L : List Nat) (k c : Nat), pairs k (L ++ [c]) = pairs k L ++ (if c = 73 then [] else [(c, k + L.length)])
  | [], k, c => by
    show (if c = 73 then [] else [(c, k)]) = _
    rfl
  | b :: L, k, c => by
    show (if b = 73 then pairs (k + 1) (L ++ [c]) else (b, k) :: pairs (k + 1) (L ++ [c])) = (if b = 73 then pairs (k + 1) L else (b, k) :: pairs (k + 1) L) ++ _
    rw [pairs_snoc L (k + 1) c, List.length_cons, show k + 1 + L.length = k + (L.length + 1) by omega]
    split <;> rfl
theorem pairs_len : ∀ (L : List Nat) (k : Nat), (pairs k L).length ≤ L.length
  | [], _ => Nat.le_refl _
  | c :: L, k => by
    have := pairs_len L (k + 1)
    unfold pairs
    split
    · rw [List.length_cons]; omega
    · rw [List.length_cons, List.length_cons]; omega
theorem ptxt_len (x : Nat × Nat) : (ptxt x).length ≤ 3 := by
  unfold ptxt
  rw [mS_len, List.length_cons]
  have := dec_len (p := x.2)
  omega
theorem ptxts_len : ∀ ps : List (Nat × Nat), ((ps.map ptxt).map (·.length)).sum ≤ 3 * ps.length
  | [] => Nat.zero_le _
  | x :: ps => by
    have := ptxts_len ps
    have := ptxt_len x
    show (ptxt x).length + ((ps.map ptxt).map (·.length)).sum ≤ 3 * (ps.length + 1)
    omega
def spWof (C CN : Addr) : Sp := fun vs H Q E => ∃ (a : Addr) (L : List Nat) (q : Nat), vs = [.ref a] ∧ PauliAt C H a L q ∧ q < 4 ∧ L.length ≤ 24 ∧ ((q % 2 = 1 ∧ RzN CN (.str "sign") (.ref a) H E) ∨ (q % 2 = 0 ∧ ∀ H', Same H H' → Q (.str (mS (headL q ++ wordOf L))) H'))
theorem walk_enumTxt (L : List Nat) : Walk (ItEx (mS L)) L.length (fun _ => True) (YPair (fun i => some (.int (i : Nat))) (fun i => (L[i]?).map fun c => .str ⟨#[c]⟩)) := by
  have z1 : (mS L).cps.size = L.length := by simp
  refine ⟨fun i _ hi _ => by show i < (mS L).cps.size; rw [z1]; exact hi, fun _ _ => z1.symm, fun i H v H' hi _ y => ?_⟩
  obtain ⟨T, c, h1, h2, h3, h4⟩ := y
  have h3' : L[i]? = some c := by simpa using h3
  exact ⟨T, _, _, h1, h2, h4, rfl, by show (L[i]?).map _ = _; rw [h3']; rfl⟩
section
variable {P : Program} {w : World} {K : PySem.W.Frag} {mg : Str → Option Value} {base : Heap}
theorem ok_wof {f fI fE C CN fN hA : Addr} {fd dN : FuncData} (F : Fun K "word_of" "word_of" sWof f fd) (N : PCl K mg C fI fE) (hd : Hd4 K mg hA) (TN : BN K mg CN fN dN) (B : Bl mg) : FnOk P w K mg base (L2.CX P w) 3 f fd ["p"] (spWof C CN) := by
  have GN : FnOk P w K mg base CX0 1 fN dN ["self", "what", "number"] (spInitN CN) := ok_initB TN.F TN.ox TN.n0 TN.n1
  refine F.okX scWof (fun vs H Q E h => ?_) (fun cdv A outer s H vs Q E hr h => ?_)
  · obtain ⟨a, L, q, rfl, _⟩ := h
    rfl
  · obtain ⟨a, L, q, rfl, hP, hq, hl, h⟩ := h
    refine ⟨_, C8.pss_cut (ps_if (pt_cmpR op_eq (pe_op op_mod (pe_fld (pv 0) rfl) pe_int) pe_int (nomark _))
        (pss_one (ps_raise rfl (takes_of rfl rfl rfl rfl) (pmk_oex TN.ox TN.ic TN.ti GN hr TN.b .nil pass0 (by rfl) TN.g (pa_cons pe_str (pa_cons (pv 0) pa_nil))))) pss_nil)
      (C8.pss_cut (ps_setLc (i := 1) (own := [("place", 2), ("letter", 3)]) (g := gTup K 2 (gCons (gName 2) (gCons (gName 3) gNil))) (by rfl) scWof.nd rfl rfl (sw_true rfl rfl rfl (by decide +kernel)) (pi_enumTxt (by rfl) B.enum (pa_cons (pe_fld (pv 0) rfl) pa_nil)) (blkOk_by (own := [("place", 2), ("letter", 3)]) (N := ["p", "parts", "place", "letter"]) (sc := defScope sWof) (by decide +kernel))
          (fun _ _ _ _ _ => pg_tup rfl (pgs_cons (pg_name (i := 2) scWof.nd rfl (Or.inl rfl)) (pgs_cons (pg_name (i := 3) scWof.nd rfl (Or.inl rfl)) pgs_nil))) (fun _ _ _ _ _ => pts_one (pt_cmpR op_ne (pv 3) pe_str (nomark _))) (fun _ _ _ _ _ => pe_joined (.cons (pe_fmt (pv 3)) (.cons (pe_fmt (pv 2)) .nil))))
      (C8.pss_cut (ps_if (pt_not (pt_truth (pv 1) (by intro _; rfl))) (pss_one (ps_set (i := 1) scWof.nd rfl (.inl rfl) (pe_lst (pa_cons pe_str pa_nil)))) pss_nil)
      (pss_one (ps_ret (pe_op op_add_str (pe_ix ix_tup (pe_glob (v := .ref hA) (by rfl) hd.g rfl) (pe_fld (pv 0) rfl) (fun _ _ => rfl)) (pe_bm PySem.F.plainAttrs_str PySem.F.slot_str_join PySem.F.type_str_join mt_join pe_str (pa_cons (pv 1) pa_nil))))))), ?_⟩
    obtain ⟨dx, fs, ea, l1, l2, _⟩ := hP
    refine ⟨fun σ' H' => σ' = [some (.ref a), none, none, none] ∧ H' = H ∧ q % 2 = 0 ∧ ∀ H', Same H H' → Q (.str (mS (headL q ++ wordOf L))) H', ?_, ?_⟩
    · refine ⟨_, rfl, a, C, dx, fs, _, rfl, ea, N.cl, N.nP, l2, _, _, rfl, rfl, by show (0 : Int) < 2; decide, rfl, _, rfl, ?_⟩
      show if decide (V.int (((q : Nat) : Int) % 2) = V.int 1) = true then _ else _
      rcases h with ⟨z, rz⟩ | ⟨z, qq⟩
      · refine ite2 (fun _ => ⟨_, rfl, by show 2 ≤ 1000; decide, raise_rdN rz⟩) (fun y => absurd (decide_eq_true ?_) y)
        rw [show ((q : Nat) : Int) % 2 = 1 by omega]
      · exact ite2 (fun y => absurd (V.int.inj (of_decide_eq_true y)) (by omega)) (fun _ => ⟨rfl, rfl, z, qq⟩)
    rintro _ H1 ⟨rfl, eH, q2, qq⟩
    subst eH
    refine ⟨fun σ' H' => ∃ r, σ' = [some (.ref a), some (.ref r), none, none] ∧ Same H1 H' ∧ H' r = some (.lst (((pairs 0 L).map ptxt).map V.str)), ?_, ?_⟩
    · refine ⟨_, rfl, a, C, dx, fs, _, rfl, ea, N.cl, N.nL, l1, _, rfl, fun D nD => ?_⟩
      refine lc_it (walk_enumTxt L) (te := fun σ H Q => tJs [tFmt (tVar 3), tFmt (tVar 2)] Str.empty σ H fun out H1 => Q (.str out) H1) (Pv := fun i Hc => Hc D = some (.lst (((pairs 0 (L.take i)).map ptxt).map V.str)) ∧ Same H1 Hc) ⟨upd_same, same_new nD⟩ (fun _ _ _ _ => trivial) ?_ ?_
      · rintro i x H3 H4 hi ⟨eD, sm⟩ ⟨T, y1, y2, rfl, nT, rfl, e1, e2⟩
        have hx : L[i]? = some L[i] := List.getElem?_eq_getElem hi
        cases e1
        have e2' : (L[i]?).map (fun c => V.str ⟨#[c]⟩) = some y2 := e2
        rw [hx] at e2'
        cases e2'
        have sT : Same H3 (upd H3 T (.tup [.int (i : Nat), .str ⟨#[L[i]]⟩])) := same_new nT
        have tt : L.take (i + 1) = L.take i ++ [L[i]] := by
          rw [List.take_succ, hx]
          rfl
        have lt : (L.take i).length = i := by rw [List.length_take]; omega
        refine ⟨T, _, rfl, .inl (.inl upd_same), rfl, _, _, rfl, _, _, rfl, rfl, rfl, _, rfl, rfl, _, rfl, ?_⟩
        rw [tt, pairs_snoc, lt, Nat.zero_add, e_I]
        by_cases c73 : L[i] = 73
        · rw [decide_eq_true (by rw [c73]), if_pos c73, List.append_nil]
          exact iteF ⟨sT _ _ eD, sm.trans sT⟩
        · rw [decide_eq_false (fun z => c73 (by have := mS_inj (V.str.inj z : mS [L[i]] = mS [73]); simpa using this)), if_neg c73]
          refine iteT ⟨_, rfl, .inl ⟨_, rfl, by show 1 ≤ sizeLine; decide, _, rfl, by show 1 ≤ sizeLine; decide, _, rfl, .inr ⟨_, rfl, ?_, _, rfl, ?_, _, sT _ _ eD, ?_, ?_, ?_⟩⟩⟩
          · rw [Int.natAbs_natCast]
            have : i.log2 ≤ i := Nat.log2_le_self i
            omega
          · rw [str_dec (by omega)]
            show (mS [] ++ mS [L[i]] ++ mS (dec i)).length ≤ sizeLine
            rw [mS_app, mS_app, mS_len]
            have := dec_len (p := i)
            rw [List.length_append]
            exact sizeBig (by simp; omega)
          · rw [List.length_map, List.length_map]
            have := pairs_len (L.take i) 0
            exact Nat.lt_of_le_of_lt (by omega : _ ≤ 24) (by decide)
          · rw [upd_same, List.map_append, List.map_append, str_dec (by omega)]
            show _ = some (HO.lst (_ ++ [V.str (ptxt (L[i], i))]))
            have : (Str.empty ++ (⟨#[L[i]]⟩ : Str) ++ mS (dec i)) = ptxt (L[i], i) := by
              show mS [] ++ mS [L[i]] ++ mS (dec i) = _
              rw [mS_app, mS_app]
              rfl
            rw [this]
          · intro b o e
            have e' := sT _ _ (sm _ _ e)
            rw [upd_ne (ne_of_none e nD)]
            exact e'
      · rintro Hc ⟨eD, sm⟩
        rw [List.take_of_length_le (Nat.le_refl _)] at eD
        exact ⟨D, rfl, sm, eD⟩
    rintro _ H2 ⟨r, rfl, s2, e2⟩
    obtain ⟨W, eW⟩ : ∃ W, W = wordOf L := ⟨_, rfl⟩
    refine ⟨fun σ' H' => ∃ (r : Addr) (ys : List Str), σ' = [some (.ref a), some (.ref r), none, none] ∧ Same H1 H' ∧ H' r = some (.lst (ys.map V.str)) ∧ Txt.join ("*" : Str) ys = mS W ∧ (ys.map (·.length)).sum ≤ 72 ∧ ys.length ≤ 24, ?_, ?_⟩
    · refine ⟨_, rfl, _, .inl ⟨_, SqL.of e2, rfl⟩, ?_⟩
      by_cases z : pairs 0 L = []
      · rw [z]
        refine iteT ⟨by show 1 ≤ sizeLine; decide, fun l nl => ⟨l, [mS [73]], rfl, s2.trans (same_new nl), by rw [upd_same, e_I]; rfl, ?_, by show 1 + 0 ≤ 72; decide, by show 1 ≤ 24; decide⟩⟩
        rw [eW]
        unfold wordOf
        rw [if_pos z, TL.join_eq]
        rfl
      · have : ((List.map V.str (List.map ptxt (pairs 0 L))).isEmpty) = false := by
          cases h : pairs 0 L with
          | nil => exact absurd h z
          | cons x t => rfl
        rw [this]
        have pl := pairs_len L 0
        have ps := ptxts_len (pairs 0 L)
        refine iteF ⟨r, (pairs 0 L).map ptxt, rfl, s2, e2, ?_, by omega, by rw [List.length_map]; omega⟩
        rw [eW]
        unfold wordOf
        rw [if_neg z, join_star]
    rintro _ H3 ⟨r, ys, rfl, s3, e3, ej, y1, y2⟩
    have ea3 := s3 _ _ ea
    have hh := head_at hq
    have lj : (Txt.join ("*" : Str) ys).length ≤ 96 := by
      have : ∀ zs : List Str, (Str.join (mS [42]) zs).length ≤ (zs.map (·.length)).sum + zs.length := by
        intro zs
        induction zs with
        | nil => exact Nat.zero_le _
        | cons x t ih =>
          cases t with
          | nil =>
            show x.length ≤ x.length + 0 + 1
            omega
          | cons y t =>
            show (x ++ mS [42] ++ Str.join (mS [42]) (y :: t)).length ≤ x.length + ((y :: t).map (·.length)).sum + ((y :: t).length + 1)
            have e1 : ∀ a b : Str, (a ++ b).length = a.length + b.length := fun a b => by
              show (a.cps ++ b.cps).size = _
              rw [Array.size_append]
              rfl
            rw [e1, e1, show (mS [42]).length = 1 from rfl]
            show x.length + 1 + _ ≤ _
            omega
      have := this ys
      rw [TL.join_eq, e_star]
      omega
    rw [ej, mS_len] at lj
    refine ⟨_, rfl, a, C, dx, fs, _, rfl, ea3, N.cl, N.nP, l2, hA, _, _, _, rfl, rfl, hd.sq _, atI_nat (by rw [List.getElem?_map, hh]; rfl), rfl, _, rfl, _, r, ys, rfl, rfl, .inl (SqL.of e3), ?_, _, _, rfl, rfl, ?_, ?_⟩
    · rw [show ("*" : Str).length = 1 from by decide +kernel]
      omega
    · rw [ej, mS_len, mS_len]
      have := headL_len hq
      exact sizeBig (n := _) (by omega)
    · rw [ej, mS_app, eW]
      exact qq _ s3
end
end KQ

namespace KQ
open PySem PySem.Spec PyProof.Rows L2
/-! ### texts, words and all strings, as the law makes them -/
theorem scTextL : FnScope ["_law_string", "_law_size"] ["_law_string", "_law_size"] (defScope sTextL) := ⟨rfl, rfl, rfl, by decide +kernel, rfl, by decide +kernel, by decide +kernel⟩
theorem scWord : FnScope ["_law_string", "_law_size", "_law_letters_here", "_law_parts", "_law_k"] ["_law_string", "_law_size"] (defScope sWord) := ⟨rfl, rfl, rfl, by decide +kernel, rfl, by decide +kernel, by decide +kernel⟩
theorem scEvery : FnScope ["_law_size", "_law_found", "_law_k", "_law_more", "_law_x", "_law_z", "_law_sign", "_law_letter"] ["_law_size"] (defScope sEvery) := ⟨rfl, rfl, rfl, by decide +kernel, rfl, by decide +kernel, by decide +kernel⟩
def sg (z : Nat) : List Nat := if z = 0 then [] else [45]
theorem sg_len (z : Nat) : (sg z).length ≤ 1 := by unfold sg; split <;> decide
theorem sg_cases (z : Nat) : sg z = [] ∨ sg z = [45] := by unfold sg; split; exact .inl rfl; exact .inr rfl
/-- a tuple of a string of letters with its sign -/
def StrAt (H : Hp) (t : Addr) (L : List Nat) (z : Nat) : Prop := H t = some (.tup [.int (bv lx L : Nat), .int (bv lz L : Nat), .int (z : Nat)])
theorem StrAt.same {H H' : Hp} {t : Addr} {L : List Nat} {z : Nat} (h : StrAt H t L z) (s : Same H H') : StrAt H' t L z := s _ _ h
def spTextL : Sp := fun vs H Q _ => ∃ (t : Addr) (L : List Nat) (z : Nat), vs = [.ref t, .int (L.length : Int)] ∧ StrAt H t L z ∧ Lets L ∧ L.length ≤ 60 ∧ Q (.str (mS (sg z ++ L))) H
def spWord : Sp := fun vs H Q _ => ∃ (t : Addr) (L : List Nat) (z : Nat), vs = [.ref t, .int (L.length : Int)] ∧ StrAt H t L z ∧ Lets L ∧ L.length ≤ 24 ∧ ∀ H', Same H H' → Q (.str (mS (sg z ++ wordOf L))) H'
/-- strings, each with its tuple -/
def EvAt (H : Hp) (es : List (Addr × List Nat)) : Prop := ∀ e ∈ es, StrAt H e.1 e.2 0
def evV (es : List (Addr × List Nat)) : List V := es.map fun e => .ref e.1
def spEvery : Sp := fun vs H Q _ => ∃ n : Nat, vs = [.int (n : Nat)] ∧ n ≤ 3 ∧ ∀ H' fo es, Same H H' → H' fo = some (.lst (evV es)) → EvAt H' es → es.map (·.2) = allS n → Q (.ref fo) H'
def ltr : List Nat := [73, 88, 90, 89]
theorem evV_app (es : List (Addr × List Nat)) (a : Addr × List Nat) : evV (es ++ [a]) = evV es ++ [.ref a.1] := by
  unfold evV
  rw [List.map_append]
  rfl
theorem pD {H : Hp} {K : PySem.W.Frag} : ∀ ps : List (Nat × Nat), DpAll K H ((ps.map ptxt).map V.str) (ps.map fun x => PyData.str (ptxt x))
  | [] => .nil
  | _ :: ps => .cons (.str _) (pD ps)
theorem enc_len : ∀ ps : List (Nat × Nat), (enc ps).length ≤ 4 * ps.length
  | [] => Nat.zero_le _
  | [(c, p)] => by
    have := dec_len (p := p)
    show (dec p).length + 1 ≤ 4
    omega
  | (c, p) :: y :: t => by
    have := dec_len (p := p)
    have := enc_len (y :: t)
    show (dec p ++ 42 :: enc (y :: t)).length + 1 ≤ 4 * ((y :: t).length + 1)
    rw [List.length_append, List.length_cons]
    omega
theorem ptxt_ok {x : Nat × Nat} (h : x.1 < 1000 ∧ x.2 < 24) : PyData.strOk (ptxt x) = true := by
  show (Array.all (x.1 :: dec x.2).toArray fun c => decide (c < 0x110000)) = true
  rw [List.all_toArray, List.all_eq_true]
  intro c hc
  rcases List.mem_cons.mp hc with hc | hc
  · exact decide_eq_true (by omega)
  · have := dec_dig (p := x.2) (by omega) c hc
    exact decide_eq_true (by omega)
theorem ptxts_lay : ∀ ps : List (Nat × Nat), (∀ x ∈ ps, x.1 < 1000 ∧ x.2 < 24) → PyData.canLayAll0 (ps.map fun x => PyData.str (ptxt x)) = true
  | [], _ => by simp [PyData.canLayAll0]
  | x :: ps, h => by simp [PyData.canLayAll0, PyData.canLay0, ptxt_ok (h x List.mem_cons_self), ptxts_lay ps fun y hy => h y (List.mem_cons_of_mem _ hy)]
theorem ptxts_dep : ∀ ps : List (Nat × Nat), PyData.depthAll (ps.map fun x => PyData.str (ptxt x)) = 0
  | [] => by simp [PyData.depthAll]
  | x :: ps => by simp [PyData.depthAll, PyData.depth, ptxts_dep ps]
theorem ptxts_sh (ps : List (Nat × Nat)) (h : ∀ x ∈ ps, x.1 < 1000 ∧ x.2 < 24) : SeqAt.shaped (.list (ps.map fun x => PyData.str (ptxt x))) = true := by
  have h2 : PyData.depth (.list (ps.map fun x => PyData.str (ptxt x))) ≤ 64 := by
    simp only [PyData.depth, ptxts_dep]
    decide
  show (PyData.canLay0 _ && decide (PyData.depth _ ≤ 64)) = true
  rw [Bool.and_eq_true]
  exact ⟨by simp only [PyData.canLay0]; exact ptxts_lay ps h, decide_eq_true h2⟩
theorem pairs_small : ∀ (L : List Nat) (k : Nat), Lets L → ∀ x ∈ pairs k L, x.1 < 1000 ∧ x.2 < k + L.length
  | [], _, _ => fun x hx => by cases hx
  | c :: L, k, hL => by
    have ih := pairs_small L (k + 1) fun d hd => hL d (List.mem_cons_of_mem _ hd)
    have hc := isL_iff.mp (hL c List.mem_cons_self)
    intro x hx
    unfold pairs at hx
    rw [List.length_cons]
    split at hx
    · have := ih x hx
      omega
    · rcases List.mem_cons.mp hx with rfl | hx
      · exact ⟨by show c < 1000; omega, by show k < _; omega⟩
      · have := ih x hx
        omega
section
variable {P : Program} {w : World} {K : PySem.W.Frag} {mg : Str → Option Value} {base : Heap}
theorem ok_textL {f fL : Addr} {fd dL : FuncData} {k : Nat} (F : Fun K "_law_text" "_law_text" sTextL f fd) (FL : Fun K "_law_letters" "_law_letters" sLett fL dL) (bL : Binds K dL ["_law_string", "_law_size"] []) (gL : mg "_law_letters" = some (.ref fL)) (B : Bl mg) :
    FnOk P w K mg base CX0 (k + 2) f fd ["_law_string", "_law_size"] spTextL := by
  have GL : FnOk P w K mg base CX0 (k + 1) fL dL ["_law_string", "_law_size"] spLett := ok_lett FL B
  refine F.ok scTextL (fun vs H Q E h => ?_) (fun cdv A outer s H vs Q E hr h => ?_)
  · obtain ⟨t, L, z, rfl, _⟩ := h
    rfl
  · obtain ⟨t, L, z, rfl, et, hL, hl, q⟩ := h
    refine ⟨_, pss_one (ps_ret (pe_op op_add_str (pe_ifExp (pt_truth (pe_ix ix_tup (pv 0) pe_int (fun _ _ => rfl)) (by intro _; rfl)) pe_str pe_str) (pe_call GL hr (by rfl) gL FL.kp bL .nil pass0 (pa_cons (pv 0) (pa_cons (pv 1) pa_nil))))), ?_⟩
    have sq : SqT K H t [.int (bv lx L : Nat), .int (bv lz L : Nat), .int (z : Nat)] := .inl (.inl et)
    have j2 : atI [V.int (bv lx L : Nat), V.int (bv lz L : Nat), V.int (z : Nat)] 2 = some (.int (z : Nat)) := at_of (j := 2) rfl rfl
    refine ⟨_, rfl, t, _, _, _, rfl, rfl, sq, j2, _, rfl, ?_⟩
    by_cases h0 : z = 0
    · subst h0
      refine iteF ⟨_, rfl, _, rfl, t, L, _, rfl, et, hL, hl, _, _, rfl, rfl, ?_, ?_⟩
      · rw [mS_len]
        exact sizeBig (by show 0 + L.length ≤ 1000; omega)
      · rw [show ("" : Str) = mS [] from e_no, mS_app]
        exact q
    · have nz : (((z : Nat) : Int) != 0) = true := bne_iff_ne.mpr (by omega)
      rw [nz]
      have es : sg z = [45] := if_neg h0
      rw [es, ← mS_app] at q
      refine iteT ⟨_, rfl, _, rfl, t, L, _, rfl, et, hL, hl, _, _, rfl, rfl, ?_, ?_⟩
      · rw [mS_len]
        exact sizeBig (by show 1 + L.length ≤ 1000; omega)
      · rw [e_minus]
        exact q
theorem ok_word {f fL : Addr} {fd dL : FuncData} {k : Nat} (F : Fun K "_law_word" "_law_word" sWord f fd) (FL : Fun K "_law_letters" "_law_letters" sLett fL dL) (bL : Binds K dL ["_law_string", "_law_size"] []) (gL : mg "_law_letters" = some (.ref fL)) (B : Bl mg) :
    FnOk P w K mg base CX0 (k + 2) f fd ["_law_string", "_law_size"] spWord := by
  have GL : FnOk P w K mg base CX0 (k + 1) fL dL ["_law_string", "_law_size"] spLett := ok_lett FL B
  refine F.ok scWord (fun vs H Q E h => ?_) (fun cdv A outer s H vs Q E hr h => ?_)
  · obtain ⟨t, L, z, rfl, _⟩ := h
    rfl
  · obtain ⟨t, L, z, rfl, et, hL, hl, q⟩ := h
    have hu := hr.units
    refine ⟨_, C8.pss_cut (ps_par (i := 2) (j := 3) rfl scWord.nd rfl rfl (by decide) rfl rfl (pa_cons (pe_call GL hr (by rfl) gL FL.kp bL .nil pass0 (pa_cons (pv 0) (pa_cons (pv 1) pa_nil))) (pa_cons (pe_lst pa_nil) pa_nil)) rfl)
      (C8.pss_cut (ps_for PassesOwn.never rfl (pi_range1 (by rfl) B.range (pa_cons (pv 1) pa_nil)) (pg_name (i := 4) scWord.nd rfl (.inl rfl))
        (pss_one (ps_if (pt_cmpR op_ne (pe_ix ix_str (pv 2) (pv 4) (fun _ _ => rfl)) pe_str (nomark _))
          (pss_one (ps_expr (pe_bm PySem.F.plainAttrs_list PySem.F.slot_list_append PySem.F.type_list_append mt_append (pv 3) (pa_cons (pe_op op_add_str (pe_ix ix_str (pv 2) (pv 4) (fun _ _ => rfl)) (pe_callTy call_str_int (by rfl) B.str bootS (pa_cons (pv 4) pa_nil))) pa_nil)))) pss_nil)))
      (pss_one (ps_ret (pe_op op_add_str (pe_ifExp (pt_truth (pe_ix ix_tup (pv 0) pe_int (fun _ _ => rfl)) (by intro _; rfl)) pe_str pe_str)
        (pe_ifExp (pt_cmpR (op_neD hu) (pv 3) (pe_lst pa_nil) (nomark _)) (pe_bm PySem.F.plainAttrs_str PySem.F.slot_str_join PySem.F.type_str_join mt_join pe_str (pa_cons (pv 3) pa_nil)) pe_str))))), ?_⟩
    have j2 : atI [V.int (bv lx L : Nat), V.int (bv lz L : Nat), V.int (z : Nat)] 2 = some (.int (z : Nat)) := at_of (j := 2) rfl rfl
    have hz : (mS L).length ≤ sizeLine := by rw [mS_len]; exact sizeBig (by omega)
    refine ⟨fun σ' H' => ∃ r, σ' = [some (.ref t), some (.int (L.length : Int)), some (.str (mS L)), some (.ref r), none] ∧ H r = none ∧ Same H H' ∧ H' r = some (.lst []), ?_, ?_⟩
    · exact ⟨_, rfl, _, rfl, t, L, _, rfl, et, hL, by omega, by show 0 ≤ sizeLine; decide, fun r nr => ⟨_, _, rfl, r, rfl, nr, same_new nr, upd_same⟩⟩
    rintro _ H1 ⟨r, rfl, nr, s1, e1⟩
    refine ⟨fun σ' H' => ∃ v4, σ' = [some (.ref t), some (.int (L.length : Int)), some (.str (mS L)), some (.ref r), v4] ∧ Same H H' ∧ H' r = some (.lst (((pairs 0 L).map ptxt).map V.str)), ?_, ?_⟩
    · refine ⟨_, rfl, _, rfl, by omega, by omega, ?_⟩
      rw [Int.toNat_natCast]
      refine for_range (n := L.length) (fun i σ' H' => ∃ v4, σ' = [some (.ref t), some (.int (L.length : Int)), some (.str (mS L)), some (.ref r), v4] ∧ Same H H' ∧ H' r = some (.lst (((pairs 0 (L.take i)).map ptxt).map V.str))) ⟨none, rfl, s1, e1⟩ ?_ ?_
      · rintro i _ H2 hi ⟨v4, rfl, s2, e2⟩
        have hx : L[i]? = some L[i] := List.getElem?_eq_getElem hi
        have hat : atI (mS L).cps.toList ((0 : Int) + (i : Nat)) = some L[i] := by
          have e : (mS L).cps.toList = L := by simp
          rw [e, Int.zero_add]
          exact atI_nat hx
        have tt : L.take (i + 1) = L.take i ++ [L[i]] := by
          rw [List.take_succ, hx]
          rfl
        have lt : (L.take i).length = i := by rw [List.length_take]; omega
        refine ⟨_, rfl, _, rfl, _, _, L[i], rfl, rfl, hz, hat, rfl, _, rfl, ?_⟩
        rw [tt, pairs_snoc, lt, Nat.zero_add, e_I]
        by_cases c73 : L[i] = 73
        · rw [decide_eq_true (by rw [c73]), if_pos c73, List.append_nil]
          exact iteF ⟨_, rfl, s2, e2⟩
        · rw [decide_eq_false (fun z => c73 (by have := mS_inj (V.str.inj z : mS [L[i]] = mS [73]); simpa using this)), if_neg c73]
          refine iteT ⟨_, rfl, .inl ⟨rfl, _, SqL.of e2⟩, _, rfl, _, rfl, _, _, L[i], rfl, rfl, hz, hat, _, rfl, ?_⟩
          have es : (toString ((0 : Int) + (i : Nat)) : Str) = mS (dec i) := by rw [Int.zero_add]; exact str_dec (by omega)
          refine ⟨(0 : Int) + (i : Nat), rfl, ?_, ?_⟩
          · rw [Int.zero_add, Int.natAbs_natCast]
            have := Nat.log2_le_self i
            omega
          · rw [es]
            refine ⟨_, _, rfl, rfl, ?_, ?_⟩
            · show (mS [L[i]]).length + (mS (dec i)).length ≤ sizeLine
              rw [mS_len, mS_len]
              have := dec_len (p := i)
              exact sizeBig (by show 1 + _ ≤ 1000; omega)
            · refine ⟨r, _, _, rfl, rfl, e2, ?_, _, rfl, ?_, ?_⟩
              · rw [List.length_map, List.length_map]
                have := pairs_len (L.take i) 0
                exact Nat.lt_of_le_of_lt (by omega : _ ≤ 24) (by decide)
              · intro b o e
                rw [upd_ne (ne_of_none e nr)]
                exact s2 _ _ e
              · rw [upd_same, List.map_append, List.map_append]
                have : ((⟨#[L[i]]⟩ : Str) ++ mS (dec i)) = ptxt (L[i], i) := by
                  show mS [L[i]] ++ mS (dec i) = _
                  rw [mS_app]
                  rfl
                rw [this]
                rfl
      · rintro _ H2 ⟨v4, rfl, s2, e2⟩
        rw [List.take_of_length_le (Nat.le_refl _)] at e2
        exact ⟨v4, rfl, s2, e2⟩
    rintro _ H2 ⟨v4, rfl, s2, e2⟩
    have et2 := et.same s2
    have sq : SqT K H2 t [.int (bv lx L : Nat), .int (bv lz L : Nat), .int (z : Nat)] := .inl (.inl et2)
    have pl := pairs_len L 0
    have ps := ptxts_len (pairs 0 L)
    have psm : ∀ x ∈ pairs 0 L, x.1 < 1000 ∧ x.2 < 24 := fun x hx => by have := pairs_small L 0 hL x hx; omega
    refine ⟨_, rfl, t, _, _, _, rfl, rfl, sq, j2, _, rfl, ?_⟩
    by_cases h0 : z = 0
    · have eZ : ("" : Str) = mS (sg z) := by
        rw [h0]
        exact e_no
      rw [show (((z : Nat) : Int) != 0) = false by rw [h0]; rfl]
      refine iteF ⟨_, rfl, by show 0 ≤ sizeLine; decide, fun p np => ?_⟩
      have sn := same_new (o := HO.lst []) np
      refine ⟨_, _, .lst (SqL.of (sn _ _ e2)) (pD _), .lst (SqL.of upd_same) .nil, ptxts_sh _ psm, rfl, _, rfl, ?_⟩
      by_cases z0 : pairs 0 L = []
      · rw [z0]
        refine iteF ⟨_, _, rfl, rfl, by decide, ?_⟩
        have : ("" : Str) ++ ("I" : Str) = mS (sg z ++ wordOf L) := by
          rw [eZ, e_I]
          show mS (sg z) ++ mS [73] = _
          rw [mS_app]
          unfold wordOf
          rw [if_pos z0]
        rw [this]
        exact q _ (s2.trans sn)
      · have : PyData.eqv (.list ((pairs 0 L).map fun x => PyData.str (ptxt x))) (.list []) = false := by
          cases h : pairs 0 L with
          | nil => exact absurd h z0
          | cons x t => rfl
        rw [this]
        refine iteT ⟨rfl, _, rfl, _, r, (pairs 0 L).map ptxt, rfl, rfl, .inl (SqL.of (sn _ _ e2)), ?_, _, _, rfl, rfl, ?_, ?_⟩
        · rw [List.length_map, show ("*" : Str).length = 1 from by decide +kernel]
          omega
        · rw [join_star, eZ, mS_len, mS_len]
          have a1 := sg_len z
          have a2 := enc_len (pairs 0 L)
          exact sizeBig (by omega)
        · have : ("" : Str) ++ Txt.join ("*" : Str) ((pairs 0 L).map ptxt) = mS (sg z ++ wordOf L) := by
            rw [eZ, join_star, mS_app]
            unfold wordOf
            rw [if_neg z0]
          rw [this]
          exact q _ (s2.trans sn)
    · have eZ : ("-" : Str) = mS (sg z) := by
        rw [show sg z = [45] from if_neg h0]
        exact e_minus
      rw [show (((z : Nat) : Int) != 0) = true from bne_iff_ne.mpr (by omega)]
      refine iteT ⟨_, rfl, by show 0 ≤ sizeLine; decide, fun p np => ?_⟩
      have sn := same_new (o := HO.lst []) np
      refine ⟨_, _, .lst (SqL.of (sn _ _ e2)) (pD _), .lst (SqL.of upd_same) .nil, ptxts_sh _ psm, rfl, _, rfl, ?_⟩
      by_cases z0 : pairs 0 L = []
      · rw [z0]
        refine iteF ⟨_, _, rfl, rfl, by decide, ?_⟩
        have : ("-" : Str) ++ ("I" : Str) = mS (sg z ++ wordOf L) := by
          rw [eZ, e_I]
          show mS (sg z) ++ mS [73] = _
          rw [mS_app]
          unfold wordOf
          rw [if_pos z0]
        rw [this]
        exact q _ (s2.trans sn)
      · have : PyData.eqv (.list ((pairs 0 L).map fun x => PyData.str (ptxt x))) (.list []) = false := by
          cases h : pairs 0 L with
          | nil => exact absurd h z0
          | cons x t => rfl
        rw [this]
        refine iteT ⟨rfl, _, rfl, _, r, (pairs 0 L).map ptxt, rfl, rfl, .inl (SqL.of (sn _ _ e2)), ?_, _, _, rfl, rfl, ?_, ?_⟩
        · rw [List.length_map, show ("*" : Str).length = 1 from by decide +kernel]
          omega
        · rw [join_star, eZ, mS_len, mS_len]
          have a1 := sg_len z
          have a2 := enc_len (pairs 0 L)
          exact sizeBig (by omega)
        · have : ("-" : Str) ++ Txt.join ("*" : Str) ((pairs 0 L).map ptxt) = mS (sg z ++ wordOf L) := by
            rw [eZ, join_star, mS_app]
            unfold wordOf
            rw [if_neg z0]
          rw [this]
          exact q _ (s2.trans sn)
end
end KQ

namespace KQ
open PySem PySem.Spec PyProof.Rows L2
/-! ### all strings of a size -/
theorem allS_len : ∀ (n : Nat) (L : List Nat), L ∈ allS n → L.length = n ∧ Lets L
  | 0, L, h => by
    rw [List.mem_singleton.mp h]
    exact ⟨rfl, fun c hc => by cases hc⟩
  | n + 1, L, h => by
    obtain ⟨M, hM, h⟩ := List.mem_flatMap.mp h
    obtain ⟨c, hc, rfl⟩ := List.mem_map.mp h
    obtain ⟨l1, l2⟩ := allS_len n M hM
    refine ⟨by rw [List.length_append, l1]; rfl, fun d hd => ?_⟩
    rcases List.mem_append.mp hd with hd | hd
    · exact l2 d hd
    · rw [List.mem_singleton.mp hd]
      refine isL_iff.mpr ?_
      simp only [List.mem_cons, List.mem_nil_iff, or_false] at hc
      omega
theorem allS_many : ∀ n : Nat, (allS n).length = 4 ^ n
  | 0 => rfl
  | n + 1 => by
    have : ∀ X : List (List Nat), (X.flatMap fun L => [73, 88, 90, 89].map fun c => L ++ [c]).length = X.length * 4 := by
      intro X
      induction X with
      | nil => rfl
      | cons a X ih =>
        rw [List.flatMap_cons, List.length_append, ih]
        show 4 + X.length * 4 = (X.length + 1) * 4
        omega
    show ((allS n).flatMap _).length = _
    rw [this, allS_many n, Nat.pow_succ]
def ext4 (L : List Nat) : List (List Nat) := [73, 88, 90, 89].map fun c => L ++ [c]
section
variable {P : Program} {w : World} {K : PySem.W.Frag} {mg : Str → Option Value} {base : Heap}
theorem ok_every {f : Addr} {fd : FuncData} {k : Nat} (F : Fun K "_law_every_string" "_law_every_string" sEvery f fd) (B : Bl mg) : FnOk P w K mg base CX0 (k + 1) f fd ["_law_size"] spEvery := by
  refine F.ok scEvery (fun vs H Q E h => ?_) (fun cdv A outer s H vs Q E hr h => ?_)
  · obtain ⟨n, rfl, _⟩ := h
    rfl
  · obtain ⟨n, rfl, hn, q⟩ := h
    refine ⟨_, C8.pss_cut (ps_set (i := 1) scEvery.nd rfl (.inl rfl) (pe_lst (pa_cons (pe_tup (pa_cons pe_int (pa_cons pe_int (pa_cons pe_int pa_nil)))) pa_nil)))
      (C8.pss_cut (ps_for PassesOwn.never rfl (pi_range1 (by rfl) B.range (pa_cons (pv 0) pa_nil)) (pg_name (i := 2) scEvery.nd rfl (.inl rfl))
        (C8.pss_cut (ps_set (i := 3) scEvery.nd rfl (.inl rfl) (pe_lst pa_nil))
        (C8.pss_cut (ps_for PassesOwn.never rfl (pi_list (pv 1)) (pg_tup rfl (pgs_cons (pg_name (i := 4) scEvery.nd rfl (.inl rfl)) (pgs_cons (pg_name (i := 5) scEvery.nd rfl (.inl rfl)) (pgs_cons (pg_name (i := 6) scEvery.nd rfl (.inl rfl)) pgs_nil))))
          (pss_one (ps_for PassesOwn.never rfl (pi_range1 (by rfl) B.range (pa_cons pe_int pa_nil)) (pg_name (i := 7) scEvery.nd rfl (.inl rfl))
            (pss_one (ps_expr (pe_bm PySem.F.plainAttrs_list PySem.F.slot_list_append PySem.F.type_list_append mt_append (pv 3) (pa_cons (pe_tup (pa_cons (pe_op op_add (pv 4) (pe_op op_shl (pe_op op_mod (pe_callTy call_int1 (by rfl) B.int bootI (pa_cons (pv 7) pa_nil)) pe_int) (pv 2)))
              (pa_cons (pe_op op_add (pv 5) (pe_op op_shl (pe_op op_fdiv (pe_callTy call_int1 (by rfl) B.int bootI (pa_cons (pv 7) pa_nil)) pe_int) (pv 2))) (pa_cons pe_int pa_nil)))) pa_nil)))))))
        (pss_one (ps_set (i := 1) scEvery.nd rfl (.inl rfl) (pv 3))))))
      (pss_one (ps_ret (pv 1)))), ?_⟩
    refine ⟨fun σ' H' => ∃ (fo : Addr) (es : List (Addr × List Nat)), σ' = [some (.int (n : Nat)), some (.ref fo), none, none, none, none, none, none] ∧ Same H H' ∧ H' fo = some (.lst (evV es)) ∧ EvAt H' es ∧ es.map (·.2) = allS 0, ?_, ?_⟩
    · refine ⟨by show 3 ≤ sizeLine; decide, fun t nt => ⟨by show 1 ≤ sizeLine; decide, fun l nl => ⟨l, [(t, [])], rfl, (same_new nt).trans (same_new nl), upd_same, fun e he => ?_, rfl⟩⟩⟩
      rw [List.mem_singleton.mp he]
      exact same_new nl _ _ upd_same
    rintro _ H1 ⟨fo, es, rfl, s1, e1, ev1, m1⟩
    refine ⟨fun σ' H' => ∃ (fo : Addr) (es : List (Addr × List Nat)) (v2 v3 v4 v5 v6 v7 : Option V), σ' = [some (.int (n : Nat)), some (.ref fo), v2, v3, v4, v5, v6, v7] ∧ Same H H' ∧ H' fo = some (.lst (evV es)) ∧ EvAt H' es ∧ es.map (·.2) = allS n, ?_, ?_⟩
    · refine ⟨_, rfl, _, rfl, by omega, by omega, ?_⟩
      rw [Int.toNat_natCast]
      refine for_range (n := n) (fun k σ' H' => ∃ (fo : Addr) (es : List (Addr × List Nat)) (v2 v3 v4 v5 v6 v7 : Option V), σ' = [some (.int (n : Nat)), some (.ref fo), v2, v3, v4, v5, v6, v7] ∧ Same H H' ∧ H' fo = some (.lst (evV es)) ∧ EvAt H' es ∧ es.map (·.2) = allS k) ⟨fo, es, none, none, none, none, none, none, rfl, s1, e1, ev1, m1⟩ ?_ ?_
      · rintro k _ H2 hk ⟨fo, es, v2, v3, v4, v5, v6, v7, rfl, s2, e2, ev2, m2⟩
        have hlen : ∀ e ∈ es, e.2.length = k := fun e he => (allS_len k e.2 (by rw [← m2]; exact List.mem_map.mpr ⟨e, he, rfl⟩)).1
        have many : es.length = 4 ^ k := by
          have := congrArg List.length m2
          rw [List.length_map, allS_many] at this
          exact this
        have k4 : 4 ^ k ≤ 16 := by
          have : k = 0 ∨ k = 1 ∨ k = 2 := by omega
          rcases this with rfl | rfl | rfl <;> decide
        refine ⟨fun σ' H' => ∃ mo, σ' = [some (.int (n : Nat)), some (.ref fo), some (.int (0 + (k : Nat))), some (.ref mo), v4, v5, v6, v7] ∧ H2 mo = none ∧ Same H2 H' ∧ H' mo = some (.lst (evV [])), ?_, ?_⟩
        · exact ⟨by show 0 ≤ sizeLine; decide, fun l nl => ⟨l, rfl, nl, same_new nl, upd_same⟩⟩
        rintro _ H3 ⟨mo, rfl, nm, s3, e3⟩
        have ne : fo ≠ mo := ne_of_none e2 nm
        refine ⟨fun σ' H' => ∃ (fs : List (Addr × List Nat)) (v4 v5 v6 v7 : Option V), σ' = [some (.int (n : Nat)), some (.ref fo), some (.int (0 + (k : Nat))), some (.ref mo), v4, v5, v6, v7] ∧ Same H2 H' ∧ H' mo = some (.lst (evV fs)) ∧ EvAt H' fs ∧ fs.map (·.2) = (es.map (·.2)).flatMap ext4, ?_, ?_⟩
        · refine ⟨_, rfl, fo, rfl, ⟨_, SqL.of (s3 _ _ e2)⟩, ?_⟩
          have el : (evV es).length = es.length := by unfold evV; rw [List.length_map]
          refine for_list (xs := evV es) (fun i σ' H' => ∃ (fs : List (Addr × List Nat)) (v4 v5 v6 v7 : Option V), σ' = [some (.int (n : Nat)), some (.ref fo), some (.int (0 + (k : Nat))), some (.ref mo), v4, v5, v6, v7] ∧ Same H2 H' ∧ H' mo = some (.lst (evV fs)) ∧ EvAt H' fs ∧ fs.map (·.2) = ((es.map (·.2)).take i).flatMap ext4) ⟨[], v4, v5, v6, v7, rfl, s3, e3, (fun e he => by cases he), rfl⟩ (fun i σ' H' _ h => by
            obtain ⟨_, _, _, _, _, _, s, _⟩ := h
            exact SqL.of (s _ _ e2)) ?_ ?_
          · rintro i x _ H4 hx ⟨fs, v4, v5, v6, v7, rfl, s4, e4, ev4, m4⟩
            obtain ⟨a, ha, rfl⟩ : ∃ a, es[i]? = some a ∧ V.ref a.1 = x := by
              unfold evV at hx
              simpa using hx
            obtain ⟨t, L⟩ := a
            have hL : L.length = k := hlen _ (List.mem_of_getElem? ha)
            have et : H4 t = some (.tup [.int (bv lx L : Nat), .int (bv lz L : Nat), .int ((0 : Nat) : Int)]) := s4 _ _ (ev2 _ (List.mem_of_getElem? ha))
            have hm : (es.map (·.2))[i]? = some L := by rw [List.getElem?_map, ha]; rfl
            have tt : (es.map (·.2)).take (i + 1) = (es.map (·.2)).take i ++ [L] := by
              rw [List.take_succ, hm]
              rfl
            have fl : fs.length = ((es.map (·.2)).take i).length * 4 := by
              have := congrArg List.length m4
              rw [List.length_map] at this
              rw [this]
              generalize (es.map (·.2)).take i = X
              induction X with
              | nil => rfl
              | cons a X ih =>
                rw [List.flatMap_cons, List.length_append, ih]
                show 4 + X.length * 4 = (X.length + 1) * 4
                omega
            have fl64 : fs.length ≤ 64 := by
              rw [fl, List.length_take, List.length_map]
              omega
            refine ⟨t, _, rfl, .inl (.inl et), rfl, _, _, rfl, _, _, rfl, _, _, rfl, rfl, ?_⟩
            refine ⟨4, rfl, by decide, by decide, ?_⟩
            refine for_range (n := 4) (fun j σ' H' => ∃ (gs : List (Addr × List Nat)) (v7 : Option V), σ' = [some (.int (n : Nat)), some (.ref fo), some (.int (0 + (k : Nat))), some (.ref mo), some (.int (bv lx L : Nat)), some (.int (bv lz L : Nat)), some (.int ((0 : Nat) : Int)), v7] ∧ Same H2 H' ∧ H' mo = some (.lst (evV (fs ++ gs))) ∧ EvAt H' (fs ++ gs) ∧ gs.map (·.2) = (ltr.take j).map (fun c => L ++ [c])) ⟨[], v7, rfl, s4, by rw [List.append_nil]; exact e4, by rw [List.append_nil]; exact ev4, rfl⟩ ?_ ?_
            · rintro j _ H5 hj ⟨gs, v7, rfl, s5, e5, ev5, m5⟩
              obtain ⟨c, hc, hx, hz⟩ : ∃ c, ltr[j]? = some c ∧ lx c = j % 2 ∧ lz c = j / 2 := by
                have : j = 0 ∨ j = 1 ∨ j = 2 ∨ j = 3 := by omega
                rcases this with rfl | rfl | rfl | rfl
                · exact ⟨73, rfl, by decide, by decide⟩
                · exact ⟨88, rfl, by decide, by decide⟩
                · exact ⟨90, rfl, by decide, by decide⟩
                · exact ⟨89, rfl, by decide, by decide⟩
              have gl : gs.length = j := by
                have := congrArg List.length m5
                rw [List.length_map, List.length_map, List.length_take] at this
                rw [this]
                show min j 4 = j
                omega
              have tj : ltr.take (j + 1) = ltr.take j ++ [c] := by
                rw [List.take_succ, hc]
                rfl
              have cp : ∀ i : Int, i.natAbs < 2 ^ 64 → CPow i ((0 : Int) + (k : Nat)) := fun i h => ⟨by omega, by omega, h⟩
              have vx : ((bv lx L : Nat) : Int) + ((0 + (j : Nat) : Int) % 2) * 2 ^ ((0 : Int) + (k : Nat)).toNat = ((bv lx (L ++ [c]) : Nat) : Int) := by
                rw [bv_app, hL, hx, Int.zero_add, Int.zero_add, Int.toNat_natCast, Nat.mul_comm]
                push_cast
                rfl
              have vz : ((bv lz L : Nat) : Int) + ((0 + (j : Nat) : Int) / 2) * 2 ^ ((0 : Int) + (k : Nat)).toNat = ((bv lz (L ++ [c]) : Nat) : Int) := by
                rw [bv_app, hL, hz, Int.zero_add, Int.zero_add, Int.toNat_natCast, Nat.mul_comm]
                push_cast
                rfl
              refine ⟨_, rfl, .inl ⟨rfl, _, SqL.of e5⟩, _, rfl, _, rfl, .inl ⟨_, rfl, _, _, rfl, rfl, by show (0 : Int) < 2; decide, _, rfl, _, _, rfl, rfl, cp _ ?_, _, _, rfl, rfl, ?_⟩⟩
              · omega
              refine ⟨_, rfl, _, rfl, .inl ⟨_, rfl, _, _, rfl, rfl, ⟨by decide, by decide⟩, _, rfl, _, _, rfl, rfl, cp _ ?_, _, _, rfl, rfl, by show 3 ≤ sizeLine; decide, fun r nr => ⟨mo, _, _, rfl, rfl, (upd_ne (ne_of_none e5 nr)).trans e5, ?_, ?_⟩⟩⟩
              · omega
              · unfold evV
                rw [List.length_map, List.length_append]
                exact Nat.lt_of_le_of_lt (by omega : _ ≤ 68) (by decide)
              · have hmr : mo ≠ r := ne_of_none e5 nr
                refine ⟨gs ++ [(r, L ++ [c])], some (.int (0 + (j : Nat))), rfl, fun b o e => ?_, ?_, fun a ha => ?_, ?_⟩
                · have e' := s5 _ _ e
                  rw [upd_ne (ne_of_none e nm), upd_ne (ne_of_none e' nr)]
                  exact e'
                · rw [upd_same, ← List.append_assoc, evV_app]
                · rw [← List.append_assoc] at ha
                  rcases List.mem_append.mp ha with ha | ha
                  · have e' : H5 a.1 = _ := ev5 a ha
                    show upd _ mo _ a.1 = _
                    rw [upd_ne (ne_of e' e5 (by intro z; cases z)), upd_ne (ne_of_none e' nr)]
                    exact e'
                  · rw [List.mem_singleton.mp ha]
                    show upd _ mo _ r = _
                    rw [upd_ne (Ne.symm hmr), upd_same, ← vx, ← vz]
                    rfl
                · rw [List.map_append, m5, tj, List.map_append]
                  rfl
            · rintro _ H5 ⟨gs, v7, rfl, s5, e5, ev5, m5⟩
              refine ⟨fs ++ gs, _, _, _, v7, rfl, s5, e5, ev5, ?_⟩
              rw [List.map_append, m4, m5, tt, List.flatMap_append]
              rfl
          · rintro _ H4 ⟨fs, v4, v5, v6, v7, rfl, s4, e4, ev4, m4⟩
            rw [el, List.take_of_length_le (by rw [List.length_map]; exact Nat.le_refl _)] at m4
            exact ⟨fs, v4, v5, v6, v7, rfl, s4, e4, ev4, m4⟩
        rintro _ H4 ⟨fs, v4, v5, v6, v7, rfl, s4, e4, ev4, m4⟩
        refine ⟨_, rfl, mo, fs, _, _, v4, v5, v6, v7, rfl, s2.trans s4, e4, ev4, ?_⟩
        rw [m4, m2]
        rfl
      · rintro _ H2 ⟨fo, es, v2, v3, v4, v5, v6, v7, rfl, s2, e2, ev2, m2⟩
        exact ⟨fo, es, v2, v3, v4, v5, v6, v7, rfl, s2, e2, ev2, m2⟩
    rintro _ H2 ⟨fo, es, v2, v3, v4, v5, v6, v7, rfl, s2, e2, ev2, m2⟩
    exact ⟨_, rfl, q _ fo es s2 e2 ev2 m2⟩
end
end KQ

namespace KQ
open PySem PySem.Spec PyProof.Rows L2
/-! ### the longest right beginning, by the list of all words -/
theorem scList : FnScope ["_law_size", "_law_word_here", "_law_words", "_law_string", "_law_many", "_law_one"] ["_law_size", "_law_word_here"] (defScope sList) := ⟨rfl, rfl, rfl, by decide +kernel, rfl, by decide +kernel, by decide +kernel⟩
/-- lists of ones -/
def ones (m : Nat) : List V := List.replicate m (.int 1)
def onesD (m : Nat) : PyData := .list (List.replicate m (.int 1))
theorem ones_snoc (m : Nat) : ones m ++ [.int 1] = ones (m + 1) := by
  unfold ones
  rw [← List.replicate_succ']
theorem ones_dp {K : PySem.W.Frag} {H : Hp} : ∀ m : Nat, DpAll K H (ones m) (List.replicate m (.int 1))
  | 0 => .nil
  | m + 1 => .cons (.int 1) (ones_dp m)
theorem ones_lay : ∀ m : Nat, PyData.canLayAll0 (List.replicate m (.int 1)) = true
  | 0 => by simp [PyData.canLayAll0]
  | m + 1 => by
    rw [List.replicate_succ]
    simp [PyData.canLayAll0, PyData.canLay0, ones_lay m]
theorem ones_dep : ∀ m : Nat, PyData.depthAll (List.replicate m (.int 1)) = 0
  | 0 => by simp [PyData.depthAll]
  | m + 1 => by
    rw [List.replicate_succ]
    simp [PyData.depthAll, PyData.depth, ones_dep m]
theorem ones_sh (m : Nat) : SeqAt.shaped (onesD m) = true := by
  unfold onesD
  show (PyData.canLay0 _ && decide (PyData.depth _ ≤ 64)) = true
  rw [Bool.and_eq_true]
  refine ⟨by simp only [PyData.canLay0]; exact ones_lay m, decide_eq_true ?_⟩
  simp only [PyData.depth, ones_dep]
  decide
theorem ones_eqv (m : Nat) : PyData.eqv (onesD m) (.list []) = decide (m = 0) := by
  cases m with
  | zero => rfl
  | succ m => rfl
def wV (ws : List (List Nat)) : List V := ws.map fun w => .str (mS w)
theorem wV_flat (ws : List (List Nat)) : (wV ws).all flatV = true := by
  rw [List.all_eq_true]
  intro x hx
  obtain ⟨a, _, rfl⟩ := List.mem_map.mp hx
  rfl
theorem mS_beq (a b : List Nat) : ((mS a : Str) == mS b) = decide (a = b) := by
  by_cases h : a = b
  · rw [h, decide_eq_true rfl]
    exact beq_self_eq_true _
  · rw [decide_eq_false h]
    exact beq_eq_false_iff_ne.mpr fun z => h (mS_inj z)
theorem in_words (B : List Nat) (ws : List (List Nat)) : inV (.str (mS B)) (wV ws) = decide (B ∈ ws) := by
  unfold inV wV
  rw [List.any_map]
  induction ws with
  | nil => rfl
  | cons w ws ih =>
    rw [List.any_cons, ih]
    show ((mS w == mS B) || _) = _
    rw [mS_beq]
    by_cases h : w = B
    · subst h
      simp
    · have : (B ∈ w :: ws) ↔ B ∈ ws := by
        rw [List.mem_cons]
        exact ⟨fun z => z.resolve_left fun y => h y.symm, .inr⟩
      rw [decide_eq_false h, decide_eq_decide.mpr this, Bool.false_or]
def hits (ws : List (List Nat)) (m : Nat) (B : List Nat) : Nat := (ws.filter fun w => decide (w.take m = B.take m)).length
theorem hits_zero {ws : List (List Nat)} {m : Nat} {B : List Nat} : hits ws m B = 0 ↔ ¬ ∃ w, w ∈ ws ∧ w.take m = B.take m := by
  unfold hits
  rw [List.length_eq_zero_iff, List.filter_eq_nil_iff]
  constructor
  · rintro h ⟨w, hw, e⟩
    exact h w hw (decide_eq_true e)
  · intro h w hw e
    exact h ⟨w, hw, of_decide_eq_true e⟩
def spList : Sp := fun vs H Q _ => ∃ (n : Nat) (B : List Nat), vs = [.int (n : Nat), .str (mS B)] ∧ 1 ≤ n ∧ n ≤ 3 ∧ B.length ≤ 900 ∧ ∀ H' c, Same H H' → IsCol (· ∈ wordsL n) B c → Q (.int (c : Nat)) H'
theorem allS_ne (n : Nat) : ∃ w, w ∈ wordsL n := by
  have : (allS n).length ≠ 0 := by
    rw [allS_many]
    have : 0 < 4 ^ n := Nat.pow_pos (by decide)
    omega
  cases h : allS n with
  | nil => rw [h] at this; exact absurd rfl this
  | cons L X => exact ⟨wordOf L, List.mem_flatMap.mpr ⟨L, by rw [h]; exact List.mem_cons_self, List.mem_cons_self⟩⟩
def two (L : List Nat) : List (List Nat) := [wordOf L, 45 :: wordOf L]
theorem two_len (X : List (List Nat)) : (X.flatMap two).length = X.length * 2 := by
  induction X with
  | nil => rfl
  | cons a X ih =>
    rw [List.flatMap_cons, List.length_append, ih]
    show 2 + X.length * 2 = (X.length + 1) * 2
    omega
theorem wordOf_len {L : List Nat} (h : L.length ≤ 24) : (wordOf L).length ≤ 96 := by
  unfold wordOf
  split
  · decide
  · have := enc_len (pairs 0 L)
    have := pairs_len L 0
    omega
theorem words_short {n : Nat} (hn : n ≤ 3) {w : List Nat} (h : w ∈ wordsL n) : w.length ≤ 97 := by
  obtain ⟨L, hL, h⟩ := List.mem_flatMap.mp h
  have := wordOf_len (L := L) (by have := (allS_len n L hL).1; omega)
  simp only [List.mem_cons, List.mem_nil_iff, or_false] at h
  rcases h with rfl | rfl
  · omega
  · rw [List.length_cons]
    omega
section
variable {P : Program} {w : World} {K : PySem.W.Frag} {mg : Str → Option Value} {base : Heap}
theorem ok_list {f fE fW fL : Addr} {fd dE dW dL : FuncData} {k : Nat} (F : Fun K "_law_by_list" "_law_by_list" sList f fd) (FE : Fun K "_law_every_string" "_law_every_string" sEvery fE dE) (bE : Binds K dE ["_law_size"] []) (gE : mg "_law_every_string" = some (.ref fE))
    (FW : Fun K "_law_word" "_law_word" sWord fW dW) (bW : Binds K dW ["_law_string", "_law_size"] []) (gW : mg "_law_word" = some (.ref fW)) (FL : Fun K "_law_letters" "_law_letters" sLett fL dL) (bL : Binds K dL ["_law_string", "_law_size"] []) (gL : mg "_law_letters" = some (.ref fL)) (B : Bl mg) :
    FnOk P w K mg base CX0 (k + 3) f fd ["_law_size", "_law_word_here"] spList := by
  have GE : FnOk P w K mg base CX0 (k + 2) fE dE ["_law_size"] spEvery := ok_every FE B
  have GW : FnOk P w K mg base CX0 (k + 2) fW dW ["_law_string", "_law_size"] spWord := ok_word FW FL bL gL B
  refine F.ok scList (fun vs H Q E h => ?_) (fun cdv A outer s H vs Q E hr h => ?_)
  · obtain ⟨n, W, rfl, _⟩ := h
    rfl
  · obtain ⟨n, W, rfl, hn1, hn, hl, q⟩ := h
    have hu := hr.units
    refine ⟨_, C8.pss_cut (ps_set (i := 2) scList.nd rfl (.inl rfl) (pe_lst pa_nil))
      (C8.pss_cut (ps_for PassesOwn.never rfl (pi_list (pe_call GE hr (by rfl) gE FE.kp bE .nil pass0 (pa_cons (pv 0) pa_nil))) (pg_name (i := 3) scList.nd rfl (.inl rfl))
        (pss_one (ps_set (i := 2) scList.nd rfl (.inl rfl) (pe_op op_cat (pv 2) (pe_lst (pa_cons (pe_call GW hr (by rfl) gW FW.kp bW .nil pass0 (pa_cons (pv 3) (pa_cons (pv 0) pa_nil)))
          (pa_cons (pe_op op_add_str pe_str (pe_call GW hr (by rfl) gW FW.kp bW .nil pass0 (pa_cons (pv 3) (pa_cons (pv 0) pa_nil)))) pa_nil)))))))
      (C8.pss_cut (ps_if (pt_cmpR (r := rIn K false) op_in_seq (pv 1) (pv 2) (by with_unfolding_all rfl)) (pss_one (ps_ret pe_int)) pss_nil)
      (C8.pss_cut (ps_for PassesOwn.never rfl (pi_range3 (by rfl) B.range (pa_cons (pe_callB call_len_str (by rfl) B.len PySem.boot_len (pa_cons (pv 1) pa_nil)) (pa_cons (pe_un un_neg pe_int) (pa_cons (pe_un un_neg pe_int) pa_nil)))) (pg_name (i := 4) scList.nd rfl (.inr rfl))
        (pss_one (ps_if (pt_cmpR (op_neD hu) (pe_lc (own := [("_law_one", 5)]) (g := gName 5) (by rfl) scList.nd (pi_list (pv 2)) (blkOk_by (own := [("_law_one", 5)]) (N := ["_law_size", "_law_word_here", "_law_words", "_law_string", "_law_many", "_law_one"]) (sc := defScope sList) (by decide +kernel))
            (fun _ _ _ _ _ => pg_name (i := 5) scList.nd rfl (Or.inl rfl)) (fun _ _ _ _ _ => pts_one (pt_cmpR op_eq (pe_slice sl_str (pv 5) po_none (po_some (pv 4))) (pe_slice sl_str (pv 1) po_none (po_some (pv 4))) (nomark _))) (fun _ _ _ _ _ => pe_int)) (pe_lst pa_nil) (nomark _))
          (pss_one (ps_ret (pe_op op_add (pv 4) pe_int))) pss_nil)))
      (pss_one (ps_ret pe_int))))), ?_⟩
    have hz : (mS W).length ≤ sizeLine := by rw [mS_len]; exact sizeBig (by omega)
    refine ⟨fun σ' H' => ∃ wl, σ' = [some (.int (n : Nat)), some (.str (mS W)), some (.ref wl), none, none, none] ∧ Same H H' ∧ H' wl = some (.lst (wV [])), ?_, ?_⟩
    · exact ⟨by show 0 ≤ sizeLine; decide, fun l nl => ⟨l, rfl, same_new nl, upd_same⟩⟩
    rintro _ H1 ⟨wl, rfl, s1, e1⟩
    refine ⟨fun σ' H' => ∃ (wl : Addr) (v3 : Option V), σ' = [some (.int (n : Nat)), some (.str (mS W)), some (.ref wl), v3, none, none] ∧ Same H H' ∧ H' wl = some (.lst (wV (wordsL n))), ?_, ?_⟩
    · refine ⟨_, rfl, n, rfl, hn, fun H2 fo es s2 e2 ev2 m2 => ⟨fo, rfl, ⟨_, SqL.of e2⟩, ?_⟩⟩
      have el : (evV es).length = es.length := by unfold evV; rw [List.length_map]
      have many : es.length ≤ 64 := by
        have := congrArg List.length m2
        rw [List.length_map, allS_many] at this
        have k4 : 4 ^ n ≤ 64 := by
          have : n = 1 ∨ n = 2 ∨ n = 3 := by omega
          rcases this with rfl | rfl | rfl <;> decide
        omega
      refine for_list (xs := evV es) (fun i σ' H' => ∃ (wl : Addr) (v3 : Option V), σ' = [some (.int (n : Nat)), some (.str (mS W)), some (.ref wl), v3, none, none] ∧ Same H2 H' ∧ H' wl = some (.lst (wV (((es.map (·.2)).take i).flatMap two)))) ⟨wl, none, rfl, fun _ _ e => e, s2 _ _ e1⟩ (fun i σ' H' _ h => by
        obtain ⟨_, _, _, s, _⟩ := h
        exact SqL.of (s _ _ e2)) ?_ ?_
      · rintro i x _ H3 hx ⟨wl, v3, rfl, s3, e3⟩
        obtain ⟨a, ha, rfl⟩ : ∃ a, es[i]? = some a ∧ V.ref a.1 = x := by
          unfold evV at hx
          simpa using hx
        obtain ⟨t, L⟩ := a
        have hm : (es.map (·.2))[i]? = some L := by rw [List.getElem?_map, ha]; rfl
        obtain ⟨hL, lL⟩ := allS_len n L (by rw [← m2]; exact List.mem_of_getElem? hm)
        have et : StrAt H3 t L 0 := (ev2 _ (List.mem_of_getElem? ha)).same s3
        have tt : (es.map (·.2)).take (i + 1) = (es.map (·.2)).take i ++ [L] := by
          rw [List.take_succ, hm]
          rfl
        have wl1 := wordOf_len (L := L) (by omega)
        refine ⟨_, rfl, _, rfl, _, rfl, t, L, 0, by rw [hL]; rfl, et, lL, by omega, fun G1 g1 => ?_⟩
        refine ⟨_, rfl, _, rfl, t, L, 0, by rw [hL]; rfl, et.same g1, lL, by omega, fun G2 g2 => ⟨_, _, rfl, rfl, ?_, by show 2 ≤ sizeLine; decide, fun p np => ?_⟩⟩
        · rw [mS_len]
          exact sizeBig (by show 1 + (wordOf L).length ≤ 1000; omega)
        · have s4 := (g1.trans g2).trans (same_new (o := .lst [.str (mS (wordOf L)), .str (("-" : Str) ++ mS (wordOf L))]) np)
          refine ⟨wl, p, _, _, rfl, rfl, s4 _ _ e3, upd_same, ?_, fun p2 np2 => ⟨p2, some (.ref t), rfl, (s3.trans s4).trans (same_new np2), ?_⟩⟩
          · unfold wV
            rw [List.length_map, two_len, List.length_take, List.length_map]
            exact Nat.le_trans (by show _ + 2 ≤ 130; omega) (by decide)
          · rw [upd_same, tt, List.flatMap_append]
            unfold wV
            rw [List.map_append]
            have : ("-" : Str) ++ mS (wordOf L) = mS (45 :: wordOf L) := by
              rw [e_minus]
              show mS [45] ++ mS (wordOf L) = _
              rw [mS_app]
              rfl
            rw [show sg 0 ++ wordOf L = wordOf L from rfl, this]
            rfl
      · rintro _ H3 ⟨wl, v3, rfl, s3, e3⟩
        rw [el, List.take_of_length_le (by rw [List.length_map]; exact Nat.le_refl _), m2] at e3
        exact ⟨wl, v3, rfl, (s1.trans s2).trans s3, e3⟩
    rintro _ H2 ⟨wl, v3, rfl, s2, e2⟩
    obtain ⟨ws, hws⟩ : ∃ ws, ws = wordsL n := ⟨_, rfl⟩
    have wne : ∃ w, w ∈ ws := by rw [hws]; exact allS_ne n
    have wsh : ∀ w ∈ ws, w.length ≤ 97 := fun w hw => words_short hn (by rw [← hws]; exact hw)
    have wlen : ws.length ≤ 128 := by
      rw [hws]
      show ((allS n).flatMap two).length ≤ 128
      rw [two_len, allS_many]
      have : n = 1 ∨ n = 2 ∨ n = 3 := by omega
      rcases this with rfl | rfl | rfl <;> decide
    rw [← hws] at e2 q
    refine ⟨fun σ' H' => σ' = [some (.int (n : Nat)), some (.str (mS W)), some (.ref wl), v3, none, none] ∧ H' = H2 ∧ W ∉ ws, ?_, ?_⟩
    · refine ⟨_, rfl, _, rfl, wl, _, rfl, .inl (SqL.of e2), rfl, wV_flat _, _, rfl, ?_⟩
      rw [show (if false = true then !inV (.str (mS W)) (wV ws) else inV (.str (mS W)) (wV ws)) = decide (W ∈ ws) from in_words W ws]
      by_cases z : W ∈ ws
      · rw [decide_eq_true z]
        exact iteT (q _ 0 s2 (.inl ⟨z, rfl⟩))
      · rw [decide_eq_false z]
        exact iteF ⟨rfl, rfl, z⟩
    rintro _ H3 ⟨rfl, eH, nw⟩
    subst eH
    refine ⟨fun σ' H' => False, ?_, fun _ _ z => z.elim⟩
    refine ⟨_, rfl, _, rfl, hz, _, rfl, _, rfl, ((W.length : Nat) : Int), -1, -1, _, ?_, RgC.neg (by omega) (by omega) (by decide) (by decide), ?_⟩
    · show [V.int ((mS W).length : Nat), _, _] = _
      rw [mS_len]
    refine for_rangeC (n := (((W.length : Nat) : Int) - -1).toNat) (fun t σ' H' => ∃ v4, σ' = [some (.int (n : Nat)), some (.str (mS W)), some (.ref wl), v3, v4, none] ∧ Same H3 H' ∧ ∀ m', W.length < m' + t → m' ≤ W.length → ¬ ∃ w, w ∈ ws ∧ w.take m' = W.take m') ⟨none, rfl, fun _ _ e => e, fun m' h1 h2 => by omega⟩ ?_ ?_
    · rintro t _ H4 ht ⟨v4, rfl, s4, no⟩
      obtain ⟨m, hm⟩ : ∃ m, m = W.length - t := ⟨_, rfl⟩
      have ei : ((W.length : Nat) : Int) + (t : Nat) * (-1) = ((m : Nat) : Int) := by omega
      rw [ei]
      have e4 := s4 _ _ e2
      refine ⟨_, rfl, wl, rfl, ⟨_, SqL.of e4⟩, fun D nD => ?_⟩
      have wl' : (wV ws).length = ws.length := by unfold wV; rw [List.length_map]
      refine lc_list (K := K) (a := wl) (xs := wV ws) (Pv := fun i Hc => Hc D = some (.lst (ones (hits (ws.take i) m W))) ∧ Same H4 Hc) ⟨upd_same, same_new nD⟩ (fun i Hc _ h => SqL.of (h.2 _ _ e4)) ?_ ?_
      · rintro i x Hc hx ⟨eD, sc⟩
        obtain ⟨wd, hw, rfl⟩ : ∃ wd, ws[i]? = some wd ∧ V.str (mS wd) = x := by
          unfold wV at hx
          simpa using hx
        have hzw : (mS wd).length ≤ sizeLine := by
          rw [mS_len]
          have := wsh wd (List.mem_of_getElem? hw)
          exact sizeBig (by omega)
        have tt : ws.take (i + 1) = ws.take i ++ [wd] := by
          rw [List.take_succ, hw]
          rfl
        have hh : hits (ws.take (i + 1)) m W = hits (ws.take i) m W + (if wd.take m = W.take m then 1 else 0) := by
          unfold hits
          rw [tt, List.filter_append, List.length_append]
          congr 1
          by_cases z : wd.take m = W.take m
          · rw [if_pos z]
            simp [List.filter, z]
          · rw [if_neg z]
            simp [List.filter, z]
        refine ⟨rfl, _, rfl, _, rfl, _, rfl, _, rfl, hzw, _, rfl, _, rfl, _, rfl, _, rfl, hz, rfl, _, rfl, ?_⟩
        rw [cut_to, cut_to, hh]
        by_cases z : wd.take m = W.take m
        · rw [if_pos z, decide_eq_true (by rw [z])]
          refine iteT ⟨_, eD, ?_, ?_, ?_⟩
          · unfold ones hits
            rw [List.length_replicate]
            have h1 := List.length_filter_le (fun w => decide (w.take m = W.take m)) (ws.take i)
            rw [List.length_take] at h1
            exact Nat.lt_of_le_of_lt (by omega : _ ≤ 128) (by decide)
          · rw [upd_same, ones_snoc]
          · intro b o e
            rw [upd_ne (ne_of_none e nD)]
            exact sc _ _ e
        · rw [if_neg z, decide_eq_false (fun y => z (mS_inj (V.str.inj y)))]
          exact iteF ⟨eD, sc⟩
      · rintro Hc ⟨eD, sc⟩
        rw [wl', List.take_of_length_le (Nat.le_refl _)] at eD
        refine ⟨by show 0 ≤ sizeLine; decide, fun p np => ⟨onesD (hits ws m W), .list [], .lst (SqL.of (same_new np _ _ eD)) (ones_dp _), .lst (SqL.of upd_same) .nil, ones_sh _, rfl, _, rfl, ?_⟩⟩
        rw [ones_eqv]
        have s5 := (s4.trans sc).trans (same_new (o := HO.lst []) np)
        by_cases z : hits ws m W = 0
        · rw [decide_eq_true z]
          refine iteF ⟨_, rfl, s5, fun m' h1 h2 => ?_⟩
          by_cases y : m' = m
          · rw [y]
            exact hits_zero.mp z
          · exact no m' (by omega) h2
        · rw [decide_eq_false z]
          have hit : ∃ w, w ∈ ws ∧ w.take m = W.take m := by
            by_cases y : ∃ w, w ∈ ws ∧ w.take m = W.take m
            · exact y
            · exact absurd (hits_zero.mpr y) z
          refine iteT ⟨_, rfl, _, _, rfl, rfl, ?_⟩
          have := q _ (m + 1) (s2.trans s5) (.inr ⟨nw, m, rfl, by omega, hit, fun m' h1 h2 => no m' (by omega) h2⟩)
          rw [show ((m + 1 : Nat) : Int) = ((m : Nat) : Int) + 1 by push_cast; rfl] at this
          exact this
    · rintro _ H4 ⟨v4, rfl, s4, no⟩
      obtain ⟨w0, hw0⟩ := wne
      exact no 0 (by omega) (Nat.zero_le _) ⟨w0, hw0, rfl⟩
end
end KQ

namespace KQ
open PySem PySem.Spec PyProof.Rows L2
/-! ### the first wrong sign, as the law reads -/
theorem scCol : FnScope ["_law_size", "_law_word_here", "_law_at", "_law_least", "_law_lap", "_law_told_here", "_law_turn", "_law_more", "_law_place"] ["_law_size", "_law_word_here"] (defScope sCol) := ⟨rfl, rfl, rfl, by decide +kernel, rfl, by decide +kernel, by decide +kernel⟩
def cnt (l i : Nat) (M : List Nat) : Nat := ((List.range' l i).filter fun p => decide ((dec p).take M.length = M)).length
theorem cnt_snoc (l i : Nat) (M : List Nat) : cnt l (i + 1) M = cnt l i M + if (dec (l + i)).take M.length = M then 1 else 0 := by
  unfold cnt
  rw [List.range'_concat, List.filter_append, List.length_append, Nat.one_mul]
  congr 1
  by_cases z : (dec (l + i)).take M.length = M
  · rw [if_pos z]
    simp [List.filter, z]
  · rw [if_neg z]
    simp [List.filter, z]
theorem cnt_le (l i : Nat) (M : List Nat) : cnt l i M ≤ i := by
  have h := List.length_filter_le (fun p => decide ((dec p).take M.length = M)) (List.range' l i)
  rw [List.length_range'] at h
  exact h
theorem cnt_zero {l n : Nat} (h : l ≤ n) {M : List Nat} : cnt l (n - l) M = 0 ↔ ¬ begs l n M = true := by
  unfold cnt
  rw [List.length_eq_zero_iff, List.filter_eq_nil_iff, begs_iff]
  constructor
  · rintro k ⟨p, h1, h2, e⟩
    exact k p (List.mem_range'_1.mpr ⟨h1, by omega⟩) (decide_eq_true e)
  · intro k p hp e
    have := List.mem_range'_1.mp hp
    exact k ⟨p, this.1, by omega, of_decide_eq_true e⟩
theorem plc_mem {l n : Nat} (h : l ≤ n) {ds : List Nat} : ds ∈ (List.range' l (n - l)).map dec ↔ plc l n ds ≠ none := by
  rw [List.mem_map]
  constructor
  · rintro ⟨p, hp, rfl⟩ e
    have := List.mem_range'_1.mp hp
    exact plc_none e p this.1 (by omega) rfl
  · intro k
    cases e : plc l n ds with
    | none => exact absurd e k
    | some p =>
      obtain ⟨h1, h2, h3⟩ := plc_some e
      exact ⟨p, List.mem_range'_1.mpr ⟨h1, by omega⟩, h3⟩
def spColL : Sp := fun vs H Q _ => ∃ (n : Nat) (B : List Nat), vs = [.int (n : Nat), .str (mS B)] ∧ 1 ≤ n ∧ n ≤ 24 ∧ B.length ≤ 900 ∧ ∀ H', Same H H' → Q (.int ((colW n B).1 : Nat)) H'
section
variable {P : Program} {w : World} {K : PySem.W.Frag} {mg : Str → Option Value} {base : Heap}
theorem ok_colL {f : Addr} {fd : FuncData} {k : Nat} (F : Fun K "_law_column" "_law_column" sCol f fd) (B : Bl mg) : FnOk P w K mg base CX0 (k + 1) f fd ["_law_size", "_law_word_here"] spColL := by
  refine F.ok scCol (fun vs H Q E h => ?_) (fun cdv A outer s H vs Q E hr h => ?_)
  · obtain ⟨n, W, rfl, _⟩ := h
    rfl
  · obtain ⟨n, W, rfl, hn1, hn, hl, q⟩ := h
    have hu := hr.units
    refine ⟨_, C8.pss_cut (ps_par (i := 2) (j := 3) rfl scCol.nd rfl rfl (by decide) rfl rfl (pa_cons (pe_callTy call_int1 (by rfl) B.int bootI (pa_cons (pe_cmpR op_eq (pe_slice sl_str (pv 1) po_none (po_some pe_int)) pe_str (nomark _)) pa_nil)) (pa_cons pe_int pa_nil)) rfl)
      (C8.pss_cut (ps_if (pt_cmpR op_eq (pe_slice sl_str (pv 1) (po_some (pv 2)) (po_some (pe_op op_add (pv 2) pe_int))) pe_str (nomark _))
        (pss_one (ps_ret (pe_ifExp (pt_cmpR op_eq (pe_callB call_len_str (by rfl) B.len PySem.boot_len (pa_cons (pv 1) pa_nil)) (pe_op op_add (pv 2) pe_int) (nomark _)) pe_int (pe_op op_add (pv 2) pe_int)))) pss_nil)
      (C8.pss_cut (ps_for PassesOwn.never rfl (pi_range1 (by rfl) B.range (pa_cons (pe_op op_add (pe_callB call_len_str (by rfl) B.len PySem.boot_len (pa_cons (pv 1) pa_nil)) pe_int) pa_nil)) (pg_name (i := 4) scCol.nd rfl (.inl rfl))
        (C8.pss_cut (ps_if (pt_cmpR (r := rIn K true) op_notIn_seq (pe_slice sl_str (pv 1) (po_some (pv 2)) (po_some (pe_op op_add (pv 2) pe_int))) (pe_lst (pa_cons pe_str (pa_cons pe_str (pa_cons pe_str pa_nil)))) (by with_unfolding_all rfl)) (pss_one (ps_ret (pe_op op_add (pv 2) pe_int))) pss_nil)
        (C8.pss_cut (ps_par (i := 2) (j := 5) rfl scCol.nd rfl rfl (by decide) rfl rfl (pa_cons (pe_op op_add (pv 2) pe_int) (pa_cons pe_str pa_nil)) rfl)
        (C8.pss_cut (ps_for PassesOwn.never rfl (pi_range1 (by rfl) B.range (pa_cons pe_int pa_nil)) (pg_name (i := 6) scCol.nd rfl (.inl rfl))
          (C8.pss_cut (ps_set (i := 7) scCol.nd rfl (.inr rfl) (pe_op op_add_str (pv 5) (pe_slice sl_str (pv 1) (po_some (pv 2)) (po_some (pe_op op_add (pv 2) pe_int)))))
          (C8.pss_cut (ps_if (PW.pt (pw_or (pt_cmpR op_eq (pv 7) (pv 5) (nomark _)) (pw_or1 (pt_cmpR (op_eqD hu) (pe_lc (own := [("_law_place", 8)]) (g := gName 8) (by rfl) scCol.nd (pi_range2 (by rfl) B.range (pa_cons (pv 3) (pa_cons (pv 0) pa_nil))) (blkOk_by (own := [("_law_place", 8)]) (N := ["_law_size", "_law_word_here", "_law_at", "_law_least", "_law_lap", "_law_told_here", "_law_turn", "_law_more", "_law_place"]) (sc := defScope sCol) (by decide +kernel))
              (fun _ _ _ _ _ => pg_name (i := 8) scCol.nd rfl (Or.inl rfl)) (fun _ _ _ _ _ => pts_one (pt_cmpR op_eq (pe_slice sl_str (pe_callTy call_str_int (by rfl) B.str bootS (pa_cons (pv 8) pa_nil)) po_none (po_some (pe_callB call_len_str (by rfl) B.len PySem.boot_len (pa_cons (pv 7) pa_nil)))) (pv 7) (nomark _))) (fun _ _ _ _ _ => pe_int)) (pe_lst pa_nil) (nomark _)))))
            (pss_one ps_break) pss_nil)
          (pss_one (ps_par (i := 2) (j := 5) rfl scCol.nd rfl rfl (by decide) rfl rfl (pa_cons (pe_op op_add (pv 2) pe_int) (pa_cons (pv 7) pa_nil)) rfl)))))
        (C8.pss_cut (ps_if (pt_cmpR (r := rIn K true) op_notIn_seq (pv 5) (pe_lc (own := [("_law_place", 8)]) (g := gName 8) (by rfl) scCol.nd (pi_range2 (by rfl) B.range (pa_cons (pv 3) (pa_cons (pv 0) pa_nil))) (blkOk_by (own := [("_law_place", 8)]) (N := ["_law_size", "_law_word_here", "_law_at", "_law_least", "_law_lap", "_law_told_here", "_law_turn", "_law_more", "_law_place"]) (sc := defScope sCol) (by decide +kernel))
            (fun _ _ _ _ _ => pg_name (i := 8) scCol.nd rfl (Or.inl rfl)) (fun _ _ _ _ _ => pts_nil) (fun _ _ _ _ _ => pe_callTy call_str_int (by rfl) B.str bootS (pa_cons (pv 8) pa_nil))) (by with_unfolding_all rfl)) (pss_one (ps_ret (pe_op op_add (pv 2) pe_int))) pss_nil)
        (C8.pss_cut (ps_set (i := 3) scCol.nd rfl (.inl rfl) (pe_op op_add (pe_callTy call_int_str (by rfl) B.int bootI (pa_cons (pv 5) pa_nil)) pe_int))
        (C8.pss_cut (ps_if (pt_cmpR op_eq (pv 2) (pe_callB call_len_str (by rfl) B.len PySem.boot_len (pa_cons (pv 1) pa_nil)) (nomark _)) (pss_one (ps_ret pe_int)) pss_nil)
        (C8.pss_cut (ps_if (PW.pt (pw_or (pt_cmpR op_ne (pe_ix ix_str (pv 1) (pv 2) (fun _ _ => rfl)) pe_str (nomark _)) (pw_or1 (pt_cmpR op_ge (pv 3) (pv 0) (nomark _))))) (pss_one (ps_ret (pe_op op_add (pv 2) pe_int))) pss_nil)
        (pss_one (ps_set (i := 2) scCol.nd rfl (.inl rfl) (pe_op op_add (pv 2) pe_int)))))))))))
      (pss_one (ps_ret (pe_op op_add (pv 2) pe_int))))), ?_⟩
    have hz : (mS W).length ≤ sizeLine := by rw [mS_len]; exact sizeBig (by omega)
    have hb1 : hd1 W ≤ W.length := by
      unfold hd1
      split
      · rename_i h
        cases W with
        | nil => cases h
        | cons a W => simp
      · exact Nat.zero_le _
    obtain ⟨b, hb⟩ : ∃ b, b = hd1 W := ⟨_, rfl⟩
    have ecol : colW n W = if (W.drop b).head? = some 73 then (if W.length = b + 1 then (0, []) else (b + 2, [])) else rd n n 0 (W.drop b) b := by rw [hb]; rfl
    rw [← hb] at hb1
    refine ⟨fun σ' H' => σ' = [some (.int (n : Nat)), some (.str (mS W)), some (.int (b : Nat)), some (.int ((0 : Nat) : Int)), none, none, none, none, none] ∧ H' = H, ?_, ?_⟩
    · refine ⟨_, rfl, _, rfl, _, rfl, hz, rfl, .inr ⟨_, rfl, _, _, rfl, ?_, rfl⟩⟩
      rw [cut_one, show ("-" : Str) = mS [45] from e_minus, take_one, hb]
      unfold hd1
      by_cases z : W.head? = some 45
      · rw [if_pos z, decide_eq_true z]
        rfl
      · rw [if_neg z, decide_eq_false z]
        rfl
    rintro _ H1 ⟨rfl, eH⟩
    subst eH
    refine ⟨fun σ' H' => σ' = [some (.int (n : Nat)), some (.str (mS W)), some (.int (b : Nat)), some (.int ((0 : Nat) : Int)), none, none, none, none, none] ∧ H' = H1 ∧ ¬ (W.drop b).head? = some 73, ?_, ?_⟩
    · refine ⟨_, rfl, _, rfl, _, rfl, _, rfl, _, _, rfl, rfl, _, rfl, _, rfl, hz, rfl, _, rfl, ?_⟩
      have ec : cutS (mS W) (some (b : Int)) (some ((b : Int) + 1)) = mS ((W.drop b).take 1) := cut_mid W b
      rw [ec, show ("I" : Str) = mS [73] from e_I, take_one]
      by_cases z : (W.drop b).head? = some 73
      · rw [decide_eq_true z]
        rw [if_pos z] at ecol
        refine iteT ⟨_, rfl, _, rfl, hz, _, rfl, _, _, rfl, rfl, rfl, _, rfl, ?_⟩
        rw [mS_len]
        by_cases y : W.length = b + 1
        · rw [if_pos y] at ecol
          rw [decide_eq_true (by rw [y]; push_cast; rfl)]
          have := q _ (fun _ _ e => e)
          rw [ecol] at this
          exact iteT this
        · rw [if_neg y] at ecol
          rw [decide_eq_false (fun e => y (by have := V.int.inj e; omega))]
          have := q _ (fun _ _ e => e)
          rw [ecol, show ((b + 2 : Nat) : Int) = ((b : Nat) : Int) + 2 by push_cast; rfl] at this
          exact iteF ⟨_, rfl, _, _, rfl, rfl, this⟩
      · rw [decide_eq_false z]
        exact iteF ⟨rfl, rfl, z⟩
    rintro _ H2 ⟨rfl, eH, nI⟩
    subst eH
    rw [if_neg nI] at ecol
    obtain ⟨c0, hc0⟩ : ∃ c0, c0 = (colW n W).1 := ⟨_, rfl⟩
    rw [← hc0] at q
    refine ⟨fun σ' H' => False, ?_, fun _ _ z => z.elim⟩
    refine ⟨_, rfl, _, rfl, hz, _, _, rfl, rfl, ((W.length + 1 : Nat) : Int), ?_, by omega, by omega, ?_⟩
    · rw [mS_len]
      push_cast
      rfl
    rw [Int.toNat_natCast]
    refine for_range (n := W.length + 1) (fun lap σ' H' => ∃ (i l k : Nat) (v4 v5 v6 v7 : Option V), σ' = [some (.int (n : Nat)), some (.str (mS W)), some (.int (i : Nat)), some (.int (l : Nat)), v4, v5, v6, v7, none] ∧ Same H2 H' ∧ l < n ∧ n ≤ l + k ∧ i ≤ W.length ∧ lap ≤ i ∧ (rd n k l (W.drop i) i).1 = c0) ⟨b, 0, n, none, none, none, none, rfl, (fun _ _ e => e), by omega, by omega, hb1, Nat.zero_le _, by rw [hc0, ecol]⟩ ?_ ?_
    · rintro lap _ H3 hlap ⟨i, l, k, v4, v5, v6, v7, rfl, s3, hln, hk, hi, li, c1⟩
      obtain ⟨k, rfl⟩ : ∃ k', k = k' + 1 := ⟨k - 1, by omega⟩
      refine ⟨fun σ' H' => σ' = [some (.int (n : Nat)), some (.str (mS W)), some (.int (i : Nat)), some (.int (l : Nat)), some (.int (0 + (lap : Nat))), v5, v6, v7, none] ∧ Same H2 H' ∧ ∃ c, W[i]? = some c ∧ isXYZ c, ?_, ?_⟩
      · refine ⟨_, rfl, _, rfl, _, rfl, _, rfl, _, _, rfl, rfl, _, rfl, _, rfl, hz, by show 3 ≤ sizeLine; decide, fun t nt => ⟨t, _, rfl, .inl (SqL.of upd_same), rfl, rfl, _, rfl, ?_⟩⟩
        have ec : cutS (mS W) (some (i : Int)) (some ((i : Int) + 1)) = mS ((W.drop i).take 1) := cut_mid W i
        rw [ec, if_pos rfl, in_xyz]
        have hh : (W.drop i).head? = W[i]? := by rw [List.head?_drop]
        by_cases z : ∃ c, (W.drop i).head? = some c ∧ isXYZ c
        · rw [decide_eq_true z]
          obtain ⟨c, z1, z2⟩ := z
          exact iteF ⟨rfl, s3.trans (same_new nt), c, hh ▸ z1, z2⟩
        · rw [decide_eq_false z]
          have := q _ (s3.trans (same_new (o := HO.lst [.str "X", .str "Y", .str "Z"]) nt))
          rw [← c1, rd_no (fun c e x => z ⟨c, e, x⟩), show ((i + 1 : Nat) : Int) = ((i : Nat) : Int) + 1 by push_cast; rfl] at this
          exact iteT ⟨_, rfl, _, _, rfl, rfl, this⟩
      rintro _ H4 ⟨rfl, s4, c, hc, hx⟩
      have eR := drop_cons hc
      have iW : i < W.length := (List.getElem?_eq_some_iff.mp hc).1
      rw [eR] at c1
      obtain ⟨R1, hR1⟩ : ∃ R1, R1 = W.drop (i + 1) := ⟨_, rfl⟩
      rw [← hR1] at c1
      have hR1l : R1.length = W.length - (i + 1) := by rw [hR1, List.length_drop]
      refine ⟨fun σ' H' => σ' = [some (.int (n : Nat)), some (.str (mS W)), some (.int ((i + 1 + 0 : Nat) : Int)), some (.int (l : Nat)), some (.int (0 + (lap : Nat))), some (.str (mS (R1.take 0))), v6, v7, none] ∧ Same H2 H', ?_, ?_⟩
      · refine ⟨_, rfl, _, _, rfl, rfl, _, _, rfl, ?_, s4⟩
        show [_, _, some (V.int (((i : Nat) : Int) + 1)), _, _, some (V.str ("" : Str)), _, _, _] = _
        rw [show ((i : Nat) : Int) + 1 = ((i + 1 + 0 : Nat) : Int) by push_cast; omega, e_no]
        rfl
      rintro _ H5 ⟨rfl, s5⟩
      -- the digits
      refine ⟨fun σ' H' => ∃ (j : Nat) (v6 v7 : Option V), σ' = [some (.int (n : Nat)), some (.str (mS W)), some (.int ((i + 1 + j : Nat) : Int)), some (.int (l : Nat)), some (.int (0 + (lap : Nat))), some (.str (mS (R1.take j))), v6, v7, none] ∧ Same H2 H' ∧ j ≤ R1.length ∧ dg l n R1 = R1.take j, ?_, ?_⟩
      · refine ⟨3, rfl, by decide, by decide, ?_⟩
        refine for_range (n := 3) (fun j σ' H' => ∃ (v6 v7 : Option V), σ' = [some (.int (n : Nat)), some (.str (mS W)), some (.int ((i + 1 + j : Nat) : Int)), some (.int (l : Nat)), some (.int (0 + (lap : Nat))), some (.str (mS (R1.take j))), v6, v7, none] ∧ Same H2 H' ∧ j ≤ R1.length ∧ (j = 0 ∨ begs l n (R1.take j) = true)) ⟨v6, v7, rfl, s5, Nat.zero_le _, .inl rfl⟩ ?_ ?_
        · rintro j _ H6 hj ⟨v6, v7, rfl, s6, jl, jb⟩
          obtain ⟨M, hM⟩ : ∃ M, M = R1.take (j + 1) := ⟨_, rfl⟩
          have eM : R1.take j ++ (R1.drop j).take 1 = M := by
            rw [hM, List.take_add]
          have Ml : M.length ≤ 3 := by rw [hM, List.length_take]; omega
          refine ⟨fun σ' H' => σ' = [some (.int (n : Nat)), some (.str (mS W)), some (.int ((i + 1 + j : Nat) : Int)), some (.int (l : Nat)), some (.int (0 + (lap : Nat))), some (.str (mS (R1.take j))), some (.int (0 + (j : Nat))), some (.str (mS M)), none] ∧ Same H2 H', ?_, ?_⟩
          · refine ⟨_, rfl, _, rfl, _, rfl, _, rfl, _, rfl, _, _, rfl, rfl, _, rfl, _, rfl, hz, ?_⟩
            have ec : cutS (mS W) (some ((i + 1 + j : Nat) : Int)) (some (((i + 1 + j : Nat) : Int) + 1)) = mS ((R1.drop j).take 1) := by
              rw [cut_mid W (i + 1 + j), hR1, List.drop_drop]
            rw [ec]
            refine ⟨_, _, rfl, rfl, ?_, ?_, s6⟩
            · rw [mS_len, mS_len, List.length_take, List.length_take]
              exact sizeBig (by omega)
            · rw [mS_app, eM]
              rfl
          rintro _ H7 ⟨rfl, s7⟩
          refine ⟨fun σ' H' => σ' = [some (.int (n : Nat)), some (.str (mS W)), some (.int ((i + 1 + j : Nat) : Int)), some (.int (l : Nat)), some (.int (0 + (lap : Nat))), some (.str (mS (R1.take j))), some (.int (0 + (j : Nat))), some (.str (mS M)), none] ∧ Same H2 H' ∧ j < R1.length ∧ begs l n M = true, ?_, ?_⟩
          · refine ⟨_, rfl, _, rfl, rfl, _, rfl, ?_⟩
            by_cases z : j < R1.length
            · have ne : M ≠ R1.take j := by
                intro e
                have := congrArg List.length e
                rw [hM, List.length_take, List.length_take] at this
                omega
              rw [decide_eq_false (fun y => ne (mS_inj (V.str.inj y)))]
              refine iteF ⟨_, rfl, _, rfl, (l : Int), (n : Int), rfl, ⟨by omega, by omega, by omega, by omega⟩, fun D nD => ?_⟩
              have en : ((n : Int) - (l : Int)).toNat = n - l := by omega
              rw [en]
              refine lc_range (lo := (l : Int)) (n := n - l) (Pv := fun i Hc => Hc D = some (.lst (ones (cnt l i M))) ∧ Same H7 Hc) ⟨upd_same, same_new nD⟩ ?_ ?_
              · rintro p Hc hp ⟨eD, sc⟩
                have es : (toString ((l : Int) + (p : Nat)) : Str) = mS (dec (l + p)) := by
                  rw [show (l : Int) + (p : Nat) = ((l + p : Nat) : Int) by push_cast; rfl]
                  exact str_dec (by omega)
                refine ⟨rfl, _, rfl, (l : Int) + (p : Nat), rfl, ?_, ?_⟩
                · rw [show (l : Int) + (p : Nat) = ((l + p : Nat) : Int) by push_cast; rfl, Int.natAbs_natCast]
                  have := Nat.log2_le_self (l + p)
                  omega
                rw [es, cnt_snoc]
                refine ⟨_, rfl, _, rfl, by rw [mS_len]; exact sizeBig (by omega), _, rfl, _, rfl, by rw [mS_len]; have := dec_len (p := l + p); exact sizeBig (by omega), ?_⟩
                rw [mS_len, cut_to]
                refine ⟨_, rfl, rfl, _, rfl, ?_⟩
                by_cases y : (dec (l + p)).take M.length = M
                · rw [if_pos y, y, decide_eq_true rfl]
                  refine iteT ⟨_, eD, ?_, ?_, ?_⟩
                  · unfold ones
                    rw [List.length_replicate]
                    have := cnt_le l p M
                    exact Nat.lt_of_le_of_lt (by omega : _ ≤ 24) (by decide)
                  · rw [upd_same, ones_snoc]
                  · intro b o e
                    rw [upd_ne (ne_of_none e nD)]
                    exact sc _ _ e
                · rw [if_neg y, decide_eq_false (fun x => y (mS_inj (V.str.inj x)))]
                  exact iteF ⟨eD, sc⟩
              · rintro Hc ⟨eD, sc⟩
                refine ⟨by show 0 ≤ sizeLine; decide, fun p np => ⟨onesD (cnt l (n - l) M), .list [], .lst (SqL.of (same_new np _ _ eD)) (ones_dp _), .lst (SqL.of upd_same) .nil, ones_sh _, rfl, _, rfl, ?_⟩⟩
                rw [ones_eqv]
                have s8 := (s7.trans sc).trans (same_new (o := HO.lst []) np)
                by_cases y : cnt l (n - l) M = 0
                · rw [decide_eq_true y]
                  have nb := (cnt_zero (by omega)).mp y
                  exact iteT ⟨j, _, _, rfl, s8, jl, dg_of jl jb (.inr (by rw [← hM]; exact nb))⟩
                · rw [decide_eq_false y]
                  refine iteF ⟨rfl, s8, z, ?_⟩
                  by_cases x : begs l n M = true
                  · exact x
                  · exact absurd ((cnt_zero (by omega)).mpr x) y
            · have e : M = R1.take j := by
                rw [hM, List.take_of_length_le (by omega), List.take_of_length_le (by omega)]
              rw [e, decide_eq_true rfl]
              exact iteT ⟨j, _, _, rfl, s7, jl, dg_of jl jb (.inl (by omega))⟩
          rintro _ H8 ⟨rfl, s8, z, bg⟩
          refine ⟨_, rfl, _, _, rfl, rfl, _, rfl, _, _, rfl, some (.int (0 + (j : Nat))), some (.str (mS M)), ?_, s8, z, .inr (by rw [← hM]; exact bg)⟩
          show [_, _, some (V.int (((i + 1 + j : Nat) : Int) + 1)), _, _, some (V.str (mS M)), _, _, _] = _
          rw [hM, show ((i + 1 + j : Nat) : Int) + 1 = ((i + 1 + (j + 1) : Nat) : Int) by push_cast; omega]
        · rintro _ H6 ⟨v6, v7, rfl, s6, jl, jb⟩
          have := begs_len (jb.resolve_left (by decide))
          rw [List.length_take] at this
          omega
      rintro _ H6 ⟨j, v6, v7, rfl, s6, jl, ed⟩
      obtain ⟨ds, hds⟩ : ∃ ds, ds = R1.take j := ⟨_, rfl⟩
      have dl : ds.length = j := by rw [hds, List.length_take]; omega
      rw [← hds] at ed ⊢
      have dl2 : ds.length ≤ 2 := by
        rw [← ed]
        unfold dg
        split
        · split
          · rw [List.length_take]; omega
          · rw [List.length_take]; omega
        · exact Nat.zero_le _
      refine ⟨fun σ' H' => ∃ p, plc l n ds = some p ∧ σ' = [some (.int (n : Nat)), some (.str (mS W)), some (.int ((i + 1 + j : Nat) : Int)), some (.int (l : Nat)), some (.int (0 + (lap : Nat))), some (.str (mS ds)), v6, v7, none] ∧ Same H2 H', ?_, ?_⟩
      · refine ⟨_, rfl, _, rfl, _, rfl, (l : Int), (n : Int), rfl, ⟨by omega, by omega, by omega, by omega⟩, fun D nD => ?_⟩
        have en : ((n : Int) - (l : Int)).toNat = n - l := by omega
        rw [en]
        refine lc_range (lo := (l : Int)) (n := n - l) (Pv := fun i Hc => Hc D = some (.lst (wV ((List.range' l i).map dec))) ∧ Same H6 Hc) ⟨upd_same, same_new nD⟩ ?_ ?_
        · rintro p Hc hp ⟨eD, sc⟩
          have es : (toString ((l : Int) + (p : Nat)) : Str) = mS (dec (l + p)) := by
            rw [show (l : Int) + (p : Nat) = ((l + p : Nat) : Int) by push_cast; rfl]
            exact str_dec (by omega)
          refine ⟨rfl, _, rfl, (l : Int) + (p : Nat), rfl, ?_, ?_⟩
          · rw [show (l : Int) + (p : Nat) = ((l + p : Nat) : Int) by push_cast; rfl, Int.natAbs_natCast]
            have := Nat.log2_le_self (l + p)
            omega
          rw [es]
          refine ⟨_, eD, ?_, ?_, ?_⟩
          · unfold wV
            rw [List.length_map, List.length_map, List.length_range']
            exact Nat.lt_of_le_of_lt (by omega : _ ≤ 24) (by decide)
          · rw [upd_same, List.range'_concat, Nat.one_mul, List.map_append]
            unfold wV
            rw [List.map_append]
            rfl
          · intro b o e
            rw [upd_ne (ne_of_none e nD)]
            exact sc _ _ e
        · rintro Hc ⟨eD, sc⟩
          refine ⟨D, _, rfl, .inl (SqL.of eD), rfl, wV_flat _, _, rfl, ?_⟩
          rw [if_pos rfl, in_words]
          cases hp : plc l n ds with
          | none =>
            rw [decide_eq_false (fun y => (plc_mem (by omega)).mp y hp)]
            have := q _ (s6.trans sc)
            rw [← c1, rd_bad hx (by rw [ed]; exact hp), ed, dl, show ((i + 1 + j + 1 : Nat) : Int) = ((i + 1 + j : Nat) : Int) + 1 by push_cast; rfl] at this
            exact iteT ⟨_, rfl, _, _, rfl, rfl, this⟩
          | some p =>
            rw [decide_eq_true ((plc_mem (by omega)).mpr (by rw [hp]; simp))]
            exact iteF ⟨p, rfl, rfl, s6.trans sc⟩
      rintro _ H7 ⟨p, hp, rfl, s7⟩
      obtain ⟨hp1, hp2, hp3⟩ := plc_some hp
      have d0 : ds ≠ [] := by rw [← hp3]; exact dec_ne p
      have hD : ∀ x ∈ ds, isD x := by rw [← hp3]; exact dec_dig (by omega)
      have iv := int_val d0 (by omega) hD
      have vp : val ds = p := by
        have hbg : begs l n ds = true := begs_iff.mpr ⟨p, hp1, hp2, by rw [hp3]; exact List.take_length⟩
        exact (dg_val (by omega) hbg d0).2 p hp
      rw [vp] at iv
      have hpd : plc l n (dg l n R1) = some p := by rw [ed]; exact hp
      refine ⟨fun σ' H' => σ' = [some (.int (n : Nat)), some (.str (mS W)), some (.int ((i + 1 + j : Nat) : Int)), some (.int ((p + 1 : Nat) : Int)), some (.int (0 + (lap : Nat))), some (.str (mS ds)), v6, v7, none] ∧ H' = H7, ?_, ?_⟩
      · refine ⟨_, rfl, _, _, rfl, iv, by rw [mS_len]; omega, _, _, rfl, rfl, ?_, rfl⟩
        show [_, _, _, some (V.int (((p : Nat) : Int) + 1)), _, _, _, _, _] = _
        rw [show ((p : Nat) : Int) + 1 = ((p + 1 : Nat) : Int) by push_cast; rfl]
      rintro _ H8 ⟨rfl, eH⟩
      subst eH
      refine ⟨fun σ' H' => σ' = [some (.int (n : Nat)), some (.str (mS W)), some (.int ((i + 1 + j : Nat) : Int)), some (.int ((p + 1 : Nat) : Int)), some (.int (0 + (lap : Nat))), some (.str (mS ds)), v6, v7, none] ∧ H' = H8 ∧ i + 1 + j < W.length, ?_, ?_⟩
      · refine ⟨_, rfl, _, rfl, _, rfl, hz, rfl, _, rfl, ?_⟩
        rw [mS_len]
        by_cases z : i + 1 + j = W.length
        · rw [decide_eq_true (by rw [z])]
          have he : R1.drop (dg l n R1).length = [] := by
            rw [ed, dl]
            exact List.drop_of_length_le (by omega)
          have := q _ s7
          rw [← c1, rd_end hx hpd he] at this
          exact iteT this
        · rw [decide_eq_false (fun e => z (by have := V.int.inj e; omega))]
          exact iteF ⟨rfl, rfl, by omega⟩
      rintro _ H9 ⟨rfl, eH, hlt⟩
      subst eH
      obtain ⟨sgn, hsg⟩ : ∃ sgn, W[i + 1 + j]? = some sgn := ⟨_, List.getElem?_eq_getElem hlt⟩
      have hat2 : atI (mS W).cps.toList ((i + 1 + j : Nat) : Int) = some sgn := by
        have e : (mS W).cps.toList = W := by simp
        rw [e]
        exact atI_nat hsg
      have he : R1.drop (dg l n R1).length = sgn :: W.drop (i + 1 + j + 1) := by
        rw [ed, dl, hR1, List.drop_drop]
        exact drop_cons hsg
      refine ⟨fun σ' H' => σ' = [some (.int (n : Nat)), some (.str (mS W)), some (.int ((i + 1 + j : Nat) : Int)), some (.int ((p + 1 : Nat) : Int)), some (.int (0 + (lap : Nat))), some (.str (mS ds)), v6, v7, none] ∧ H' = H9 ∧ sgn = 42 ∧ p + 1 < n, ?_, ?_⟩
      · have stop : ¬ (sgn = 42 ∧ p + 1 < n) → Q (.int (((i + 1 + j : Nat) : Int) + 1)) H9 := fun z => by
          have := q _ s7
          rw [← c1, rd_stop hx hpd he z, ed, dl, show ((i + 1 + j + 1 : Nat) : Int) = ((i + 1 + j : Nat) : Int) + 1 by push_cast; rfl] at this
          exact this
        refine ⟨_, rfl, _, rfl, _, _, sgn, rfl, rfl, hz, hat2, rfl, _, rfl, ?_⟩
        rw [e_star]
        by_cases z1 : sgn = 42
        · subst z1
          rw [decide_eq_true rfl]
          refine iteF ⟨_, rfl, _, rfl, _, _, rfl, rfl, _, rfl, ?_⟩
          by_cases z2 : p + 1 < n
          · rw [decide_eq_false (by omega)]
            exact iteF ⟨rfl, rfl, rfl, z2⟩
          · rw [decide_eq_true (by omega)]
            exact iteT ⟨_, rfl, _, _, rfl, rfl, stop fun y => z2 y.2⟩
        · rw [decide_eq_false (fun y => z1 (by have := mS_inj (V.str.inj y : mS [sgn] = mS [42]); simpa using this))]
          exact iteT ⟨_, rfl, _, _, rfl, rfl, stop fun y => z1 y.1⟩
      rintro _ H10 ⟨rfl, eH, z1, z2⟩
      subst eH
      rw [rd_go hx hpd he ⟨z1, z2⟩, ed, dl] at c1
      refine ⟨_, rfl, _, _, rfl, rfl, i + 1 + j + 1, p + 1, k, some (.int (0 + (lap : Nat))), some (.str (mS ds)), v6, v7, ?_, s7, z2, by omega, by omega, by omega, c1⟩
      show [_, _, some (V.int (((i + 1 + j : Nat) : Int) + 1)), _, _, _, _, _, _] = _
      rw [show ((i + 1 + j : Nat) : Int) + 1 = ((i + 1 + j + 1 : Nat) : Int) by push_cast; rfl]
    · rintro _ H3 ⟨i, l, k, v4, v5, v6, v7, rfl, s3, hln, hk, hi, li, c1⟩
      omega
end
end KQ

namespace KQ
open PySem PySem.Spec PyProof.Rows L2 LamX
/-! ### what a call refuses -/
theorem scWhy : FnScope ["_law_call", "_law_found", "e"] ["_law_call"] (defScope sWhy) := ⟨rfl, rfl, rfl, by decide +kernel, rfl, by decide +kernel, by decide +kernel⟩
def TTw (CT CN : Addr) : (XK → Hp → VK → Prop) → Hp → VK → Prop := fun tl H Q => ∀ p0, H p0 = none →
  tl (fun cls d H' => (∃ (dd : Addr) (l c : V), cls = .ref CT ∧ d = some dd ∧ H' dd = some (.xd (xdT l c)) ∧ ∀ p, H' p = none → Q (.ref p) (upd H' p (.tup [.str "text", l, c]))) ∨
    ∃ (dd : Addr) (wd v : V), cls = .ref CN ∧ d = some dd ∧ H' dd = some (.xd (xdB wd v)) ∧ ∀ p, H' p = none → Q (.ref p) (upd H' p (.tup [.str "number", wd, v]))) (upd H p0 (.tup [.str "none"])) (fun _ H' => ∃ v, (some (some (V.ref p0)) : Option (Option V)) = some (some v) ∧ Q v H')
theorem lkL (l c : V) : (xdT l c).lookup ("line" : Str) = some l := by
  show ([("column", c), ("line", l)] : List (Str × V)).lookup ("line" : Str) = some l
  rw [lookup_put, if_neg (by decide +kernel), lookup_put, if_pos rfl]
theorem lkC (l c : V) : (xdT l c).lookup ("column" : Str) = some c := by
  show ([("column", c), ("line", l)] : List (Str × V)).lookup ("column" : Str) = some c
  rw [lookup_put, if_pos rfl]
theorem lkW (wd v : V) : (xdB wd v).lookup ("what" : Str) = some wd := by
  show ([("number", v), ("what", wd)] : List (Str × V)).lookup ("what" : Str) = some wd
  rw [lookup_put, if_neg (by decide +kernel), lookup_put, if_pos rfl]
theorem lkN (wd v : V) : (xdB wd v).lookup ("number" : Str) = some v := by
  show ([("number", v), ("what", wd)] : List (Str × V)).lookup ("number" : Str) = some v
  rw [lookup_put, if_pos rfl]
/-- the five classes that the clauses name -/
structure Five (K : PySem.W.Frag) (mg : Str → Option Value) (CT CN cU cA cM : Addr) : Prop where
  gT : mg "BadText" = some (.ref CT)
  gN : mg "BadNumber" = some (.ref CN)
  gU : mg "Unlike" = some (.ref cU)
  gA : mg "Anticommute" = some (.ref cA)
  gM : mg "MinusOne" = some (.ref cM)
  t0 : PySem.W.findIn K (.ref CT) "line" = some none
  t1 : PySem.W.findIn K (.ref CT) "column" = some none
  m0 : PySem.W.findIn K (.ref CN) "what" = some none
  m1 : PySem.W.findIn K (.ref CN) "number" = some none
  n1 : PySem.W.findIn K (.ref CT) "what" = some none
  n3 : PySem.W.findIn K (.ref CT) "one" = some none
  n4 : PySem.W.findIn K (.ref CT) "other" = some none
  n5 : PySem.W.findIn K (.ref CT) "indices" = some none
  XT : XfC K CT
  XN : XfC K CN
  exTT : PySem.W.exmOne K (.ref CT) (.ref CT) = some true
  exNT : PySem.W.exmOne K (.ref CN) (.ref CT) = some false
  exNN : PySem.W.exmOne K (.ref CN) (.ref CN) = some true
theorem why_gives {X : Cx} {CT CN g cU cA cM : Addr} {cdg : Value} {q : Str} (V5 : Five X.K X.mg CT CN cU cA cM) : GivesTo X ["_law_call", "_law_found", "e"] "_law_why" (defScope sWhy) g cdg (defBody sWhy) "_law_call" q (TTw CT CN) := by
  intro f c' s H Q tl act hc h
  refine ⟨_, pss_cons (ps_set (i := 1) scWhy.nd rfl (.inl rfl) (pe_tup (pa_cons pe_str pa_nil))) (pss_cons (ps_try_list (X := (cxOf C8.CX0 X.prog X.w X.K X.mg X.base ["_law_call", "_law_found", "e"] "_law_why" (defScope sWhy) g cdg X.A X.stack s H C8.E0).nox) (k := 2) (nm := "e")
      (tb := fun W D σ H => ∃ Ech : XK, (∀ cls d σ' H', σ'.length = 3 → Ech cls d H' → W cls d σ' H') ∧ σ[0]? = some (some (.ref f)) ∧ H c' = some (CodeO c' q) ∧ tl Ech H (fun _ H' => D.nx σ H'))
      rfl rfl scWhy.nd rfl rfl LamX.takes0 (fun W pn xe tk _ => ?_)
      (.next (cl := .ref CT) ⟨rfl, by decide, .inl V5.gT⟩ (fun a oe cls d pn hz hf => pss_one (ps_set (i := 1) scWhy.nd rfl (.inl rfl) (pe_tup (pa_cons pe_str (pa_cons (pe_xf V5.XT V5.t0 hz hf (pv 2)) (pa_cons (pe_xf V5.XT V5.t1 hz hf (pv 2)) pa_nil))))))
      (.next (cl := .ref CN) ⟨rfl, by decide, .inl V5.gN⟩ (fun a oe cls d pn hz hf => pss_one (ps_set (i := 1) scWhy.nd rfl (.inl rfl) (pe_tup (pa_cons pe_str (pa_cons (pe_xf V5.XN V5.m0 hz hf (pv 2)) (pa_cons (pe_xf V5.XN V5.m1 hz hf (pv 2)) pa_nil))))))
      (.next (cl := .ref cU) ⟨rfl, by decide, .inl V5.gU⟩ (fun a oe cls d pn hz hf => pss_one (ps_set (i := 1) scWhy.nd rfl (.inl rfl) (pe_tup (pa_cons pe_str (pa_cons (pe_xf V5.XT V5.n1 hz hf (pv 2)) pa_nil)))))
      (.next (cl := .ref cA) ⟨rfl, by decide, .inl V5.gA⟩ (fun a oe cls d pn hz hf => pss_one (ps_set (i := 1) scWhy.nd rfl (.inl rfl) (pe_tup (pa_cons pe_str (pa_cons (pe_xf V5.XT V5.n3 hz hf (pv 2)) (pa_cons (pe_xf V5.XT V5.n4 hz hf (pv 2)) pa_nil))))))
      (.next (cl := .ref cM) ⟨rfl, by decide, .inl V5.gM⟩ (fun a oe cls d pn hz hf => pss_one (ps_set (i := 1) scWhy.nd rfl (.inl rfl) (pe_tup (pa_cons pe_str (pa_cons (pe_xf V5.XT V5.n5 hz hf (pv 2)) pa_nil)))))
      .done))))))
    (pss_one (ps_ret (pv 1)))), ?_⟩
  · refine ⟨fun pins s' σ H' D I h' => ?_⟩
    obtain ⟨Ech, hW, h1, h2, h3⟩ := h'
    have tk' : Takes ((cxOf C8.CX0 X.prog X.w X.K X.mg X.base ["_law_call", "_law_found", "e"] "_law_why" (defScope sWhy) g cdg X.A X.stack s H C8.E0).tr pn xe) (fun cls d σ H => σ.length = 3 → W cls d σ H) :=
      fun u s' ⟨a, B, sI, pins, σ, H, cls, d, e, I, nb, up, sky, na, os, ag, w⟩ => tk u s' ⟨a, B, sI, pins, σ, H, cls, d, e, I, nb, up, sky, na, os, ag, w I.len⟩
    have hp := fun p1 p2 => act (fun cls d σ H => σ.length = 3 → W cls d σ H) pn xe Ech p1 p2 tk' (fun cls d σ' H' h hl => hW cls d σ' H' hl h)
    exact (pss_one (ps_expr (hp _ _))).run pins s' σ H' D I ⟨h1, h2, h3⟩
  · refine ⟨by show 1 ≤ sizeLine; decide, fun p0 np => ?_⟩
    have hc0 : c' ≠ p0 := ne_of_none hc np
    refine ⟨fun cls d H' => (∃ (dd : Addr) (l c : V), cls = .ref CT ∧ d = some dd ∧ H' dd = some (.xd (xdT l c)) ∧ ∀ p, H' p = none → Q (.ref p) (upd H' p (.tup [.str "text", l, c]))) ∨
      ∃ (dd : Addr) (wd v : V), cls = .ref CN ∧ d = some dd ∧ H' dd = some (.xd (xdB wd v)) ∧ ∀ p, H' p = none → Q (.ref p) (upd H' p (.tup [.str "number", wd, v])), fun cls d σ' H' hl hE => ?_, rfl, (upd_ne hc0).trans hc, ?_⟩
    · rcases hE with ⟨dd, l, c, rfl, rfl, hd, hq⟩ | ⟨dd, wd, v, rfl, rfl, hd, hq⟩
      · refine ⟨true, V5.exTT, fun _ a na => ?_, fun z => nomatch z⟩
        have h2 : (σ'.set 2 (some (V.ref a)))[2]? = some (some (V.ref a)) := by
          rw [List.getElem?_set_self (by omega)]
        refine ⟨_, h2, rfl, rfl, dd, _, l, rfl, hd, lkL l c, ?_⟩
        refine ⟨_, h2, rfl, rfl, dd, _, c, rfl, hd, lkC l c, by show 3 ≤ sizeLine; decide, fun p np => ?_⟩
        refine ⟨_, ?_, hq p np⟩
        rw [List.getElem?_set_ne (by decide), List.getElem?_set_self (by rw [List.length_set]; omega)]
      · refine ⟨false, V5.exNT, (fun z => nomatch z), fun _ => ⟨true, V5.exNN, fun _ a na => ?_, fun z => nomatch z⟩⟩
        have h2 : (σ'.set 2 (some (V.ref a)))[2]? = some (some (V.ref a)) := by
          rw [List.getElem?_set_self (by omega)]
        refine ⟨_, h2, rfl, rfl, dd, _, wd, rfl, hd, lkW wd v, ?_⟩
        refine ⟨_, h2, rfl, rfl, dd, _, v, rfl, hd, lkN wd v, by show 3 ≤ sizeLine; decide, fun p np => ?_⟩
        refine ⟨_, ?_, hq p np⟩
        rw [List.getElem?_set_ne (by decide), List.getElem?_set_self (by rw [List.length_set]; omega)]
    · exact h p0 np
end KQ

namespace KQ
open PySem PySem.Spec PyProof.Rows L2 LamX
/-! ### the law's top, and what its reading needs -/
theorem scLaw : FnScope ["_law_script", "_law_pen_here", "_law_lap", "_law_size", "_law_plain", "_law_string", "_law_word_here", "_law_made", "_law_turn", "_law_at", "_law_sign", "_law_bent", "_law_column_here", "_law_odd", "_law_bad", "_law_phased", "_law_told_here"] ["_law_script"] (defScope sLaw) := ⟨rfl, rfl, rfl, by decide +kernel, rfl, by decide +kernel, by decide +kernel⟩
theorem bootL : bootBuiltins "list" = some (.type "list") := by decide +kernel
/-- all that the program's top has left -/
structure Top (K : PySem.W.Frag) (mg : Str → Option Value) (C CT CN cU cA cM fI fE fB fN hA fG fPl fWo fC fR fD fM fPn fDr fPk fOn fLe fTl fOt fWd fWt fSo fWy fTo fEv fCo fBy : Addr) (dI dE dB dN dG dPl dWo dC dR dD dM dPn dDr dPk dOn dLe dTl dOt dWd dWt dSo dWy dTo dEv dCo dBy : FuncData) : Prop where
  B : Bl mg
  T : BT K mg CT fB dB
  TN : BN K mg CN fN dN
  N : PCl K mg C fI fE
  hd : Hd4 K mg hA
  V : Five K mg CT CN cU cA cM
  FI : Fun K "__init__" "Pauli.__init__" sInit fI dI
  bI : Binds K dI ["self", "text"] []
  FE : Fun K "__eq__" "Pauli.__eq__" sEq fE dE
  bE : Binds K dE ["self", "other"] []
  FG : Fun K "is_integer" "is_integer" sIsI fG dG
  bG : Binds K dG ["value"] []
  gG : mg "is_integer" = some (.ref fG)
  FPl : Fun K "placed" "placed" sPlaced fPl dPl
  bPl : Binds K dPl ["size", "word"] []
  gPl : mg "placed" = some (.ref fPl)
  FWo : Fun K "word_of" "word_of" sWof fWo dWo
  bWo : Binds K dWo ["p"] []
  gWo : mg "word_of" = some (.ref fWo)
  FC : Fun K "_cut_text" "_cut_text" sCut fC dC
  bC : Binds K dC ["text"] []
  gC : mg "_cut_text" = some (.ref fC)
  FR : Fun K "_read_word" "_read_word" sRdW fR dR
  bR : Binds K dR ["size", "word", "start"] []
  gR : mg "_read_word" = some (.ref fR)
  FD : Fun K "_end_of_place" "_end_of_place" sEnd fD dD
  bD : Binds K dD ["size", "word", "start", "least"] []
  gD : mg "_end_of_place" = some (.ref fD)
  FM : Fun K "_may_begin" "_may_begin" sMay fM dM
  bM : Binds K dM ["size", "text", "least"] []
  gM : mg "_may_begin" = some (.ref fM)
  FPn : Fun K "_law_pen" "_law_pen" sPen fPn dPn
  bPn : Binds K dPn ["_law_script"] []
  gPn : mg "_law_pen" = some (.ref fPn)
  FDr : Fun K "_law_draw" "_law_draw" sDraw fDr dDr
  bDr : Binds K dDr ["_law_pen_here", "_law_many"] []
  gDr : mg "_law_draw" = some (.ref fDr)
  FPk : Fun K "_law_pick" "_law_pick" sPick fPk dPk
  bPk : Binds K dPk ["_law_pen_here", "_law_some"] []
  gPk : mg "_law_pick" = some (.ref fPk)
  FOn : Fun K "_law_ones" "_law_ones" sOnes fOn dOn
  bOn : Binds K dOn ["_law_number"] []
  gOn : mg "_law_ones" = some (.ref fOn)
  FLe : Fun K "_law_letters" "_law_letters" sLett fLe dLe
  bLe : Binds K dLe ["_law_string", "_law_size"] []
  gLe : mg "_law_letters" = some (.ref fLe)
  FTl : Fun K "_law_text" "_law_text" sTextL fTl dTl
  bTl : Binds K dTl ["_law_string", "_law_size"] []
  gTl : mg "_law_text" = some (.ref fTl)
  FOt : Fun K "_law_of_text" "_law_of_text" sOfT fOt dOt
  bOt : Binds K dOt ["_law_text_here"] []
  gOt : mg "_law_of_text" = some (.ref fOt)
  FWd : Fun K "_law_word" "_law_word" sWord fWd dWd
  bWd : Binds K dWd ["_law_string", "_law_size"] []
  gWd : mg "_law_word" = some (.ref fWd)
  FWt : Fun K "_law_weight" "_law_weight" sWt fWt dWt
  bWt : Binds K dWt ["_law_string"] []
  gWt : mg "_law_weight" = some (.ref fWt)
  FSo : Fun K "_law_some_string" "_law_some_string" sSome fSo dSo
  bSo : Binds K dSo ["_law_pen_here", "_law_size"] []
  gSo : mg "_law_some_string" = some (.ref fSo)
  FWy : Fun K "_law_why" "_law_why" sWhy fWy dWy
  bWy : Binds K dWy ["_law_call"] []
  gWy : mg "_law_why" = some (.ref fWy)
  FTo : Fun K "_law_told" "_law_told" sTold fTo dTo
  bTo : Binds K dTo ["_law_pauli", "_law_string", "_law_phase", "_law_size"] []
  gTo : mg "_law_told" = some (.ref fTo)
  FEv : Fun K "_law_every_string" "_law_every_string" sEvery fEv dEv
  bEv : Binds K dEv ["_law_size"] []
  gEv : mg "_law_every_string" = some (.ref fEv)
  FCo : Fun K "_law_column" "_law_column" sCol fCo dCo
  bCo : Binds K dCo ["_law_size", "_law_word_here"] []
  gCo : mg "_law_column" = some (.ref fCo)
  FBy : Fun K "_law_by_list" "_law_by_list" sList fBy dBy
  bBy : Binds K dBy ["_law_size", "_law_word_here"] []
  gBy : mg "_law_by_list" = some (.ref fBy)
def spLawT (K : PySem.W.Frag) (P : Addr) : Sp := fun vs H Q _ => ∃ (a : Addr) (ns : List Int), vs = [.ref a] ∧ SqL K H a (ns.map V.int) ∧ ns.length ≤ 63 ∧ H P = some (.tbl #[]) ∧ ∀ H', Q (.bl true) H'
/-- as Fun.ok, the code object told -/
theorem ok_code {P : Program} {w : World} {K : PySem.W.Frag} {mg : Str → Option Value} {base : Heap} {x qual : Str} {st : Stmt} {f c : Addr} {N ps : List Str} {k : Nat} {sp : Sp} {oc : Value} {od an : Option Addr} {osl : Array (Option Value)} {kV doc pm ct : Value}
    (lk : K.lookup f = some ⟨oc, od, .func (PySem.W.fnOf x qual (defArgs st) (defBody st) (defScope st) .none kV doc pm an (.ref c) ct), osl⟩) (hcd : PySem.W.codeIn K (.ref c) qual = true) (S : FnScope N ps (defScope st)) (len : ∀ vs H Q E, sp vs H Q E → vs.length = ps.length)
    (body : ∀ (A : Around) (outer : List Env) (s : Shared) (H : Hp) (vs : List V) (Q : VK) (E : XK), Room k (A.deeper (envOfC qual (defScope st) s.heap.objs.size f (.ref c))) → sp vs H Q E →
      ∃ t, PSs (cxOf CX0 P w K mg base N qual (defScope st) f (.ref c) A outer s H E).nox (defBody st) t ∧ t { nx := fun _ H' => Q .non H', rt := Q } (L2.start N vs) H) :
    FnOk P w K mg base CX0 (k + 1) f (PySem.W.fnOf x qual (defArgs st) (defBody st) (defScope st) .none kV doc pm an (.ref c) ct) ps sp := by
  refine fn_of lk hcd S len fun A outer s H vs Q E hr want => ?_
  obtain ⟨t, fits, rd⟩ := body A outer s H vs Q E hr want
  exact ⟨t, fits.nox, rd⟩
/-! ### beside the pen -/
def Sx (TT : List (Addr × Str)) (p c : Addr) (N : Nat) (H : Hp) : Prop := ∃ n, n ≤ N ∧ PenAt H p c n ∧ Tabs TT H
theorem codeO_ne {c : Addr} {q : Str} : ∀ kv, CodeO c q ≠ .dK kv := by
  intro kv z
  unfold CodeO at z
  cases z
theorem tabs_keepP {TT : List (Addr × Str)} {H H' : Hp} {p c : Addr} {n : Nat} (hP : PenAt H p c n) (t : Tabs TT H) (k : KeepP p H H') : Tabs TT H' := by
  intro q hq
  obtain ⟨ps, h1, h2, h3⟩ := t q hq
  refine ⟨ps, k _ _ (pen_off hP h1 (by intro kv z; cases z)) h1, h2, fun pos cv hc => ?_⟩
  obtain ⟨c, e1, e2⟩ := h3 pos cv hc
  exact ⟨c, e1, k _ _ (pen_off hP e2 codeO_ne) e2⟩
theorem pen_ext {H H' : Hp} {p c : Addr} {n : Nat} (h : PenAt H p c n) (x : ExtN H H') : PenAt H' p c n := by
  obtain ⟨ns, a, d, f, e1, e2, r⟩ := h
  exact ⟨ns, a, d, f, x _ _ e1 (fun ps z => by cases z), x _ _ e2 (fun ps z => by cases z), r⟩
theorem Sx.same {TT : List (Addr × Str)} {p c : Addr} {N : Nat} {H H' : Hp} (h : Sx TT p c N H) (s : Same H H') : Sx TT p c N H' := by
  obtain ⟨n, hn, hP, t⟩ := h
  exact ⟨n, hn, pen_sm hP s, Tabs.ext t s⟩
theorem Sx.mono {TT : List (Addr × Str)} {p c : Addr} {N M : Nat} {H : Hp} (h : Sx TT p c N H) (le : N ≤ M) : Sx TT p c M H := by
  obtain ⟨n, hn, r⟩ := h
  exact ⟨n, Nat.le_trans hn le, r⟩
theorem sx_step {TT : List (Addr × Str)} {p c : Addr} {n n' N' : Nat} {H H' : Hp} (hP : PenAt H p c n) (t : Tabs TT H) (hP' : PenAt H' p c n') (k : KeepP p H H') (le : n' ≤ N') : Sx TT p c N' H' := ⟨n', le, hP', tabs_keepP hP t k⟩
theorem Sx.ext {TT : List (Addr × Str)} {p c : Addr} {N : Nat} {H H' : Hp} (h : Sx TT p c N H) (x : ExtN H H') (t : Tabs TT H') : Sx TT p c N H' := by
  obtain ⟨n, hn, hP, _⟩ := h
  exact ⟨n, hn, pen_ext hP x, t⟩
theorem PauliAt.keep {C : Addr} {H H' : Hp} {a : Addr} {R : List Nat} {q : Nat} (h : PauliAt C H a R q) (k : ∀ o, H a = some o → H' a = some o) : PauliAt C H' a R q := by
  obtain ⟨dx, fs, e, r⟩ := h
  exact ⟨dx, fs, k _ e, r⟩
theorem PauliAt.same {C : Addr} {H H' : Hp} {a : Addr} {R : List Nat} {q : Nat} (h : PauliAt C H a R q) (s : Same H H') : PauliAt C H' a R q := h.keep fun o e => s _ _ e
theorem PauliAt.off {C : Addr} {H : Hp} {a p c : Addr} {n : Nat} {R : List Nat} {q : Nat} (h : PauliAt C H a R q) (hP : PenAt H p c n) : a ≠ p := by
  obtain ⟨dx, fs, e, r⟩ := h
  exact pen_off hP e (by intro kv z; cases z)
theorem Odd.ext {H H' : Hp} {v : V} (h : Odd H v) (s : ExtN H H') : Odd H' v := by
  rcases h with h | h | h | ⟨p, xs, h, e⟩ | ⟨p, xs, h, e⟩ | ⟨p, kv, h, e⟩
  · exact .inl h
  · exact .inr (.inl h)
  · exact .inr (.inr (.inl h))
  · exact .inr (.inr (.inr (.inl ⟨p, xs, h, s _ _ e (fun ps z => by cases z)⟩)))
  · exact .inr (.inr (.inr (.inr (.inl ⟨p, xs, h, s _ _ e (fun ps z => by cases z)⟩))))
  · exact .inr (.inr (.inr (.inr (.inr ⟨p, kv, h, s _ _ e (fun ps z => by cases z)⟩))))
theorem odd_make {H : Hp} {v : V} {x dx C : Addr} (h : Odd H v) (nx : H x = none) (nd : H dx = none) : Odd (upd (upd H dx (.own x)) x (.ins C dx [])) v := h.same fun b o e => by
  rw [upd_ne (ne_of_none e nx), upd_ne (ne_of_none e nd)]
  exact e
theorem told_eqv (x : Str) (l c : Int) : PyData.eqv (.tuple [.str x, .int l, .int c]) (.tuple [.str x, .int l, .int c]) = true := by
  show ((x == x) && ((l == l) && ((c == c) && true))) = true
  simp
theorem none_eqv (x : Str) : PyData.eqv (.tuple [.str x]) (.tuple [.str x]) = true := by
  show ((x == x) && true) = true
  simp
theorem dp3 {K : PySem.W.Frag} {H : Hp} {a : Addr} {x : Str} {l c : Int} (h : H a = some (.tup [.str x, .int l, .int c])) : Dp K H (.ref a) (.tuple [.str x, .int l, .int c]) := .tup (.inl (.inl h)) (.cons (.str x) (.cons (.int l) (.cons (.int c) .nil)))
theorem dp1 {K : PySem.W.Frag} {H : Hp} {a : Addr} {x : Str} (h : H a = some (.tup [.str x])) : Dp K H (.ref a) (.tuple [.str x]) := .tup (.inl (.inl h)) (.cons (.str x) .nil)
theorem sh3 (l c : Int) : SeqAt.shaped (.tuple [.str ("text" : Str), .int l, .int c]) = true := by
  have z : SeqAt.shaped (.tuple [.str ("text" : Str), .int 0, .int 0]) = true := by decide +kernel
  exact z
theorem sh1 : SeqAt.shaped (.tuple [.str ("none" : Str)]) = true := by decide +kernel
theorem ne3 {K : PySem.W.Frag} {H : Hp} {a b : Addr} {l c : Int} {Q : VK} (h : H a = some (.tup [.str ("text" : Str), .int l, .int c])) (h' : H b = some (.tup [.str ("text" : Str), .int l, .int c])) (q : Q (.bl false) H) : rNeD K (.ref a) (.ref b) H Q := by
  refine ⟨_, _, dp3 h, dp3 h', sh3 l c, sh3 l c, ?_⟩
  rw [told_eqv]
  exact q
theorem eq3 {K : PySem.W.Frag} {H : Hp} {a b : Addr} {l c : Int} {Q : VK} (h : H a = some (.tup [.str ("text" : Str), .int l, .int c])) (h' : H b = some (.tup [.str ("text" : Str), .int l, .int c])) (q : Q (.bl true) H) : rEqD K (.ref a) (.ref b) H Q := by
  refine ⟨_, _, dp3 h, dp3 h', sh3 l c, sh3 l c, ?_⟩
  rw [told_eqv]
  exact q
theorem ne1 {K : PySem.W.Frag} {H : Hp} {a b : Addr} {Q : VK} (h : H a = some (.tup [.str ("none" : Str)])) (h' : H b = some (.tup [.str ("none" : Str)])) (q : Q (.bl false) H) : rNeD K (.ref a) (.ref b) H Q := by
  refine ⟨_, _, dp1 h, dp1 h', sh1, sh1, ?_⟩
  rw [none_eqv]
  exact q
theorem iteNe {v : V} {A B : Prop} (h : B) : if (!decide (v = v)) = true then A else B := by
  rw [decide_eq_true rfl]
  exact iteF h
theorem headL_sg {z : Nat} (h : z < 2) : headL (2 * z) = sg z := by
  have : z = 0 ∨ z = 1 := by omega
  rcases this with rfl | rfl <;> rfl
theorem wordOf_head {L : List Nat} (hL : Lets L) : ∃ c t, wordOf L = c :: t ∧ (c = 73 ∨ isXYZ c) := by
  unfold wordOf
  by_cases z : pairs 0 L = []
  · rw [if_pos z]
    exact ⟨73, [], rfl, .inl rfl⟩
  · rw [if_neg z]
    have ha : ∀ x ∈ pairs 0 L, isXYZ x.1 := by
      have : ∀ (M : List Nat) (k : Nat), Lets M → ∀ x ∈ pairs k M, isXYZ x.1 := by
        intro M
        induction M with
        | nil => exact fun k _ x hx => by cases hx
        | cons c M ih =>
          intro k hM x hx
          unfold pairs at hx
          by_cases y : c = 73
          · rw [if_pos y] at hx
            exact ih (k + 1) (fun d hd => hM d (List.mem_cons_of_mem _ hd)) x hx
          · rw [if_neg y] at hx
            rcases List.mem_cons.mp hx with rfl | hx
            · exact (isL_iff.mp (hM c List.mem_cons_self)).resolve_left y
            · exact ih (k + 1) (fun d hd => hM d (List.mem_cons_of_mem _ hd)) x hx
      exact this L 0 hL
    cases e : pairs 0 L with
    | nil => exact absurd e z
    | cons x t =>
      have hx := ha x (by rw [e]; exact List.mem_cons_self)
      cases t with
      | nil => exact ⟨x.1, _, rfl, .inr hx⟩
      | cons y t => exact ⟨x.1, _, rfl, .inr hx⟩
theorem hd1_word {L : List Nat} {z : Nat} (hL : Lets L) (h : z < 2) : hd1 (sg z ++ wordOf L) = z := by
  obtain ⟨c, t, e, hc⟩ := wordOf_head hL
  rw [e]
  have : z = 0 ∨ z = 1 := by omega
  rcases this with rfl | rfl
  · refine if_neg fun y => ?_
    have y := Option.some.inj y
    subst y
    revert hc
    decide
  · rfl
theorem lets_xyz {L : List Nat} (hL : Lets L) : ∀ c ∈ L, c = 73 ∨ isXYZ c := fun c hc => isL_iff.mp (hL c hc)
theorem lets_of_word (L : List Nat) : LetsOf L.length (pairs 0 L) = L := by
  have := fill_pairs L []
  rw [List.nil_append, List.nil_append] at this
  exact this
/-- values that read as data -/
def DV (K : PySem.W.Frag) (H : Hp) (v : V) : Prop := ∃ d, Dp K H v d ∧ d.canLay0 = true ∧ d.depth ≤ 2
def numD (wd : Str) (d : PyData) : PyData := .tuple [.str "number", .str wd, d]
theorem strOk_num : PyData.strOk ("number" : Str) = true := by decide +kernel
theorem num_lay {wd : Str} (hw : PyData.strOk wd = true) {d : PyData} (h : d.canLay0 = true) : (numD wd d).canLay0 = true := by
  simp [numD, PyData.canLay0, PyData.canLayAll0, strOk_num, hw, h]
theorem num_sh {wd : Str} (hw : PyData.strOk wd = true) {d : PyData} (h : d.canLay0 = true) (hd : d.depth ≤ 2) : SeqAt.shaped (numD wd d) = true := by
  show (PyData.canLay0 _ && decide (PyData.depth _ ≤ 64)) = true
  rw [Bool.and_eq_true]
  refine ⟨num_lay hw h, decide_eq_true ?_⟩
  simp only [numD, PyData.depth, PyData.depthAll]
  omega
theorem neN {K : PySem.W.Frag} {H : Hp} {a b : Addr} {v : V} {Q : VK} (h : H a = some (.tup [.str ("number" : Str), .str ("size" : Str), v])) (h' : H b = some (.tup [.str ("number" : Str), .str ("size" : Str), v])) (hv : DV K H v) (q : Q (.bl false) H) : rNeD K (.ref a) (.ref b) H Q := by
  obtain ⟨d, h1, h2, h3⟩ := hv
  have ok : PyData.strOk ("size" : Str) = true := by decide +kernel
  refine ⟨numD "size" d, numD "size" d, .tup (SqT.of h) (.cons (.str _) (.cons (.str _) (.cons h1 .nil))), .tup (SqT.of h') (.cons (.str _) (.cons (.str _) (.cons h1 .nil))), num_sh ok h2 h3, num_sh ok h2 h3, ?_⟩
  rw [PySem.SeqAt.eqv_refl _ (num_lay ok h2)]
  exact q
/-- what was handed in, kept -/
def OddV (H : Hp) (v : V) : Prop := (v = .int 0 ∨ v = .int (-1) ∨ v = .non ∨ v = .bl true ∨ v = .str "3") ∨ ∃ l, v = .ref l ∧ H l = some (.lst [.int 4])
theorem OddV.dv {K : PySem.W.Frag} {H : Hp} {v : V} (h : OddV H v) : DV K H v := by
  rcases h with (h | h | h | h | h) | ⟨l, h, e⟩ <;> subst h
  · exact ⟨_, .int 0, by simp [PyData.canLay0], by simp [PyData.depth]⟩
  · exact ⟨_, .int (-1), by simp [PyData.canLay0], by simp [PyData.depth]⟩
  · exact ⟨_, .non, by simp [PyData.canLay0], by simp [PyData.depth]⟩
  · exact ⟨_, .bl true, by simp [PyData.canLay0], by simp [PyData.depth]⟩
  · exact ⟨_, .str "3", by simp only [PyData.canLay0]; decide +kernel, by simp [PyData.depth]⟩
  · exact ⟨.list [.int 4], .lst (SqL.of e) (.cons (.int 4) .nil), by simp [PyData.canLay0, PyData.canLayAll0], by simp [PyData.depth, PyData.depthAll]⟩
theorem OddV.odd {H : Hp} {v : V} (h : OddV H v) : OddS H v := by
  rcases h with (h | h | h | h | h) | ⟨l, h, e⟩ <;> subst h
  · exact ⟨.inl ⟨_, rfl⟩, fun i e => by cases e; decide⟩
  · exact ⟨.inl ⟨_, rfl⟩, fun i e => by cases e; decide⟩
  · exact ⟨.inr (.inl rfl), fun i e => by cases e⟩
  · exact ⟨.inr (.inr (.inl ⟨_, rfl⟩)), fun i e => by cases e⟩
  · exact ⟨.inr (.inr (.inr (.inl ⟨_, rfl⟩))), fun i e => by cases e⟩
  · exact ⟨.inr (.inr (.inr (.inr ⟨l, _, rfl, e⟩))), fun i e => by cases e⟩
theorem OddV.ext {H H' : Hp} {v : V} (h : OddV H v) (s : ExtN H H') : OddV H' v := by
  rcases h with h | ⟨l, h, e⟩
  · exact .inl h
  · exact .inr ⟨l, h, s _ _ e (fun ps z => by cases z)⟩
theorem OddV.same {H H' : Hp} {v : V} (h : OddV H v) (s : Same H H') : OddV H' v := h.ext (ExtN.of s)
theorem pk_same {H H' : Hp} {p c : Addr} {n : Nat} (hP : PenAt H p c n) (k : ∀ b, b ≠ p → H' b = H b) {b : Addr} {o : HO} (e : H b = some o) (d : ∀ kv, o ≠ .dK kv) : H' b = some o := (k b (pen_off hP e d)).trans e
end KQ

namespace KQ
open PySem PySem.Spec PyProof.Rows L2 LamX
/-! ### the law -/
section
variable {P : Program} {w : World} {K : PySem.W.Frag} {mg : Str → Option Value} {base : Heap}
theorem ok_law {f c tP C CT CN cU cA cM fI fE fB fN hA fG fPl fWo fC fR fD fM fPn fDr fPk fOn fLe fTl fOt fWd fWt fSo fWy fTo fEv fCo fBy : Addr} {dI dE dB dN dG dPl dWo dC dR dD dM dPn dDr dPk dOn dLe dTl dOt dWd dWt dSo dWy dTo dEv dCo dBy : FuncData} {oc : Value} {od an : Option Addr} {osl : Array (Option Value)} {kV doc pm ct : Value}
    (lk : K.lookup f = some ⟨oc, od, .func (PySem.W.fnOf "law" "law" (defArgs sLaw) (defBody sLaw) (defScope sLaw) .none kV doc pm an (.ref c) ct), osl⟩) (hcd : PySem.W.codeIn K (.ref c) "law" = true) (TB : TabB base mg c tP)
    (T : Top K mg C CT CN cU cA cM fI fE fB fN hA fG fPl fWo fC fR fD fM fPn fDr fPk fOn fLe fTl fOt fWd fWt fSo fWy fTo fEv fCo fBy dI dE dB dN dG dPl dWo dC dR dD dM dPn dDr dPk dOn dLe dTl dOt dWd dWt dSo dWy dTo dEv dCo dBy) : FnOk P w K mg base CX0 9 f (PySem.W.fnOf "law" "law" (defArgs sLaw) (defBody sLaw) (defScope sLaw) .none kV doc pm an (.ref c) ct) ["_law_script"] (spLawT K tP) := by
  have GI : FnOk P w K mg base (L2.CX P w) 4 fI dI ["self", "text"] (spInit C CT) := ok_init T.FI T.N T.FC T.bC T.gC T.T T.hd T.B
  have GE : FnOk P w K mg base CX0 1 fE dE ["self", "other"] (spEqP C) := ok_eq T.FE T.N T.B
  have GPl : FnOk P w K mg base (L2.CX P w) 6 fPl dPl ["size", "word"] (spPlaced C CT CN) := ok_placed T.FPl T.FI T.bI T.N T.FC T.bC T.gC T.hd T.FR T.bR T.gR T.FD T.bD T.gD T.FM T.bM T.gM T.FG T.bG T.gG T.T T.TN T.B
  have GWo : FnOk P w K mg base (L2.CX P w) 3 fWo dWo ["p"] (spWof C CN) := ok_wof T.FWo T.N T.hd T.TN T.B
  have GPn : FnOk P w K mg base CX0 1 fPn dPn ["_law_script"] (spPen K) := ok_pen T.FPn T.B.int T.B.list
  have GDr : FnOk P w K mg base CX0 1 fDr dDr ["_law_pen_here", "_law_many"] spDraw := ok_draw T.FDr T.B.int T.B.len
  have GPk : FnOk P w K mg base CX0 2 fPk dPk ["_law_pen_here", "_law_some"] (spPick K) := ok_pick T.FPk T.FDr T.bDr T.gDr T.B.int T.B.len
  have GLe : FnOk P w K mg base CX0 2 fLe dLe ["_law_string", "_law_size"] spLett := ok_lett T.FLe T.B
  have GTl : FnOk P w K mg base CX0 2 fTl dTl ["_law_string", "_law_size"] spTextL := ok_textL T.FTl T.FLe T.bLe T.gLe T.B
  have GWd : FnOk P w K mg base CX0 2 fWd dWd ["_law_string", "_law_size"] spWord := ok_word T.FWd T.FLe T.bLe T.gLe T.B
  have GSo : FnOk P w K mg base CX0 3 fSo dSo ["_law_pen_here", "_law_size"] spSome := ok_some T.FSo T.FDr T.bDr T.gDr T.FPk T.bPk T.gPk T.FOt T.bOt T.gOt T.B
  have GTo : FnOk P w K mg base CX0 3 fTo dTo ["_law_pauli", "_law_string", "_law_phase", "_law_size"] (spTold C) := ok_told T.FTo T.FLe T.bLe T.gLe T.FWt T.bWt T.gWt T.FOn T.bOn T.gOn T.N T.B
  have GCo : FnOk P w K mg base CX0 2 fCo dCo ["_law_size", "_law_word_here"] spColL := ok_colL T.FCo T.B
  have GBy : FnOk P w K mg base CX0 3 fBy dBy ["_law_size", "_law_word_here"] spList := ok_list T.FBy T.FEv T.bEv T.gEv T.FWd T.bWd T.gWd T.FLe T.bLe T.gLe T.B
  obtain ⟨ocW, odW, kVW, dcW, pmW, anW, cdvW, ctW, oslW, eW, lkW, hcW⟩ := T.FWy.ex
  have bW' := T.bWy
  rw [eW] at bW' lkW
  refine ok_code lk hcd scLaw (fun vs H Q E h => ?_) (fun A outer s H vs Q E hr h => ?_)
  · obtain ⟨a, ns, rfl, _⟩ := h
    rfl
  · obtain ⟨a, ns, rfl, hS, hlen, hTP, q⟩ := h
    have r1 : Room 1 _ := hr.mono (by decide)
    have r2 : Room 2 _ := hr.mono (by decide)
    have r3 : Room 3 _ := hr.mono (by decide)
    have r5 : Room 5 _ := hr.mono (by decide)
    have r6 : Room 6 _ := hr.mono (by decide)
    have hu : (A.deeper (envOfC "law" (defScope sLaw) s.heap.objs.size f (.ref c))).units + 64 < cLine := hr.units
    let TT : List (Addr × Str) := [(tP, (envOfC "law" (defScope sLaw) s.heap.objs.size f (.ref c)).qual ++ "<lambda>")]
    refine ⟨_, (C8.pss_cut (ps_set (i := 1) scLaw.nd rfl (.inl rfl) (pe_call GPn r1 (by rfl) T.gPn T.FPn.kp T.bPn .nil pass0 (pa_cons (pv 0) pa_nil)))
      (C8.pss_cut (ps_for PassesOwn.never rfl (pi_range1 (by rfl) T.B.range (pa_cons pe_int pa_nil)) (pg_name (i := 2) scLaw.nd rfl (.inl rfl))
        (C8.pss_cut (ps_set (i := 3) scLaw.nd rfl (.inr rfl) (pe_op op_add pe_int (pe_call GDr r1 (by rfl) T.gDr T.FDr.kp T.bDr .nil pass0 (pa_cons (pv 1) (pa_cons (pe_call GPk r2 (by rfl) T.gPk T.FPk.kp T.bPk .nil pass0 (pa_cons (pv 1) (pa_cons (pe_lst (pa_cons pe_int (pa_cons pe_int (pa_cons pe_int pa_nil)))) pa_nil))) pa_nil)))))
        (C8.pss_cut (ps_set (i := 4) scLaw.nd rfl (.inl rfl) (pe_call GSo r3 (by rfl) T.gSo T.FSo.kp T.bSo .nil pass0 (pa_cons (pv 1) (pa_cons (pv 3) pa_nil))))
        (C8.pss_cut (ps_set (i := 5) scLaw.nd rfl (.inl rfl) (pe_tup (pa_cons (pe_ix ix_tup (pv 4) pe_int (fun _ _ => rfl)) (pa_cons (pe_ix ix_tup (pv 4) pe_int (fun _ _ => rfl)) (pa_cons (pe_call GDr r1 (by rfl) T.gDr T.FDr.kp T.bDr .nil pass0 (pa_cons (pv 1) (pa_cons pe_int pa_nil))) pa_nil)))))
        (C8.pss_cut (ps_set (i := 6) scLaw.nd rfl (.inl rfl) (pe_call GWd r2 (by rfl) T.gWd T.FWd.kp T.bWd .nil pass0 (pa_cons (pv 5) (pa_cons (pv 3) pa_nil))))
        (C8.pss_cut (ps_set (i := 7) scLaw.nd rfl (.inl rfl) (pe_call GPl r6 (by rfl) T.gPl T.FPl.kp T.bPl .nil passL (pa_cons (pv 3) (pa_cons (pv 6) pa_nil))))
        (C8.pss_cut (ps_if (PW.pt (pw_or (pt_not (pt_val (pe_call GTo r3 (by rfl) T.gTo T.FTo.kp T.bTo .nil pass0 (pa_cons (pv 7) (pa_cons (pv 5) (pa_cons (pe_op op_mul pe_int (pe_ix ix_tup (pv 5) pe_int (fun _ _ => rfl))) (pa_cons (pv 3) pa_nil))))))) (pw_or1 (pt_cmpR op_ne (pe_call GWo r3 (by rfl) T.gWo T.FWo.kp T.bWo .nil passL (pa_cons (pv 7) pa_nil)) (pv 6) (nomark _))))) (pss_one (ps_ret pe_bl)) pss_nil)
        (C8.pss_cut (ps_if (pt_cmpR op_ne (pe_call GWo r3 (by rfl) T.gWo T.FWo.kp T.bWo .nil passL (pa_cons (pe_make T.N.mkf GI r5 (by rfl) T.N.g T.bI .nil passL (pa_cons (pe_call GTl r2 (by rfl) T.gTl T.FTl.kp T.bTl .nil pass0 (pa_cons (pv 5) (pa_cons (pv 3) pa_nil))) pa_nil)) pa_nil)) (pv 6) (nomark _)) (pss_one (ps_ret pe_bl)) pss_nil)
        (pss_one (ps_for PassesOwn.never rfl (pi_range1 (by rfl) T.B.range (pa_cons pe_int pa_nil)) (pg_name (i := 8) scLaw.nd rfl (.inl rfl))
          (C8.pss_cut (ps_par (i := 9) (j := 10) rfl scLaw.nd rfl rfl (by decide) rfl rfl (pa_cons (pe_call GDr r1 (by rfl) T.gDr T.FDr.kp T.bDr .nil pass0 (pa_cons (pv 1) (pa_cons (pe_op op_add (pe_callB call_len_str (by rfl) T.B.len PySem.boot_len (pa_cons (pv 6) pa_nil)) pe_int) pa_nil))) (pa_cons (pe_call GPk r2 (by rfl) T.gPk T.FPk.kp T.bPk .nil pass0 (pa_cons (pv 1) (pa_cons (pe_op op_cat (pe_callTy (call_list_txt rfl) (by rfl) T.B.list bootL (pa_cons pe_str pa_nil)) (pe_lst (pa_cons pe_str (pa_cons pe_str (pa_cons pe_str pa_nil))))) pa_nil))) pa_nil)) rfl)
          (C8.pss_cut (ps_set (i := 11) scLaw.nd rfl (.inr rfl) (pe_op op_add_str (pe_op op_add_str (pe_slice sl_str (pv 6) po_none (po_some (pv 9))) (pv 10)) (pe_slice sl_str (pv 6) (po_some (pe_op op_add (pv 9) (pe_call GDr r1 (by rfl) T.gDr T.FDr.kp T.bDr .nil pass0 (pa_cons (pv 1) (pa_cons pe_int pa_nil))))) po_none)))
          (C8.pss_cut (ps_set (i := 11) scLaw.nd rfl (.inr rfl) (pe_ifExp (pt_cmpR op_eq (pe_call GDr r1 (by rfl) T.gDr T.FDr.kp T.bDr .nil pass0 (pa_cons (pv 1) (pa_cons pe_int pa_nil))) pe_int (nomark _)) (pe_slice sl_str (pv 11) po_none (po_some (pv 9))) (pv 11)))
          (C8.pss_cut (ps_set (i := 12) scLaw.nd rfl (.inl rfl) (pe_call GCo r2 (by rfl) T.gCo T.FCo.kp T.bCo .nil pass0 (pa_cons (pv 3) (pa_cons (pv 11) pa_nil))))
          (C8.pss_cut (ps_if (PW.pt (pw_and (pt_cmpR op_lt (pv 3) pe_int (nomark _)) (pw_and1 (pt_cmpR op_ne (pv 12) (pe_call GBy r3 (by rfl) T.gBy T.FBy.kp T.bBy .nil pass0 (pa_cons (pv 3) (pa_cons (pv 11) pa_nil))) (nomark _))))) (pss_one (ps_ret pe_bl)) pss_nil)
          (pss_one (ps_if (pt_cmpR (op_neD hu) (pe_lamcall (T := TT) (TT := TTw CT CN) (Ng := ["_law_call", "_law_found", "e"]) (by rfl) T.gWy T.FWy.kp lkW hcW bW' scWhy rfl (.inl rfl) (why_gives T.V) TB rfl (List.mem_singleton.mpr rfl) (fun p hp _ => by rw [List.mem_singleton.mp hp]; rfl) hr (lamS_by (sc := defScope sLaw) (by decide +kernel)) rfl (fun _ _ _ _ _ => rfl) (fun A2 o2 s2 H2 E2 f2 c2 hr2 => pe_call GPl (hr2.mono (by decide)) (by rfl) T.gPl T.FPl.kp T.bPl .nil (passes_call (takes_of rfl rfl rfl rfl) (fun _ _ _ _ h => h)) (pa_cons (pv 3) (pa_cons (pv 11) pa_nil)))) (pe_ifExp (pt_cmpR op_gt (pv 12) pe_int (nomark _)) (pe_tup (pa_cons pe_str (pa_cons pe_int (pa_cons (pv 12) pa_nil)))) (pe_tup (pa_cons pe_str pa_nil))) (nomark _)) (pss_one (ps_ret pe_bl)) pss_nil)))))))))))))))))
      (C8.pss_cut (ps_asg (pe_tup (pa_cons (pe_call GPk r2 (by rfl) T.gPk T.FPk.kp T.bPk .nil pass0 (pa_cons (pv 1) (pa_cons (pe_lst (pa_cons pe_int (pa_cons (pe_un un_neg pe_int) (pa_cons pe_non (pa_cons pe_bl (pa_cons pe_str (pa_cons (pe_lst (pa_cons pe_int pa_nil)) pa_nil))))))) pa_nil))) (pa_cons (pe_call GPk r2 (by rfl) T.gPk T.FPk.kp T.bPk .nil pass0 (pa_cons (pv 1) (pa_cons (pe_lst (pa_cons pe_non (pa_cons pe_int (pa_cons (pe_lst (pa_cons pe_str pa_nil)) (pa_cons (pe_tup (pa_cons pe_str pa_nil)) (pa_cons pe_bl pa_nil)))))) pa_nil))) pa_nil))) (pg_tup rfl (pgs_cons (pg_name (i := 13) scLaw.nd rfl (.inr rfl)) (pgs_cons (pg_name (i := 14) scLaw.nd rfl (.inr rfl)) pgs_nil))))
      (C8.pss_cut (ps_if (pt_cmpR (op_neD hu) (pe_lamcall (T := TT) (TT := TTw CT CN) (Ng := ["_law_call", "_law_found", "e"]) (by rfl) T.gWy T.FWy.kp lkW hcW bW' scWhy rfl (.inl rfl) (why_gives T.V) TB rfl (List.mem_singleton.mpr rfl) (fun p hp _ => by rw [List.mem_singleton.mp hp]; rfl) hr (lamS_by (sc := defScope sLaw) (by decide +kernel)) rfl (fun _ _ _ _ _ => rfl) (fun A2 o2 s2 H2 E2 f2 c2 hr2 => pe_call GPl (hr2.mono (by decide)) (by rfl) T.gPl T.FPl.kp T.bPl .nil (passes_call (takes_of rfl rfl rfl rfl) (fun _ _ _ _ h => h)) (pa_cons (pv 13) (pa_cons (pv 14) pa_nil)))) (pe_tup (pa_cons pe_str (pa_cons pe_str (pa_cons (pv 13) pa_nil)))) (nomark _)) (pss_one (ps_ret pe_bl)) pss_nil)
      (C8.pss_cut (ps_if (pt_cmpR (op_neD hu) (pe_lamcall (T := TT) (TT := TTw CT CN) (Ng := ["_law_call", "_law_found", "e"]) (by rfl) T.gWy T.FWy.kp lkW hcW bW' scWhy rfl (.inl rfl) (why_gives T.V) TB rfl (List.mem_singleton.mpr rfl) (fun p hp _ => by rw [List.mem_singleton.mp hp]; rfl) hr (lamS_by (sc := defScope sLaw) (by decide +kernel)) rfl (fun _ _ _ _ _ => rfl) (fun A2 o2 s2 H2 E2 f2 c2 hr2 => pe_call GPl (hr2.mono (by decide)) (by rfl) T.gPl T.FPl.kp T.bPl .nil (passes_call (takes_of rfl rfl rfl rfl) (fun _ _ _ _ h => h)) (pa_cons pe_int (pa_cons (pv 14) pa_nil)))) (pe_tup (pa_cons pe_str (pa_cons pe_int (pa_cons pe_int pa_nil)))) (nomark _)) (pss_one (ps_ret pe_bl)) pss_nil)
      (C8.pss_cut (ps_set (i := 15) scLaw.nd rfl (.inr rfl) (pe_make T.N.mkf GI r5 (by rfl) T.N.g T.bI .nil passL (pa_cons (pe_op op_add_str (pe_call GPk r2 (by rfl) T.gPk T.FPk.kp T.bPk .nil pass0 (pa_cons (pv 1) (pa_cons (pe_lst (pa_cons pe_str (pa_cons pe_str pa_nil))) pa_nil))) (pe_call GLe r2 (by rfl) T.gLe T.FLe.kp T.bLe .nil pass0 (pa_cons (pv 4) (pa_cons (pv 3) pa_nil)))) pa_nil)))
      (C8.pss_cut (ps_set (i := 16) scLaw.nd rfl (.inl rfl) (pe_lamcall (T := TT) (TT := TTw CT CN) (Ng := ["_law_call", "_law_found", "e"]) (by rfl) T.gWy T.FWy.kp lkW hcW bW' scWhy rfl (.inl rfl) (why_gives T.V) TB rfl (List.mem_singleton.mpr rfl) (fun p hp _ => by rw [List.mem_singleton.mp hp]; rfl) hr (lamS_by (sc := defScope sLaw) (by decide +kernel)) rfl (fun _ _ _ _ _ => rfl) (fun A2 o2 s2 H2 E2 f2 c2 hr2 => pe_call GWo (hr2.mono (by decide)) (by rfl) T.gWo T.FWo.kp T.bWo .nil (passes_call (takes_of rfl rfl rfl rfl) (fun _ _ _ _ h => h)) (pa_cons (pv 15) pa_nil))))
      (pss_one (ps_ret (pe_and (pe_cmpR (op_eqD hu) (pe_slice sl_tup (pv 16) po_none (po_some pe_int)) (pe_tup (pa_cons pe_str (pa_cons pe_str pa_nil))) (nomark _)) (pe_one (pe_cmpR (op_own GE r1 T.N.eq T.N.ef T.N.en T.bE pass0) (pe_ix ix_tup (pv 16) pe_int (fun _ _ => rfl)) (pv 15) (nomark _))))))))))))), ?_⟩
    refine ⟨fun σ' H' => ∃ p pc : Addr, σ' = [some (.ref a), some (.ref p), none, none, none, none, none, none, none, none, none, none, none, none, none, none, none] ∧ Sx TT p pc 0 H', ?_, ?_⟩
    · refine ⟨_, rfl, a, ns, rfl, hS, hlen, fun H' p pc sm np nc hP => ⟨p, pc, rfl, 0, Nat.le_refl _, hP, fun q hq => ?_⟩⟩
      rw [List.mem_singleton.mp hq]
      exact TabS.nil (sm _ _ hTP)
    rintro _ H1 ⟨p, pc, rfl, x1⟩
    clear hTP hS
    -- six laps
    refine ⟨fun σ' H' => ∃ (v2 v3 v4 v5 v6 v7 v8 v9 v10 v11 v12 v13 v14 v15 v16 : Option V) (t : Addr) (L : List Nat), σ' = [some (.ref a), some (.ref p), v2, some (.int (L.length : Int)), some (.ref t), v5, v6, v7, v8, v9, v10, v11, v12, v13, v14, v15, v16] ∧ Sx TT p pc 300 H' ∧ StrAt H' t L 0 ∧ Lets L ∧ 1 ≤ L.length ∧ L.length ≤ 24, ?_, ?_⟩
    · refine ⟨6, rfl, by decide, by decide, for_range (n := 6) (fun i σ' H' => ∃ (v2 v3 v4 v5 v6 v7 v8 v9 v10 v11 v12 v13 v14 v15 v16 : Option V), σ' = [some (.ref a), some (.ref p), v2, v3, v4, v5, v6, v7, v8, v9, v10, v11, v12, v13, v14, v15, v16] ∧ Sx TT p pc (50 * i) H' ∧ (i = 0 ∨ ∃ (t : Addr) (L : List Nat), v3 = some (.int (L.length : Int)) ∧ v4 = some (.ref t) ∧ StrAt H' t L 0 ∧ Lets L ∧ 1 ≤ L.length ∧ L.length ≤ 24))
        ⟨none, none, none, none, none, none, none, none, none, none, none, none, none, none, none, rfl, x1, .inl rfl⟩ ?_ ?_⟩
      rotate_left
      · rintro _ H2 ⟨v2, v3, v4, v5, v6, v7, v8, v9, v10, v11, v12, v13, v14, v15, v16, rfl, x2, h0⟩
        obtain ⟨t, L, rfl, rfl, et, hL, l1, l2⟩ := h0.resolve_left (by decide)
        exact ⟨v2, none, none, v5, v6, v7, v8, v9, v10, v11, v12, v13, v14, v15, v16, t, L, rfl, x2, et, hL, l1, l2⟩
      rintro i _ H2 hi ⟨v2, v3, v4, v5, v6, v7, v8, v9, v10, v11, v12, v13, v14, v15, v16, rfl, x2, _⟩
      -- the size
      refine ⟨fun σ' H' => ∃ m : Nat, 1 ≤ m ∧ m ≤ 24 ∧ σ' = [some (.ref a), some (.ref p), some (.int (0 + (i : Nat))), some (.int (m : Int)), v4, v5, v6, v7, v8, v9, v10, v11, v12, v13, v14, v15, v16] ∧ Sx TT p pc (50 * i + 2) H', ?_, ?_⟩
      · obtain ⟨n, hn, hP, tb⟩ := x2
        refine ⟨_, rfl, _, rfl, by show 3 ≤ sizeLine; decide, fun r nr => ⟨p, pc, r, n, _, rfl, pen_sm hP (same_new nr), by omega, .inl (SqL.of upd_same), by simp, by show 3 ≤ 1000; decide, fun j v H3 hj hP3 hk3 => ?_⟩⟩
        obtain ⟨b, rfl, hb1, hb2⟩ : ∃ b : Int, v = .int b ∧ 3 ≤ b ∧ b ≤ 24 := by
          have := List.mem_of_getElem? hj
          simp only [List.mem_cons, List.mem_nil_iff, or_false] at this
          rcases this with h | h | h
          · exact ⟨3, h, by decide, by decide⟩
          · exact ⟨12, h, by decide, by decide⟩
          · exact ⟨24, h, by decide, by decide⟩
        refine ⟨p, pc, n + 1, b, rfl, hP3, by omega, by omega, Nat.lt_of_le_of_lt (by omega : b.natAbs ≤ 24) (by decide), fun y H4 y0 y1 hP4 hk4 => ⟨_, _, rfl, rfl, (1 + y).toNat, by omega, by omega, ?_, ?_⟩⟩
        · have e : (((1 + y).toNat : Nat) : Int) = 1 + y := by omega
          rw [e]
          rfl
        · have t3 := tabs_keepP (pen_sm hP (same_new nr)) (Tabs.ext tb (same_new nr)) (KeepP.of_eq hk3)
          exact sx_step hP3 t3 hP4 (KeepP.of_eq hk4) (by omega)
      rintro _ H3 ⟨m, m1, m2, rfl, x3⟩
      clear x2
      -- the letters
      refine ⟨fun σ' H' => ∃ (t : Addr) (L : List Nat), L.length = m ∧ Lets L ∧ σ' = [some (.ref a), some (.ref p), some (.int (0 + (i : Nat))), some (.int (m : Int)), some (.ref t), v5, v6, v7, v8, v9, v10, v11, v12, v13, v14, v15, v16] ∧ Sx TT p pc (50 * i + 26) H' ∧ StrAt H' t L 0, ?_, ?_⟩
      · obtain ⟨n, hn, hP, tb⟩ := x3
        refine ⟨_, rfl, _, rfl, p, pc, n, m, rfl, hP, by omega, by omega, fun L t H4 hl hL et hP4 k4 => ⟨t, L, hl, hL, rfl, sx_step hP tb hP4 k4 (by omega), et⟩⟩
      rintro _ H4 ⟨t, L, hl, hL, rfl, x4, et⟩
      subst hl
      clear x3
      have h0 : L ≠ [] := fun z => by rw [z] at m1; simp at m1
      -- its sign
      refine ⟨fun σ' H' => ∃ (t2 : Addr) (z : Nat), z < 2 ∧ σ' = [some (.ref a), some (.ref p), some (.int (0 + (i : Nat))), some (.int (L.length : Int)), some (.ref t), some (.ref t2), v6, v7, v8, v9, v10, v11, v12, v13, v14, v15, v16] ∧ Sx TT p pc (50 * i + 27) H' ∧ StrAt H' t L 0 ∧ StrAt H' t2 L z, ?_, ?_⟩
      · obtain ⟨n, hn, hP, tb⟩ := x4
        have sq : SqT K H4 t [.int (bv lx L : Nat), .int (bv lz L : Nat), .int ((0 : Nat) : Int)] := .inl (.inl et)
        have j0 : atI [V.int (bv lx L : Nat), V.int (bv lz L : Nat), V.int ((0 : Nat) : Int)] 0 = some (.int (bv lx L : Nat)) := at_of (j := 0) rfl rfl
        have j1 : atI [V.int (bv lx L : Nat), V.int (bv lz L : Nat), V.int ((0 : Nat) : Int)] 1 = some (.int (bv lz L : Nat)) := at_of (j := 1) rfl rfl
        refine ⟨_, rfl, t, _, _, _, rfl, rfl, sq, j0, _, rfl, t, _, _, _, rfl, rfl, sq, j1, _, rfl, p, pc, n, 2, rfl, hP, by omega, by decide, by decide, fun y H5 y0 y1 hP5 hk5 => ⟨by show 3 ≤ sizeLine; decide, fun t2 nt2 => ?_⟩⟩
        obtain ⟨z, rfl⟩ := Int.eq_ofNat_of_zero_le y0
        have sn := same_new (o := HO.tup [.int (bv lx L : Nat), .int (bv lz L : Nat), .int (z : Nat)]) nt2
        refine ⟨t2, z, by omega, rfl, (sx_step hP tb hP5 (KeepP.of_eq hk5) (by omega) : Sx TT p pc (50 * i + 27) H5).same sn, sn _ _ (pk_same hP hk5 et (by intro kv z; cases z)), upd_same⟩
      rintro _ H5 ⟨t2, z, z2, rfl, x5, et5, es5⟩
      clear x4 et
      obtain ⟨Wd, hWd⟩ : ∃ Wd, Wd = sg z ++ wordOf L := ⟨_, rfl⟩
      have Wl : Wd.length ≤ 97 := by
        rw [hWd, List.length_append]
        have := sg_len z
        have := wordOf_len m2
        omega
      have hzB : (mS Wd).length ≤ sizeLine := by rw [mS_len]; exact sizeBig (by omega)
      have cw : colW L.length Wd = (0, pairs 0 L) := by
        rw [hWd]
        exact col_word (by omega) (lets_xyz hL) rfl (sg_cases z)
      have hw1 : hd1 Wd = z := by rw [hWd]; exact hd1_word hL z2
      obtain ⟨u1, u2, u3⟩ := read_own hL h0 (q := 2 * z) (by omega)
      rw [headL_sg z2] at u1 u2 u3
      -- the word
      refine ⟨fun σ' H' => σ' = [some (.ref a), some (.ref p), some (.int (0 + (i : Nat))), some (.int (L.length : Int)), some (.ref t), some (.ref t2), some (.str (mS Wd)), v7, v8, v9, v10, v11, v12, v13, v14, v15, v16] ∧ Same H5 H', ?_, ?_⟩
      · exact ⟨_, rfl, _, rfl, t2, L, z, rfl, es5, hL, m2, fun H' s' => ⟨by rw [hWd]; rfl, s'⟩⟩
      rintro _ H6 ⟨rfl, s6⟩
      have x6 := x5.same s6
      have et6 := et5.same s6
      have es6 := es5.same s6
      clear x5 et5 es5 s6
      -- placed
      refine ⟨fun σ' H' => ∃ a1 : Addr, σ' = [some (.ref a), some (.ref p), some (.int (0 + (i : Nat))), some (.int (L.length : Int)), some (.ref t), some (.ref t2), some (.str (mS Wd)), some (.ref a1), v8, v9, v10, v11, v12, v13, v14, v15, v16] ∧ Same H6 H' ∧ PauliAt C H' a1 L (2 * z), ?_, ?_⟩
      · refine ⟨_, rfl, _, rfl, _, _, rfl, .inr ⟨L.length, rfl, m1, m2, .inr ⟨Wd, rfl, by omega, fun ne => absurd (by rw [cw]) ne, fun _ H' a1 s' PA => ⟨a1, rfl, s', ?_⟩⟩⟩⟩
        rw [cw, hw1] at PA
        have e := lets_of_word L
        rw [show LetsOf L.length (0, pairs 0 L).snd = L from e] at PA
        exact PA
      rintro _ H7 ⟨a1, rfl, s7, PA⟩
      have x7 := x6.same s7
      have et7 := et6.same s7
      have es7 := es6.same s7
      clear x6 et6 es6 s7
      -- what is told, and its word
      refine ⟨fun σ' H' => σ' = [some (.ref a), some (.ref p), some (.int (0 + (i : Nat))), some (.int (L.length : Int)), some (.ref t), some (.ref t2), some (.str (mS Wd)), some (.ref a1), v8, v9, v10, v11, v12, v13, v14, v15, v16] ∧ Same H7 H', ?_, ?_⟩
      · have sq : SqT K H7 t2 [.int (bv lx L : Nat), .int (bv lz L : Nat), .int (z : Nat)] := .inl (.inl es7)
        have j2 : atI [V.int (bv lx L : Nat), V.int (bv lz L : Nat), V.int (z : Nat)] 2 = some (.int (z : Nat)) := at_of (j := 2) rfl rfl
        refine ⟨_, rfl, _, rfl, _, rfl, t2, _, _, _, rfl, rfl, sq, j2, _, _, rfl, rfl, .inl ⟨by decide, by decide⟩, _, rfl, a1, t2, L, (z : Int), 2 * z, ?_, PA, es7, hL, by omega, _, rfl, iteF ?_⟩
        · show [V.ref a1, V.ref t2, V.int (2 * (z : Nat)), V.int (L.length : Int)] = _
          rw [show (2 : Int) * (z : Nat) = ((2 * z : Nat) : Int) by push_cast; rfl]
        refine ⟨_, rfl, a1, L, 2 * z, rfl, PA, by omega, m2, .inr ⟨by omega, fun H' s' => ⟨_, rfl, rfl, _, rfl, ?_⟩⟩⟩
        rw [headL_sg z2, ← hWd]
        exact iteNe ⟨rfl, s'⟩
      rintro _ H8 ⟨rfl, s8⟩
      have x8 := x7.same s8
      have et8 := et7.same s8
      have es8 := es7.same s8
      clear x7 et7 es7 s8 PA
      -- by its text
      refine ⟨fun σ' H' => σ' = [some (.ref a), some (.ref p), some (.int (0 + (i : Nat))), some (.int (L.length : Int)), some (.ref t), some (.ref t2), some (.str (mS Wd)), some (.ref a1), v8, v9, v10, v11, v12, v13, v14, v15, v16] ∧ Same H8 H', ?_, ?_⟩
      · refine ⟨_, rfl, _, rfl, t2, L, z, rfl, es8, hL, by omega, fun x dx nx nd ne => ⟨x, dx, _, rfl, upd_same, .inl ⟨sg z ++ L, rfl, ?_, .inl ⟨u3, fun H' PB k => ⟨rfl, x, L, 2 * z, rfl, ?_, by omega, m2, .inr ⟨by omega, fun H'' s' => ⟨_, rfl, rfl, _, rfl, ?_⟩⟩⟩⟩⟩⟩⟩
        · rw [List.length_append]
          have := sg_len z
          omega
        · rw [u1, u2] at PB
          exact PB
        · rw [headL_sg z2, ← hWd]
          exact iteNe ⟨rfl, (make_same nx nd k).trans s'⟩
      rintro _ H9 ⟨rfl, s9⟩
      have x9 := x8.same s9
      have et9 := et8.same s9
      clear x8 et8 es8 s9
      -- four bent words
      refine ⟨4, rfl, by decide, by decide, for_range (n := 4) (fun k σ' H' => ∃ v8 v9 v10 v11 v12 : Option V, σ' = [some (.ref a), some (.ref p), some (.int (0 + (i : Nat))), some (.int (L.length : Int)), some (.ref t), some (.ref t2), some (.str (mS Wd)), some (.ref a1), v8, v9, v10, v11, v12, v13, v14, v15, v16] ∧ Sx TT p pc (50 * i + 27 + 4 * k) H' ∧ StrAt H' t L 0)
        ⟨_, _, _, _, _, rfl, x9, et9⟩ ?_ (fun _ H' ⟨_, _, _, _, _, e, x, et⟩ => ⟨_, _, _, _, _, _, _, _, _, _, _, _, _, _, _, e, x.mono (by omega), .inr ⟨t, L, rfl, rfl, et, hL, m1, m2⟩⟩)⟩
      clear x9 et9 v8 v9 v10 v11 v12
      rintro k _ H12 hk ⟨v8, v9, v10, v11, v12, rfl, x12, et12⟩
      -- where, and what sign
      refine ⟨fun σ' H' => ∃ (j : Nat) (S : List Nat), j ≤ Wd.length ∧ S.length ≤ 4 ∧ σ' = [some (.ref a), some (.ref p), some (.int (0 + (i : Nat))), some (.int (L.length : Int)), some (.ref t), some (.ref t2), some (.str (mS Wd)), some (.ref a1), some (.int (0 + (k : Nat))), some (.int (j : Int)), some (.str (mS S)), v11, v12, v13, v14, v15, v16] ∧ Sx TT p pc (50 * i + 29 + 4 * k) H' ∧ StrAt H' t L 0, ?_, ?_⟩
      · obtain ⟨n, hn, hP, tb⟩ := x12
        refine ⟨_, rfl, _, rfl, _, rfl, hzB, _, _, rfl, rfl, p, pc, n, _, rfl, hP, by omega, by omega, ?_, fun y H13 y0 y1 hP13 hk13 => ?_⟩
        · rw [mS_len]
          exact Nat.lt_of_le_of_lt (by omega : _ ≤ 98) (by decide)
        rw [mS_len] at y1
        refine ⟨_, rfl, _, rfl, by decide +kernel, fun l nl => ⟨by show 3 ≤ sizeLine; decide, fun r2 nr2 => ?_⟩⟩
        have nrl : r2 ≠ l := fun z => by rw [z, upd_same] at nr2; cases nr2
        refine ⟨l, r2, _, _, rfl, rfl, (upd_ne nrl.symm).trans upd_same, upd_same, by decide +kernel, fun pp npp => ?_⟩
        have sa := fun o : HO => ((same_new (o := HO.lst (("XYZI*-0123 +iA" : Str).cps.toList.map fun c => V.str ⟨#[c]⟩)) nl).trans (same_new nr2)).trans (same_new (o := o) npp)
        refine ⟨p, pc, pp, n + 1, _, rfl, pen_sm hP13 (sa _), by omega, .inl (SqL.of upd_same), by simp, by decide +kernel, fun u v H14 hv hP14 hk14 => ?_⟩
        obtain ⟨S, rfl, hS⟩ : ∃ S : List Nat, v = .str (mS S) ∧ S.length ≤ 4 := by
          rcases List.mem_append.mp (List.mem_of_getElem? hv) with h | h
          · obtain ⟨c, _, rfl⟩ := List.mem_map.mp h
            exact ⟨[c], rfl, by simp⟩
          · simp only [List.mem_cons, List.mem_nil_iff, or_false] at h
            rcases h with rfl | rfl | rfl
            · exact ⟨[], by rw [e_no], by simp⟩
            · exact ⟨[42, 90, 50], by rw [show ("*Z2" : Str) = mS [42, 90, 50] by decide +kernel], by simp⟩
            · exact ⟨[42, 88, 49, 49], by rw [show ("*X11" : Str) = mS [42, 88, 49, 49] by decide +kernel], by simp⟩
        refine ⟨_, _, rfl, y.toNat, S, by omega, hS, ?_, ?_, ?_⟩
        · have e : ((y.toNat : Nat) : Int) = y := by omega
          rw [e]
          rfl
        · have t13 := tabs_keepP hP tb (KeepP.of_eq hk13)
          exact sx_step (pen_sm hP13 (sa _)) (Tabs.ext t13 (sa _)) hP14 (KeepP.of_eq hk14) (by omega)
        · exact pk_same (pen_sm hP13 (sa _)) hk14 (sa _ _ _ (pk_same hP hk13 et12 (by intro kv z; cases z))) (by intro kv z; cases z)
      rintro _ H13 ⟨j, S, hj, hS, rfl, x13, et13⟩
      clear x12 et12
      -- the bent word
      refine ⟨fun σ' H' => ∃ D : List Nat, D.length ≤ 250 ∧ σ' = [some (.ref a), some (.ref p), some (.int (0 + (i : Nat))), some (.int (L.length : Int)), some (.ref t), some (.ref t2), some (.str (mS Wd)), some (.ref a1), some (.int (0 + (k : Nat))), some (.int (j : Int)), some (.str (mS S)), some (.str (mS D)), v12, v13, v14, v15, v16] ∧ Sx TT p pc (50 * i + 30 + 4 * k) H' ∧ StrAt H' t L 0, ?_, ?_⟩
      · obtain ⟨n, hn, hP, tb⟩ := x13
        refine ⟨_, rfl, _, rfl, _, rfl, _, rfl, hzB, _, rfl, _, _, rfl, rfl, ?_, ?_⟩
        · rw [cut_to, mS_len, mS_len, List.length_take]
          exact sizeBig (by omega)
        refine ⟨_, rfl, _, rfl, _, rfl, p, pc, n, 2, rfl, hP, by omega, by decide, by decide, fun y H14 y0 y1 hP14 hk14 => ⟨_, _, rfl, rfl, _, rfl, _, rfl, hzB, _, _, rfl, rfl, ?_, ?_⟩⟩
        · have e : ((j : Nat) : Int) + y = ((j + y.toNat : Nat) : Int) := by omega
          rw [e, cut_to, cut_from, mS_app, mS_len, mS_len, List.length_append, List.length_take, List.length_drop]
          exact sizeBig (by omega)
        · have e : ((j : Nat) : Int) + y = ((j + y.toNat : Nat) : Int) := by omega
          refine ⟨(Wd.take j ++ S) ++ Wd.drop (j + y.toNat), ?_, ?_, sx_step hP tb hP14 (KeepP.of_eq hk14) (by omega), pk_same hP hk14 et13 (by intro kv z; cases z)⟩
          · rw [List.length_append, List.length_append, List.length_take, List.length_drop]
            omega
          · show [_, _, _, _, _, _, _, _, _, _, _, some (V.str (cutS (mS Wd) none (some ((j : Nat) : Int)) ++ mS S ++ cutS (mS Wd) (some (((j : Nat) : Int) + y)) none)), _, _, _, _, _] = _
            rw [e, cut_to, cut_from, mS_app, mS_app]
      rintro _ H14 ⟨D, hD, rfl, x14, et14⟩
      clear x13 et13
      have hzD : (mS D).length ≤ sizeLine := by rw [mS_len]; exact sizeBig (by omega)
      -- perhaps cut
      refine ⟨fun σ' H' => ∃ D : List Nat, D.length ≤ 250 ∧ σ' = [some (.ref a), some (.ref p), some (.int (0 + (i : Nat))), some (.int (L.length : Int)), some (.ref t), some (.ref t2), some (.str (mS Wd)), some (.ref a1), some (.int (0 + (k : Nat))), some (.int (j : Int)), some (.str (mS S)), some (.str (mS D)), v12, v13, v14, v15, v16] ∧ Sx TT p pc (50 * i + 31 + 4 * k) H' ∧ StrAt H' t L 0, ?_, ?_⟩
      · obtain ⟨n, hn, hP, tb⟩ := x14
        refine ⟨_, rfl, p, pc, n, 5, rfl, hP, by omega, by decide, by decide, fun y H15 y0 y1 hP15 hk15 => ⟨rfl, _, rfl, ite2 (fun _ => ?_) (fun _ => ?_)⟩⟩
        · refine ⟨_, rfl, _, rfl, _, rfl, _, rfl, hzD, D.take j, by rw [List.length_take]; omega, ?_, sx_step hP tb hP15 (KeepP.of_eq hk15) (by omega), pk_same hP hk15 et14 (by intro kv z; cases z)⟩
          rw [cut_to]
          rfl
        · exact ⟨_, rfl, D, hD, rfl, sx_step hP tb hP15 (KeepP.of_eq hk15) (by omega), pk_same hP hk15 et14 (by intro kv z; cases z)⟩
      rintro _ H15 ⟨D, hD, rfl, x15, et15⟩
      clear x14 et14 hzD
      obtain ⟨cc, hcc⟩ : ∃ cc, cc = (colW L.length D).1 := ⟨_, rfl⟩
      -- the column
      refine ⟨fun σ' H' => σ' = [some (.ref a), some (.ref p), some (.int (0 + (i : Nat))), some (.int (L.length : Int)), some (.ref t), some (.ref t2), some (.str (mS Wd)), some (.ref a1), some (.int (0 + (k : Nat))), some (.int (j : Int)), some (.str (mS S)), some (.str (mS D)), some (.int ((cc : Nat) : Int)), v13, v14, v15, v16] ∧ Same H15 H', ?_, ?_⟩
      · exact ⟨_, rfl, _, rfl, L.length, D, rfl, m1, m2, by omega, fun H' s' => ⟨by rw [hcc]; rfl, s'⟩⟩
      rintro _ H16 ⟨rfl, s16⟩
      have x16 := x15.same s16
      have et16 := et15.same s16
      clear x15 s16 et15
      -- by the list of all words
      refine ⟨fun σ' H' => σ' = [some (.ref a), some (.ref p), some (.int (0 + (i : Nat))), some (.int (L.length : Int)), some (.ref t), some (.ref t2), some (.str (mS Wd)), some (.ref a1), some (.int (0 + (k : Nat))), some (.int (j : Int)), some (.str (mS S)), some (.str (mS D)), some (.int ((cc : Nat) : Int)), v13, v14, v15, v16] ∧ Same H16 H', ?_, ?_⟩
      · refine ⟨_, rfl, _, _, rfl, rfl, _, rfl, ?_⟩
        by_cases sm4 : L.length < 4
        · rw [decide_eq_true (by omega)]
          refine iteT ⟨_, rfl, _, rfl, _, rfl, L.length, D, rfl, m1, by omega, by omega, fun H' c s' hc => ⟨rfl, _, rfl, ?_⟩⟩
          have : c = cc := by rw [hcc]; exact hc.uniq (col_by_list (by omega) sm4 D)
          rw [this]
          exact iteNe ⟨rfl, s'⟩
        · rw [decide_eq_false (by omega)]
          exact iteF (iteF ⟨rfl, fun _ _ e => e⟩)
      rintro _ H17 ⟨rfl, s17⟩
      have x17 := x16.same s17
      have et17 := et16.same s17
      clear x16 s17 et16
      obtain ⟨n, hn, hP, tb⟩ := id x17
      refine ⟨tb, fun H1 x1 tb1 p0 np0 => ⟨_, rfl, _, rfl, _, _, rfl, .inr ⟨L.length, rfl, m1, m2, .inr ⟨D, rfl, by omega, ?_, ?_⟩⟩⟩⟩
      · intro ne
        have xb := x17.ext x1 tb1
        have etb : StrAt H1 t L 0 := x1 _ _ et17 (fun ps z => by cases z)
        refine fun d H2 s2 ed => .inl ⟨d, .int 1, .int ((cc : Nat) : Int), rfl, rfl, by rw [hcc]; exact ed, fun pp npp => ?_⟩
        have hpos : (0 : Int) < ((cc : Nat) : Int) := by omega
        have ms : Same H1 (upd H2 pp (.tup [.str "text", .int 1, .int ((cc : Nat) : Int)])) := ((same_new np0).trans s2).trans (same_new npp)
        refine ⟨_, rfl, _, _, rfl, rfl, _, rfl, ?_⟩
        rw [decide_eq_true hpos]
        refine iteT ⟨_, rfl, by show 3 ≤ sizeLine; decide, fun r nr => ne3 (same_new nr _ _ upd_same) upd_same ⟨_, rfl, iteF ?_⟩⟩
        exact ⟨_, _, _, _, _, rfl, ((xb.same ms).same (same_new nr)).mono (by omega), (etb.same ms).same (same_new nr)⟩
      · intro c0 H' a2 s' PB
        have xb := x17.ext x1 tb1
        have etb : StrAt H1 t L 0 := x1 _ _ et17 (fun ps z => by cases z)
        have ms : Same H1 H' := (same_new np0).trans s'
        have e0 : H' p0 = some (.tup [.str ("none" : Str)]) := s' _ _ upd_same
        refine ⟨_, rfl, _, rfl, _, _, rfl, rfl, _, rfl, ?_⟩
        rw [decide_eq_false (by omega)]
        refine iteF ⟨by show 1 ≤ sizeLine; decide, fun r nr => ne1 (same_new nr _ _ e0) upd_same ⟨_, rfl, iteF ?_⟩⟩
        exact ⟨_, _, _, _, _, rfl, ((xb.same ms).same (same_new nr)).mono (by omega), (etb.same ms).same (same_new nr)⟩
    rintro _ H2 ⟨v2, v3, v4, v5, v6, v7, v8, v9, v10, v11, v12, v13, v14, v15, v16, t, L, rfl, x2, et, hL, m1, m2⟩
    clear x1
    have h0 : L ≠ [] := fun z => by rw [z] at m1; simp at m1
    -- what is no size, and what is no word
    refine ⟨fun σ' H' => ∃ ov wv : V, σ' = [some (.ref a), some (.ref p), v2, some (.int (L.length : Int)), some (.ref t), v5, v6, v7, v8, v9, v10, v11, v12, some ov, some wv, v15, v16] ∧ OddV H' ov ∧ Odd H' wv ∧ Sx TT p pc 302 H' ∧ StrAt H' t L 0, ?_, ?_⟩
    · obtain ⟨n, hn, hP, tb⟩ := x2
      refine ⟨_, rfl, _, rfl, by show 1 ≤ sizeLine; decide, fun l1 n1 => ⟨by show 6 ≤ sizeLine; decide, fun l2 n2 => ?_⟩⟩
      have sA := (same_new (o := HO.lst [V.int 4]) n1).trans (same_new (o := HO.lst [V.int 0, .int (-1), .non, .bl true, .str "3", .ref l1]) n2)
      have e1 := same_new (o := HO.lst [V.int 0, .int (-1), .non, .bl true, .str "3", .ref l1]) n2 _ _ (upd_same (H := H2) (a := l1) (o := HO.lst [V.int 4]))
      have hPA := pen_sm hP sA
      refine ⟨p, pc, l2, n, _, rfl, hPA, by omega, .inl (SqL.of upd_same), by simp, by show 6 ≤ 1000; decide, fun j v H3 hj hP3 hk3 => ?_⟩
      have ho : OddV H3 v := by
        have := List.mem_of_getElem? hj
        simp only [List.mem_cons, List.mem_nil_iff, or_false] at this
        rcases this with h | h | h | h | h | h <;> subst h
        · exact .inl (.inl rfl)
        · exact .inl (.inr (.inl rfl))
        · exact .inl (.inr (.inr (.inl rfl)))
        · exact .inl (.inr (.inr (.inr (.inl rfl))))
        · exact .inl (.inr (.inr (.inr (.inr rfl))))
        · exact .inr ⟨l1, rfl, pk_same hPA hk3 e1 (by intro kv z; cases z)⟩
      have tb3 := tabs_keepP hPA (Tabs.ext tb sA) (KeepP.of_eq hk3)
      have et3 : StrAt H3 t L 0 := pk_same hPA hk3 (sA _ _ et) (by intro kv z; cases z)
      refine ⟨_, rfl, by show 1 ≤ sizeLine; decide, fun l3 n3 => ⟨by show 1 ≤ sizeLine; decide, fun l4 n4 => ⟨by show 5 ≤ sizeLine; decide, fun l5 n5 => ?_⟩⟩⟩
      have sB := ((same_new (o := HO.lst [V.str "X0"]) n3).trans (same_new (o := HO.tup [V.str "X0"]) n4)).trans (same_new (o := HO.lst [V.non, .int 5, .ref l3, .ref l4, .bl true]) n5)
      have e3 := same_new (o := HO.lst [V.non, .int 5, .ref l3, .ref l4, .bl true]) n5 _ _ (same_new (o := HO.tup [V.str "X0"]) n4 _ _ (upd_same (H := H3) (a := l3) (o := HO.lst [V.str "X0"])))
      have e4 := same_new (o := HO.lst [V.non, .int 5, .ref l3, .ref l4, .bl true]) n5 _ _ (upd_same (H := upd H3 l3 (.lst [V.str "X0"])) (a := l4) (o := HO.tup [V.str "X0"]))
      have hPB := pen_sm hP3 sB
      refine ⟨p, pc, l5, n + 1, _, rfl, hPB, by omega, .inl (SqL.of upd_same), by simp, by show 5 ≤ 1000; decide, fun j' v' H4 hj' hP4 hk4 => ⟨by show 2 ≤ sizeLine; decide, fun tt ntt => ?_⟩⟩
      have hw : Odd H4 v' := by
        have := List.mem_of_getElem? hj'
        simp only [List.mem_cons, List.mem_nil_iff, or_false] at this
        rcases this with h | h | h | h | h <;> subst h
        · exact .inl rfl
        · exact .inr (.inr (.inl ⟨_, rfl⟩))
        · exact .inr (.inr (.inr (.inl ⟨_, _, rfl, pk_same hPB hk4 e3 (by intro kv z; cases z)⟩)))
        · exact .inr (.inr (.inr (.inr (.inl ⟨_, _, rfl, pk_same hPB hk4 e4 (by intro kv z; cases z)⟩))))
        · exact .inr (.inl ⟨_, rfl⟩)
      have ho4 : OddV H4 v := by
        rcases ho with h | ⟨l, h, e⟩
        · exact .inl h
        · exact .inr ⟨l, h, pk_same hPB hk4 (sB _ _ e) (by intro kv z; cases z)⟩
      have sn := same_new (o := HO.tup [v, v']) ntt
      exact ⟨tt, _, rfl, .inl (.inl upd_same), rfl, _, _, rfl, _, _, rfl, rfl, v, v', rfl, ho4.same sn, hw.same sn, (sx_step hPB (Tabs.ext tb3 sB) hP4 (KeepP.of_eq hk4) (by omega) : Sx TT p pc 302 H4).same sn, (show StrAt H4 t L 0 from pk_same hPB hk4 (sB _ _ et3) (by intro kv z; cases z)).same sn⟩
    clear x2 et v13 v14
    rintro _ H3 ⟨ov, wv, rfl, ho, hw, x3, et⟩
    refine ⟨fun σ' H' => σ' = [some (.ref a), some (.ref p), v2, some (.int (L.length : Int)), some (.ref t), v5, v6, v7, v8, v9, v10, v11, v12, some ov, some wv, v15, v16] ∧ Odd H' wv ∧ Sx TT p pc 302 H' ∧ StrAt H' t L 0, ?_, ?_⟩
    · obtain ⟨n, hn, hP, tb⟩ := id x3
      refine ⟨tb, fun H1 x1 tb1 p0 np0 => ?_⟩
      have ho1 := ho.ext x1
      have hw1 := hw.ext x1
      have xb := x3.ext x1 tb1
      have etb : StrAt H1 t L 0 := x1 _ _ et (fun ps z => by cases z)
      have s0 := same_new (o := HO.tup [V.str "none"]) np0
      refine ⟨_, rfl, _, rfl, _, _, rfl, .inl ⟨(ho1.same s0).odd, fun d H4 s4 ed => .inr ⟨d, _, _, rfl, rfl, ed, fun pp npp => ?_⟩⟩⟩
      refine ⟨_, rfl, by show 3 ≤ sizeLine; decide, fun r nr => ?_⟩
      have sa := (s0.trans s4).trans (same_new (o := HO.tup [V.str "number", .str "size", ov]) npp)
      have sb := sa.trans (same_new (o := HO.tup [V.str "number", .str "size", ov]) nr)
      exact neN (same_new nr _ _ upd_same) upd_same (ho1.same sb).dv ⟨_, rfl, iteF ⟨rfl, hw1.same sb, xb.same sb, etb.same sb⟩⟩
    clear x3 ho hw et
    rintro _ H4 ⟨rfl, hw, x4, et⟩
    refine ⟨fun σ' H' => σ' = [some (.ref a), some (.ref p), v2, some (.int (L.length : Int)), some (.ref t), v5, v6, v7, v8, v9, v10, v11, v12, some ov, some wv, v15, v16] ∧ Sx TT p pc 302 H' ∧ StrAt H' t L 0, ?_, ?_⟩
    · obtain ⟨n, hn, hP, tb⟩ := id x4
      refine ⟨tb, fun H1 x1 tb1 p0 np0 => ?_⟩
      have hw1 := hw.ext x1
      have xb := x4.ext x1 tb1
      have etb : StrAt H1 t L 0 := x1 _ _ et (fun ps z => by cases z)
      have s0 := same_new (o := HO.tup [V.str "none"]) np0
      refine ⟨_, rfl, _, _, rfl, .inr ⟨5, rfl, by decide, by decide, .inl ⟨hw1.same s0, fun d H5 s5 ed => .inl ⟨d, _, _, rfl, rfl, ed, fun pp npp => ?_⟩⟩⟩⟩
      refine ⟨by show 3 ≤ sizeLine; decide, fun r nr => ?_⟩
      have sa := (s0.trans s5).trans (same_new (o := HO.tup [V.str "text", .int 0, .int 0]) npp)
      have sb := sa.trans (same_new (o := HO.tup [V.str "text", .int 0, .int 0]) nr)
      exact ne3 (same_new nr _ _ upd_same) upd_same ⟨_, rfl, iteF ⟨rfl, xb.same sb, etb.same sb⟩⟩
    clear x4 hw et
    rintro _ H5 ⟨rfl, x5, et⟩
    -- a string with i
    refine ⟨fun σ' H' => ∃ (a2 : Addr) (qq : Nat), qq < 4 ∧ qq % 2 = 1 ∧ σ' = [some (.ref a), some (.ref p), v2, some (.int (L.length : Int)), some (.ref t), v5, v6, v7, v8, v9, v10, v11, v12, some ov, some wv, some (.ref a2), v16] ∧ PauliAt C H' a2 L qq ∧ Tabs TT H', ?_, ?_⟩
    · obtain ⟨n, hn, hP, tb⟩ := x5
      refine ⟨_, rfl, by show 2 ≤ sizeLine; decide, fun r nr => ⟨p, pc, r, n, _, rfl, pen_sm hP (same_new nr), by omega, .inl (SqL.of upd_same), by simp, by show 2 ≤ 1000; decide, fun j v H6 hj hP6 hk6 => ?_⟩⟩
      obtain ⟨qq, rfl, q4, q2⟩ : ∃ qq : Nat, v = .str (mS (headL qq)) ∧ qq < 4 ∧ qq % 2 = 1 := by
        have := List.mem_of_getElem? hj
        simp only [List.mem_cons, List.mem_nil_iff, or_false] at this
        rcases this with h | h <;> subst h
        · exact ⟨1, by rw [e_i]; rfl, by decide, by decide⟩
        · exact ⟨3, by rw [e_mi]; rfl, by decide, by decide⟩
      have et6 : StrAt H6 t L 0 := pk_same (pen_sm hP (same_new nr)) hk6 (same_new nr _ _ et) (by intro kv z; cases z)
      have tb6 := tabs_keepP (pen_sm hP (same_new nr)) (Tabs.ext tb (same_new nr)) (KeepP.of_eq hk6)
      obtain ⟨u1, u2, u3⟩ := read_own hL h0 q4
      have hl2 := headL_len q4
      refine ⟨_, rfl, _, rfl, t, L, _, rfl, et6, hL, by omega, _, _, rfl, rfl, ?_, fun x dx nx nd ne => ⟨x, dx, .str (mS (headL qq ++ L)), ?_, upd_same, .inl ⟨headL qq ++ L, rfl, ?_, .inl ⟨u3, fun H' PB k => ⟨rfl, x, qq, q4, q2, rfl, ?_, ?_⟩⟩⟩⟩⟩
      · rw [mS_len, mS_len]
        exact sizeBig (by omega)
      · rw [← mS_app]
        rfl
      · rw [List.length_append]
        omega
      · rw [u1, u2] at PB
        exact PB
      · exact Tabs.ext tb6 (make_same nx nd k)
    clear x5 et
    rintro _ H6 ⟨a2, qq, q4, q2, rfl, PA, tb⟩
    refine ⟨fun σ' H' => ∃ pp : Addr, σ' = [some (.ref a), some (.ref p), v2, some (.int (L.length : Int)), some (.ref t), v5, v6, v7, v8, v9, v10, v11, v12, some ov, some wv, some (.ref a2), some (.ref pp)] ∧ PauliAt C H' a2 L qq ∧ H' pp = some (.tup [.str "number", .str "sign", .ref a2]), ?_, ?_⟩
    · refine ⟨tb, fun H1 x1 tb1 p0 np0 => ?_⟩
      have PA1 : PauliAt C H1 a2 L qq := by
        obtain ⟨dx, fs, e, r⟩ := PA
        exact ⟨dx, fs, x1 _ _ e (fun ps z => by cases z), r⟩
      have s0 := same_new (o := HO.tup [V.str "none"]) np0
      refine ⟨_, rfl, a2, L, qq, rfl, PA1.same s0, q4, m2, .inl ⟨q2, fun d H7 s7 ed => .inr ⟨d, _, _, rfl, rfl, ed, fun pp npp => ?_⟩⟩⟩
      exact ⟨pp, rfl, ((PA1.same s0).same s7).same (same_new npp), upd_same⟩
    clear PA tb
    rintro _ H7 ⟨pp, rfl, PA, ep⟩
    have sq : SqT K H7 pp [.str "number", .str "sign", .ref a2] := SqT.of ep
    refine ⟨_, rfl, _, rfl, pp, _, rfl, sq, (by show ¬ (HT.sIx 3 0 none = 0 ∧ HT.sIx 3 3 (some 2) = 3); decide), fun r nr => ⟨by show 2 ≤ sizeLine; decide, fun r2 nr2 => ?_⟩⟩
    have sr := (same_new (o := HO.tup [V.str "number", .str "sign"]) nr).trans (same_new (o := HO.tup [V.str "number", .str "sign"]) nr2)
    refine ⟨.tuple [.str "number", .str "sign"], .tuple [.str "number", .str "sign"], .tup (SqT.of (same_new nr2 _ _ upd_same)) (.cons (.str _) (.cons (.str _) .nil)), .tup (SqT.of upd_same) (.cons (.str _) (.cons (.str _) .nil)), by decide +kernel, by decide +kernel, ?_⟩
    rw [show PyData.eqv (.tuple [.str ("number" : Str), .str ("sign" : Str)]) (.tuple [.str ("number" : Str), .str ("sign" : Str)]) = true by decide +kernel]
    have PA2 := PA.same sr
    obtain ⟨dx, fs, e, _⟩ := id PA2
    refine ⟨_, rfl, iteT ⟨_, rfl, pp, _, _, _, rfl, rfl, SqT.of (sr _ _ ep), at_of (j := 2) rfl rfl, _, rfl, a2, dx, fs, rfl, e, .inl ⟨a2, dx, fs, rfl, e⟩, a2, .ref a2, L, qq, rfl, PA2, .inl ⟨a2, L, qq, rfl, PA2, ⟨_, rfl⟩, ?_⟩⟩⟩
    rw [decide_eq_true (rfl : L = L), decide_eq_true (rfl : qq = qq)]
    exact q _
end
end KQ

namespace KQ
open PySem PySem.Spec PyProof.Rows L2 LamX

/-! ### what the top has written -/
/-- an own exception class straight over the class at cK, which is straight over ValueError -/
structure KC (K : PySem.W.Frag) (cK C : Addr) : Prop where
  l : ∃ nm q N bs sn sub ab col dd k0 k1 k2 k3 k5, K.lookup C = some (excClassObj nm q C N bs [.ref cK, .type "ValueError", .type "Exception", .type "BaseException", .type "object"] true sn sub ab col dd k0 k1 k2 k3 k5 "ValueError.__new__")
  sa : PySem.W.findIn K (Value.ref C) "__setattr__" = some (some (.builtin "object.__setattr__"))
  ty : PySem.W.typeIn K (.ref C) = some (.type "type")
  kp : PySem.W.keepIn K (Value.ref C) = true
  hg : PySem.W.findIn K (.ref C) "__getattribute__" = some (some (.builtin "BaseException.__getattribute__"))
  hk : PySem.W.findIn K (.ref C) "__getattr__" = some none
  ha : PySem.W.findIn K (Value.ref C) "__class__" = some (some (.builtin "object.__class__"))
theorem KC.of {K : PySem.W.Frag} {cK C N : Addr} {nm q : Str} {bs : List Value} {sn : List Str} {sub : List Value} {ab : Bool} {col : Option Bool} {dd : Option Addr} {k0 k1 k2 k3 k5 : Option Value}
    (l : K.lookup C = some (excClassObj nm q C N bs [.ref cK, .type "ValueError", .type "Exception", .type "BaseException", .type "object"] true sn sub ab col dd k0 k1 k2 k3 k5 "ValueError.__new__"))
    (sa : PySem.W.findIn K (.ref C) "__setattr__" = some (some (.builtin "object.__setattr__"))) (ty : PySem.W.typeIn K (.ref C) = some (.type "type")) (kp : PySem.W.keepIn K (.ref C) = true)
    (hg : PySem.W.findIn K (.ref C) "__getattribute__" = some (some (.builtin "BaseException.__getattribute__"))) (hk : PySem.W.findIn K (.ref C) "__getattr__" = some none)
    (ha : PySem.W.findIn K (.ref C) "__class__" = some (some (.builtin "object.__class__"))) : KC K cK C := ⟨⟨_, _, _, _, _, _, _, _, _, _, _, _, _, _, l⟩, sa, ty, kp, hg, hk, ha⟩
theorem fun_ex {K : PySem.W.Frag} {x qual : Str} {st : Stmt} {f : Addr} {oc : Value} {od an : Option Addr} {osl : Array (Option Value)} {kV doc pm cdv ct : Value} (l : K.lookup f = some ⟨oc, od, .func (PySem.W.fnOf x qual (defArgs st) (defBody st) (defScope st) .none kV doc pm an cdv ct), osl⟩)
    (c : PySem.W.codeIn K cdv qual = true) (k : PySem.W.keepIn K (.ref f) = true) : ∃ d, Fun K x qual st f d := ⟨_, L2.fun_mk l c k⟩
theorem KC.cls {K : PySem.W.Frag} {cK C : Addr} (h : KC K cK C) : ∃ cd, PySem.W.clsIn K C = some cd ∧ cd.mro = [.ref C, .ref cK, .type "ValueError", .type "Exception", .type "BaseException", .type "object"] ∧ cd.hasDict = true := by
  obtain ⟨nm, q, N, bs, sn, sub, ab, col, dd, k0, k1, k2, k3, k5, hl⟩ := h.l
  refine ⟨_, by unfold PySem.W.clsIn; rw [hl] <;> rfl, rfl, rfl⟩
theorem KC.mro {K : PySem.W.Frag} {cK C : Addr} (h : KC K cK C) (b : Value) : PySem.W.mroIn K C b = some ([Value.ref C, .ref cK, .type "ValueError", .type "Exception", .type "BaseException", .type "object"].contains b) := by
  obtain ⟨cd, e, m, _⟩ := h.cls
  unfold PySem.W.mroIn
  rw [e, Option.bind_some, m]
  rfl
theorem KC.exC {K : PySem.W.Frag} {cK C : Addr} (h : KC K cK C) : PySem.W.subIn K (.ref C) (.type "BaseException") = some true := by
  show PySem.W.mroIn K C _ = _
  rw [h.mro]
  rfl
theorem KC.ox {K : PySem.W.Frag} {cK C : Addr} (h : KC K cK C) : OexC K C := by
  obtain ⟨nm, q, N, bs, sn, sub, ab, col, dd, k0, k1, k2, k3, k5, hl⟩ := h.l
  exact ⟨⟨nm, q, N, bs, _, sn, sub, ab, col, dd, k0, k1, k2, k3, k5, hl, rfl⟩, h.sa, h.exC, h.ty, h.kp⟩

theorem KC.hd {K : PySem.W.Frag} {cK C : Addr} (h : KC K cK C) : PySem.W.hasDictIn K C = true := by
  obtain ⟨cd, e, _, d⟩ := h.cls
  show (PySem.W.clsIn K C).any _ = true
  rw [e]
  exact d
theorem KC.xf {K : PySem.W.Frag} {cK C : Addr} (h : KC K cK C) : XfC K C := ⟨h.hg, h.hk, h.exC, h.hd⟩
theorem KC.ex {K : PySem.W.Frag} {cK C : Addr} (h : KC K cK C) : PySem.W.exmOne K (.ref C) (.ref C) = some true := by
  refine PySem.W.exm_ref h.exC h.hd h.ty ?_
  show PySem.W.mroIn K C _ = _
  rw [h.mro, List.contains_cons, beq_self_eq_true, Bool.true_or]


theorem hd_ex {K : PySem.W.Frag} {A : Addr} {t0 t1 t2 t3 : Tok} {n : Nat} {sl : Array (Option Value)} (l : K.lookup A = some ⟨.type "tuple", none, .seq #[.str "" t0, .str "i" t1, .str "-" t2, .str "-i" t3] n, sl⟩) : ∃ t0 t1 t2 t3 n sl, K.lookup A = some ⟨.type "tuple", none, .seq #[.str "" t0, .str "i" t1, .str "-" t2, .str "-i" t3] n, sl⟩ := ⟨_, _, _, _, _, _, l⟩

theorem all_mk {l : PySem.W.OpenLaw} {w : World} {K : PySem.W.Frag} {h : Heap} {mg : Str → Option Value} {fa : Addr} {CX : CXT} (eCX : CX = CX0) (X : K.In h) (G : h.Ns mainGlobals mg) (hfa : mg "law" = some (.ref fa)) {ts : List Addr} (hTs : ∀ R ∈ ts, h.get? R = some (PySem.W.tabObj #[]))
    {cK C CT CN cU cA cM fI fE fB fN hA fG fPl fWo fC fR fD fM fPn fDr fPk fOn fLe fTl fOt fWd fWt fSo fWy fTo fEv fCo fBy fLa c tP : Addr} {oc ec kV doc pm ct : Value} {od an dc : Option Addr} {osl sc : Array (Option Value)} {vc : Array Value}
    (aK : PySem.W.nsIn K mainGlobals "KeptError" = some (some (.ref cK)))
    (aT : PySem.W.nsIn K mainGlobals "BadText" = some (some (.ref CT)))
    (aP : PySem.W.nsIn K mainGlobals "Pauli" = some (some (.ref C)))
    (aH : PySem.W.nsIn K mainGlobals "HEADS" = some (some (.ref hA)))
    (aN : PySem.W.nsIn K mainGlobals "BadNumber" = some (some (.ref CN)))
    (aU : PySem.W.nsIn K mainGlobals "Unlike" = some (some (.ref cU)))
    (aA : PySem.W.nsIn K mainGlobals "Anticommute" = some (some (.ref cA)))
    (aM : PySem.W.nsIn K mainGlobals "MinusOne" = some (some (.ref cM)))
    (kc : KC K cK CT)
    (kcN : KC K cK CN)
    (icT : PySem.W.findIn K (.ref CT) "__init__" = some (some (.ref fB)))
    (tiT : PySem.W.typeIn K (.ref fB) = some (.type "function"))
    (nt0 : PySem.W.findIn K (.ref CT) "line" = some none)
    (nt1 : PySem.W.findIn K (.ref CT) "column" = some none)
    (icN : PySem.W.findIn K (.ref CN) "__init__" = some (some (.ref fN)))
    (tiN : PySem.W.typeIn K (.ref fN) = some (.type "function"))
    (nn0 : PySem.W.findIn K (.ref CN) "what" = some none)
    (nn1 : PySem.W.findIn K (.ref CN) "number" = some none)
    (nx0 : PySem.W.findIn K (.ref CT) "what" = some none)
    (nx1 : PySem.W.findIn K (.ref CT) "one" = some none)
    (nx2 : PySem.W.findIn K (.ref CT) "other" = some none)
    (nx3 : PySem.W.findIn K (.ref CT) "indices" = some none)
    (FN : ∃ d, Fun K "__init__" "BadNumber.__init__" sInitB fN d)
    (exNT : PySem.W.exmOne K (.ref CN) (.ref CT) = some false)
    (FB : ∃ d, Fun K "__init__" "BadText.__init__" sInitT fB d)
    (pgP : PySem.W.plainGet K C Str.empty = true)
    (hdi : PySem.W.hasDictIn K C = true)
    (po : PySem.W.plainOver K C = true)
    (saP : PySem.W.findIn K (.ref C) "__setattr__" = some (some (.builtin "object.__setattr__")))
    (np0 : PySem.W.findIn K (.ref C) "letters" = some none)
    (np1 : PySem.W.findIn K (.ref C) "phase" = some none)
    (np2 : PySem.W.findIn K (.ref C) "size" = some none)
    (np3 : PySem.W.findIn K (.ref C) "weight" = some none)
    (mkC : PySem.W.makesIn K C = true)
    (icP : PySem.W.findIn K (.ref C) "__init__" = some (some (.ref fI)))
    (ifP : PySem.W.isFn K (.ref fI) = true)
    (kpP : PySem.W.keepIn K (.ref C) = true)
    (haP : PySem.W.findIn K (.ref C) "__class__" = some (some (.builtin "object.__class__")))
    (hnP : PySem.W.specialIn K (.builtin "object.__class__") "__get__" = some (some (.builtin "getset_descriptor.__get__")))
    (htP : PySem.W.takesIn K (.builtin "object.__class__") = some true)
    (hmP : PySem.W.mroIn K C (.type "object") = some true)
    (kCP : PySem.W.kitOne K (.ref C) (.ref C) = some true)
    (kSP : PySem.W.kitOne K (.type "str") (.ref C) = some false)
    (eqP : PySem.W.findIn K (.ref C) "__eq__" = some (some (.ref fE)))
    (efP : PySem.W.isFn K (.ref fE) = true)
    (enP : PySem.W.notFirst K C (.type "str") = true)
    (hl : ∃ t0 t1 t2 t3 n sl, K.lookup hA = some ⟨.type "tuple", none, .seq #[.str "" t0, .str "i" t1, .str "-" t2, .str "-i" t3] n, sl⟩)
    (FI : ∃ d, Fun K "__init__" "Pauli.__init__" sInit fI d)
    (FE : ∃ d, Fun K "__eq__" "Pauli.__eq__" sEq fE d)
    (gG : PySem.W.nsIn K mainGlobals "is_integer" = some (some (.ref fG)))
    (FG : ∃ d, Fun K "is_integer" "is_integer" sIsI fG d)
    (gPl : PySem.W.nsIn K mainGlobals "placed" = some (some (.ref fPl)))
    (FPl : ∃ d, Fun K "placed" "placed" sPlaced fPl d)
    (gWo : PySem.W.nsIn K mainGlobals "word_of" = some (some (.ref fWo)))
    (FWo : ∃ d, Fun K "word_of" "word_of" sWof fWo d)
    (gC : PySem.W.nsIn K mainGlobals "_cut_text" = some (some (.ref fC)))
    (FC : ∃ d, Fun K "_cut_text" "_cut_text" sCut fC d)
    (gR : PySem.W.nsIn K mainGlobals "_read_word" = some (some (.ref fR)))
    (FR : ∃ d, Fun K "_read_word" "_read_word" sRdW fR d)
    (gD : PySem.W.nsIn K mainGlobals "_end_of_place" = some (some (.ref fD)))
    (FD : ∃ d, Fun K "_end_of_place" "_end_of_place" sEnd fD d)
    (gM : PySem.W.nsIn K mainGlobals "_may_begin" = some (some (.ref fM)))
    (FM : ∃ d, Fun K "_may_begin" "_may_begin" sMay fM d)
    (gPn : PySem.W.nsIn K mainGlobals "_law_pen" = some (some (.ref fPn)))
    (FPn : ∃ d, Fun K "_law_pen" "_law_pen" sPen fPn d)
    (gDr : PySem.W.nsIn K mainGlobals "_law_draw" = some (some (.ref fDr)))
    (FDr : ∃ d, Fun K "_law_draw" "_law_draw" sDraw fDr d)
    (gPk : PySem.W.nsIn K mainGlobals "_law_pick" = some (some (.ref fPk)))
    (FPk : ∃ d, Fun K "_law_pick" "_law_pick" sPick fPk d)
    (gOn : PySem.W.nsIn K mainGlobals "_law_ones" = some (some (.ref fOn)))
    (FOn : ∃ d, Fun K "_law_ones" "_law_ones" sOnes fOn d)
    (gLe : PySem.W.nsIn K mainGlobals "_law_letters" = some (some (.ref fLe)))
    (FLe : ∃ d, Fun K "_law_letters" "_law_letters" sLett fLe d)
    (gTl : PySem.W.nsIn K mainGlobals "_law_text" = some (some (.ref fTl)))
    (FTl : ∃ d, Fun K "_law_text" "_law_text" sTextL fTl d)
    (gOt : PySem.W.nsIn K mainGlobals "_law_of_text" = some (some (.ref fOt)))
    (FOt : ∃ d, Fun K "_law_of_text" "_law_of_text" sOfT fOt d)
    (gWd : PySem.W.nsIn K mainGlobals "_law_word" = some (some (.ref fWd)))
    (FWd : ∃ d, Fun K "_law_word" "_law_word" sWord fWd d)
    (gWt : PySem.W.nsIn K mainGlobals "_law_weight" = some (some (.ref fWt)))
    (FWt : ∃ d, Fun K "_law_weight" "_law_weight" sWt fWt d)
    (gSo : PySem.W.nsIn K mainGlobals "_law_some_string" = some (some (.ref fSo)))
    (FSo : ∃ d, Fun K "_law_some_string" "_law_some_string" sSome fSo d)
    (gWy : PySem.W.nsIn K mainGlobals "_law_why" = some (some (.ref fWy)))
    (FWy : ∃ d, Fun K "_law_why" "_law_why" sWhy fWy d)
    (gTo : PySem.W.nsIn K mainGlobals "_law_told" = some (some (.ref fTo)))
    (FTo : ∃ d, Fun K "_law_told" "_law_told" sTold fTo d)
    (gEv : PySem.W.nsIn K mainGlobals "_law_every_string" = some (some (.ref fEv)))
    (FEv : ∃ d, Fun K "_law_every_string" "_law_every_string" sEvery fEv d)
    (gCo : PySem.W.nsIn K mainGlobals "_law_column" = some (some (.ref fCo)))
    (FCo : ∃ d, Fun K "_law_column" "_law_column" sCol fCo d)
    (gBy : PySem.W.nsIn K mainGlobals "_law_by_list" = some (some (.ref fBy)))
    (FBy : ∃ d, Fun K "_law_by_list" "_law_by_list" sList fBy d)
    (z_isinstance : PySem.W.nsIn K mainGlobals "isinstance" = some none)
    (z_int : PySem.W.nsIn K mainGlobals "int" = some none)
    (z_bool : PySem.W.nsIn K mainGlobals "bool" = some none)
    (z_str : PySem.W.nsIn K mainGlobals "str" = some none)
    (z_len : PySem.W.nsIn K mainGlobals "len" = some none)
    (z_range : PySem.W.nsIn K mainGlobals "range" = some none)
    (z_list : PySem.W.nsIn K mainGlobals "list" = some none)
    (z_enumerate : PySem.W.nsIn K mainGlobals "enumerate" = some none)
    (gLa : PySem.W.nsIn K mainGlobals "law" = some (some (.ref fLa)))
    (lk : K.lookup fLa = some ⟨oc, od, .func (PySem.W.fnOf "law" "law" (defArgs sLaw) (defBody sLaw) (defScope sLaw) .none kV doc pm an (.ref c) ct), osl⟩)
    (hcd : PySem.W.codeIn K (.ref c) "law" = true)
    (lc : K.lookup c = some ⟨ec, dc, .fields vc, sc⟩)
    (h11 : vc[11]? = some (.ref tP))
    (nP : K.lookup tP = none)
    (hb : PySem.W.codeHdIn K c tP = true)
    (mem : tP ∈ ts) :
    LawAtS l w K CX 9 63 "_law_script" mg fa h := by
  subst eCX
  have e := hfa.symm.trans (PySem.W.mg_of X G gLa)
  cases e
  obtain ⟨dB, FB⟩ := FB
  have bB := FB.binds (ps := ["self", "line", "column"]) fun _ _ _ _ _ _ us hl => match us, hl with | [_, _, _], _ => rfl
  obtain ⟨dI, FI⟩ := FI
  have bI := FI.binds (ps := ["self", "text"]) fun _ _ _ _ _ _ us hl => match us, hl with | [_, _], _ => rfl
  obtain ⟨dN, FN⟩ := FN
  have bN := FN.binds (ps := ["self", "what", "number"]) fun _ _ _ _ _ _ us hl => match us, hl with | [_, _, _], _ => rfl
  obtain ⟨dE, FE⟩ := FE
  have bE := FE.binds (ps := ["self", "other"]) fun _ _ _ _ _ _ us hl => match us, hl with | [_, _], _ => rfl
  obtain ⟨dG, FG⟩ := FG
  have bG := FG.binds (ps := ["value"]) fun _ _ _ _ _ _ us hl => match us, hl with | [_], _ => rfl
  obtain ⟨dPl, FPl⟩ := FPl
  have bPl := FPl.binds (ps := ["size", "word"]) fun _ _ _ _ _ _ us hl => match us, hl with | [_, _], _ => rfl
  obtain ⟨dWo, FWo⟩ := FWo
  have bWo := FWo.binds (ps := ["p"]) fun _ _ _ _ _ _ us hl => match us, hl with | [_], _ => rfl
  obtain ⟨dC, FC⟩ := FC
  have bC := FC.binds (ps := ["text"]) fun _ _ _ _ _ _ us hl => match us, hl with | [_], _ => rfl
  obtain ⟨dR, FR⟩ := FR
  have bR := FR.binds (ps := ["size", "word", "start"]) fun _ _ _ _ _ _ us hl => match us, hl with | [_, _, _], _ => rfl
  obtain ⟨dD, FD⟩ := FD
  have bD := FD.binds (ps := ["size", "word", "start", "least"]) fun _ _ _ _ _ _ us hl => match us, hl with | [_, _, _, _], _ => rfl
  obtain ⟨dM, FM⟩ := FM
  have bM := FM.binds (ps := ["size", "text", "least"]) fun _ _ _ _ _ _ us hl => match us, hl with | [_, _, _], _ => rfl
  obtain ⟨dPn, FPn⟩ := FPn
  have bPn := FPn.binds (ps := ["_law_script"]) fun _ _ _ _ _ _ us hl => match us, hl with | [_], _ => rfl
  obtain ⟨dDr, FDr⟩ := FDr
  have bDr := FDr.binds (ps := ["_law_pen_here", "_law_many"]) fun _ _ _ _ _ _ us hl => match us, hl with | [_, _], _ => rfl
  obtain ⟨dPk, FPk⟩ := FPk
  have bPk := FPk.binds (ps := ["_law_pen_here", "_law_some"]) fun _ _ _ _ _ _ us hl => match us, hl with | [_, _], _ => rfl
  obtain ⟨dOn, FOn⟩ := FOn
  have bOn := FOn.binds (ps := ["_law_number"]) fun _ _ _ _ _ _ us hl => match us, hl with | [_], _ => rfl
  obtain ⟨dLe, FLe⟩ := FLe
  have bLe := FLe.binds (ps := ["_law_string", "_law_size"]) fun _ _ _ _ _ _ us hl => match us, hl with | [_, _], _ => rfl
  obtain ⟨dTl, FTl⟩ := FTl
  have bTl := FTl.binds (ps := ["_law_string", "_law_size"]) fun _ _ _ _ _ _ us hl => match us, hl with | [_, _], _ => rfl
  obtain ⟨dOt, FOt⟩ := FOt
  have bOt := FOt.binds (ps := ["_law_text_here"]) fun _ _ _ _ _ _ us hl => match us, hl with | [_], _ => rfl
  obtain ⟨dWd, FWd⟩ := FWd
  have bWd := FWd.binds (ps := ["_law_string", "_law_size"]) fun _ _ _ _ _ _ us hl => match us, hl with | [_, _], _ => rfl
  obtain ⟨dWt, FWt⟩ := FWt
  have bWt := FWt.binds (ps := ["_law_string"]) fun _ _ _ _ _ _ us hl => match us, hl with | [_], _ => rfl
  obtain ⟨dSo, FSo⟩ := FSo
  have bSo := FSo.binds (ps := ["_law_pen_here", "_law_size"]) fun _ _ _ _ _ _ us hl => match us, hl with | [_, _], _ => rfl
  obtain ⟨dWy, FWy⟩ := FWy
  have bWy := FWy.binds (ps := ["_law_call"]) fun _ _ _ _ _ _ us hl => match us, hl with | [_], _ => rfl
  obtain ⟨dTo, FTo⟩ := FTo
  have bTo := FTo.binds (ps := ["_law_pauli", "_law_string", "_law_phase", "_law_size"]) fun _ _ _ _ _ _ us hl => match us, hl with | [_, _, _, _], _ => rfl
  obtain ⟨dEv, FEv⟩ := FEv
  have bEv := FEv.binds (ps := ["_law_size"]) fun _ _ _ _ _ _ us hl => match us, hl with | [_], _ => rfl
  obtain ⟨dCo, FCo⟩ := FCo
  have bCo := FCo.binds (ps := ["_law_size", "_law_word_here"]) fun _ _ _ _ _ _ us hl => match us, hl with | [_, _], _ => rfl
  obtain ⟨dBy, FBy⟩ := FBy
  have bBy := FBy.binds (ps := ["_law_size", "_law_word_here"]) fun _ _ _ _ _ _ us hl => match us, hl with | [_, _], _ => rfl
  have B : Bl mg := ⟨PySem.W.mg_none_of X G z_isinstance, PySem.W.mg_none_of X G z_int, PySem.W.mg_none_of X G z_bool, PySem.W.mg_none_of X G z_str, PySem.W.mg_none_of X G z_len, PySem.W.mg_none_of X G z_range, PySem.W.mg_none_of X G z_list, PySem.W.mg_none_of X G z_enumerate⟩
  have TT : BT K mg CT fB dB := ⟨kc.ox, icT, tiT, nt0, nt1, PySem.W.mg_of X G aT, FB, bB⟩
  have N : PCl K mg C fI fE := ⟨⟨pgP, hdi, po, saP⟩, np0, np1, np2, np3, ⟨mkC, icP, ifP, kpP⟩, haP, hnP, htP, hmP, kCP, kSP, eqP, efP, enP, PySem.W.mg_of X G aP⟩
  have hd : Hd4 K mg hA := ⟨hl, PySem.W.mg_of X G aH⟩
  have TN : BN K mg CN fN dN := ⟨kcN.ox, icN, tiN, nn0, nn1, PySem.W.mg_of X G aN, FN, bN⟩
  have V : Five K mg CT CN cU cA cM := ⟨PySem.W.mg_of X G aT, PySem.W.mg_of X G aN, PySem.W.mg_of X G aU, PySem.W.mg_of X G aA, PySem.W.mg_of X G aM, nt0, nt1, nn0, nn1, nx0, nx1, nx2, nx3, kc.xf, kcN.xf, kc.ex, exNT, kcN.ex⟩
  have T : Top K mg C CT CN cU cA cM fI fE fB fN hA fG fPl fWo fC fR fD fM fPn fDr fPk fOn fLe fTl fOt fWd fWt fSo fWy fTo fEv fCo fBy dI dE dB dN dG dPl dWo dC dR dD dM dPn dDr dPk dOn dLe dTl dOt dWd dWt dSo dWy dTo dEv dCo dBy := ⟨B, TT, TN, N, hd, V, FI, bI, FE, bE, FG, bG, PySem.W.mg_of X G gG, FPl, bPl, PySem.W.mg_of X G gPl, FWo, bWo, PySem.W.mg_of X G gWo, FC, bC, PySem.W.mg_of X G gC, FR, bR, PySem.W.mg_of X G gR, FD, bD, PySem.W.mg_of X G gD, FM, bM, PySem.W.mg_of X G gM, FPn, bPn, PySem.W.mg_of X G gPn, FDr, bDr, PySem.W.mg_of X G gDr, FPk, bPk, PySem.W.mg_of X G gPk, FOn, bOn, PySem.W.mg_of X G gOn, FLe, bLe, PySem.W.mg_of X G gLe, FTl, bTl, PySem.W.mg_of X G gTl, FOt, bOt, PySem.W.mg_of X G gOt, FWd, bWd, PySem.W.mg_of X G gWd, FWt, bWt, PySem.W.mg_of X G gWt, FSo, bSo, PySem.W.mg_of X G gSo, FWy, bWy, PySem.W.mg_of X G gWy, FTo, bTo, PySem.W.mg_of X G gTo, FEv, bEv, PySem.W.mg_of X G gEv, FCo, bCo, PySem.W.mg_of X G gCo, FBy, bBy, PySem.W.mg_of X G gBy⟩
  refine ⟨PySem.W.fnOf "law" "law" (defArgs sLaw) (defBody sLaw) (defScope sLaw) .none kV doc pm an (.ref c) ct, [(c, tP)], spLawT K tP, fun p hp => ?_, fun p hp => ?_, fun p hp => ?_, fun s v => .of_eq rfl, ?_, ?_⟩
  · rw [List.mem_singleton.mp hp]
    exact hTs tP mem
  · rw [List.mem_singleton.mp hp]
    exact nP
  · rw [List.mem_singleton.mp hp]
    exact PySem.W.codeHd_of_K X hb
  · intro H a ns hl _ hT hS
    exact ⟨a, ns, rfl, hS, hl, hT (c, tP) (List.mem_singleton.mpr rfl), fun _ => rfl⟩
  · intro base _ _ TB
    exact ok_law lk hcd (TB (c, tP) (List.mem_singleton.mpr rfl)) T
theorem walk {l : PySem.W.OpenLaw} {q : Program} {loose : List Str} {XP : (Str → Option Value) → Heap → Prop} {YP : World → Heap → Prop} {d : DefRec} {K : Params → PySem.W.Frag} (hn : l.most = some 63) (hdf : d.params.defaults = [])
    (ts : List Addr) (hY : ∀ (w : World) (h : Heap), YP w h → (K w.params).In h) (hT : ∀ (w : World) (h : Heap), YP w h → ∀ R ∈ ts, h.get? R = some (PySem.W.tabObj #[]))
    (F : ∀ (w : World) (mg : Str → Option Value) (fa : Addr) (h : Heap), (K w.params).In h → h.Ns mainGlobals mg → mg d.name = some (.ref fa) → (∀ R ∈ ts, h.get? R = some (PySem.W.tabObj #[])) → LawAtS l w (K w.params) CX0 9 63 "_law_script" mg fa h) :
    PySem.W.WalkO q loose XP YP l.row.toRowW d [] (fun f vs => PySem.call f vs) :=
  walk_ofTs (n := 63) (k := 9) (x := "_law_script") (CX := fun _ => CX0) hn (by decide) hdf ⟨rfl, by decide, by decide⟩ hY (fun w mg fa h Y X G e => F w mg fa h X G e (hT w h Y)) (fun _ _ _ _ _ z => z)
end KQ
open PySem PySem.W PyProof.Rows
set_option maxRecDepth 100000 in
set_option maxHeartbeats 0 in
theorem PySem.Challenge.cw_keptqubits_k09_whole_words_holds : PySem.Challenge.rw_keptqubits_k09_whole_words.Holds := by
  w_on; o_law; k_head; (case hw => w_witness2)
  k_fill
  refine KQ.walk (l := PySem.Challenge.rw_keptqubits_k09_whole_words) rfl rfl _ (fun w h Y => PySem.W.km_in_of Y) (fun w h Y => PySem.W.km_tabs_of Y) ?F
  case F =>
    intro w mg fa h KX G hmg own
    refine' KQ.all_mk rfl KX G hmg own ?zq_aK ?zq_aT ?zq_aP ?zq_aH ?zq_aN ?zq_aU ?zq_aA ?zq_aM ?zq_kc ?zq_kcN ?zq_icT ?zq_tiT ?zq_nt0 ?zq_nt1 ?zq_icN ?zq_tiN ?zq_nn0 ?zq_nn1 ?zq_nx0 ?zq_nx1 ?zq_nx2 ?zq_nx3 ?zq_FN ?zq_exNT ?zq_FB ?zq_pgP ?zq_hdi ?zq_po ?zq_saP ?zq_np0 ?zq_np1 ?zq_np2 ?zq_np3 ?zq_mkC ?zq_icP ?zq_ifP ?zq_kpP ?zq_haP ?zq_hnP ?zq_htP ?zq_hmP ?zq_kCP ?zq_kSP ?zq_eqP ?zq_efP ?zq_enP ?zq_hl ?zq_FI ?zq_FE ?zq_gG ?zq_FG ?zq_gPl ?zq_FPl ?zq_gWo ?zq_FWo ?zq_gC ?zq_FC ?zq_gR ?zq_FR ?zq_gD ?zq_FD ?zq_gM ?zq_FM ?zq_gPn ?zq_FPn ?zq_gDr ?zq_FDr ?zq_gPk ?zq_FPk ?zq_gOn ?zq_FOn ?zq_gLe ?zq_FLe ?zq_gTl ?zq_FTl ?zq_gOt ?zq_FOt ?zq_gWd ?zq_FWd ?zq_gWt ?zq_FWt ?zq_gSo ?zq_FSo ?zq_gWy ?zq_FWy ?zq_gTo ?zq_FTo ?zq_gEv ?zq_FEv ?zq_gCo ?zq_FCo ?zq_gBy ?zq_FBy ?zq_z_isinstance ?zq_z_int ?zq_z_bool ?zq_z_str ?zq_z_len ?zq_z_range ?zq_z_list ?zq_z_enumerate ?zq_gLa ?zq_lk ?zq_hcd ?zq_lc ?zq_h11 ?zq_nP ?zq_hb ?zq_mem
    (case zq_aK => k_is)
    (case zq_aT => k_is)
    (case zq_aP => k_is)
    (case zq_aH => k_is)
    (case zq_aN => k_is)
    (case zq_aU => k_is)
    (case zq_aA => k_is)
    (case zq_aM => k_is)
    (case zq_kc => refine' KQ.KC.of ?l ?sa ?ty ?kp ?hg ?hk ?ha; (case l => k_is); (case sa => k_is); (case ty => k_is); (case kp => k_is); (case hg => k_is); (case hk => k_is); (case ha => k_is))
    (case zq_kcN => refine' KQ.KC.of ?l ?sa ?ty ?kp ?hg ?hk ?ha; (case l => k_is); (case sa => k_is); (case ty => k_is); (case kp => k_is); (case hg => k_is); (case hk => k_is); (case ha => k_is))
    (case zq_icT => k_is)
    (case zq_tiT => k_is)
    (case zq_nt0 => k_is)
    (case zq_nt1 => k_is)
    (case zq_icN => k_is)
    (case zq_tiN => k_is)
    (case zq_nn0 => k_is)
    (case zq_nn1 => k_is)
    (case zq_nx0 => k_is)
    (case zq_nx1 => k_is)
    (case zq_nx2 => k_is)
    (case zq_nx3 => k_is)
    (case zq_FN => refine' KQ.fun_ex ?l ?c ?k; (case l => k_is); (case c => k_is); (case k => k_is))
    (case zq_exNT => first | k_is | kernel_rfl | decide +kernel)
    (case zq_FB => refine' KQ.fun_ex ?l ?c ?k; (case l => k_is); (case c => k_is); (case k => k_is))
    (case zq_pgP => k_is)
    (case zq_hdi => k_is)
    (case zq_po => k_is)
    (case zq_saP => k_is)
    (case zq_np0 => k_is)
    (case zq_np1 => k_is)
    (case zq_np2 => k_is)
    (case zq_np3 => k_is)
    (case zq_mkC => k_is)
    (case zq_icP => k_is)
    (case zq_ifP => first | k_is | kernel_rfl | decide +kernel)
    (case zq_kpP => k_is)
    (case zq_haP => k_is)
    (case zq_hnP => first | k_is | kernel_rfl | decide +kernel)
    (case zq_htP => first | k_is | kernel_rfl | decide +kernel)
    (case zq_hmP => first | k_is | kernel_rfl | decide +kernel)
    (case zq_kCP => first | k_is | kernel_rfl | decide +kernel)
    (case zq_kSP => first | k_is | kernel_rfl | decide +kernel)
    (case zq_eqP => k_is)
    (case zq_efP => first | k_is | kernel_rfl | decide +kernel)
    (case zq_enP => first | k_is | kernel_rfl | decide +kernel)
    (case zq_hl => refine' KQ.hd_ex ?l; (case l => k_is))
    (case zq_FI => refine' KQ.fun_ex ?l ?c ?k; (case l => k_is); (case c => k_is); (case k => k_is))
    (case zq_FE => refine' KQ.fun_ex ?l ?c ?k; (case l => k_is); (case c => k_is); (case k => k_is))
    (case zq_gG => k_is)
    (case zq_FG => refine' KQ.fun_ex ?l ?c ?k; (case l => k_is); (case c => k_is); (case k => k_is))
    (case zq_gPl => k_is)
    (case zq_FPl => refine' KQ.fun_ex ?l ?c ?k; (case l => k_is); (case c => k_is); (case k => k_is))
    (case zq_gWo => k_is)
    (case zq_FWo => refine' KQ.fun_ex ?l ?c ?k; (case l => k_is); (case c => k_is); (case k => k_is))
    (case zq_gC => k_is)
    (case zq_FC => refine' KQ.fun_ex ?l ?c ?k; (case l => k_is); (case c => k_is); (case k => k_is))
    (case zq_gR => k_is)
    (case zq_FR => refine' KQ.fun_ex ?l ?c ?k; (case l => k_is); (case c => k_is); (case k => k_is))
    (case zq_gD => k_is)
    (case zq_FD => refine' KQ.fun_ex ?l ?c ?k; (case l => k_is); (case c => k_is); (case k => k_is))
    (case zq_gM => k_is)
    (case zq_FM => refine' KQ.fun_ex ?l ?c ?k; (case l => k_is); (case c => k_is); (case k => k_is))
    (case zq_gPn => k_is)
    (case zq_FPn => refine' KQ.fun_ex ?l ?c ?k; (case l => k_is); (case c => k_is); (case k => k_is))
    (case zq_gDr => k_is)
    (case zq_FDr => refine' KQ.fun_ex ?l ?c ?k; (case l => k_is); (case c => k_is); (case k => k_is))
    (case zq_gPk => k_is)
    (case zq_FPk => refine' KQ.fun_ex ?l ?c ?k; (case l => k_is); (case c => k_is); (case k => k_is))
    (case zq_gOn => k_is)
    (case zq_FOn => refine' KQ.fun_ex ?l ?c ?k; (case l => k_is); (case c => k_is); (case k => k_is))
    (case zq_gLe => k_is)
    (case zq_FLe => refine' KQ.fun_ex ?l ?c ?k; (case l => k_is); (case c => k_is); (case k => k_is))
    (case zq_gTl => k_is)
    (case zq_FTl => refine' KQ.fun_ex ?l ?c ?k; (case l => k_is); (case c => k_is); (case k => k_is))
    (case zq_gOt => k_is)
    (case zq_FOt => refine' KQ.fun_ex ?l ?c ?k; (case l => k_is); (case c => k_is); (case k => k_is))
    (case zq_gWd => k_is)
    (case zq_FWd => refine' KQ.fun_ex ?l ?c ?k; (case l => k_is); (case c => k_is); (case k => k_is))
    (case zq_gWt => k_is)
    (case zq_FWt => refine' KQ.fun_ex ?l ?c ?k; (case l => k_is); (case c => k_is); (case k => k_is))
    (case zq_gSo => k_is)
    (case zq_FSo => refine' KQ.fun_ex ?l ?c ?k; (case l => k_is); (case c => k_is); (case k => k_is))
    (case zq_gWy => k_is)
    (case zq_FWy => refine' KQ.fun_ex ?l ?c ?k; (case l => k_is); (case c => k_is); (case k => k_is))
    (case zq_gTo => k_is)
    (case zq_FTo => refine' KQ.fun_ex ?l ?c ?k; (case l => k_is); (case c => k_is); (case k => k_is))
    (case zq_gEv => k_is)
    (case zq_FEv => refine' KQ.fun_ex ?l ?c ?k; (case l => k_is); (case c => k_is); (case k => k_is))
    (case zq_gCo => k_is)
    (case zq_FCo => refine' KQ.fun_ex ?l ?c ?k; (case l => k_is); (case c => k_is); (case k => k_is))
    (case zq_gBy => k_is)
    (case zq_FBy => refine' KQ.fun_ex ?l ?c ?k; (case l => k_is); (case c => k_is); (case k => k_is))
    (case zq_z_isinstance => k_is)
    (case zq_z_int => k_is)
    (case zq_z_bool => k_is)
    (case zq_z_str => k_is)
    (case zq_z_len => k_is)
    (case zq_z_range => k_is)
    (case zq_z_list => k_is)
    (case zq_z_enumerate => k_is)
    (case zq_gLa => k_is)
    (case zq_lk => k_is)
    (case zq_hcd => k_is)
    (case zq_lc => k_is)
    (case zq_h11 => rfl)
    (case zq_nP => kernel_rfl)
    (case zq_hb => kernel_rfl)
    (case zq_mem => simp)
