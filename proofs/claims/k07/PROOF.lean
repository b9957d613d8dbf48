import PyProof.Rows.All
import Wide.All
import OpenK.AllK
import Wide.FinOn
import HandS.Base
import HandS.Call
import HandS.Exc
import HandS.TryMany
import HandS.Codes
import HandS.List
import HandS.OwnEq
import HandS.ForMost
import HandS.Wide
import HandS.Text
import HandS.StrMore
import PyProof.Rows.StrStrike
import PyProof.Rows.StrCountLaw
import HandS.Strs
import HandS.Replace
import HandS.ReplaceLit
import HandS.Comp
import HandS.IsInst
import HandS.ExcInit
import HandS.ExcField
import HandS.WordsExc
import PyProof.ListStr
import HandS.Style
import HandS.DeepEq
import HandS.CallLocal
import HandS.Lambda
import HandS.EndOwn
import HandS.Walk
import HandS.ExcIs
import PySem.Challenge.RW_keptqubits_k07_texts_of_strings
set_option Elab.async false
set_option linter.all false
set_option maxRecDepth 100000
set_option maxHeartbeats 4000000
namespace KQ
open PySem PySem.Spec PyProof.Rows L2
/-! ### several clauses, each with a name for the exception -/
/-- what clauses that all write the slot k wish of an exception, one behind the other -/
def wList (K : PySem.W.Frag) (k : Nat) (W0 : WX) (D : Ends) : List (Value × (Addr → Value → Option Addr → TS)) → WX
  | [] => W0
  | z :: more => wAs K z.1 k z.2 (wList K k W0 D more) D
inductive Clauses (X : Cx) (nm : Str) : List ExceptHandler → List (Value × (Addr → Value → Option Addr → TS)) → Prop
  | done : Clauses X nm [] []
  | next {x : Str} {cl : Value} {tk : Addr → Value → Option Addr → TS} {s0 : Stmt} {ss : List Stmt} {p1 p2 : Pos} {hh : List ExceptHandler} {ll : List (Value × (Addr → Value → Option Addr → TS))} (named : Names X x cl)
      (body : ∀ (r : Addr) (ob : Obj) (k : Value) (d : Option Addr) (pn : List (Addr × Obj)), Zc k d ob → (∃ vs, ob.data = .fields vs) → PSs (X.suite r ((r, ob) :: pn)) (s0 :: ss) (tk r k d)) (more : Clauses X nm hh ll) :
      Clauses X nm (.ExceptHandler (some (.Name x p1)) (some nm) (s0 :: ss) p2 :: hh) ((cl, tk) :: ll)
section
variable {X : Cx} {body : List Stmt} {h0 : ExceptHandler} {hh : List ExceptHandler} {ll : List (Value × (Addr → Value → Option Addr → TS))} {pos : Pos} {tb : WX → TS} {W0 : WX} {nm : Str} {k : Nat}
theorem ps_try_list (hst : X.stack = X.env :: X.outer) (hfr0 : X.env.frame = some X.env.locals) (nd : X.N.Nodup) (hk : X.N[k]? = some nm) (hlo : X.env.kindOf nm = some .local) (tk : Takes X W0)
    (hb : ∀ (W : WX) (pn : List (Addr × Obj)) (xe : Value → Shared → Prop), Takes (X.tr pn xe) W → PassesOwn (model X.prog X.w) X.A X.env xe → PSs (X.tr pn xe) body (tb W))
    (cs : Clauses X nm (h0 :: hh) ll) : PS X (.Try body (h0 :: hh) [] [] pos) (fun D σ H => tb (wList X.K k W0 D ll) D σ H) := by
  refine ⟨fun pins s0 σ0 H0 D I0 want => ?_⟩
  have okX := I0.ok
  have frA : X.A.frames = some (X.env :: X.outer) := by rw [okX.frames, hst]
  refine wpAny_Try_except ?_
  refine wpAny_mono ((hb (wList X.K k W0 D ll) (X.pn ++ pins) (fun ex t1 => wpAny (model X.prog X.w) X.A (noteFrame ex X.env) (fun _ t2 => wpAny (model X.prog X.w) X.A (setFlight ex none) (fun _ t3 =>
    wpAny (model X.prog X.w) X.A (handleBy ex X.env (h0 :: hh)) (SP X pins D) X.xe t3) X.xe t2) X.xe t1) (fun u s1 xx => ?_) PassesOwn.looking).run [] s0 σ0 H0 D (I0.toTry _) want) (fun fl s1 got => ?_) (fun _ _ z => z)
  · obtain ⟨a, B, sI, pins1, σ1, H1, kls, d, rfl, J1, nb, up1, sky1, na, os, ag, wish⟩ := xx
    have J : Inv X pins σ1 H1 sI := J1.ofTry okX
    show wpAny (model X.prog X.w) X.A (noteFrame (.ref a) X.env) _ _ _
    refine Sky.land Zc.steady frA hfr0 (by rw [← hst]; exact sky1) fun hp3 fly3 up3 => ?_
    have J3 : Inv X pins σ1 H1 { s1 with heap := hp3 } := J.landed nb fly3.1 (up1.trans up3) os ag
    obtain ⟨o3, vs3, e3, z3, f3⟩ := fly3.there
    have off : a ∉ frs (X.env :: X.outer) := fun hm => by
      obtain ⟨_, o', e', hnf⟩ := fly3.2.2.1.mem hm
      rw [e3] at e'
      cases e'
      exact hnf _ f3
    have nL : a ≠ X.env.locals := fun z => off (List.mem_filterMap.mpr ⟨X.env, List.mem_cons_self, by rw [hfr0, z]⟩)
    have nF : a ∉ X.fs := fun hm => by
      obtain ⟨e, he, q⟩ := List.mem_filterMap.mp hm
      exact off (List.mem_filterMap.mpr ⟨e, List.mem_cons_of_mem _ he, q⟩)
    have S3 := J3.suite e3 f3 na nL nF
    have looks : PySem.W.Looks (model X.prog X.w) hp3 (typeOf (.ref a)) kls := fun A Q E s kk q => wpAny_typeOf_ref (kk _ _ e3) (by rw [z3.1]; exact q)
    have each : ∀ {hs' : List ExceptHandler} {l' : List (Value × (Addr → Value → Option Addr → TS))}, Clauses X nm hs' l' → wList X.K k W0 D l' kls d σ1 H1 →
        wpAny (model X.prog X.w) X.A (handleBy (.ref a) X.env hs') (SP X pins D) X.xe { s1 with heap := hp3 } := by
      intro hs' l' cl
      induction cl with
      | done =>
        intro out
        refine wpAny_handleBy_nil ?_
        obtain ⟨_, _, _, ob, vs, T, oT, tt, he, hz, hd, h1, hr⟩ := id fly3
        unfold PySem.passOn
        refine wpAny_bind (wpAny_field he hd h1 ?_)
        rw [if_neg (by simp : ¬ ((Value.ref T == Value.none) = true))]
        have go : wpAny (model X.prog X.w) X.A (setFlight (.ref a) X.env.frame) (fun _ s4 => wpAny (model X.prog X.w) X.A (throw (.ref a) : Sem Flow) (SP X pins D) X.xe s4) X.xe { s1 with heap := hp3 } := by
          rw [hfr0]
          refine HandSPX.setFlight_upZ fly3 fun hp4 hh4 up4 => wpAny_throw (tk _ _ ?_)
          exact ⟨a, B, sI, pins, σ1, H1, kls, d, rfl, J, nb, (up1.trans up3).trans up4, .inr (.inr (by rw [hst]; exact hh4)), na, os, ag, out⟩
        first
          | exact wpAny_bind (wpAny_pure (wpAny_bind go))
          | exact wpAny_bind go
      | @next x cl tc s0 ss p1 p2 hs2 l2 named suite more ih =>
        intro ask
        obtain ⟨b, hb1, yes, no⟩ := ask
        refine wpAny_handleBy_cons (codeAny_handlers_test ?_) (by intro q; cases q)
        have LM := PySem.W.exm_one (M := model X.prog X.w) (J3.kIn) looks hb1
        have test : ∀ {Q E : Value → Shared → Prop}, Q cl { s1 with heap := hp3 } → wpAny (model X.prog X.w) (X.A.mark (some (.ref a))) (eval (.Name x p1) X.env) Q E { s1 with heap := hp3 } := fun {Q E} q => by
          obtain ⟨hg, nodbg, hm | ⟨hm, hv, hnn⟩⟩ := named
          · exact ld_glob (X := X.suite a ((a, o3) :: (X.pn ++ pins))) S3 hg hm q nodbg
          · exact ld_blt (X := X.suite a ((a, o3) :: (X.pn ++ pins))) S3 hg hm hv q hnn nodbg
        refine test (LM.here ?_)
        cases b with
        | false =>
          show wpAny _ X.A (handleBy (.ref a) X.env hs2) _ _ _
          exact ih (no rfl)
        | true =>
          refine codeAny_handlers_suite_as ?_
          refine HandSPX.lands_againZ fly3 fun hp4 fly4 up4 => ?_
          have J4 : Inv X pins σ1 H1 { s1 with heap := hp4 } := J.landed nb fly4.1 ((up1.trans up3).trans up4) os ag
          obtain ⟨o4, vs4, e4, z4, f4⟩ := fly4.there
          refine store_ok (X := X.suite a ((a, o4) :: (X.pn ++ pins))) (v := .ref a) (J4.suite e4 f4 na nL nF) nd hk (.inl hlo) rfl (fun s5 S5 => ?_) (.inr hlo)
          refine wpAny_mono ((suite a o4 kls d (X.pn ++ pins) z4 ⟨_, f4⟩).run [] s5 _ H1 _ S5 (yes rfl a na)) (fun fl6 s6 got6 => ?_) (fun _ _ z => False.elim z)
          have gone : ∀ {σ6 : L2.St} {H6 : Hp} {Q : Shared → Prop}, Inv (X.suite a ((a, o4) :: (X.pn ++ pins))) [] σ6 H6 s6 → (∀ s7, Inv X pins (σ6.set k none) H6 s7 → Q s7) →
              wpAny (model X.prog X.w) X.A (do bindName X.env nm .none; unbindBehindTheSuite X.env nm p2) (fun _ s7 => Q s7) X.xe s6 := fun S6 hq => gone_ok (S6.unsuite okX) nd hk hlo hq
          cases fl6 with
          | ret u =>
            obtain ⟨v6, σ6, H6, S6, r6, q6⟩ := got6
            exact gone S6 fun s7 J7 => ⟨_, _, _, J7, r6, q6⟩
          | next =>
            obtain ⟨σ6, H6, S6, q6⟩ := got6
            exact gone S6 fun s7 J7 => ⟨_, _, J7, q6⟩
          | brk =>
            obtain ⟨σ6, H6, S6, q6⟩ := got6
            exact gone S6 fun s7 J7 => ⟨_, _, J7, q6⟩
          | cont =>
            obtain ⟨σ6, H6, S6, q6⟩ := got6
            exact gone S6 fun s7 J7 => ⟨_, _, J7, q6⟩
    exact each cs wish
  · cases fl with
    | ret u =>
      obtain ⟨v, σ', H', J', r, q⟩ := got
      exact ⟨v, σ', H', J'.ofTry okX, r, q⟩
    | next =>
      obtain ⟨σ', H', J', q⟩ := got
      exact wpAny_execs_nil ⟨σ', H', J'.ofTry okX, q⟩
    | brk =>
      obtain ⟨σ', H', J', q⟩ := got
      exact ⟨σ', H', J'.ofTry okX, q⟩
    | cont =>
      obtain ⟨σ', H', J', q⟩ := got
      exact ⟨σ', H', J'.ofTry okX, q⟩
end
end KQ

namespace KQ
open PySem PySem.Spec PyProof.Rows L2
/-! ### == by an __eq__ of the class's own, whatever it answers -/
/-- the right side: of the same class, or a text -/
def Beside (C : Addr) (H : Hp) (y : V) : Prop := (∃ b dy gs, y = .ref b ∧ H b = some (.ins C dy gs)) ∨ ∃ z : Str, y = .str z
def rOwn (C : Addr) (sp : Sp) (E : XK) : R2 := fun x y H Q => ∃ a dx fs, x = .ref a ∧ H a = some (.ins C dx fs) ∧ Beside C H y ∧ sp [x, y] H (fun v H' => (∃ b, v = .bl b) ∧ Q v H') E
theorem op_own {X : Cx} {n : Nat} {CX : CXT} {C f : Addr} {fd : FuncData} {ps : List Str} {sp : Sp} {E : XK} (F : FnOk X.prog X.w X.K X.mg X.base CX n f fd ps sp) (hr : Room n X.A)
    (hs : PySem.W.findIn X.K (.ref C) "__eq__" = some (some (.ref f))) (hf : PySem.W.isFn X.K (.ref f) = true) (hn : PySem.W.notFirst X.K C (.type "str") = true) (hb : Binds X.K fd ps []) (hx : Passes CX X E) :
    OpR X (compareOp .Eq) (rOwn C sp E) := by
  intro pins s σ H x y v u Q I rx ry want
  obtain ⟨a, dx, fs, rfl, ha, be, hsp⟩ := want
  cases rx
  show wpAny (model X.prog X.w) X.A (richCompare .Eq (.ref a) u) (EP X pins σ Q) X.xe s
  obtain ⟨m1, I1, _⟩ := ins_get I.hok ha
  obtain ⟨d1, I1, _⟩ := I1.look
  obtain ⟨m, hF⟩ := I.fr
  have hl := F.len _ _ _ _ hsp
  have run : wpAny (model X.prog X.w) X.A (call (.ref f) [.ref a, u]) (PySem.W.CmpBack (EP X pins σ Q)) X.xe s := by
    have r2 : Vals [V.ref a, y] [Value.ref a, u] := .cons rfl (.cons ry .nil)
    refine wpAny_call (codeAny_mono (F.run X.A X.stack s H ⟨[.ref a, u], []⟩ [.ref a, u] [.ref a, y] _ E hr I.env0 (by
      have := hb s [.ref a, u] I.kIn (by simpa using hl)
      simpa using this) r2 hsp) fun r s' hq => ?_)
    cases r with
    | error e => exact hx pins σ H s e s' I hq
    | ok fl =>
      cases fl with
      | ret w =>
        obtain ⟨z, H', I', rz, ⟨b, ez⟩, q⟩ := I.after hq
        subst ez
        cases rz
        exact ⟨.bl b, H', I', rfl, q⟩
      | next => exact False.elim hq
      | brk => exact False.elim hq
      | cont => exact False.elim hq
  rcases be with ⟨b, dy, gs, rfl, hb'⟩ | ⟨z, rfl⟩
  · cases ry
    obtain ⟨m2, I2, _⟩ := ins_get I.hok hb'
    obtain ⟨d2, I2, _⟩ := I2.look
    exact PySem.W.cmp_K (op := .Eq) (tb := .ref C) hr.units0 hF I.ok.mod.kin I1 I2.type (by simp [PySem.W.notFirst]) hs hf run
  · obtain ⟨t, rfl⟩ : ∃ t, u = .str z t := ry
    exact PySem.W.cmp_K (op := .Eq) (tb := .type "str") hr.units0 hF I.ok.mod.kin I1 (PySem.W.Looks.of_pure rfl) hn hs hf run
end KQ

namespace KQ
open PySem PySem.Spec PyProof.Rows L2
/-! ### the text -/
def topS (i : Nat) : Stmt := PySem.Challenge.pw_keptqubits_k07_texts_of_strings.main.body.getD i (.Pass ⟨0, 0, 0, 0⟩)
abbrev sPen : Stmt := topS 14
abbrev sDraw : Stmt := topS 15
abbrev sPick : Stmt := topS 16
theorem scPen : FnScope ["_law_script", "_law_fold", "_law_cell"] ["_law_script"] (defScope sPen) := ⟨rfl, rfl, rfl, by decide +kernel, rfl, by decide +kernel, by decide +kernel⟩
theorem scDraw : FnScope ["_law_pen_here", "_law_many", "_law_cell", "_law_digit", "_law_mixed"] ["_law_pen_here", "_law_many"] (defScope sDraw) := ⟨rfl, rfl, rfl, by decide +kernel, rfl, by decide +kernel, by decide +kernel⟩
theorem scPick : FnScope ["_law_pen_here", "_law_some"] ["_law_pen_here", "_law_some"] (defScope sPick) := ⟨rfl, rfl, rfl, by decide +kernel, rfl, by decide +kernel, by decide +kernel⟩
/-! ### the pen -/
theorem k12 : ¬ ("cells" : Str) = "at" := by decide +kernel
theorem k13 : ¬ ("cells" : Str) = "digits" := by decide +kernel
theorem k14 : ¬ ("cells" : Str) = "count" := by decide +kernel
theorem k15 : ¬ ("cells" : Str) = "fold" := by decide +kernel
theorem k21 : ¬ ("at" : Str) = "cells" := by decide +kernel
theorem k23 : ¬ ("at" : Str) = "digits" := by decide +kernel
theorem k24 : ¬ ("at" : Str) = "count" := by decide +kernel
theorem k25 : ¬ ("at" : Str) = "fold" := by decide +kernel
theorem k31 : ¬ ("digits" : Str) = "cells" := by decide +kernel
theorem k32 : ¬ ("digits" : Str) = "at" := by decide +kernel
theorem k34 : ¬ ("digits" : Str) = "count" := by decide +kernel
theorem k35 : ¬ ("digits" : Str) = "fold" := by decide +kernel
theorem k41 : ¬ ("count" : Str) = "cells" := by decide +kernel
theorem k42 : ¬ ("count" : Str) = "at" := by decide +kernel
theorem k43 : ¬ ("count" : Str) = "digits" := by decide +kernel
theorem k45 : ¬ ("count" : Str) = "fold" := by decide +kernel
theorem k51 : ¬ ("fold" : Str) = "cells" := by decide +kernel
theorem k52 : ¬ ("fold" : Str) = "at" := by decide +kernel
theorem k53 : ¬ ("fold" : Str) = "digits" := by decide +kernel
theorem k54 : ¬ ("fold" : Str) = "count" := by decide +kernel
def kvsP (c : Addr) (a d n f : Int) : List (Key × V) := [(.inr "cells", .ref c), (.inr "at", .int a), (.inr "digits", .int d), (.inr "count", .int n), (.inr "fold", .int f)]
section
variable (c : Addr) (a d n f z : Int)
theorem vCells : valV (kvsP c a d n f) (.inr "cells" : Key) = some (.ref c) := by simp [kvsP, valV, List.find?]
theorem vAt : valV (kvsP c a d n f) (.inr "at" : Key) = some (.int a) := by simp [kvsP, valV, List.find?, k12]
theorem vDigits : valV (kvsP c a d n f) (.inr "digits" : Key) = some (.int d) := by simp [kvsP, valV, List.find?, k13, k23]
theorem vCount : valV (kvsP c a d n f) (.inr "count" : Key) = some (.int n) := by simp [kvsP, valV, List.find?, k14, k24, k34]
theorem vFold : valV (kvsP c a d n f) (.inr "fold" : Key) = some (.int f) := by simp [kvsP, valV, List.find?, k15, k25, k35, k45]
theorem pAt : putK (kvsP c a d n f) (.inr "at" : Key) (.int z) = kvsP c z d n f := by simp [kvsP, putK, k12, k32, k42, k52]
theorem pDigits : putK (kvsP c a d n f) (.inr "digits" : Key) (.int z) = kvsP c a z n f := by simp [kvsP, putK, k13, k23, k43, k53]
theorem pCount : putK (kvsP c a d n f) (.inr "count" : Key) (.int z) = kvsP c a d z f := by simp [kvsP, putK, k14, k24, k34, k54]
theorem pFold : putK (kvsP c a d n f) (.inr "fold" : Key) (.int z) = kvsP c a d n z := by simp [kvsP, putK, k15, k25, k35, k45]
theorem mPen : mergeK [] [((.inr "cells" : Key), V.ref c), (.inr "at", .int a), (.inr "digits", .int d), (.inr "count", .int n), (.inr "fold", .int f)] = kvsP c a d n f := by
  simp [mergeK, kvsP, putK, k12, k13, k14, k15, k23, k24, k25, k34, k35, k45]
end
theorem getS {H : Hp} {a : Addr} {kvs : List (Key × V)} {x : Str} {v : V} (e : H a = some (.dK kvs)) (h : valV kvs (.inr x : Key) = some v) : DGet H a (.str x) (some v) := .inl ⟨kvs, .inr x, .inl e, rfl, h.symm⟩
theorem putS {H : Hp} {a : Addr} {kvs kvs' : List (Key × V)} {x : Str} {v : V} (e : H a = some (.dK kvs)) (hl : kvs.length < sizeLine) (h : putK kvs (.inr x : Key) v = kvs') : DPut H a (.str x) v (upd H a (.dK kvs')) := .inl ⟨kvs, .inr x, e, rfl, hl, by rw [h]⟩
theorem lenP {c : Addr} {a d n f : Int} : (kvsP c a d n f).length < sizeLine := small1000 (by show 5 ≤ 1000; decide)
/-- a pen stands at p, its cells at c, n draws so far -/
def PenAt (H : Hp) (p c : Addr) (n : Nat) : Prop := ∃ (ns : List Int) (a d f : Int), H p = some (.dK (kvsP c a d n f)) ∧ H c = some (.lst (ns.map V.int)) ∧ ns.length ≤ 63 ∧ 0 ≤ a ∧ 0 ≤ d ∧ 0 ≤ f ∧ f < 2147483587
theorem PenAt.ne {H : Hp} {p c : Addr} {n : Nat} (h : PenAt H p c n) : p ≠ c := by
  obtain ⟨ns, a, d, f, hp, hc, _⟩ := h
  exact ne_of hp hc (by intro z; cases z)
theorem PenAt.same {H H' : Hp} {p c : Addr} {n : Nat} (h : PenAt H p c n) (hp : H' p = H p) (hc : H' c = H c) : PenAt H' p c n := by
  obtain ⟨ns, a, d, f, e1, e2, r⟩ := h
  exact ⟨ns, a, d, f, hp.trans e1, hc.trans e2, r⟩
theorem PenAt.some {H : Hp} {p c : Addr} {n : Nat} (h : PenAt H p c n) : (∃ o, H p = some o) ∧ ∃ o, H c = some o := by
  obtain ⟨ns, a, d, f, e1, e2, r⟩ := h
  exact ⟨⟨_, e1⟩, ⟨_, e2⟩⟩
theorem PenAt.ext {H H' : Hp} {p c : Addr} {n : Nat} (h : PenAt H p c n) (s : Same H H') : PenAt H' p c n := by
  obtain ⟨⟨o, e1⟩, o', e2⟩ := h.some
  exact h.same ((s _ _ e1).trans e1.symm) ((s _ _ e2).trans e2.symm)
theorem sqL_pen {K : PySem.W.Frag} {H H' : Hp} {p y : Addr} {xs : List V} {kv : List (Key × V)} (hk : ∀ b, b ≠ p → H' b = H b) (hp : H p = some (.dK kv)) (h : SqL K H y xs) : SqL K H' y xs := by
  rcases h with (h | ⟨ob, h⟩) | h
  · exact .inl (.inl ((hk y (ne_of h hp (by intro z; cases z))).trans h))
  · exact .inl (.inr ⟨ob, (hk y (ne_of h hp (by intro z; cases z))).trans h⟩)
  · exact .inr h
theorem sqT_pen {K : PySem.W.Frag} {H H' : Hp} {p y : Addr} {xs : List V} {kv : List (Key × V)} (hk : ∀ b, b ≠ p → H' b = H b) (hp : H p = some (.dK kv)) (h : SqT K H y xs) : SqT K H' y xs := by
  rcases h with (h | ⟨ob, h⟩) | h
  · exact .inl (.inl ((hk y (ne_of h hp (by intro z; cases z))).trans h))
  · exact .inl (.inr ⟨ob, (hk y (ne_of h hp (by intro z; cases z))).trans h⟩)
  · exact .inr h
theorem ix_or {X : Cx} {r1 r2 : R2} (h1 : IxR X r1) (h2 : IxR X r2) : IxR X (fun x y H Q => r1 x y H Q ∨ r2 x y H Q) := by
  intro val sl pins st σ G x y v u Q J rx ry h hs
  rcases h with h | h
  · exact h1 val sl pins st σ G x y v u Q J rx ry h hs
  · exact h2 val sl pins st σ G x y v u Q J rx ry h hs
def spPen (K : PySem.W.Frag) : Sp := fun vs H Q _ => ∃ (a : Addr) (ns : List Int), vs = [.ref a] ∧ SqL K H a (ns.map V.int) ∧ ns.length ≤ 63 ∧
  ∀ H' p c, Same H H' → H p = none → H c = none → PenAt H' p c 0 → Q (.ref p) H'
def spDraw : Sp := fun vs H Q _ => ∃ (p c : Addr) (n : Nat) (m : Int), vs = [.ref p, .int m] ∧ PenAt H p c n ∧ n < 1000000 ∧ 0 < m ∧ m.natAbs < 2 ^ 200 ∧
  ∀ (r : Int) H', 0 ≤ r → r < m → PenAt H' p c (n + 1) → (∀ b, b ≠ p → H' b = H b) → Q (.int r) H'
def spPick (K : PySem.W.Frag) : Sp := fun vs H Q _ => ∃ (p c q : Addr) (n : Nat) (xs : List V), vs = [.ref p, .ref q] ∧ PenAt H p c n ∧ n < 1000000 ∧ (SqL K H q xs ∨ SqT K H q xs) ∧ xs ≠ [] ∧ xs.length ≤ 1000 ∧
  ∀ (i : Nat) (v : V) H', xs[i]? = some v → PenAt H' p c (n + 1) → (∀ b, b ≠ p → H' b = H b) → Q v H'
section
variable {P : Program} {w : World} {K : PySem.W.Frag} {mg : Str → Option Value} {base : Heap}
theorem ok_pen {f : Addr} {fd : FuncData} {k : Nat} (F : Fun K "_law_pen" "_law_pen" sPen f fd) (mi : mg "int" = none) (ml : mg "list" = none) : FnOk P w K mg base CX0 (k + 1) f fd ["_law_script"] (spPen K) := by
  refine F.ok scPen (fun vs H Q E h => ?_) (fun cdv A outer s H vs Q E hr h => ?_)
  · obtain ⟨a, ns, rfl, _⟩ := h
    rfl
  · obtain ⟨a, ns, rfl, hS, hlen, q⟩ := h
    refine ⟨_, pss_cons (ps_set (i := 1) scPen.nd rfl (.inl rfl) pe_int)
      (pss_cons (ps_for PassesOwn.never rfl (pi_list (pv 0)) (pg_name (i := 2) scPen.nd rfl (.inl rfl))
        (pss_one (ps_set (i := 1) scPen.nd rfl (.inl rfl) (pe_op op_mod (pe_callTy call_int1 (by rfl) mi (by decide +kernel) (pa_cons (pe_op op_add (pe_op op_mul (pv 1) pe_int) (pv 2)) pa_nil)) pe_int))))
      (pss_one (ps_ret (pe_disp (pps_cons pe_str (pe_callTy call_list_of (by rfl) ml (by decide +kernel) (pa_cons (pv 0) pa_nil)) (pps_cons pe_str pe_int (pps_cons pe_str pe_int (pps_cons pe_str pe_int (pps_cons pe_str (pv 1) pps_nil))))) (by rfl) (by rfl) (fun z => by cases z) (by decide))))), ?_⟩
    refine ⟨_, rfl, a, rfl, ⟨_, hS⟩, for_list (K := K) (a := a) (xs := ns.map V.int) (fun i σ H2 => ∃ (g : Int) (v : Option V), σ = [some (.ref a), some (.int g), v] ∧ H2 = H ∧ 0 ≤ g ∧ g < 1000000007)
      ⟨0, none, rfl, rfl, by decide, by decide⟩ (fun i σ H2 _ ⟨_, _, _, e, _⟩ => by rw [e]; exact hS) ?_ ?_⟩
    · rintro i y σ H2 hi ⟨g, v, rfl, rfl, h0, h1⟩
      obtain ⟨z, rfl⟩ : ∃ z, y = V.int z := by
        rw [List.getElem?_map] at hi
        cases e : ns[i]? with
        | none => rw [e] at hi; cases hi
        | some z => rw [e] at hi; exact ⟨z, (Option.some.inj hi).symm⟩
      refine ⟨_, rfl, _, _, rfl, rfl, .inr ⟨by decide, by decide⟩, _, rfl, _, _, rfl, rfl, .inl ⟨_, rfl, _, _, rfl, rfl, (by show (0 : Int) < 1000000007; decide), ?_⟩⟩
      exact ⟨_, _, rfl, rfl, Int.emod_nonneg _ (by decide), Int.emod_lt_of_pos _ (by decide)⟩
    · rintro σ H2 ⟨g, v, rfl, rfl, h0, h1⟩
      intro p np
      refine ⟨.ref a, rfl, a, ns.map V.int, rfl, .inl ?_, fun c nc => ?_⟩
      · exact Same.seq (H := H2) (fun b o e => by rw [upd_ne (ne_of_none e np)]; exact e) hS
      have ncp : c ≠ p := fun e => by rw [e, upd_same] at nc; cases nc
      have nc2 : H2 c = none := by rw [upd_ne ncp] at nc; exact nc
      refine ⟨_, rfl, ?_⟩
      refine ⟨by rw [upd_ne ncp.symm, upd_same], [((.inr "cells" : Key), V.ref c), (.inr "at", .int 0), (.inr "digits", .int 0), (.inr "count", .int 0), (.inr "fold", .int g)], rfl, (by show 5 ≤ 15; decide), ?_⟩
      rw [mPen]
      refine q _ p c (fun b o e => ?_) np nc2 ⟨ns, 0, 0, g, upd_same, ?_, hlen, by decide, by decide, h0, by omega⟩
      · rw [upd_ne (ne_of_none e np), upd_ne (ne_of_none e nc2), upd_ne (ne_of_none e np)]
        exact e
      · rw [upd_ne ncp, upd_same]
theorem ok_draw {f : Addr} {fd : FuncData} {k : Nat} (F : Fun K "_law_draw" "_law_draw" sDraw f fd) (mi : mg "int" = none) (ml : mg "len" = none) : FnOk P w K mg base CX0 (k + 1) f fd ["_law_pen_here", "_law_many"] spDraw := by
  refine F.ok scDraw (fun vs H Q E h => ?_) (fun cdv A outer s H vs Q E hr h => ?_)
  · obtain ⟨p, c, n, m, rfl, _⟩ := h
    rfl
  · obtain ⟨p, c, n, m, rfl, hP, hn, hm, hm9, q⟩ := h
    have hu := hu_of hr
    have hpc := hP.ne
    obtain ⟨ns, a0, d0, f0, hp, hc, hlen, ha, hd, hf0, hf1⟩ := hP
    refine ⟨_, pss_cons (ps_dput hu (pv 0) pe_str (pe_op op_add (pe_dget hu (pv 0) pe_str (fun _ _ => rfl)) pe_int) rfl)
      (C8.pss_cut (ps_if (pw_and (pt_cmpR op_eq (pe_dget hu (pv 0) pe_str (fun _ _ => rfl)) pe_int (nomark _))
            (pw_and1 (pt_cmpR op_lt (pe_dget hu (pv 0) pe_str (fun _ _ => rfl)) (pe_callB call_len_seq (by rfl) ml PySem.boot_len (pa_cons (pe_dget hu (pv 0) pe_str (fun _ _ => rfl)) pa_nil)) (nomark _)))).pt
          (pss_cons (ps_set (i := 2) scDraw.nd rfl (.inl rfl) (pe_ix ix_list (pe_dget hu (pv 0) pe_str (fun _ _ => rfl)) (pe_dget hu (pv 0) pe_str (fun _ _ => rfl)) (fun _ _ => rfl)))
          (pss_cons (ps_dput hu (pv 0) pe_str (pe_op op_add (pe_dget hu (pv 0) pe_str (fun _ _ => rfl)) pe_int) rfl)
          (pss_one (ps_if (pt_cmpR op_ge (pv 2) (pe_op op_pow pe_int pe_int) (nomark _))
            (pss_one (ps_dput hu (pv 0) pe_str (pe_op op_sub (pv 2) (pe_op op_pow pe_int pe_int)) rfl))
            (pss_one (ps_dput hu (pv 0) pe_str (pe_op op_mod (pe_callTy call_int1 (by rfl) mi (by decide +kernel) (pa_cons (pe_op op_add (pe_op op_mul (pe_dget hu (pv 0) pe_str (fun _ _ => rfl)) pe_int) (pv 2)) pa_nil)) pe_int) rfl))))))
          pss_nil)
      (pss_cons (ps_if (pt_cmpR op_gt (pe_dget hu (pv 0) pe_str (fun _ _ => rfl)) pe_int (nomark _))
          (pss_cons (ps_set (i := 3) scDraw.nd rfl (.inl rfl) (pe_op op_mod (pe_callTy call_int1 (by rfl) mi (by decide +kernel) (pa_cons (pe_dget hu (pv 0) pe_str (fun _ _ => rfl)) pa_nil)) (pv 1)))
          (pss_cons (ps_dput hu (pv 0) pe_str (pe_op op_fdivW (pe_dget hu (pv 0) pe_str (fun _ _ => rfl)) (pv 1)) rfl)
          (pss_one (ps_ret (pv 3)))))
          pss_nil)
      (pss_cons (ps_set (i := 4) scDraw.nd rfl (.inl rfl) (pe_op op_add (pe_op op_add (pe_dget hu (pv 0) pe_str (fun _ _ => rfl)) (pe_op op_mul (pe_dget hu (pv 0) pe_str (fun _ _ => rfl)) pe_int)) pe_int))
      (pss_one (ps_ret (pe_op op_mod (pe_op op_fdivW (pe_callTy call_int1 (by rfl) mi (by decide +kernel) (pa_cons (pe_op op_mod (pe_op op_pow (pv 4) pe_int) pe_int) pa_nil)) pe_int) (pv 1))))))), ?_⟩
    -- count
    refine ⟨_, rfl, p, _, rfl, getS hp (vCount ..), _, _, rfl, rfl, _, rfl, p, _, rfl, putS hp lenP (pCount ..), ?_⟩
    have up : ∀ {o : HO}, (upd H p o) p = some o := fun {o} => upd_same
    have uc : ∀ {o : HO}, (upd H p o) c = some (.lst (ns.map V.int)) := fun {o} => by rw [upd_ne hpc.symm]; exact hc
    -- the cell
    refine ⟨fun σ' H' => ∃ (a d g : Int) (v2 : Option V), σ' = [some (.ref p), some (.int m), v2, none, none] ∧ H' = upd H p (.dK (kvsP c a d ((n : Int) + 1) g)) ∧ 0 ≤ a ∧ 0 ≤ d ∧ 0 ≤ g ∧ g < 2147483587, ?_, ?_⟩
    · refine ⟨_, rfl, p, _, rfl, getS up (vDigits ..), rfl, _, rfl, ite2 (fun e1 => ?_) (fun e1 => ?_)⟩
      · refine ⟨_, rfl, p, _, rfl, getS up (vAt ..), _, rfl, p, _, rfl, getS up (vCells ..), c, _, rfl, .inl (SqL.of uc), _, _, rfl, rfl, _, rfl, ite2 (fun e2 => ?_) (fun e2 => ?_)⟩
        · have e2' : a0 < (ns.length : Int) := by
            have z := of_decide_eq_true e2
            rw [List.length_map] at z
            exact z
          have hat : (ns.map V.int)[a0.toNat]? = some (V.int (ns[a0.toNat]'(by omega))) := by
            rw [List.getElem?_map, List.getElem?_eq_getElem (by omega)]
            rfl
          refine ⟨_, rfl, p, _, rfl, getS up (vCells ..), _, rfl, p, _, rfl, getS up (vAt ..), c, _, _, _, rfl, rfl, SqL.of uc, at_of (by omega) hat, ?_⟩
          refine ⟨_, rfl, p, _, rfl, getS up (vAt ..), _, _, rfl, rfl, _, rfl, p, _, rfl, putS up lenP (pAt ..), ?_⟩
          rw [upd_upd]
          refine ⟨_, rfl, _, _, rfl, rfl, ⟨by decide, by decide, by decide⟩, _, _, rfl, rfl, _, rfl, ite2 (fun e3 => ?_) (fun e3 => ?_)⟩
          · refine ⟨_, rfl, _, _, rfl, rfl, ⟨by decide, by decide, by decide⟩, _, _, rfl, rfl, _, rfl, p, _, rfl, putS up lenP (pDigits ..), ?_⟩
            rw [upd_upd]
            have e3' := of_decide_eq_true e3
            exact ⟨_, _, _, _, rfl, rfl, by omega, by omega, hf0, hf1⟩
          · refine ⟨_, rfl, p, _, rfl, getS up (vFold ..), _, _, rfl, rfl, .inr ⟨by decide, by decide⟩, _, rfl, _, _, rfl, rfl, .inl ⟨_, rfl, _, _, rfl, rfl, (by show (0 : Int) < 2147483587; decide), _, rfl, p, _, rfl, putS up lenP (pFold ..), ?_⟩⟩
            rw [upd_upd]
            exact ⟨_, _, _, _, rfl, rfl, by omega, hd, Int.emod_nonneg _ (by decide), Int.emod_lt_of_pos _ (by decide)⟩
        · exact ⟨_, _, _, _, rfl, rfl, ha, hd, hf0, hf1⟩
      · refine iteF ?_
        exact ⟨_, _, _, _, rfl, rfl, ha, hd, hf0, hf1⟩
    · rintro σ' H' ⟨a, d, g, v2, rfl, rfl, ha', hd', hg0, hg1⟩
      have fin : ∀ (r a d g : Int), 0 ≤ r → r < m → 0 ≤ a → 0 ≤ d → 0 ≤ g → g < 2147483587 → Q (.int r) (upd H p (.dK (kvsP c a d ((n : Int) + 1) g))) := fun r a d g r0 r1 a0 d0 g0 g1 =>
        q r _ r0 r1 ⟨ns, a, d, g, up, uc, hlen, a0, d0, g0, g1⟩ fun b hb => upd_ne hb
      refine ⟨_, rfl, p, _, rfl, getS up (vDigits ..), _, _, rfl, rfl, _, rfl, ite2 (fun e1 => ?_) (fun e1 => ?_)⟩
      · refine ⟨_, rfl, p, _, rfl, getS up (vDigits ..), .inl ⟨_, rfl, _, rfl, _, _, rfl, rfl, hm, ?_⟩⟩
        refine ⟨_, rfl, p, _, rfl, getS up (vDigits ..), _, rfl, _, _, rfl, rfl, wide_div hm hm9 (by decide) (by decide), _, rfl, p, _, rfl, putS up lenP (pDigits ..), ?_⟩
        rw [upd_upd]
        refine ⟨_, rfl, ?_⟩
        exact fin _ _ _ _ (Int.emod_nonneg _ (by omega)) (Int.emod_lt_of_pos _ hm) ha' (Int.ediv_nonneg hd' (by omega)) hg0 hg1
      · refine ⟨_, rfl, p, _, rfl, getS up (vFold ..), _, rfl, p, _, rfl, getS up (vCount ..), _, _, rfl, rfl, .inr ⟨by decide, by decide⟩, _, _, rfl, rfl, _, _, rfl, rfl, ?_⟩
        refine ⟨_, rfl, _, _, rfl, rfl, ⟨by decide, by decide, ?_⟩, _, _, rfl, rfl, (by show (0 : Int) < 2305843009213693951; decide), .inl ⟨_, rfl, _, _, rfl, rfl, wide_div (b := 200) (by decide) (by decide) (by decide) (by decide), _, rfl, _, _, rfl, rfl, hm, ?_⟩⟩
        · omega
        · exact fin _ _ _ _ (Int.emod_nonneg _ (by omega)) (Int.emod_lt_of_pos _ hm) ha' hd' hg0 hg1
theorem ok_pick {f fD : Addr} {fd fdD : FuncData} {k : Nat} (F : Fun K "_law_pick" "_law_pick" sPick f fd) (FD : Fun K "_law_draw" "_law_draw" sDraw fD fdD) (bD : Binds K fdD ["_law_pen_here", "_law_many"] []) (gD : mg "_law_draw" = some (.ref fD)) (mi : mg "int" = none) (ml : mg "len" = none) :
    FnOk P w K mg base CX0 (k + 2) f fd ["_law_pen_here", "_law_some"] (spPick K) := by
  have GD : FnOk P w K mg base CX0 (k + 1) fD fdD ["_law_pen_here", "_law_many"] spDraw := ok_draw FD mi ml
  refine F.ok scPick (fun vs H Q E h => ?_) (fun cdv A outer s H vs Q E hr h => ?_)
  · obtain ⟨p, c, y, n, xs, rfl, _⟩ := h
    rfl
  · obtain ⟨p, c, y, n, xs, rfl, hP, hn, hS, h0, hl, q⟩ := h
    refine ⟨_, pss_one (ps_ret (pe_ix (ix_or ix_list ix_tup) (pv 1) (pe_call GD hr (by rfl) gD FD.kp bD .nil pass0 (pa_cons (pv 0) (pa_cons (pe_callB call_len_seq (by rfl) ml PySem.boot_len (pa_cons (pv 1) pa_nil)) pa_nil))) (fun _ _ => rfl))), ?_⟩
    have hpos : 0 < xs.length := List.length_pos_iff.mpr h0
    refine ⟨_, rfl, _, rfl, _, rfl, y, xs, rfl, hS, p, c, n, _, rfl, hP, hn, by omega, ?_, fun r H' r0 r1 hP' hk => ?_⟩
    · have e : (xs.length : Int).natAbs = xs.length := by omega
      rw [e]
      exact Nat.lt_of_le_of_lt hl (by decide)
    · obtain ⟨j, rfl⟩ : ∃ j : Nat, r = (j : Int) := ⟨r.toNat, by omega⟩
      have hj : j < xs.length := by omega
      have hx : xs[j]? = some xs[j] := List.getElem?_eq_getElem hj
      obtain ⟨ns, a0, d0, f0, ep, _⟩ := hP
      rcases hS with hS | hS
      · exact .inl ⟨y, xs, _, _, rfl, rfl, sqL_pen hk ep hS, atI_nat hx, q j _ H' hx hP' hk⟩
      · exact .inr ⟨y, xs, _, _, rfl, rfl, sqT_pen hk ep hS, atI_nat hx, q j _ H' hx hP' hk⟩
end
end KQ

namespace KQ
open PySem PySem.Spec PyProof.Rows L2
/-! ### texts as lists of signs -/
abbrev mS (L : List Nat) : Str := ⟨L.toArray⟩
theorem mS_len (L : List Nat) : (mS L).length = L.length := by simp [Str.length]
theorem mS_inj {L M : List Nat} (h : mS L = mS M) : L = M := by
  have := congrArg (fun x : Str => x.cps.toList) h
  simpa using this
theorem mS_app (L M : List Nat) : mS L ++ mS M = mS (L ++ M) := by
  show Str.mk (L.toArray ++ M.toArray) = _
  simp
theorem mS_eta (x : Str) : x = mS x.cps.toList := by
  show x = Str.mk x.cps.toList.toArray
  simp
theorem mS_of {x : Str} {L : List Nat} (h : x.cps.toList = L) : x = mS L := by rw [mS_eta x, h]
theorem mS_cut (L : List Nat) (lo hi : Option Int) : cutS (mS L) lo hi = mS ((L.drop (HT.sIx L.length 0 lo)).take (HT.sIx L.length L.length hi - HT.sIx L.length 0 lo)) := by
  unfold cutS
  rw [mS_len]
theorem cut_from (L : List Nat) (k : Nat) : cutS (mS L) (some (k : Int)) none = mS (L.drop k) := by
  rw [mS_cut, HT.sIx_nat, HT.sIx_none]
  by_cases h : k ≤ L.length
  · rw [Nat.min_eq_left h, List.take_of_length_le (by simp)]
  · rw [Nat.min_eq_right (by omega), List.drop_of_length_le (Nat.le_refl _), List.drop_of_length_le (by omega)]
    simp
theorem cut_to (L : List Nat) (k : Nat) : cutS (mS L) none (some (k : Int)) = mS (L.take k) := by
  rw [mS_cut, HT.sIx_nat, HT.sIx_none, List.drop_zero, Nat.sub_zero]
  by_cases h : k ≤ L.length
  · rw [Nat.min_eq_left h]
  · rw [Nat.min_eq_right (by omega), List.take_of_length_le (Nat.le_refl _), List.take_of_length_le (by omega)]
theorem cut_mid (L : List Nat) (k : Nat) : cutS (mS L) (some (k : Int)) (some ((k : Int) + 1)) = mS (L.drop k |>.take 1) := by
  have e : ((k : Int) + 1) = ((k + 1 : Nat) : Int) := by omega
  rw [e, mS_cut, HT.sIx_nat, HT.sIx_nat]
  by_cases h : k + 1 ≤ L.length
  · rw [Nat.min_eq_left h, Nat.min_eq_left (by omega)]
    congr 2
    omega
  · rw [Nat.min_eq_right (by omega), Nat.min_eq_right (by omega), List.drop_of_length_le (Nat.le_refl _), List.drop_of_length_le (by omega)]
    simp
theorem sw_one (L : List Nat) (c : Nat) : Txt.startswith (mS L) ⟨#[c]⟩ = decide (L.head? = some c) := by
  cases L with
  | nil => rfl
  | cons a L =>
    unfold Txt.startswith Builtin.Str.subAt
    show (decide (0 + 1 ≤ (mS (a :: L)).length) && ((a :: L).toArray.extract 0 (0 + 1) == #[c])) = _
    rw [mS_len]
    by_cases h : a = c
    · subst h
      simp
    · have : ¬ (some a = some c) := fun e => h (Option.some.inj e)
      simp [h]
theorem drop_take {p : Nat → Bool} (L : List Nat) : L.drop (L.takeWhile p).length = L.dropWhile p := by
  have h := List.takeWhile_append_dropWhile (p := p) (l := L)
  have h2 : (L.takeWhile p ++ L.dropWhile p).drop (L.takeWhile p).length = L.dropWhile p := List.drop_left
  rw [h] at h2
  exact h2
theorem lstrip_eq (L S : List Nat) : Txt.lstripChars (mS L) (mS S) = mS (L.dropWhile S.toArray.contains) := by
  have key : Builtin.Str.strSub (mS L) (L.takeWhile S.toArray.contains).length L.length = mS (L.dropWhile S.toArray.contains) := by
    refine mS_of ?_
    rw [PySem.StrLaws.strSub_toList]
    show ((L.drop _).take _) = _
    rw [drop_take, List.take_of_length_le]
    have h := congrArg List.length (List.takeWhile_append_dropWhile (p := S.toArray.contains) (l := L))
    rw [List.length_append] at h
    omega
  unfold Txt.lstripChars Txt.stripBy
  split
  · rename_i h
    have h0 : (L.takeWhile S.toArray.contains).length = 0 := by
      exact eq_of_beq ((Bool.and_eq_true _ _).mp h).1
    rw [← drop_take, h0, List.drop_zero]
  · show Builtin.Str.strSub (mS L) _ (mS L).length = _
    rw [mS_len]
    exact key
theorem strike (L : List Nat) (c : Nat) : Txt.replace (mS L) ⟨#[c]⟩ ⟨#[]⟩ = mS (L.filter (· != c)) := mS_of (by rw [replace_strikes])
/-! ### the letters and their bits -/
def isL (c : Nat) : Bool := (#[73, 88, 89, 90] : Array Nat).contains c
theorem isL_iff {c : Nat} : isL c = true ↔ c = 73 ∨ c = 88 ∨ c = 89 ∨ c = 90 := by
  unfold isL
  simp
def lx (c : Nat) : Nat := if c = 88 ∨ c = 89 then 1 else 0
def lz (c : Nat) : Nat := if c = 90 ∨ c = 89 then 1 else 0
def bv (f : Nat → Nat) : List Nat → Nat
  | [] => 0
  | c :: L => f c + 2 * bv f L
theorem bv_app (f : Nat → Nat) : ∀ (L : List Nat) (c : Nat), bv f (L ++ [c]) = bv f L + 2 ^ L.length * f c
  | [], c => by simp [bv]
  | a :: L, c => by
    show f a + 2 * bv f (L ++ [c]) = f a + 2 * bv f L + 2 ^ (L.length + 1) * f c
    rw [bv_app f L c, Nat.pow_succ, Nat.mul_add, Nat.add_assoc, Nat.mul_comm (2 ^ L.length) 2, Nat.mul_assoc]
theorem bv_take (f : Nat → Nat) {L : List Nat} {k c : Nat} (h : L[k]? = some c) : bv f (L.take (k + 1)) = bv f (L.take k) + 2 ^ k * f c := by
  have hk : k < L.length := by
    rcases Nat.lt_or_ge k L.length with h' | h'
    · exact h'
    · rw [List.getElem?_eq_none h'] at h; cases h
  have e : L.take (k + 1) = L.take k ++ [c] := by
    rw [List.take_succ, h]
    rfl
  rw [e, bv_app, List.length_take, Nat.min_eq_left (by omega)]
theorem bv_bit {f : Nat → Nat} (hf : ∀ c, f c < 2) : ∀ {L : List Nat} {k c : Nat}, L[k]? = some c → bv f L / 2 ^ k % 2 = f c
  | [], k, c, h => by simp at h
  | a :: L, 0, c, h => by
    have e : a = c := by simpa using h
    subst e
    have := hf a
    show (f a + 2 * bv f L) / 2 ^ 0 % 2 = f a
    rw [Nat.pow_zero, Nat.div_one]
    omega
  | a :: L, k + 1, c, h => by
    have h' : L[k]? = some c := by simpa using h
    have := hf a
    show (f a + 2 * bv f L) / 2 ^ (k + 1) % 2 = f c
    rw [Nat.pow_succ, Nat.mul_comm (2 ^ k) 2, ← Nat.div_div_eq_div_mul, show (f a + 2 * bv f L) / 2 = bv f L from by omega]
    exact bv_bit hf h'
theorem bv_lt {f : Nat → Nat} (hf : ∀ c, f c < 2) : ∀ L : List Nat, bv f L < 2 ^ L.length
  | [] => Nat.one_pos
  | a :: L => by
    have := bv_lt hf L
    have := hf a
    show f a + 2 * bv f L < 2 ^ (L.length + 1)
    rw [Nat.pow_succ]
    omega
theorem lx_lt (c : Nat) : lx c < 2 := by unfold lx; split <;> omega
theorem lz_lt (c : Nat) : lz c < 2 := by unfold lz; split <;> omega
theorem letter_back {c : Nat} (h : isL c = true) : ([73, 88, 90, 89] : List Nat)[lx c + 2 * lz c]? = some c := by
  rcases isL_iff.mp h with rfl | rfl | rfl | rfl <;> decide
/-! ### counting ones -/
def pc (n : Nat) : Nat := if h : n = 0 then 0 else n % 2 + pc (n / 2)
termination_by n
decreasing_by omega
theorem pc_zero : pc 0 = 0 := by unfold pc; rfl
theorem pc_two (m b : Nat) (hb : b < 2) : pc (2 * m + b) = b + pc m := by
  by_cases h : 2 * m + b = 0
  · have h1 : m = 0 := by omega
    have h2 : b = 0 := by omega
    subst h1 h2
    rw [pc_zero]
  · rw [pc, dif_neg h, show (2 * m + b) % 2 = b from by omega, show (2 * m + b) / 2 = m from by omega]
theorem and_two (a b i j : Nat) (hi : i < 2) (hj : j < 2) : (2 * a + i) &&& (2 * b + j) = 2 * (a &&& b) + (i &&& j) := by
  have h1 : ((2 * a + i) &&& (2 * b + j)) / 2 = a &&& b := by
    rw [Nat.and_div_two, show (2 * a + i) / 2 = a from by omega, show (2 * b + j) / 2 = b from by omega]
  have h2 : ((2 * a + i) &&& (2 * b + j)) % 2 = i &&& j := by
    have := Nat.and_mod_two_pow (a := 2 * a + i) (b := 2 * b + j) (n := 1)
    rw [Nat.pow_one] at this
    rw [this, show (2 * a + i) % 2 = i from by omega, show (2 * b + j) % 2 = j from by omega]
  omega
theorem or_two (a b i j : Nat) (hi : i < 2) (hj : j < 2) : (2 * a + i) ||| (2 * b + j) = 2 * (a ||| b) + (i ||| j) := by
  have h1 : ((2 * a + i) ||| (2 * b + j)) / 2 = a ||| b := by
    rw [Nat.or_div_two, show (2 * a + i) / 2 = a from by omega, show (2 * b + j) / 2 = b from by omega]
  have h2 : ((2 * a + i) ||| (2 * b + j)) % 2 = i ||| j := by
    have := Nat.or_mod_two_pow (a := 2 * a + i) (b := 2 * b + j) (n := 1)
    rw [Nat.pow_one] at this
    rw [this, show (2 * a + i) % 2 = i from by omega, show (2 * b + j) % 2 = j from by omega]
  omega
theorem pc_step : ∀ (n : Nat), 0 < n → pc (n &&& (n - 1)) + 1 = pc n := by
  intro n
  induction n using Nat.strongRecOn with
  | ind n ih =>
    intro hn
    by_cases h : n % 2 = 1
    · have e : n = 2 * (n / 2) + 1 := by omega
      have e2 : n - 1 = 2 * (n / 2) + 0 := by omega
      have e3 : n &&& (n - 1) = 2 * (n / 2) + 0 := by
        rw [e2]
        conv => lhs; lhs; rw [e]
        rw [and_two _ _ _ _ (by decide) (by decide), Nat.and_self]
        rfl
      rw [e3, pc_two _ _ (by decide)]
      conv => rhs; rw [e]
      rw [pc_two _ _ (by decide)]
      omega
    · have e : n = 2 * (n / 2) + 0 := by omega
      have e2 : n - 1 = 2 * (n / 2 - 1) + 1 := by omega
      have e3 : n &&& (n - 1) = 2 * (n / 2 &&& (n / 2 - 1)) + 0 := by
        rw [e2]
        conv => lhs; lhs; rw [e]
        rw [and_two _ _ _ _ (by decide) (by decide)]
        rfl
      have := ih (n / 2) (by omega) (by omega)
      rw [e3, pc_two _ _ (by decide)]
      conv => rhs; rw [e]
      rw [pc_two _ _ (by decide)]
      omega
def wt (L : List Nat) : Nat := L.length - L.count 73
theorem pc_or : ∀ {L : List Nat}, (∀ c ∈ L, isL c = true) → pc (bv lx L ||| bv lz L) + L.count 73 = L.length
  | [], _ => by
    show pc (0 ||| 0) + 0 = 0
    rw [show (0 ||| 0 : Nat) = 0 from rfl, pc_zero]
  | c :: L, h => by
    have ih := pc_or fun d hd => h d (List.mem_cons_of_mem _ hd)
    show pc ((lx c + 2 * bv lx L) ||| (lz c + 2 * bv lz L)) + (c :: L).count 73 = L.length + 1
    rw [Nat.add_comm (lx c), Nat.add_comm (lz c), or_two _ _ _ _ (lx_lt c) (lz_lt c), List.count_cons]
    have hc := isL_iff.mp (h c List.mem_cons_self)
    have two : (lx c ||| lz c) < 2 ∧ (lx c ||| lz c) + (if c == 73 then 1 else 0) = 1 := by
      rcases hc with rfl | rfl | rfl | rfl <;> decide
    rw [pc_two _ _ two.1]
    omega
theorem pc_wt {L : List Nat} (h : ∀ c ∈ L, isL c = true) : pc (bv lx L ||| bv lz L) = wt L := by
  have := pc_or h
  unfold wt
  omega
/-! ### a text's parts -/
def st1 (B : List Nat) : Nat := if B.head? = some 43 ∨ B.head? = some 45 then 1 else 0
def start (B : List Nat) : Nat := st1 B + (if (B.drop (st1 B)).head? = some 105 then 1 else 0)
def rest (B : List Nat) : List Nat := B.drop (start B)
def fine (B : List Nat) : Prop := (rest B).dropWhile isL = [] ∧ rest B ≠ []
instance (B : List Nat) : Decidable (fine B) := inferInstanceAs (Decidable (_ ∧ _))
def col (B : List Nat) : Nat := if fine B then 0 else B.length - ((rest B).dropWhile isL).length + 1
def ph (B : List Nat) : Nat := (if B.head? = some 45 then 2 else 0) + (if (B.drop (st1 B)).head? = some 105 then 1 else 0)
def headL : Nat → List Nat
  | 0 => []
  | 1 => [105]
  | 2 => [45]
  | _ => [45, 105]
theorem ph_lt (B : List Nat) : ph B < 4 := by
  unfold ph
  split <;> split <;> omega
theorem head_of (B : List Nat) : (B.take (start B)).filter (· != 43) = headL (ph B) := by
  cases B with
  | nil => rfl
  | cons a B =>
    unfold start ph
    by_cases h1 : a = 43
    · subst h1
      have e : st1 (43 :: B) = 1 := rfl
      rw [e]
      cases B with
      | nil => rfl
      | cons b B =>
        by_cases h2 : b = 105
        · subst h2
          rfl
        · have e2 : ((43 :: b :: B).drop 1).head? ≠ some 105 := fun z => h2 (Option.some.inj z)
          rw [if_neg e2, if_neg (by simp : ¬ ((43 :: b :: B).head? = some 45))]
          rfl
    · by_cases h3 : a = 45
      · subst h3
        have e : st1 (45 :: B) = 1 := rfl
        rw [e]
        cases B with
        | nil => rfl
        | cons b B =>
          by_cases h2 : b = 105
          · subst h2
            rfl
          · have e2 : ((45 :: b :: B).drop 1).head? ≠ some 105 := fun z => h2 (Option.some.inj z)
            rw [if_neg e2]
            rfl
      · have e : st1 (a :: B) = 0 := by
          unfold st1
          rw [if_neg]
          rintro (z | z)
          · exact h1 (Option.some.inj z)
          · exact h3 (Option.some.inj z)
        have e3 : ¬ ((a :: B).head? = some 45) := fun z => h3 (Option.some.inj z)
        rw [e, if_neg e3]
        by_cases h2 : a = 105
        · subst h2
          rfl
        · have e2 : ¬ (((a :: B).drop 0).head? = some 105) := fun z => h2 (Option.some.inj z)
          rw [if_neg e2]
          rfl
theorem start_le (B : List Nat) : start B ≤ B.length := by
  unfold start
  cases B with
  | nil => decide
  | cons a B =>
    have h1 : st1 (a :: B) ≤ 1 := by unfold st1; split <;> omega
    split
    · rename_i h
      have : st1 (a :: B) < (a :: B).length := by
        rcases Nat.lt_or_ge (st1 (a :: B)) (a :: B).length with z | z
        · exact z
        · rw [List.drop_of_length_le z] at h
          cases h
      omega
    · show _ ≤ B.length + 1
      omega
theorem dw_all : ∀ {L : List Nat}, (∀ c ∈ L, isL c = true) → L.dropWhile isL = []
  | [], _ => rfl
  | c :: L, h => by
    rw [List.dropWhile_cons_of_pos (h c List.mem_cons_self)]
    exact dw_all fun d hd => h d (List.mem_cons_of_mem _ hd)
/-- a head before letters -/
theorem read_head {L : List Nat} (hL : ∀ c ∈ L, isL c = true) (h0 : L ≠ []) (i : Nat) (T : List Nat) (p : Nat) (hT : ([([], 0), ([43], 0), ([45], 2), ([105], 1), ([43, 105], 1), ([45, 105], 3)] : List (List Nat × Nat))[i]? = some (T, p)) :
    rest (T ++ L) = L ∧ ph (T ++ L) = p ∧ fine (T ++ L) := by
  have hd : ∃ a M, L = a :: M ∧ a ≠ 43 ∧ a ≠ 45 ∧ a ≠ 105 := by
    cases L with
    | nil => exact absurd rfl h0
    | cons a M =>
      refine ⟨a, M, rfl, ?_, ?_, ?_⟩ <;> rintro rfl <;> have := isL_iff.mp (hL _ List.mem_cons_self) <;> omega
  obtain ⟨a, M, rfl, n1, n2, n3⟩ := hd
  have dw : (a :: M).dropWhile isL = [] := by
    exact dw_all hL
  have go : ∀ T p, start (T ++ (a :: M)) = T.length → ph (T ++ (a :: M)) = p → rest (T ++ (a :: M)) = a :: M ∧ ph (T ++ (a :: M)) = p ∧ fine (T ++ (a :: M)) := by
    intro T p hs hp
    have hr : rest (T ++ (a :: M)) = a :: M := by
      unfold rest
      rw [hs]
      exact List.drop_left
    refine ⟨hr, hp, ?_⟩
    unfold fine
    rw [hr]
    exact ⟨dw, by simp⟩
  have s1 : ∀ x : Nat, x ≠ 43 → x ≠ 45 → ∀ M, st1 (x :: M) = 0 := by
    intro x h1 h2 M
    unfold st1
    rw [if_neg]
    rintro (z | z)
    · exact h1 (Option.some.inj z)
    · exact h2 (Option.some.inj z)
  have no : ∀ M : List Nat, ¬ ((a :: M).head? = some 105) := fun M z => n3 (Option.some.inj z)
  match i, hT with
  | 0, e =>
    cases e
    refine go [] 0 ?_ ?_
    · show st1 (a :: M) + (if ((a :: M).drop (st1 (a :: M))).head? = some 105 then 1 else 0) = 0
      rw [s1 a n1 n2, List.drop_zero, if_neg (no M)]
    · have n4 : ¬ ((a :: M).head? = some 45) := fun z => n2 (Option.some.inj z)
      show (if (a :: M).head? = some 45 then 2 else 0) + (if ((a :: M).drop (st1 (a :: M))).head? = some 105 then 1 else 0) = 0
      rw [s1 a n1 n2, if_neg n4, List.drop_zero, if_neg (no M)]
  | 1, e =>
    cases e
    refine go [43] 0 ?_ ?_
    · show 1 + (if (a :: M).head? = some 105 then 1 else 0) = 1
      rw [if_neg (no M)]
    · show 0 + (if (a :: M).head? = some 105 then 1 else 0) = 0
      rw [if_neg (no M)]
  | 2, e =>
    cases e
    refine go [45] 2 ?_ ?_
    · show 1 + (if (a :: M).head? = some 105 then 1 else 0) = 1
      rw [if_neg (no M)]
    · show 2 + (if (a :: M).head? = some 105 then 1 else 0) = 2
      rw [if_neg (no M)]
  | 3, e =>
    cases e
    exact go [105] 1 rfl rfl
  | 4, e =>
    cases e
    exact go [43, 105] 1 rfl rfl
  | 5, e =>
    cases e
    exact go [45, 105] 3 rfl rfl
theorem col_zero {B : List Nat} : col B = 0 ↔ fine B := by
  unfold col
  split
  · exact ⟨fun _ => by assumption, fun _ => rfl⟩
  · exact ⟨fun z => by omega, fun z => absurd z (by assumption)⟩
theorem len_split (B : List Nat) : B.length = start B + ((rest B).takeWhile isL).length + ((rest B).dropWhile isL).length := by
  have h := congrArg List.length (List.takeWhile_append_dropWhile (p := isL) (l := rest B))
  rw [List.length_append] at h
  have h2 : (rest B).length = B.length - start B := List.length_drop
  have := start_le B
  omega
end KQ

namespace KQ
open PySem PySem.Spec PyProof.Rows L2
/-! ### one token is out behind x = y.lstrip('..') -/
def PEk (X : Cx) (e : Expr) (t : TE) : Prop :=
  ∀ (pins : List (Addr × Obj)) (s : Shared) (σ : L2.St) (H : Hp) (Q : VK), Inv X pins σ H s → t σ H Q → wpAny (model X.prog X.w) X.A (eval e X.env) (fun v s' => 1 ≤ s'.toks ∧ EP X pins σ Q v s') X.xe s
section
variable {X : Cx} {rest : List Stmt} {u : TS} {e : Expr} {te : TE}
theorem pss_tok {i : Nat} {x : Str} {pos' pos : Pos} (he : PEk X e te) (nd : X.N.Nodup) (hi : X.N[i]? = some x) (hx : Loc X.env.scope x) (h2 : PSsT X rest u)
    (hs : swapsWith e (some (.Name x pos')) pos.line X.env = pure false := by rfl) (hf : X.fn x = true ∨ X.env.scope.names.lookup x = some .local := by first | exact .inl rfl | exact .inr rfl | assumption) :
    PSs X (.Assign [.Name x pos'] e pos :: rest) (tSeq (tAsg te (gName i)) u) := by
  refine ⟨fun pins s σ H D I want => ?_⟩
  refine wpAny_execs_cons (wpAny_Assign_Name (wpAny_mono (he pins s σ H _ I want) (fun v s1 q => ?_) fun _ _ z => z) hs)
  obtain ⟨hk, z, H1, I1, r1, q1⟩ := q
  refine wpAny_mono (PySem.wpAny_toks (store_ok (v := z) (u := v) (Q := fun _ s2 => Inv X pins (σ.set i (some z)) H1 s2) I1 nd hi hx r1 (fun _ I2 => I2) hf)) (fun _ s2 q => ?_) fun _ _ z => z.2
  exact h2 pins s2 _ H1 D (Nat.le_trans hk q.1) q.2 q1
def tStrip (to : TE) (c : Str) : TE := fun σ H Q => to σ H fun v H1 => ∃ x, v = .str x ∧ x.length ≤ sizeLine ∧ Q (.str (Txt.lstripChars x c)) H1
theorem pek_strip {o : Expr} {to : TE} {c : Str} {j : Nat} {cpos apos pos : Pos} (ho : PE X o to)
    (hst : starEach [.Constant (.str c) j cpos] X.env = [(false, eval (.Constant (.str c) j cpos) X.env)] := by rfl)
    (hbase : attributeBase o "lstrip" X.env (eval o X.env) = eval o X.env := by rfl) (hline : (apos.endLine == pos.line) = true := by rfl) :
    PEk X (.Call (.Attribute o "lstrip" apos) [.Constant (.str c) j cpos] [] pos) (tStrip to c) := by
  intro pins s σ H Q I want
  refine PySem.Call_method1 hbase hst hline (wpAny_mono (ho.run pins s σ H _ I want) (fun v s1 q => ?_) fun _ _ z => z)
  obtain ⟨v', H1, I1, r1, x, rfl, hz, q⟩ := q
  obtain ⟨tx, rfl⟩ := r1
  refine ⟨"str", _, PySem.F.plainAttrs_str, PySem.F.slot_str_lstrip, PySem.F.type_str_lstrip, typeIs_str _ _ _, (fun _ e => nomatch e), Calls.callWith_builtin rfl (Calls.evalArgs_plain (Calls.spliced_cons ?_))⟩
  refine Calls.Constant_str (Calls.spliced_nil ?_)
  refine wpAny_mono (PySem.wpAny_toks_of (n := 1) (by show 1 ≤ s1.toks + 1; omega) (PySem.SC.lstripChars (Q := EP X pins σ Q) (fun t' k => ⟨.str _, H1, I1.tok k, ⟨t', rfl⟩, q⟩) hz)) (fun _ _ z => z) fun _ _ z => z.2
/-- a written pair, one token out -/
theorem pet_tup {es : List Expr} {ta : TA} {pos : Pos} {x1} (h : PAT X es ta) : PET X (.Tuple es x1 pos) (tTup ta) := by
  intro pins s σ H Q h0 I hq
  refine wpAny_Tuple_spliced (thn (h pos pins s σ H _ h0 I hq) fun us s1 ⟨xs, H1, I1, r, z, q⟩ => ⟨by rw [← r.length]; exact z, ?_⟩)
  refine ⟨.ref s1.heap.objs.size, upd H1 s1.heap.objs.size (.tup xs), I1.laid (t' := s1.toks) (fun b u e => Heap.get?_push_of_some _ e) (Nat.le_refl _) ?_, rfl, q _ (I1.hok.fresh (Nat.le_refl _))⟩
  exact ⟨z, us, r, ⟨_, Heap.get?_push_size _ rfl, rfl, _, rfl⟩⟩
/-- list(text) -/
theorem vals_signs {x : Str} : ∀ (n : Nat) (vs : List Value), vs.length = n → (∀ (j : Nat) (v : Value), vs[j]? = some v → ∃ c u, x.cps.toList[j]? = some c ∧ v = Value.str ⟨#[c]⟩ u) → n ≤ x.cps.toList.length → Vals ((x.cps.toList.take n).map fun c => V.str ⟨#[c]⟩) vs := by
  have go : ∀ (L : List Nat) (vs : List Value), vs.length ≤ L.length → (∀ (j : Nat) (v : Value), vs[j]? = some v → ∃ c u, L[j]? = some c ∧ v = Value.str ⟨#[c]⟩ u) → Vals ((L.take vs.length).map fun c => V.str ⟨#[c]⟩) vs := by
    intro L
    induction L with
    | nil =>
      intro vs hl _
      cases vs with
      | nil => exact .nil
      | cons v vs => simp at hl
    | cons c L ih =>
      intro vs hl h
      cases vs with
      | nil => exact .nil
      | cons v vs =>
        obtain ⟨c', u, e1, e2⟩ := h 0 v rfl
        have e3 : c = c' := by simpa using e1
        subst e3
        subst e2
        refine .cons ⟨u, rfl⟩ (ih vs (by simpa using hl) fun j w hj => ?_)
        have := h (j + 1) w (by simpa using hj)
        simpa using this
  intro n vs hl h hn
  subst hl
  exact go _ vs hn h
theorem call_list_txt (calm : X.calm = true) : CallR X (.type "list") (fun xs H Q => ∃ z : Str, xs = [.str z] ∧ z.cps.toList.length ≤ sizeLine ∧ ∀ l, H l = none → Q (.ref l) (upd H l (.lst (z.cps.toList.map fun c => V.str ⟨#[c]⟩)))) := by
  intro pins s σ H xs us Q I r want
  obtain ⟨z, rfl, hz, q⟩ := want
  obtain ⟨u, rfl, rx⟩ := vals1 r
  obtain ⟨t, rfl⟩ := rx
  refine PySem.call_list_str (I.ok.hd calm) z t (fun h' tk acc c' kp e items => ?_) (by simpa using hz)
  obtain ⟨n1, n2⟩ := items
  have hv := vals_signs (x := z) z.cps.toList.length acc.toList (by rw [Array.length_toList, n1]; simp) (fun j v hj => by
    obtain ⟨c, u, e1, e2⟩ := n2 j v (by simpa using hj)
    exact ⟨c, u, by simpa using e1, e2⟩) (Nat.le_refl _)
  rw [List.take_of_length_le (Nat.le_refl _)] at hv
  refine ⟨.ref s.heap.objs.size, _, I.laid (t' := tk) kp (Nat.le_refl _) (show ObjOk X.prog X.w _ h' _ (.lst _) from ⟨by rw [List.length_map]; exact hz, acc.toList, c', hv, by simpa using e⟩), rfl, q _ (I.hok.fresh (Nat.le_refl _))⟩
end
/-! ### the program's defs -/
abbrev sPauli : Stmt := topS 10
abbrev sInit : Stmt := inClass (topS 10) 0
abbrev sEq : Stmt := inClass (topS 10) 1
abbrev sText : Stmt := topS 11
abbrev sCut : Stmt := topS 12
abbrev sInitT : Stmt := inClass (topS 3) 0
theorem scInitT : FnScope ["self", "line", "column"] ["self", "line", "column"] (defScope sInitT) := ⟨rfl, rfl, rfl, by decide +kernel, rfl, by decide +kernel, by decide +kernel⟩
theorem scCut : FnScope ["text", "start", "letters", "wrong"] ["text"] (defScope sCut) := ⟨rfl, rfl, rfl, by decide +kernel, rfl, by decide +kernel, by decide +kernel⟩
theorem scInit : FnScope ["self", "text", "head", "letters"] ["self", "text"] (defScope sInit) := ⟨rfl, rfl, rfl, by decide +kernel, rfl, by decide +kernel, by decide +kernel⟩
theorem scEq : FnScope ["self", "other"] ["self", "other"] (defScope sEq) := ⟨rfl, rfl, rfl, by decide +kernel, rfl, by decide +kernel, by decide +kernel⟩
theorem scText : FnScope ["p"] ["p"] (defScope sText) := ⟨rfl, rfl, rfl, by decide +kernel, rfl, by decide +kernel, by decide +kernel⟩
/-- built-in names -/
structure Bl (mg : Str → Option Value) : Prop where
  isi : mg "isinstance" = none
  int : mg "int" = none
  bool : mg "bool" = none
  str : mg "str" = none
  len : mg "len" = none
  range : mg "range" = none
  list : mg "list" = none
/-- no text -/
def Odd (H : Hp) (v : V) : Prop := v = .non ∨ (∃ b, v = .bl b) ∨ (∃ i, v = .int i) ∨ (∃ p xs, v = .ref p ∧ H p = some (.lst xs)) ∨ (∃ p xs, v = .ref p ∧ H p = some (.tup xs)) ∨ ∃ p kv, v = .ref p ∧ H p = some (.dK kv)
theorem Odd.ty {H : Hp} {v : V} (h : Odd H v) : ∃ n : String, (∀ K, TyX K H v (.type n)) ∧ kitB n "str" = some false := by
  rcases h with h | ⟨b, h⟩ | ⟨i, h⟩ | ⟨p, xs, h, e⟩ | ⟨p, xs, h, e⟩ | ⟨p, kv, h, e⟩ <;> subst h
  · exact ⟨_, fun K => .base .non, by decide +kernel⟩
  · exact ⟨_, fun K => .base (.bl b), by decide +kernel⟩
  · exact ⟨_, fun K => .base (.int i), by decide +kernel⟩
  · exact ⟨_, fun K => .base (.lst e), by decide +kernel⟩
  · exact ⟨_, fun K => .base (.tup e), by decide +kernel⟩
  · exact ⟨_, fun K => .base (.dK e), by decide +kernel⟩
theorem Odd.same {H H' : Hp} {v : V} (s : Same H H') (h : Odd H v) : Odd H' v := by
  rcases h with h | h | h | ⟨p, xs, h, e⟩ | ⟨p, xs, h, e⟩ | ⟨p, kv, h, e⟩
  · exact .inl h
  · exact .inr (.inl h)
  · exact .inr (.inr (.inl h))
  · exact .inr (.inr (.inr (.inl ⟨p, xs, h, s _ _ e⟩)))
  · exact .inr (.inr (.inr (.inr (.inl ⟨p, xs, h, s _ _ e⟩))))
  · exact .inr (.inr (.inr (.inr (.inr ⟨p, kv, h, s _ _ e⟩))))
def xdT (l c : V) : List (Str × V) := [("column", c), ("line", l)]
/-- BadText(l, c) leaves the call -/
def Rz (C : Addr) (l c : V) (H : Hp) (E : XK) : Prop := ∀ d H', Same H H' → H' d = some (.xd (xdT l c)) → E (.ref C) (some d) H'
def spInitT (C : Addr) : Sp := fun vs H Q _ => ∃ (a : Addr) (y0 y1 : V), vs = [.ref a, y0, y1] ∧ H a = some (exo a C none) ∧
  ∀ H' d, H d = none → d ≠ a → H' a = some (exo a C (some d)) → H' d = some (exd d (xdT y0 y1)) → (∀ b o, H b = some o → b ≠ a → H' b = some o) → Q .non H'
def Telling (C : Addr) (B : List Nat) (H : Hp) (Q : VK) (E : XK) : Prop := (fine B ∧ ∀ H' p, Same H H' → H p = none → H' p = some (.tup [.str (mS (headL (ph B))), .str (mS (rest B))]) → Q (.ref p) H') ∨ (¬ fine B ∧ Rz C (.int 1) (.int (col B)) H E)
def spCut (C : Addr) : Sp := fun vs H Q E => ∃ v, vs = [v] ∧ ((∃ B : List Nat, v = .str (mS B) ∧ B.length ≤ 1000 ∧ Telling C B H Q E) ∨ (Odd H v ∧ Rz C (.int 0) (.int 0) H E))
theorem same_new {H : Hp} {r : Addr} {o : HO} (n : H r = none) : Same H (upd H r o) := fun b u e => by
  rw [upd_ne (ne_of_none e n)]
  exact e
/-- what the top has written of BadText -/
structure BT (K : PySem.W.Frag) (mg : Str → Option Value) (C fB : Addr) (dB : FuncData) : Prop where
  ox : OexC K C
  ic : PySem.W.findIn K (.ref C) "__init__" = some (some (.ref fB))
  ti : PySem.W.typeIn K (.ref fB) = some (.type "function")
  n0 : PySem.W.findIn K (.ref C) "line" = some none
  n1 : PySem.W.findIn K (.ref C) "column" = some none
  g : mg "BadText" = some (.ref C)
  F : Fun K "__init__" "BadText.__init__" sInitT fB dB
  b : Binds K dB ["self", "line", "column"] []
theorem bootS : bootBuiltins "str" = some (.type "str") := by decide +kernel
theorem bootI : bootBuiltins "int" = some (.type "int") := by decide +kernel
theorem e_plus : ("+" : Str) = ⟨#[43]⟩ := by decide +kernel
theorem e_minus : ("-" : Str) = ⟨#[45]⟩ := by decide +kernel
theorem e_i : ("i" : Str) = ⟨#[105]⟩ := by decide +kernel
theorem e_all : ("IXYZ" : Str) = mS [73, 88, 89, 90] := by decide +kernel
theorem e_no : ("" : Str) = ⟨#[]⟩ := by decide +kernel
theorem e_I : ("I" : Str) = ⟨#[73]⟩ := by decide +kernel
section
variable {P : Program} {w : World} {K : PySem.W.Frag} {mg : Str → Option Value} {base : Heap}
theorem ok_initT {f C : Addr} {fd : FuncData} {k : Nat} (F : Fun K "__init__" "BadText.__init__" sInitT f fd) (T : OexC K C) (n0 : PySem.W.findIn K (.ref C) "line" = some none) (n1 : PySem.W.findIn K (.ref C) "column" = some none) :
    FnOk P w K mg base CX0 (k + 1) f fd ["self", "line", "column"] (spInitT C) := by
  refine F.ok scInitT (fun vs H Q E h => ?_) (fun cdv A outer s H vs Q E hr h => ?_)
  · obtain ⟨a, y0, y1, rfl, _⟩ := h
    rfl
  · obtain ⟨a, y0, y1, rfl, ha, q⟩ := h
    refine ⟨_, pss_cons (ps_ost (pv 0) (pv 1) rfl) (pss_one (ps_ost (pv 0) (pv 2) rfl)), ?_⟩
    refine ⟨_, rfl, _, rfl, a, C, rfl, T, n0, .inl ⟨ha, fun dx nx dne => ?_⟩⟩
    refine ⟨_, rfl, _, rfl, a, C, rfl, T, n1, .inr ⟨dx, _, upd_same, by rw [upd_ne dne]; exact upd_same, by show _ ≤ 900; exact Nat.le_of_ble_eq_true rfl, ?_⟩⟩
    exact q _ dx nx dne (by rw [upd_ne dne.symm]; exact upd_same) upd_same (fun b o e hb => by rw [upd_ne (ne_of_none e nx), upd_ne hb, upd_ne (ne_of_none e nx)]; exact e)
theorem raise_rd {C : Addr} {y0 y1 : V} {H : Hp} {W : XK} (h : Rz C y0 y1 H W) : ∀ a, H a = none → spInitT C (.ref a :: ([y0, y1] ++ [])) (upd H a (exo a C none))
    (fun v H2 => v = .non ∧ ∃ (d : Addr) (fs : List (Str × V)), H2 a = some (exo a C (some d)) ∧ H2 d = some (exd d fs) ∧ H d = none ∧ W (.ref C) (some d) (upd (del H2 a) d (.xd fs))) (fun _ _ _ => False) := by
  intro a na
  refine ⟨a, y0, y1, rfl, upd_same, fun H' d nd dne e1 e2 kp => ⟨rfl, d, _, e1, e2, ?_, ?_⟩⟩
  · rw [upd_ne dne] at nd
    exact nd
  · have nd' : H d = none := by
      rw [upd_ne dne] at nd
      exact nd
    refine h d _ (fun b o e => ?_) upd_same
    have hba : b ≠ a := ne_of_none e na
    rw [upd_ne (ne_of_none e nd'), del_ne hba]
    exact kp b o (by rw [upd_ne hba]; exact e) hba
theorem sizeBig {n : Nat} (h : n ≤ 1000) : n ≤ sizeLine := Nat.le_trans h (by decide)
theorem ok_cut {f C fB : Addr} {fd dB : FuncData} (F : Fun K "_cut_text" "_cut_text" sCut f fd) (T : BT K mg C fB dB) (B : Bl mg) : FnOk P w K mg base (L2.CX P w) 3 f fd ["text"] (spCut C) := by
  have GB : FnOk P w K mg base CX0 1 fB dB ["self", "line", "column"] (spInitT C) := ok_initT T.F T.ox T.n0 T.n1
  refine F.okX scCut (fun vs H Q E h => ?_) (fun cdv A outer s H vs Q E hr h => ?_)
  · obtain ⟨v, rfl, _⟩ := h
    rfl
  · obtain ⟨v, rfl, h⟩ := h
    have hr1 : Room 1 _ := hr.mono (by decide)
    refine ⟨_, C8.pss_cut (ps_if (pt_not (pt_val (pe_callB call_isi (by rfl) B.isi PyProof.Rows.boot_isinstance (pa_cons (pv 0) (pa_cons (pe_bltn (v := .ty "str") (by rfl) B.str bootS rfl) pa_nil)))))
        (pss_one (ps_raise rfl (takes_of rfl rfl rfl rfl) (pmk_oex T.ox T.ic T.ti GB hr T.b .nil pass0 (by rfl) T.g (pa_cons pe_int (pa_cons pe_int pa_nil))))) pss_nil)
      (C8.pss_cut (ps_set (i := 1) scCut.nd rfl (.inl rfl) pe_int)
      (C8.pss_cut (ps_if (pw_or (pt_val (pe_bm PySem.F.plainAttrs_str PySem.F.slot_str_startswith PySem.F.type_str_startswith mt_startswith (pv 0) (pa_cons pe_str pa_nil))) (pw_or1 (pt_val (pe_bm PySem.F.plainAttrs_str PySem.F.slot_str_startswith PySem.F.type_str_startswith mt_startswith (pv 0) (pa_cons pe_str pa_nil))))).pt
        (pss_one (ps_set (i := 1) scCut.nd rfl (.inl rfl) pe_int)) pss_nil)
      (C8.pss_cut (ps_if (pt_val (pe_bm PySem.F.plainAttrs_str PySem.F.slot_str_startswith PySem.F.type_str_startswith mt_startswith (pe_slice sl_str (pv 0) (po_some (pv 1)) po_none) (pa_cons pe_str pa_nil)))
        (pss_one (ps_aug (i := 1) scCut.nd rfl (.inl rfl) pe_int ip_add)) pss_nil)
      (C8.pss_cut (ps_set (i := 2) scCut.nd rfl (.inl rfl) (pe_slice sl_str (pv 0) (po_some (pv 1)) po_none))
      (pss_tok (i := 3) (pek_strip (pv 2)) scCut.nd rfl (.inl rfl)
        (psst_cons (PST.of (ps_if (pw_or (pt_truth (pv 3) (by intro _; rfl)) (pw_or1 (pt_not (pt_truth (pv 2) (by intro _; rfl))))).pt
          (pss_one (ps_raise rfl (takes_of rfl rfl rfl rfl) (pmk_oex T.ox T.ic T.ti GB hr T.b .nil pass0 (by rfl) T.g (pa_cons pe_int (pa_cons (pe_op op_add (pe_op op_sub (pe_callB call_len_str (by rfl) B.len PySem.boot_len (pa_cons (pv 0) pa_nil)) (pe_callB call_len_str (by rfl) B.len PySem.boot_len (pa_cons (pv 3) pa_nil))) pe_int) pa_nil))))) pss_nil))
        (CwR.psst_one (CwR.pst_ret (pet_tup (pat_cons (CwR.pet_replC (pe_slice sl_str (pv 0) po_none (po_some (pv 1)))) (pat_cons (CwR.PET.of (pv 2)) pat_nil)))))))))))  , ?_⟩
    refine ⟨fun σ' H' => σ' = [some v, none, none, none] ∧ H' = H ∧ ∃ B : List Nat, v = .str (mS B) ∧ B.length ≤ 1000 ∧ Telling C B H Q E, ?_, ?_⟩
    · rcases h with ⟨B, rfl, hl, t⟩ | ⟨ho, q⟩
      · exact ⟨_, rfl, _, _, _, _, true, rfl, .ty "str", .base (.str _), kit_ty (by decide +kernel), _, rfl, iteF ⟨rfl, rfl, B, rfl, hl, t⟩⟩
      · obtain ⟨n, ty, kt⟩ := ho.ty
        refine ⟨_, rfl, v, _, _, _, false, rfl, .ty "str", ty K, kit_ty kt, _, rfl, iteT ⟨by show 2 ≤ 1000; decide, raise_rd q⟩⟩
    rintro _ H1 ⟨rfl, rfl, B, rfl, hl, t⟩
    have hz : (mS B).length ≤ sizeLine := by rw [mS_len]; exact sizeBig hl
    refine ⟨fun σ' H' => σ' = [some (.str (mS B)), some (.int 0), none, none] ∧ H' = H1, ⟨rfl, rfl⟩, ?_⟩
    rintro _ H2 ⟨rfl, rfl⟩
    refine ⟨fun σ' H' => σ' = [some (.str (mS B)), some (.int ((st1 B : Nat) : Int)), none, none] ∧ H' = H2, ?_, ?_⟩
    · have s1 := sw_one B 43
      have s2 := sw_one B 45
      rw [← e_plus] at s1
      rw [← e_minus] at s2
      refine ⟨_, rfl, rfl, _, _, rfl, rfl, _, rfl, ite2 (fun e => ?_) (fun e => ⟨_, rfl, rfl, _, _, rfl, rfl, _, rfl, ite2 (fun e2 => ?_) (fun e2 => ?_)⟩)⟩
      · have h1 : B.head? = some 43 := of_decide_eq_true (s1.symm.trans e)
        have : st1 B = 1 := if_pos (.inl h1)
        rw [this]
        exact ⟨rfl, rfl⟩
      · have h1 : B.head? = some 45 := of_decide_eq_true (s2.symm.trans e2)
        have : st1 B = 1 := if_pos (.inr h1)
        rw [this]
        exact ⟨rfl, rfl⟩
      · have h1 : ¬ B.head? = some 43 := fun z => e (s1.trans (decide_eq_true z))
        have h2 : ¬ B.head? = some 45 := fun z => e2 (s2.trans (decide_eq_true z))
        have : st1 B = 0 := if_neg (fun z => z.elim h1 h2)
        rw [this]
        exact ⟨rfl, rfl⟩
    rintro _ H3 ⟨rfl, rfl⟩
    refine ⟨fun σ' H' => σ' = [some (.str (mS B)), some (.int ((start B : Nat) : Int)), none, none] ∧ H' = H3, ?_, ?_⟩
    · have s1 := sw_one (B.drop (st1 B)) 105
      rw [← e_i, ← cut_from] at s1
      refine ⟨_, rfl, _, rfl, _, rfl, _, rfl, hz, rfl, _, _, rfl, rfl, _, rfl, ite2 (fun e => ?_) (fun e => ?_)⟩
      · have h1 : (B.drop (st1 B)).head? = some 105 := of_decide_eq_true (s1.symm.trans e)
        have : start B = st1 B + 1 := by unfold start; rw [if_pos h1]
        rw [this]
        exact ⟨_, rfl, _, _, rfl, rfl, rfl, rfl⟩
      · have h1 : ¬ (B.drop (st1 B)).head? = some 105 := fun z => e (s1.trans (decide_eq_true z))
        have : start B = st1 B := by unfold start; rw [if_neg h1]; rfl
        rw [this]
        exact ⟨rfl, rfl⟩
    rintro _ H4 ⟨rfl, rfl⟩
    refine ⟨fun σ' H' => σ' = [some (.str (mS B)), some (.int ((start B : Nat) : Int)), some (.str (mS (rest B))), none] ∧ H' = H4, ?_, ?_⟩
    · refine ⟨_, rfl, _, rfl, _, rfl, _, rfl, hz, ?_⟩
      rw [cut_from]
      exact ⟨rfl, rfl⟩
    rintro _ H5 ⟨rfl, rfl⟩
    have hzr : (mS (rest B)).length ≤ sizeLine := by
      rw [mS_len]
      refine sizeBig (Nat.le_trans ?_ hl)
      rw [show rest B = B.drop (start B) from rfl, List.length_drop]
      omega
    have hst : Txt.lstripChars (mS (rest B)) ("IXYZ" : Str) = mS ((rest B).dropWhile isL) := by
      rw [e_all, lstrip_eq]
      rfl
    refine ⟨_, rfl, _, rfl, hzr, ?_⟩
    rw [hst]
    have hw : ((rest B).dropWhile isL).length ≤ B.length := by
      have := len_split B
      omega
    have hzw : (mS ((rest B).dropWhile isL)).length ≤ sizeLine := by rw [mS_len]; exact sizeBig (Nat.le_trans hw hl)
    have no_fine : ¬ fine B → Rz C (.int 1) (.int (((mS B).length : Int) - ((mS ((rest B).dropWhile isL)).length : Int) + 1)) H5 E := by
      intro nf
      rcases t with ⟨y, _⟩ | ⟨_, q⟩
      · exact absurd y nf
      · have e : (((mS B).length : Int) - ((mS ((rest B).dropWhile isL)).length : Int) + 1) = ((col B : Nat) : Int) := by
          rw [mS_len, mS_len]
          unfold col
          rw [if_neg nf]
          omega
        rw [e]
        exact q
    refine ⟨_, rfl, _, ⟨hzw, rfl⟩, ite2 (fun e => ?_) (fun e => ⟨_, rfl, _, ⟨hzr, rfl⟩, ite2 (fun e2 => ?_) (fun e2 => ?_)⟩)⟩
    · have nf : ¬ fine B := by
        rintro ⟨z, _⟩
        rw [z] at e
        revert e
        decide
      refine ⟨_, rfl, _, rfl, hz, _, rfl, _, rfl, hzw, _, _, rfl, rfl, _, _, rfl, rfl, by show 2 ≤ 1000; decide, raise_rd (no_fine nf)⟩
    · have nf : ¬ fine B := by
        rintro ⟨_, z⟩
        have : ((mS (rest B)).length : Int) ≠ 0 := by
          rw [mS_len]
          have := List.length_pos_iff.mpr z
          omega
        rw [(bne_iff_ne).mpr this] at e2
        cases e2
      refine ⟨_, rfl, _, rfl, hz, _, rfl, _, rfl, hzw, _, _, rfl, rfl, _, _, rfl, rfl, by show 2 ≤ 1000; decide, raise_rd (no_fine nf)⟩
    · have f1 : (rest B).dropWhile isL = [] := by
        have : ¬ ((mS ((rest B).dropWhile isL)).length : Int) ≠ 0 := fun z => e ((bne_iff_ne).mpr z)
        rw [mS_len] at this
        exact List.length_eq_zero_iff.mp (by omega)
      have f2 : rest B ≠ [] := by
        intro z
        rw [z] at e2
        exact e2 rfl
      rcases t with ⟨_, q⟩ | ⟨nf, _⟩
      · refine ⟨_, rfl, _, rfl, _, rfl, _, rfl, hz, ?_⟩
        rw [cut_to]
        have l1 : (mS (B.take (start B))).length ≤ 1000 := by
          rw [mS_len, List.length_take]
          omega
        refine ⟨_, rfl, ?_, ?_⟩
        · have : ("" : Str).length = 0 := by decide +kernel
          rw [this, Nat.mul_zero]
          omega
        · rw [show ("+" : Str) = ⟨#[43]⟩ from e_plus, show ("" : Str) = ⟨#[]⟩ from e_no, strike, head_of]
          refine ⟨_, rfl, by show 2 ≤ sizeLine; decide, fun p np => ?_⟩
          exact q _ p (same_new np) np upd_same
      · exact absurd ⟨f1, f2⟩ nf
end
end KQ

namespace KQ
open PySem PySem.Spec PyProof.Rows L2
/-! ### strings as objects -/
def PauliAt (C : Addr) (H : Hp) (a : Addr) (R : List Nat) (p : Nat) : Prop := ∃ dx fs, H a = some (.ins C dx fs) ∧ fs.lookup ("letters" : Str) = some (.str (mS R)) ∧ fs.lookup ("phase" : Str) = some (.int (p : Int)) ∧
  fs.lookup ("size" : Str) = some (.int (R.length : Int)) ∧ fs.lookup ("weight" : Str) = some (.int ((R.length : Int) - (R.count 73 : Int)))
/-- the tuple of heads -/
structure Hd4 (K : PySem.W.Frag) (mg : Str → Option Value) (A : Addr) : Prop where
  l : ∃ t0 t1 t2 t3 n sl, K.lookup A = some ⟨.type "tuple", none, .seq #[.str "" t0, .str "i" t1, .str "-" t2, .str "-i" t3] n, sl⟩
  g : mg "HEADS" = some (.ref A)
theorem e_mi : ("-i" : Str) = mS [45, 105] := by decide +kernel
def headsV : List V := [mS [], mS [105], mS [45], mS [45, 105]].map V.str
theorem Hd4.sq {K : PySem.W.Frag} {mg : Str → Option Value} {A : Addr} (h : Hd4 K mg A) (H : Hp) : SqT K H A ([mS [], mS [105], mS [45], mS [45, 105]].map V.str) := by
  obtain ⟨t0, t1, t2, t3, n, sl, e⟩ := h.l
  refine .inr ⟨_, _, n, e, rfl, rfl, by show 4 ≤ sizeLine; decide, ?_⟩
  refine .cons ⟨t0, ?_⟩ (.cons ⟨t1, ?_⟩ (.cons ⟨t2, ?_⟩ (.cons ⟨t3, ?_⟩ .nil)))
  · rw [e_no]
  · rw [e_i]
  · rw [e_minus]
  · rw [e_mi]
theorem Hd4.ty {K : PySem.W.Frag} {mg : Str → Option Value} {A : Addr} (h : Hd4 K mg A) (H : Hp) : tyV K "tuple" (.ref A) H := by
  obtain ⟨t0, t1, t2, t3, n, sl, e⟩ := h.l
  exact .inr (.inl ⟨rfl, _, e, rfl, rfl⟩)
/-- what the top has written of Pauli -/
structure PCl (K : PySem.W.Frag) (mg : Str → Option Value) (C fI fE : Addr) : Prop where
  cl : Cls K C
  nL : NoAttr K C "letters"
  nP : NoAttr K C "phase"
  nS : NoAttr K C "size"
  nW : NoAttr K C "weight"
  mkf : Mk K C fI
  ha : PySem.W.findIn K (.ref C) "__class__" = some (some (.builtin "object.__class__"))
  hn : PySem.W.specialIn K (.builtin "object.__class__") "__get__" = some (some (.builtin "getset_descriptor.__get__"))
  ht : PySem.W.takesIn K (.builtin "object.__class__") = some true
  hm : PySem.W.mroIn K C (.type "object") = some true
  kC : PySem.W.kitOne K (.ref C) (.ref C) = some true
  kS : PySem.W.kitOne K (.type "str") (.ref C) = some false
  eq : PySem.W.findIn K (.ref C) "__eq__" = some (some (.ref fE))
  ef : PySem.W.isFn K (.ref fE) = true
  en : PySem.W.notFirst K C (.type "str") = true
  g : mg "Pauli" = some (.ref C)
def spInit (C CT : Addr) : Sp := fun vs H Q E => ∃ (a dx : Addr) (v : V), vs = [.ref a, v] ∧ H a = some (.ins C dx []) ∧
  ((∃ B : List Nat, v = .str (mS B) ∧ B.length ≤ 1000 ∧ ((fine B ∧ ∀ H', PauliAt C H' a (rest B) (ph B) → (∀ b o, b ≠ a → H b = some o → H' b = some o) → Q .non H') ∨ (¬ fine B ∧ Rz CT (.int 1) (.int (col B)) H E))) ∨ (Odd H v ∧ Rz CT (.int 0) (.int 0) H E))
def spEqP (C : Addr) : Sp := fun vs H Q _ => ∃ (a : Addr) (y : V) (R : List Nat) (p : Nat), vs = [.ref a, y] ∧ PauliAt C H a R p ∧
  ((∃ b R' p', y = .ref b ∧ PauliAt C H b R' p' ∧ Q (.bl (decide (R = R') && decide (p = p'))) H) ∨ ((∃ z : Str, y = .str z) ∧ Q (.bl false) H))
def spText (C : Addr) : Sp := fun vs H Q _ => ∃ (a : Addr) (R : List Nat) (p : Nat), vs = [.ref a] ∧ PauliAt C H a R p ∧ p < 4 ∧ R.length ≤ 1000 ∧ Q (.str (mS (headL p ++ R))) H
theorem cnt_count (c : Nat) : ∀ L : List Nat, countIn (.str ⟨#[c]⟩) (L.map fun n => PyData.str ⟨#[n]⟩) = (L.count c : Int)
  | [] => rfl
  | a :: L => by
    show (if same (.str ⟨#[a]⟩) (.str ⟨#[c]⟩) then 1 else 0) + countIn (.str ⟨#[c]⟩) (L.map fun n => PyData.str ⟨#[n]⟩) = _
    rw [cnt_count c L, List.count_cons]
    have e : same (.str ⟨#[a]⟩) (.str ⟨#[c]⟩) = (a == c) := by
      show ((⟨#[a]⟩ : Str) == ⟨#[c]⟩) = _
      by_cases h : a = c
      · subst h
        simp
      · have : (⟨#[a]⟩ : Str) ≠ ⟨#[c]⟩ := fun z => h (by injection z with z; simpa using z)
        rw [beq_eq_false_iff_ne.mpr this, beq_eq_false_iff_ne.mpr h]
    rw [e]
    by_cases h : a = c
    · subst h
      simp
      omega
    · rw [beq_eq_false_iff_ne.mpr h]
      simp
theorem head_at {p : Nat} (h : p < 4) : ([mS [], mS [105], mS [45], mS [45, 105]] : List Str)[p]? = some (mS (headL p)) := by
  match p, h with
  | 0, _ => rfl
  | 1, _ => rfl
  | 2, _ => rfl
  | 3, _ => rfl
theorem head_first {p : Nat} (h : p < 4) : ∀ m, m < p → ([mS [], mS [105], mS [45], mS [45, 105]] : List Str)[m]? ≠ some (mS (headL p)) := by
  match p, h with
  | 0, _ => exact fun m hm => by omega
  | 1, _ => 
    intro m hm
    match m, hm with
    | 0, _ => decide
  | 2, _ =>
    intro m hm
    match m, hm with
    | 0, _ => decide
    | 1, _ => decide
  | 3, _ =>
    intro m hm
    match m, hm with
    | 0, _ => decide
    | 1, _ => decide
    | 2, _ => decide
section
variable {P : Program} {w : World} {K : PySem.W.Frag} {mg : Str → Option Value} {base : Heap}
theorem ok_init {f fC C CT fE fB A : Addr} {fd dC dB : FuncData} (F : Fun K "__init__" "Pauli.__init__" sInit f fd) (N : PCl K mg C f fE) (FC : Fun K "_cut_text" "_cut_text" sCut fC dC) (bC : Binds K dC ["text"] []) (gC : mg "_cut_text" = some (.ref fC))
    (T : BT K mg CT fB dB) (hd : Hd4 K mg A) (B : Bl mg) : FnOk P w K mg base (L2.CX P w) 4 f fd ["self", "text"] (spInit C CT) := by
  have GC : FnOk P w K mg base (L2.CX P w) 3 fC dC ["text"] (spCut CT) := ok_cut FC T B
  refine F.okX scInit (fun vs H Q E h => ?_) (fun cdv A' outer s H vs Q E hr h => ?_)
  · obtain ⟨a, dx, v, rfl, _⟩ := h
    rfl
  · obtain ⟨a, dx, v, rfl, ea, h⟩ := h
    refine ⟨_, C8.pss_cut (ps_asg (pe_call GC hr (by rfl) gC FC.kp bC .nil (passes_call (takes_of rfl rfl rfl rfl) (fun _ _ _ _ h => h)) (pa_cons (pv 1) pa_nil)) (pg_tup rfl (pgs_cons (pg_name (i := 2) scInit.nd rfl (.inl rfl)) (pgs_cons (pg_name (i := 3) scInit.nd rfl (.inl rfl)) pgs_nil))))
      (pss_cons (ps_fld (pv 0) (pv 3) rfl)
      (pss_cons (ps_fld (pv 0) (pe_bm PySem.F.plainAttrs_tuple PySem.F.slot_tuple_index PySem.F.type_tuple_index mt_tup_index (pe_glob (v := .ref A) (by rfl) hd.g rfl) (pa_cons (pv 2) pa_nil)) rfl)
      (pss_cons (ps_fld (pv 0) (pe_callB call_len_str (by rfl) B.len PySem.boot_len (pa_cons (pv 3) pa_nil)) rfl)
      (pss_one (ps_fld (pv 0) (pe_op op_sub (pe_callB call_len_str (by rfl) B.len PySem.boot_len (pa_cons (pv 3) pa_nil)) (pe_bm PySem.F.plainAttrs_str PySem.F.slot_str_count PySem.F.type_str_count mt_count (pv 3) (pa_cons pe_str pa_nil))) rfl))))), ?_⟩
    refine ⟨fun σ' H' => ∃ B : List Nat, fine B ∧ B.length ≤ 1000 ∧ σ' = [some (.ref a), some v, some (.str (mS (headL (ph B)))), some (.str (mS (rest B)))] ∧ Same H H' ∧ ∀ H', PauliAt C H' a (rest B) (ph B) → (∀ b o, b ≠ a → H b = some o → H' b = some o) → Q .non H', ?_, ?_⟩
    · refine ⟨_, rfl, v, rfl, ?_⟩
      rcases h with ⟨B, rfl, hl, h⟩ | ⟨ho, q⟩
      · refine .inl ⟨B, rfl, hl, ?_⟩
        rcases h with ⟨hf, q⟩ | ⟨hf, q⟩
        · exact .inl ⟨hf, fun H' p s np ep => ⟨p, _, rfl, .inl (.inl ep), rfl, _, _, rfl, _, _, rfl, rfl, B, hf, hl, rfl, s, q⟩⟩
        · exact .inr ⟨hf, q⟩
      · exact .inr ⟨ho, q⟩
    rintro _ H1 ⟨B, hf, hl, rfl, s1, q⟩
    have ea1 := s1 _ _ ea
    have hlr : (rest B).length ≤ 1000 := by
      refine Nat.le_trans ?_ hl
      rw [show rest B = B.drop (start B) from rfl, List.length_drop]
      omega
    have hz : (mS (rest B)).length ≤ sizeLine := by rw [mS_len]; exact sizeBig hlr
    refine ⟨_, rfl, _, rfl, a, C, dx, _, rfl, ea1, N.cl, N.nL, by show 0 < 1000; decide, ?_⟩
    refine ⟨hd.ty _, _, rfl, A, _, _, _, rfl, rfl, hd.sq _, head_at (ph_lt B), head_first (ph_lt B), _, rfl, a, C, dx, _, rfl, upd_same, N.cl, N.nP, by show 1 < 1000; decide, ?_⟩
    refine ⟨_, rfl, _, rfl, hz, _, rfl, a, C, dx, _, rfl, upd_same, N.cl, N.nS, by show 2 < 1000; decide, ?_⟩
    refine ⟨_, rfl, _, rfl, hz, _, rfl, rfl, _, _, rfl, rfl, _, _, rfl, rfl, _, rfl, a, C, dx, _, rfl, upd_same, N.cl, N.nW, by show 3 < 1000; decide, ?_⟩
    refine q _ ⟨dx, _, upd_same, ?_, ?_, ?_, ?_⟩ (fun b o hb e => by rw [upd_ne hb, upd_ne hb, upd_ne hb, upd_ne hb]; exact s1 _ _ e)
    · rw [lookup_putF, if_neg (by decide +kernel), lookup_putF, if_neg (by decide +kernel), lookup_putF, if_neg (by decide +kernel), lookup_putF, if_pos rfl]
    · rw [lookup_putF, if_neg (by decide +kernel), lookup_putF, if_neg (by decide +kernel), lookup_putF, if_pos rfl]
    · rw [lookup_putF, if_neg (by decide +kernel), lookup_putF, if_pos rfl, mS_len]
    · rw [lookup_putF, if_pos rfl, mS_len, e_I]
      have : Txt.count (mS (rest B)) ⟨#[73]⟩ = ((rest B).count 73 : Int) := (PyProof.Rows.count_is _ _).trans (cnt_count 73 _)
      rw [this]
theorem PauliAt.ty {C : Addr} {fI fE : Addr} (N : PCl K mg C fI fE) {H : Hp} {a : Addr} {R : List Nat} {p : Nat} (h : PauliAt C H a R p) : TyX K H (.ref a) (.ref C) := by
  obtain ⟨dx, fs, e, _⟩ := h
  exact .base (.ins e N.cl N.ha N.hn N.ht N.hm)
theorem ok_eq {f fI C : Addr} {fd : FuncData} {k : Nat} (F : Fun K "__eq__" "Pauli.__eq__" sEq f fd) (N : PCl K mg C fI f) (B : Bl mg) : FnOk P w K mg base CX0 (k + 1) f fd ["self", "other"] (spEqP C) := by
  refine F.ok scEq (fun vs H Q E h => ?_) (fun cdv A' outer s H vs Q E hr h => ?_)
  · obtain ⟨a, y, R, p, rfl, _⟩ := h
    rfl
  · obtain ⟨a, y, R, p, rfl, hP, h⟩ := h
    refine ⟨_, pss_one (ps_ret (pe_and (pe_callB call_isi (by rfl) B.isi PyProof.Rows.boot_isinstance (pa_cons (pv 1) (pa_cons (pe_glob (v := .ref C) (by rfl) N.g rfl) pa_nil)))
      (pe_and (pe_cmpR op_eq (pe_fld (pv 0) rfl) (pe_fld (pv 1) rfl) (nomark _)) (pe_one (pe_cmpR op_eq (pe_fld (pv 0) rfl) (pe_fld (pv 1) rfl) (nomark _)))))), ?_⟩
    rcases h with ⟨b, R', p', rfl, hP', q⟩ | ⟨⟨z, rfl⟩, q⟩
    · refine ⟨_, rfl, _, _, _, _, true, rfl, .own C, hP'.ty N, N.kC, _, rfl, ?_⟩
      obtain ⟨dx, fs, e, l1, l2, _⟩ := hP
      obtain ⟨dy, gs, e', l1', l2', _⟩ := hP'
      refine ⟨_, rfl, a, C, dx, fs, _, rfl, e, N.cl, N.nL, l1, _, rfl, b, C, dy, gs, _, rfl, e', N.cl, N.nL, l1', rfl, _, rfl, ?_⟩
      by_cases hR : R = R'
      · subst hR
        rw [decide_eq_true rfl] at q ⊢
        refine ⟨_, rfl, a, C, dx, fs, _, rfl, e, N.cl, N.nP, l2, _, rfl, b, C, dy, gs, _, rfl, e', N.cl, N.nP, l2', rfl, ?_⟩
        by_cases hp : p = p'
        · subst hp
          rw [decide_eq_true rfl] at q ⊢
          exact q
        · rw [decide_eq_false hp] at q
          rw [decide_eq_false (fun z => hp (by have := V.int.inj z; omega))]
          exact q
      · rw [decide_eq_false hR] at q
        rw [decide_eq_false (fun z => hR (mS_inj (V.str.inj z)))]
        exact q
    · exact ⟨_, rfl, _, _, _, _, false, rfl, .own C, .base (.str z), N.kS, _, rfl, q⟩
theorem ok_text {f fI fE C A : Addr} {fd : FuncData} {k : Nat} (F : Fun K "pauli_text" "pauli_text" sText f fd) (N : PCl K mg C fI fE) (hd : Hd4 K mg A) : FnOk P w K mg base CX0 (k + 1) f fd ["p"] (spText C) := by
  refine F.ok scText (fun vs H Q E h => ?_) (fun cdv A' outer s H vs Q E hr h => ?_)
  · obtain ⟨a, R, p, rfl, _⟩ := h
    rfl
  · obtain ⟨a, R, p, rfl, hP, hp, hl, q⟩ := h
    refine ⟨_, pss_one (ps_ret (pe_op op_add_str (pe_ix ix_tup (pe_glob (v := .ref A) (by rfl) hd.g rfl) (pe_fld (pv 0) rfl) (fun _ _ => rfl)) (pe_fld (pv 0) rfl))), ?_⟩
    obtain ⟨dx, fs, e, l1, l2, _⟩ := hP
    have hh := head_at hp
    refine ⟨_, rfl, a, C, dx, fs, _, rfl, e, N.cl, N.nP, l2, A, _, _, _, rfl, rfl, hd.sq _, atI_nat (by rw [List.getElem?_map, hh]; rfl), _, rfl, a, C, dx, fs, _, rfl, e, N.cl, N.nL, l1, _, _, rfl, rfl, ?_, ?_⟩
    · rw [mS_len, mS_len]
      have : (headL p).length ≤ 2 := by
        match p, hp with
        | 0, _ => decide
        | 1, _ => decide
        | 2, _ => decide
        | 3, _ => decide
      exact Nat.le_trans (by omega : _ ≤ 1002) (by decide)
    · rw [mS_app]
      exact q
end
end KQ

namespace KQ
open PySem PySem.Spec PyProof.Rows L2
/-! ### the law's helpers -/
abbrev sOnes : Stmt := topS 17
abbrev sLett : Stmt := topS 18
abbrev sOfT : Stmt := topS 19
abbrev sWt : Stmt := topS 20
abbrev sSome : Stmt := topS 21
abbrev sWhy : Stmt := topS 22
abbrev sPh : Stmt := topS 23
abbrev sTold : Stmt := topS 24
abbrev sCol : Stmt := topS 25
abbrev sLaw : Stmt := topS 26
theorem scOnes : FnScope ["_law_number", "_law_count", "_law_lap"] ["_law_number"] (defScope sOnes) := ⟨rfl, rfl, rfl, by decide +kernel, rfl, by decide +kernel, by decide +kernel⟩
theorem scLett : FnScope ["_law_string", "_law_size", "_law_found", "_law_k"] ["_law_string", "_law_size"] (defScope sLett) := ⟨rfl, rfl, rfl, by decide +kernel, rfl, by decide +kernel, by decide +kernel⟩
theorem scOfT : FnScope ["_law_text", "_law_sign", "_law_letters_here", "_law_x", "_law_z", "_law_k"] ["_law_text"] (defScope sOfT) := ⟨rfl, rfl, rfl, by decide +kernel, rfl, by decide +kernel, by decide +kernel⟩
theorem scWt : FnScope ["_law_string"] ["_law_string"] (defScope sWt) := ⟨rfl, rfl, rfl, by decide +kernel, rfl, by decide +kernel, by decide +kernel⟩
theorem scSome : FnScope ["_law_pen_here", "_law_size", "_law_letters_here", "_law_k"] ["_law_pen_here", "_law_size"] (defScope sSome) := ⟨rfl, rfl, rfl, by decide +kernel, rfl, by decide +kernel, by decide +kernel⟩
theorem scPh : FnScope ["_law_string", "_law_phase", "_law_size"] ["_law_string", "_law_phase", "_law_size"] (defScope sPh) := ⟨rfl, rfl, rfl, by decide +kernel, rfl, by decide +kernel, by decide +kernel⟩
theorem scTold : FnScope ["_law_pauli", "_law_string", "_law_phase", "_law_size"] ["_law_pauli", "_law_string", "_law_phase", "_law_size"] (defScope sTold) := ⟨rfl, rfl, rfl, by decide +kernel, rfl, by decide +kernel, by decide +kernel⟩
theorem scCol : FnScope ["_law_text", "_law_at", "_law_k"] ["_law_text"] (defScope sCol) := ⟨rfl, rfl, rfl, by decide +kernel, rfl, by decide +kernel, by decide +kernel⟩
theorem band (a b : Nat) : Builtin.bitAnd (a : Int) (b : Int) = ((a &&& b : Nat) : Int) := by
  unfold Builtin.bitAnd
  rw [decide_eq_true (Int.natCast_nonneg a), decide_eq_true (Int.natCast_nonneg b)]
  rfl
theorem bor (a b : Nat) : Builtin.bitOr (a : Int) (b : Int) = ((a ||| b : Nat) : Int) := by
  have n1 : ∀ n : Nat, Builtin.bitNot (n : Int) = -(n : Int) - 1 := fun n => by
    unfold Builtin.bitNot
    omega
  have n2 : ∀ n : Nat, Builtin.bitNot (-(n : Int) - 1) = (n : Int) := fun n => by
    unfold Builtin.bitNot
    omega
  unfold Builtin.bitOr
  rw [n1, n1]
  unfold Builtin.bitAnd
  rw [decide_eq_false (by omega : ¬ (0 ≤ -(a : Int) - 1)), decide_eq_false (by omega : ¬ (0 ≤ -(b : Int) - 1))]
  show Builtin.bitNot (Builtin.bitNot (((Builtin.bitNot (-(a : Int) - 1)).toNat ||| (Builtin.bitNot (-(b : Int) - 1)).toNat : Nat) : Int)) = _
  rw [n2, n2, n1, n2]
  rfl
theorem shr_bit {f : Nat → Nat} (hf : ∀ c, f c < 2) {L : List Nat} {k c : Nat} (h : L[k]? = some c) : ((bv f L : Nat) : Int) / 2 ^ ((0 : Int) + (k : Nat)).toNat % 2 = ((f c : Nat) : Int) := by
  rw [Int.zero_add, Int.toNat_natCast]
  have e := bv_bit hf h
  have : (((bv f L / 2 ^ k % 2 : Nat)) : Int) = ((f c : Nat) : Int) := by rw [e]
  rw [← this]
  push_cast
  rfl
theorem e_XY : ("XY" : Str).cps.toList = [88, 89] := by decide +kernel
theorem e_ZY : ("ZY" : Str).cps.toList = [90, 89] := by decide +kernel
theorem e_IXZY : ("IXZY" : Str) = mS [73, 88, 90, 89] := by decide +kernel
theorem e_IXYZ : ("IXYZ" : Str).cps.toList = [73, 88, 89, 90] := by decide +kernel
theorem e_some : ("IIXYZ" : Str).cps.toList = [73, 73, 88, 89, 90] := by decide +kernel
theorem e_pm : ("+-" : Str) = mS [43, 45] := by decide +kernel
theorem in_XY (c : Nat) : (if decide (c ∈ ("XY" : Str).cps.toList) then (1 : Int) else 0) = ((lx c : Nat) : Int) := by
  rw [e_XY]
  unfold lx
  by_cases h : c = 88 ∨ c = 89
  · rw [if_pos h, if_pos (decide_eq_true (by simpa using h))]
    rfl
  · rw [if_neg h, if_neg (by simpa using h)]
    rfl
theorem in_ZY (c : Nat) : (if decide (c ∈ ("ZY" : Str).cps.toList) then (1 : Int) else 0) = ((lz c : Nat) : Int) := by
  rw [e_ZY]
  unfold lz
  by_cases h : c = 90 ∨ c = 89
  · rw [if_pos h, if_pos (decide_eq_true (by simpa using h))]
    rfl
  · rw [if_neg h, if_neg (by simpa using h)]
    rfl
def Lets (L : List Nat) : Prop := ∀ c ∈ L, isL c = true
theorem Lets.at {L : List Nat} (h : Lets L) {k c : Nat} (e : L[k]? = some c) : isL c = true := h c (List.mem_of_getElem? e)
def spOnes : Sp := fun vs H Q _ => ∃ n : Nat, vs = [.int (n : Int)] ∧ pc n ≤ 63 ∧ Q (.int (pc n : Nat)) H
def spLett : Sp := fun vs H Q _ => ∃ (t : Addr) (L : List Nat) (z : Int), vs = [.ref t, .int (L.length : Int)] ∧ H t = some (.tup [.int (bv lx L : Nat), .int (bv lz L : Nat), .int z]) ∧ Lets L ∧ L.length ≤ 60 ∧ Q (.str (mS L)) H
def spOfT : Sp := fun vs H Q _ => ∃ L : List Nat, vs = [.str (mS L)] ∧ Lets L ∧ L.length ≤ 60 ∧ ∀ H' t, Same H H' → H t = none → H' t = some (.tup [.int (bv lx L : Nat), .int (bv lz L : Nat), .int 0]) → Q (.ref t) H'
def spWt : Sp := fun vs H Q _ => ∃ (t : Addr) (L : List Nat) (z : Int), vs = [.ref t] ∧ H t = some (.tup [.int (bv lx L : Nat), .int (bv lz L : Nat), .int z]) ∧ Lets L ∧ L.length ≤ 60 ∧ Q (.int (wt L : Nat)) H
section
variable {P : Program} {w : World} {K : PySem.W.Frag} {mg : Str → Option Value} {base : Heap}
theorem ok_ones {f : Addr} {fd : FuncData} {k : Nat} (F : Fun K "_law_ones" "_law_ones" sOnes f fd) (B : Bl mg) : FnOk P w K mg base CX0 (k + 1) f fd ["_law_number"] spOnes := by
  refine F.ok scOnes (fun vs H Q E h => ?_) (fun cdv A outer s H vs Q E hr h => ?_)
  · obtain ⟨n, rfl, _⟩ := h
    rfl
  · obtain ⟨n, rfl, hn, q⟩ := h
    refine ⟨_, C8.pss_cut (ps_set (i := 1) scOnes.nd rfl (.inl rfl) pe_int)
      (C8.pss_cut (ps_for PassesOwn.never rfl (pi_range1 (by rfl) B.range (pa_cons pe_int pa_nil)) (pg_name (i := 2) scOnes.nd rfl (.inl rfl))
        (pss_cons (ps_if (pt_cmpR op_eq (pv 0) pe_int (nomark _)) (pss_one ps_break) pss_nil)
        (pss_one (ps_par (i := 0) (j := 1) rfl scOnes.nd rfl rfl (by decide) rfl rfl (pa_cons (pe_op op_and (pv 0) (pe_op op_sub (pv 0) pe_int)) (pa_cons (pe_op op_add (pv 1) pe_int) pa_nil)) rfl))))
      (pss_one (ps_ret (pv 1)))), ?_⟩
    refine ⟨fun σ' H' => σ' = [some (.int (n : Int)), some (.int 0), none] ∧ H' = H, ⟨rfl, rfl⟩, ?_⟩
    rintro _ H1 ⟨rfl, rfl⟩
    refine ⟨fun σ' H' => ∃ lap, σ' = [some (.int 0), some (.int (pc n : Nat)), lap] ∧ H' = H1, ?_, ?_⟩
    · refine ⟨64, rfl, by decide, by decide, for_range (n := 64) (fun i σ' H' => ∃ (m : Nat) (lap : Option V), σ' = [some (.int (m : Int)), some (.int (i : Int)), lap] ∧ H' = H1 ∧ pc m + i = pc n) ⟨n, none, rfl, rfl, rfl⟩ ?_ ?_⟩
      · rintro i _ _ hi ⟨m, lap, rfl, rfl, he⟩
        refine ⟨_, rfl, rfl, _, rfl, ite2 (fun e => ?_) (fun e => ?_)⟩
        · have e' : m = 0 := by have := V.int.inj (of_decide_eq_true e); omega
          subst e'
          rw [pc_zero] at he
          exact ⟨_, by rw [← he, Nat.zero_add]; rfl, rfl⟩
        · have e' : m ≠ 0 := fun z => e (decide_eq_true (by rw [z]; rfl))
          have em : ((m : Nat) : Int) - 1 = ((m - 1 : Nat) : Int) := by omega
          refine ⟨_, rfl, _, rfl, _, _, rfl, rfl, _, _, rfl, rfl, _, rfl, _, _, rfl, rfl, _, _, rfl, m &&& (m - 1), some (.int (0 + (i : Int))), ?_, rfl, ?_⟩
          · show [some (V.int (Builtin.bitAnd (m : Int) ((m : Int) - 1))), some (V.int ((i : Int) + 1)), some (V.int (0 + (i : Int)))] = _
            rw [em, band]
            rfl
          · have := pc_step m (by omega)
            omega
      · rintro _ _ ⟨m, lap, rfl, rfl, he⟩
        omega
    rintro _ H2 ⟨lap, rfl, rfl⟩
    exact ⟨_, rfl, q⟩
theorem ok_lett {f : Addr} {fd : FuncData} {k : Nat} (F : Fun K "_law_letters" "_law_letters" sLett f fd) (B : Bl mg) : FnOk P w K mg base CX0 (k + 1) f fd ["_law_string", "_law_size"] spLett := by
  refine F.ok scLett (fun vs H Q E h => ?_) (fun cdv A outer s H vs Q E hr h => ?_)
  · obtain ⟨t, L, z, rfl, _⟩ := h
    rfl
  · obtain ⟨t, L, z, rfl, et, hL, hl, q⟩ := h
    refine ⟨_, C8.pss_cut (ps_set (i := 2) scLett.nd rfl (.inl rfl) pe_str)
      (C8.pss_cut (ps_for PassesOwn.never rfl (pi_range1 (by rfl) B.range (pa_cons (pv 1) pa_nil)) (pg_name (i := 3) scLett.nd rfl (.inl rfl))
        (pss_one (ps_set (i := 2) scLett.nd rfl (.inl rfl) (pe_op op_add_str (pv 2) (pe_ix ix_str pe_str (pe_op op_add
          (pe_op op_mod (pe_callTy call_int1 (by rfl) B.int bootI (pa_cons (pe_op op_shr (pe_ix ix_tup (pv 0) pe_int (fun _ _ => rfl)) (pv 3)) pa_nil)) pe_int)
          (pe_op op_mul pe_int (pe_op op_mod (pe_callTy call_int1 (by rfl) B.int bootI (pa_cons (pe_op op_shr (pe_ix ix_tup (pv 0) pe_int (fun _ _ => rfl)) (pv 3)) pa_nil)) pe_int))) (fun _ _ => rfl))))))
      (pss_one (ps_ret (pv 2)))), ?_⟩
    have sq : SqT K H t [.int (bv lx L : Nat), .int (bv lz L : Nat), .int z] := .inl (.inl et)
    have j0 : atI [V.int (bv lx L : Nat), V.int (bv lz L : Nat), V.int z] 0 = some (.int (bv lx L : Nat)) := at_of (j := 0) rfl rfl
    have j1 : atI [V.int (bv lx L : Nat), V.int (bv lz L : Nat), V.int z] 1 = some (.int (bv lz L : Nat)) := at_of (j := 1) rfl rfl
    refine ⟨fun σ' H' => σ' = [some (.ref t), some (.int (L.length : Int)), some (.str (mS [])), none] ∧ H' = H, ⟨by rw [show mS [] = ("" : Str) from e_no.symm]; rfl, rfl⟩, ?_⟩
    rintro _ H1 ⟨rfl, rfl⟩
    refine ⟨fun σ' H' => ∃ lap, σ' = [some (.ref t), some (.int (L.length : Int)), some (.str (mS L)), lap] ∧ H' = H1, ?_, ?_⟩
    · refine ⟨_, rfl, _, rfl, by omega, by omega, for_range (n := L.length) (fun i σ' H' => ∃ lap, σ' = [some (.ref t), some (.int (L.length : Int)), some (.str (mS (L.take i))), lap] ∧ H' = H1) ⟨none, rfl, rfl⟩ ?_ ?_⟩
      · rintro i _ _ hi ⟨lap, rfl, rfl⟩
        have hx : L[i]? = some L[i] := List.getElem?_eq_getElem hi
        have hc := hL.at hx
        have b0 := shr_bit lx_lt hx
        have b1 := shr_bit lz_lt hx
        refine ⟨_, rfl, _, rfl, t, _, _, _, rfl, rfl, sq, j0, _, rfl, _, _, rfl, rfl, by show (0 : Int) ≤ 0 + (i : Int); omega, .inl ⟨_, rfl, _, _, rfl, rfl, by show (0 : Int) < 2; decide, ?_⟩⟩
        refine ⟨_, rfl, t, _, _, _, rfl, rfl, sq, j1, _, rfl, _, _, rfl, rfl, by show (0 : Int) ≤ 0 + (i : Int); omega, .inl ⟨_, rfl, _, _, rfl, rfl, by show (0 : Int) < 2; decide, _, _, rfl, rfl, .inl ⟨by decide, by decide⟩, ?_⟩⟩
        refine ⟨_, _, rfl, rfl, _, _, L[i], rfl, rfl, by show (4 : Nat) ≤ sizeLine; decide, ?_, _, _, rfl, rfl, ?_, ?_⟩
        · show atI _ (((bv lx L : Nat) : Int) / 2 ^ ((0 : Int) + (i : Nat)).toNat % 2 + 2 * (((bv lz L : Nat) : Int) / 2 ^ ((0 : Int) + (i : Nat)).toNat % 2)) = _
          rw [b0, b1, e_IXZY]
          have e2 : ((lx L[i] : Nat) : Int) + 2 * ((lz L[i] : Nat) : Int) = ((lx L[i] + 2 * lz L[i] : Nat) : Int) := by omega
          rw [e2]
          exact atI_nat (letter_back hc)
        · rw [mS_len, List.length_take]
          exact Nat.le_trans (by show _ + 1 ≤ 61; omega) (by decide : 61 ≤ sizeLine)
        · refine ⟨some (.int (0 + (i : Int))), ?_, rfl⟩
          show [_, _, some (V.str (mS (L.take i) ++ mS [L[i]])), _] = _
          rw [mS_app]
          have e3 : L.take (i + 1) = L.take i ++ [L[i]] := by rw [List.take_succ, hx]; rfl
          rw [e3]
      · rintro _ _ ⟨lap, rfl, rfl⟩
        rw [List.take_of_length_le (Nat.le_refl _)]
        exact ⟨_, rfl, rfl⟩
    rintro _ H2 ⟨lap, rfl, rfl⟩
    exact ⟨_, rfl, q⟩
end
end KQ

namespace KQ
open PySem PySem.Spec PyProof.Rows L2
theorem cut_one (L : List Nat) : cutS (mS L) none (some 1) = mS (L.take 1) := cut_to L 1
theorem take_one (L : List Nat) (c : Nat) : decide (V.str (mS (L.take 1)) = V.str (mS [c])) = decide (L.head? = some c) := by
  cases L with
  | nil =>
    rw [decide_eq_false (fun z => by cases mS_inj (V.str.inj z)), decide_eq_false (fun z => by cases z)]
  | cons a L =>
    show decide (V.str (mS [a]) = V.str (mS [c])) = decide (some a = some c)
    by_cases h : a = c
    · subst h
      rw [decide_eq_true rfl, decide_eq_true rfl]
    · rw [decide_eq_false (fun z => h (List.cons.inj (mS_inj (V.str.inj z))).1), decide_eq_false (fun z => h (Option.some.inj z))]
theorem Lets.strip {L : List Nat} (h : Lets L) : L.dropWhile (#[43, 45] : Array Nat).contains = L := by
  cases L with
  | nil => rfl
  | cons a M =>
    have := isL_iff.mp (h a List.mem_cons_self)
    rw [List.dropWhile_cons_of_neg]
    rcases this with rfl | rfl | rfl | rfl <;> simp
theorem Lets.head {L : List Nat} (h : Lets L) : ¬ L.head? = some 45 := by
  cases L with
  | nil => exact fun z => by cases z
  | cons a M =>
    intro z
    have := isL_iff.mp (h a List.mem_cons_self)
    have e := Option.some.inj z
    omega
section
variable {P : Program} {w : World} {K : PySem.W.Frag} {mg : Str → Option Value} {base : Heap}
theorem ok_oft {f : Addr} {fd : FuncData} {k : Nat} (F : Fun K "_law_of_text" "_law_of_text" sOfT f fd) (B : Bl mg) : FnOk P w K mg base CX0 (k + 1) f fd ["_law_text"] spOfT := by
  refine F.ok scOfT (fun vs H Q E h => ?_) (fun cdv A outer s H vs Q E hr h => ?_)
  · obtain ⟨L, rfl, _⟩ := h
    rfl
  · obtain ⟨L, rfl, hL, hl, q⟩ := h
    refine ⟨_, C8.pss_cut (ps_par (i := 1) (j := 2) rfl scOfT.nd rfl rfl (by decide) rfl rfl (pa_cons (pe_callTy call_int1 (by rfl) B.int bootI (pa_cons (pe_cmpR op_eq (pe_slice sl_str (pv 0) po_none (po_some pe_int)) pe_str (nomark _)) pa_nil))
        (pa_cons (pe_bm PySem.F.plainAttrs_str PySem.F.slot_str_lstrip PySem.F.type_str_lstrip mt_lstripChars (pv 0) (pa_cons pe_str pa_nil)) pa_nil)) rfl)
      (C8.pss_cut (ps_asg (pe_tup (pa_cons pe_int (pa_cons pe_int pa_nil))) (pg_tup rfl (pgs_cons (pg_name (i := 3) scOfT.nd rfl (.inl rfl)) (pgs_cons (pg_name (i := 4) scOfT.nd rfl (.inl rfl)) pgs_nil))))
      (C8.pss_cut (ps_for PassesOwn.never rfl (pi_range1 (by rfl) B.range (pa_cons (pe_callB call_len_str (by rfl) B.len PySem.boot_len (pa_cons (pv 2) pa_nil)) pa_nil)) (pg_name (i := 5) scOfT.nd rfl (.inl rfl))
        (pss_cons (ps_set (i := 3) scOfT.nd rfl (.inl rfl) (pe_op op_add (pv 3) (pe_op op_mul (pe_op op_shl pe_int (pv 5)) (pe_callTy call_int1 (by rfl) B.int bootI (pa_cons (pe_cmpR op_in_sign (pe_ix ix_str (pv 2) (pv 5) (fun _ _ => rfl)) pe_str (by rfl)) pa_nil)))))
        (pss_one (ps_set (i := 4) scOfT.nd rfl (.inl rfl) (pe_op op_add (pv 4) (pe_op op_mul (pe_op op_shl pe_int (pv 5)) (pe_callTy call_int1 (by rfl) B.int bootI (pa_cons (pe_cmpR op_in_sign (pe_ix ix_str (pv 2) (pv 5) (fun _ _ => rfl)) pe_str (by rfl)) pa_nil))))))))
      (pss_one (ps_ret (pe_tup (pa_cons (pv 3) (pa_cons (pv 4) (pa_cons (pv 1) pa_nil)))))))), ?_⟩
    have hz : (mS L).length ≤ sizeLine := by rw [mS_len]; exact sizeBig (by omega)
    refine ⟨fun σ' H' => σ' = [some (.str (mS L)), some (.int 0), some (.str (mS L)), none, none, none] ∧ H' = H, ?_, ?_⟩
    · refine ⟨_, rfl, _, rfl, _, rfl, hz, rfl, .inr ⟨_, rfl, _, rfl, rfl, _, _, rfl, rfl, hz, _, _, rfl, ?_⟩⟩
      rw [cut_one, show ("-" : Str) = mS [45] from e_minus, take_one, decide_eq_false hL.head, e_pm, lstrip_eq, hL.strip]
      exact ⟨rfl, rfl⟩
    rintro _ H1 ⟨rfl, rfl⟩
    refine ⟨fun σ' H' => σ' = [some (.str (mS L)), some (.int 0), some (.str (mS L)), some (.int 0), some (.int 0), none] ∧ Same H1 H', ⟨by show 2 ≤ sizeLine; decide, fun r nr => ⟨r, _, rfl, .inl (.inl upd_same), rfl, _, _, rfl, _, _, rfl, rfl, rfl, same_new nr⟩⟩, ?_⟩
    rintro _ H2 ⟨rfl, s12⟩
    refine ⟨fun σ' H' => ∃ lap, σ' = [some (.str (mS L)), some (.int 0), some (.str (mS L)), some (.int (bv lx L : Nat)), some (.int (bv lz L : Nat)), lap] ∧ H' = H2, ?_, ?_⟩
    · refine ⟨_, rfl, _, rfl, hz, _, rfl, by rw [mS_len]; omega, by rw [mS_len]; omega, for_range (n := (mS L).length) (fun i σ' H' => ∃ lap, σ' = [some (.str (mS L)), some (.int 0), some (.str (mS L)), some (.int (bv lx (L.take i) : Nat)), some (.int (bv lz (L.take i) : Nat)), lap] ∧ H' = H2) ⟨none, rfl, rfl⟩ ?_ ?_⟩
      · rintro i _ _ hi ⟨lap, rfl, rfl⟩
        rw [mS_len] at hi
        have hx : L[i]? = some L[i] := List.getElem?_eq_getElem hi
        have hat : atI (mS L).cps.toList ((0 : Int) + (i : Nat)) = some L[i] := by
          rw [Int.zero_add]
          exact atI_nat hx
        have cp : CPow 1 ((0 : Int) + (i : Nat)) := ⟨by omega, by omega, by decide⟩
        have cm : ∀ (m : Int) (b : Bool), CMul m (if b then 1 else 0) := fun m b => .inr (by cases b <;> decide)
        refine ⟨_, rfl, _, rfl, _, _, rfl, rfl, cp, _, rfl, _, rfl, _, _, L[i], rfl, rfl, hz, hat, _, _, rfl, rfl, .inr ⟨_, rfl, _, _, rfl, rfl, cm _ _, _, _, rfl, rfl, ?_⟩⟩
        refine ⟨_, rfl, _, rfl, _, _, rfl, rfl, cp, _, rfl, _, rfl, _, _, L[i], rfl, rfl, hz, hat, _, _, rfl, rfl, .inr ⟨_, rfl, _, _, rfl, rfl, cm _ _, _, _, rfl, rfl, ?_⟩⟩
        refine ⟨some (.int (0 + (i : Int))), ?_, rfl⟩
        show [_, _, _, some (V.int (((bv lx (L.take i) : Nat) : Int) + 1 * 2 ^ ((0 : Int) + (i : Nat)).toNat * (if decide (L[i] ∈ ("XY" : Str).cps.toList) then 1 else 0))), some (V.int (((bv lz (L.take i) : Nat) : Int) + 1 * 2 ^ ((0 : Int) + (i : Nat)).toNat * (if decide (L[i] ∈ ("ZY" : Str).cps.toList) then 1 else 0))), _] = _
        rw [in_XY, in_ZY, bv_take lx hx, bv_take lz hx, Int.zero_add, Int.toNat_natCast, Int.one_mul]
        push_cast
        rfl
      · rintro _ _ ⟨lap, rfl, rfl⟩
        rw [mS_len, List.take_of_length_le (Nat.le_refl _)]
        exact ⟨_, rfl, rfl⟩
    rintro _ H3 ⟨lap, rfl, rfl⟩
    exact ⟨_, rfl, _, rfl, _, rfl, by show 3 ≤ sizeLine; decide, fun p np => q _ p (s12.trans (same_new np)) (s12.free np) upd_same⟩
theorem ok_wt {f fO : Addr} {fd dO : FuncData} {k : Nat} (F : Fun K "_law_weight" "_law_weight" sWt f fd) (FO : Fun K "_law_ones" "_law_ones" sOnes fO dO) (bO : Binds K dO ["_law_number"] []) (gO : mg "_law_ones" = some (.ref fO)) (B : Bl mg) : FnOk P w K mg base CX0 (k + 2) f fd ["_law_string"] spWt := by
  have GO : FnOk P w K mg base CX0 (k + 1) fO dO ["_law_number"] spOnes := ok_ones FO B
  refine F.ok scWt (fun vs H Q E h => ?_) (fun cdv A outer s H vs Q E hr h => ?_)
  · obtain ⟨t, L, z, rfl, _⟩ := h
    rfl
  · obtain ⟨t, L, z, rfl, et, hL, hl, q⟩ := h
    refine ⟨_, pss_one (ps_ret (pe_call GO hr (by rfl) gO FO.kp bO .nil pass0 (pa_cons (pe_op op_or (pe_ix ix_tup (pv 0) pe_int (fun _ _ => rfl)) (pe_ix ix_tup (pv 0) pe_int (fun _ _ => rfl))) pa_nil))), ?_⟩
    have sq : SqT K H t [.int (bv lx L : Nat), .int (bv lz L : Nat), .int z] := .inl (.inl et)
    have j0 : atI [V.int (bv lx L : Nat), V.int (bv lz L : Nat), V.int z] 0 = some (.int (bv lx L : Nat)) := at_of (j := 0) rfl rfl
    have j1 : atI [V.int (bv lx L : Nat), V.int (bv lz L : Nat), V.int z] 1 = some (.int (bv lz L : Nat)) := at_of (j := 1) rfl rfl
    have hp := pc_wt hL
    have hw : wt L ≤ 60 := by unfold wt; omega
    refine ⟨_, rfl, t, _, _, _, rfl, rfl, sq, j0, _, rfl, t, _, _, _, rfl, rfl, sq, j1, _, _, rfl, rfl, bv lx L ||| bv lz L, ?_, by rw [hp]; omega, by rw [hp]; exact q⟩
    show [V.int (Builtin.bitOr _ _)] = _
    rw [bor]
def spPickS : Sp := fun vs H Q _ => ∃ (p c : Addr) (z : Str) (n : Nat), vs = [.ref p, .str z] ∧ PenAt H p c n ∧ n < 1000000 ∧ z.cps.toList ≠ [] ∧ z.length ≤ 1000 ∧
  ∀ (i ch : Nat) H', z.cps.toList[i]? = some ch → PenAt H' p c (n + 1) → (∀ b, b ≠ p → H' b = H b) → Q (.str ⟨#[ch]⟩) H'
theorem ok_pickS {f fD : Addr} {fd fdD : FuncData} {k : Nat} (F : Fun K "_law_pick" "_law_pick" sPick f fd) (FD : Fun K "_law_draw" "_law_draw" sDraw fD fdD) (bD : Binds K fdD ["_law_pen_here", "_law_many"] []) (gD : mg "_law_draw" = some (.ref fD)) (B : Bl mg) :
    FnOk P w K mg base CX0 (k + 2) f fd ["_law_pen_here", "_law_some"] spPickS := by
  have GD : FnOk P w K mg base CX0 (k + 1) fD fdD ["_law_pen_here", "_law_many"] spDraw := ok_draw FD B.int B.len
  refine F.ok scPick (fun vs H Q E h => ?_) (fun cdv A outer s H vs Q E hr h => ?_)
  · obtain ⟨p, c, z, n, rfl, _⟩ := h
    rfl
  · obtain ⟨p, c, z, n, rfl, hP, hn, h0, hl, q⟩ := h
    refine ⟨_, pss_one (ps_ret (pe_ix ix_str (pv 1) (pe_call GD hr (by rfl) gD FD.kp bD .nil pass0 (pa_cons (pv 0) (pa_cons (pe_callB call_len_str (by rfl) B.len PySem.boot_len (pa_cons (pv 1) pa_nil)) pa_nil))) (fun _ _ => rfl))), ?_⟩
    have hlen : z.cps.toList.length = z.length := by simp [Str.length]
    have hpos : 0 < z.cps.toList.length := List.length_pos_iff.mpr h0
    refine ⟨_, rfl, _, rfl, _, rfl, _, rfl, sizeBig hl, p, c, n, _, rfl, hP, hn, by omega, ?_, fun r H' r0 r1 hP' hk => ?_⟩
    · have e : (z.length : Int).natAbs = z.length := by omega
      rw [e]
      exact Nat.lt_of_le_of_lt hl (by decide)
    · obtain ⟨j, rfl⟩ : ∃ j : Nat, r = (j : Int) := ⟨r.toNat, by omega⟩
      have hj : j < z.cps.toList.length := by omega
      have hx : z.cps.toList[j]? = some z.cps.toList[j] := List.getElem?_eq_getElem hj
      exact ⟨_, _, _, rfl, rfl, sizeBig hl, atI_nat hx, q j _ H' hx hP' hk⟩
end
end KQ

namespace KQ
open PySem PySem.Spec PyProof.Rows L2
/-- all but the pen is as it was -/
def KeepP (p : Addr) (H H' : Hp) : Prop := ∀ q o, q ≠ p → H q = some o → H' q = some o
theorem KeepP.refl (p : Addr) (H : Hp) : KeepP p H H := fun _ _ _ e => e
theorem KeepP.trans {p : Addr} {H H1 H2 : Hp} (a : KeepP p H H1) (b : KeepP p H1 H2) : KeepP p H H2 := fun q o n e => b q o n (a q o n e)
theorem KeepP.of_same {p : Addr} {H H' : Hp} (s : Same H H') : KeepP p H H' := fun q o _ e => s q o e
theorem KeepP.of_eq {p : Addr} {H H' : Hp} (s : ∀ b, b ≠ p → H' b = H b) : KeepP p H H' := fun q o n e => (s q n).trans e
theorem pen_upd {H : Hp} {p c y : Addr} {n : Nat} {o : HO} (h : PenAt H p c n) (hp : y ≠ p) (hc : y ≠ c) : PenAt (upd H y o) p c n := h.same (upd_ne (Ne.symm hp)) (upd_ne (Ne.symm hc))
theorem pen_sm {H H' : Hp} {p c : Addr} {n : Nat} (h : PenAt H p c n) (s : Same H H') : PenAt H' p c n := by
  obtain ⟨ns, a, d, f, e1, e2, r⟩ := h
  exact ⟨ns, a, d, f, s _ _ e1, s _ _ e2, r⟩
theorem pen_get {H : Hp} {p c : Addr} {n : Nat} (h : PenAt H p c n) : (∃ o, H p = some o) ∧ ∃ o, H c = some o := by
  obtain ⟨ns, a, d, f, e1, e2, r⟩ := h
  exact ⟨⟨_, e1⟩, ⟨_, e2⟩⟩
theorem pen_off {H : Hp} {p c y : Addr} {n : Nat} {o : HO} (h : PenAt H p c n) (hy : H y = some o) (d : ∀ kv, o ≠ .dK kv) : y ≠ p := by
  obtain ⟨ns, a, d', f, hp, _⟩ := h
  exact ne_of hy hp (d _)
theorem bootB : bootBuiltins "bool" = some (.type "bool") := by decide +kernel
def signs1 (L : List Nat) : List Str := L.map fun c => (⟨#[c]⟩ : Str)
theorem join_signs (L : List Nat) : Txt.join ("" : Str) (signs1 L) = mS L := by
  rw [TL.join_eq, e_no]
  exact PyProof.Rows.join_ones L
theorem signs_len : ∀ L : List Nat, ((signs1 L).map (·.length)).sum = L.length
  | [] => rfl
  | c :: L => by
    show 1 + ((signs1 L).map (·.length)).sum = L.length + 1
    rw [signs_len L]
    omega
def spSome : Sp := fun vs H Q _ => ∃ (p c : Addr) (n m : Nat), vs = [.ref p, .int (m : Int)] ∧ PenAt H p c n ∧ n + m < 1000000 ∧ m ≤ 60 ∧
  ∀ (L : List Nat) (t : Addr) (H' : Hp), L.length = m → Lets L → H' t = some (.tup [.int (bv lx L : Nat), .int (bv lz L : Nat), .int 0]) → PenAt H' p c (n + m) → KeepP p H H' → Q (.ref t) H'
def spPh : Sp := fun vs H Q _ => ∃ (t : Addr) (L : List Nat) (z : Int) (p : Nat), vs = [.ref t, .int (p : Int), .int (L.length : Int)] ∧ p < 4 ∧ H t = some (.tup [.int (bv lx L : Nat), .int (bv lz L : Nat), .int z]) ∧ Lets L ∧ L.length ≤ 60 ∧ ∀ H', Same H H' → Q (.str (mS (headL p ++ L))) H'
def spTold (C : Addr) : Sp := fun vs H Q _ => ∃ (a t : Addr) (L : List Nat) (z : Int) (p : Nat), vs = [.ref a, .ref t, .int (p : Int), .int (L.length : Int)] ∧ PauliAt C H a L p ∧ H t = some (.tup [.int (bv lx L : Nat), .int (bv lz L : Nat), .int z]) ∧ Lets L ∧ L.length ≤ 60 ∧ Q (.bl true) H
def spCol : Sp := fun vs H Q _ => ∃ B : List Nat, vs = [.str (mS B)] ∧ B.length ≤ 1000 ∧ ∀ H', Same H H' → Q (.int (col B : Nat)) H'
section
variable {P : Program} {w : World} {K : PySem.W.Frag} {mg : Str → Option Value} {base : Heap}
theorem ok_some {f fD fP fT : Addr} {fd dD dP dT : FuncData} (F : Fun K "_law_some_string" "_law_some_string" sSome f fd) (FD : Fun K "_law_draw" "_law_draw" sDraw fD dD) (bD : Binds K dD ["_law_pen_here", "_law_many"] []) (gD : mg "_law_draw" = some (.ref fD))
    (FP : Fun K "_law_pick" "_law_pick" sPick fP dP) (bP : Binds K dP ["_law_pen_here", "_law_some"] []) (gP : mg "_law_pick" = some (.ref fP)) (FT : Fun K "_law_of_text" "_law_of_text" sOfT fT dT) (bT : Binds K dT ["_law_text"] []) (gT : mg "_law_of_text" = some (.ref fT)) (B : Bl mg) :
    FnOk P w K mg base CX0 3 f fd ["_law_pen_here", "_law_size"] spSome := by
  have GP : FnOk P w K mg base CX0 2 fP dP ["_law_pen_here", "_law_some"] spPickS := ok_pickS FP FD bD gD B
  have GT : FnOk P w K mg base CX0 2 fT dT ["_law_text"] spOfT := ok_oft FT B
  refine F.ok scSome (fun vs H Q E h => ?_) (fun cdv A outer s H vs Q E hr h => ?_)
  · obtain ⟨p, c, n, m, rfl, _⟩ := h
    rfl
  · obtain ⟨p, c, n, m, rfl, hP, hn, hm, q⟩ := h
    refine ⟨_, C8.pss_cut (ps_set (i := 2) scSome.nd rfl (.inl rfl) (pe_bm PySem.F.plainAttrs_str PySem.F.slot_str_join PySem.F.type_str_join mt_join pe_str
        (pa_cons (pe_lc (own := [("_law_k", 3)]) (g := gName 3) (by rfl) scSome.nd (pi_range1 (by rfl) B.range (pa_cons (pv 1) pa_nil)) (blkOk_by (own := [("_law_k", 3)]) (N := ["_law_pen_here", "_law_size", "_law_letters_here", "_law_k"]) (sc := defScope sSome) (by decide +kernel))
          (fun _ _ _ _ _ => pg_name (i := 3) scSome.nd rfl (Or.inl rfl)) (fun _ _ _ _ _ => pts_nil) (fun _ _ _ _ _ => pe_call GP hr (by rfl) gP FP.kp bP .nil pass0 (pa_cons (pv 0) (pa_cons pe_str pa_nil)))) pa_nil)))
      (pss_one (ps_ret (pe_call GT hr (by rfl) gT FT.kp bT .nil pass0 (pa_cons (pv 2) pa_nil)))), ?_⟩
    obtain ⟨⟨op, ep⟩, ⟨oc, ec⟩⟩ := pen_get hP
    refine ⟨fun σ' H' => ∃ L : List Nat, L.length = m ∧ Lets L ∧ σ' = [some (.ref p), some (.int (m : Int)), some (.str (mS L)), none] ∧ PenAt H' p c (n + m) ∧ KeepP p H H', ?_, ?_⟩
    · refine ⟨rfl, _, rfl, _, rfl, by omega, by omega, fun D nD => ?_⟩
      have hDp : D ≠ p := Ne.symm (ne_of_none ep nD)
      have hDc : D ≠ c := Ne.symm (ne_of_none ec nD)
      refine lc_range (lo := 0) (n := m) (Pv := fun i Hc => ∃ L : List Nat, L.length = i ∧ Lets L ∧ Hc D = some (.lst ((signs1 L).map V.str)) ∧ PenAt Hc p c (n + i) ∧ KeepP p H Hc) ⟨[], rfl, (fun c hc => by cases hc), upd_same, pen_upd hP hDp hDc, fun y o hy e => by rw [upd_ne (ne_of_none e nD)]; exact e⟩ ?_ ?_
      · rintro i Hc hi ⟨L, hl, hL, eD, hP', kp⟩
        refine ⟨rfl, _, rfl, p, c, _, n + i, rfl, hP', by omega, by rw [e_some]; decide, by decide +kernel, fun j ch H2 hj hP2 hk => ?_⟩
        refine ⟨_, by rw [hk D hDp]; exact eD, ?_, L ++ [ch], by rw [List.length_append, hl]; rfl, ?_, ?_, ?_, ?_⟩
        · show (((signs1 L).map V.str).length) < sizeLine
          rw [List.length_map, signs1, List.length_map, hl]
          exact Nat.lt_of_lt_of_le (by omega : i < 61) (by decide)
        · intro x hx
          rcases List.mem_append.mp hx with hx | hx
          · exact hL x hx
          · rw [List.mem_singleton.mp hx]
            rw [e_some] at hj
            have := List.mem_of_getElem? hj
            revert this
            simp only [List.mem_cons, List.mem_nil_iff, or_false]
            rintro (h | h | h | h | h) <;> subst h <;> exact isL_iff.mpr (by omega)
        · rw [upd_same, signs1, signs1, List.map_append, List.map_append]
          rfl
        · exact pen_upd hP2 hDp hDc
        · intro y o hy e
          have hyD : y ≠ D := ne_of_none e nD
          rw [upd_ne hyD, hk y hy]
          exact kp y o hy e
      · rintro Hc ⟨L, hl, hL, eD, hP', kp⟩
        refine ⟨_, D, signs1 L, rfl, rfl, .inl (SqL.of eD), ?_, ?_⟩
        · rw [signs_len, show ("" : Str).length = 0 from by decide +kernel]
          omega
        · rw [join_signs]
          exact ⟨L, hl, hL, rfl, hP', kp⟩
    rintro _ H1 ⟨L, hl, hL, rfl, hP', kp⟩
    refine ⟨_, rfl, L, rfl, hL, by omega, fun H' t s' nt et => q L t H' hl hL et (pen_sm hP' s') (kp.trans (KeepP.of_same s'))⟩
theorem ok_ph {f fL : Addr} {fd dL : FuncData} {k : Nat} (F : Fun K "_law_phased" "_law_phased" sPh f fd) (FL : Fun K "_law_letters" "_law_letters" sLett fL dL) (bL : Binds K dL ["_law_string", "_law_size"] []) (gL : mg "_law_letters" = some (.ref fL)) (B : Bl mg) : FnOk P w K mg base CX0 (k + 2) f fd ["_law_string", "_law_phase", "_law_size"] spPh := by
  have GL : FnOk P w K mg base CX0 (k + 1) fL dL ["_law_string", "_law_size"] spLett := ok_lett FL B
  refine F.ok scPh (fun vs H Q E h => ?_) (fun cdv A outer s H vs Q E hr h => ?_)
  · obtain ⟨t, L, z, p, rfl, _⟩ := h
    rfl
  · obtain ⟨t, L, z, p, rfl, hp, et, hL, hl, q⟩ := h
    refine ⟨_, pss_one (ps_ret (pe_op op_add_str (pe_ix ix_list (pe_lst (pa_cons pe_str (pa_cons pe_str (pa_cons pe_str (pa_cons pe_str pa_nil))))) (pv 1) (fun _ _ => rfl)) (pe_call GL hr (by rfl) gL FL.kp bL .nil pass0 (pa_cons (pv 0) (pa_cons (pv 2) pa_nil))))), ?_⟩
    refine ⟨by show 4 ≤ sizeLine; decide, fun r nr => ⟨_, rfl, r, _, _, .str (mS (headL p)), rfl, rfl, SqL.of upd_same, ?_, ?_⟩⟩
    · rw [show ("" : Str) = mS [] from e_no, show ("i" : Str) = mS [105] from e_i, show ("-" : Str) = mS [45] from e_minus, e_mi]
      refine atI_nat ?_
      have := head_at hp
      match p, hp with
      | 0, _ => rfl
      | 1, _ => rfl
      | 2, _ => rfl
      | 3, _ => rfl
    · have hh : (headL p).length ≤ 2 := by
        match p, hp with
        | 0, _ => decide
        | 1, _ => decide
        | 2, _ => decide
        | 3, _ => decide
      refine ⟨_, rfl, _, rfl, t, L, z, rfl, same_new nr _ _ et, hL, hl, _, _, rfl, rfl, ?_, ?_⟩
      · rw [mS_len, mS_len]
        exact Nat.le_trans (by omega : _ ≤ 62) (by decide)
      · rw [mS_app]
        exact q _ (same_new nr)
theorem ok_told {f fL fW fO fI fE C : Addr} {fd dL dW dO : FuncData} (F : Fun K "_law_told" "_law_told" sTold f fd) (FL : Fun K "_law_letters" "_law_letters" sLett fL dL) (bL : Binds K dL ["_law_string", "_law_size"] []) (gL : mg "_law_letters" = some (.ref fL))
    (FW : Fun K "_law_weight" "_law_weight" sWt fW dW) (bW : Binds K dW ["_law_string"] []) (gW : mg "_law_weight" = some (.ref fW)) (FO : Fun K "_law_ones" "_law_ones" sOnes fO dO) (bO : Binds K dO ["_law_number"] []) (gO : mg "_law_ones" = some (.ref fO))
    (N : PCl K mg C fI fE) (B : Bl mg) : FnOk P w K mg base CX0 3 f fd ["_law_pauli", "_law_string", "_law_phase", "_law_size"] (spTold C) := by
  have GL : FnOk P w K mg base CX0 2 fL dL ["_law_string", "_law_size"] spLett := ok_lett FL B
  have GW : FnOk P w K mg base CX0 2 fW dW ["_law_string"] spWt := ok_wt FW FO bO gO B
  refine F.ok scTold (fun vs H Q E h => ?_) (fun cdv A outer s H vs Q E hr h => ?_)
  · obtain ⟨a, t, L, z, p, rfl, _⟩ := h
    rfl
  · obtain ⟨a, t, L, z, p, rfl, hP, et, hL, hl, q⟩ := h
    refine ⟨_, C8.pss_cut (ps_if (pw_or (pt_not (pt_val (pe_callB call_isi (by rfl) B.isi PyProof.Rows.boot_isinstance (pa_cons (pv 0) (pa_cons (pe_glob (v := .ref C) (by rfl) N.g rfl) pa_nil)))))
        (pw_or (pt_cmpR op_ne (pe_fld (pv 0) rfl) (pe_call GL hr (by rfl) gL FL.kp bL .nil pass0 (pa_cons (pv 1) (pa_cons (pv 3) pa_nil))) (nomark _)) (pw_or1 (pt_cmpR op_ne (pe_fld (pv 0) rfl) (pv 2) (nomark _))))).pt (pss_one (ps_ret pe_bl)) pss_nil)
      (pss_one (ps_ret (pe_and (pe_cmpR op_eq (pe_fld (pv 0) rfl) (pv 3) (nomark _)) (pe_and (pe_cmpR op_eq (pe_fld (pv 0) rfl) (pe_call GW hr (by rfl) gW FW.kp bW .nil pass0 (pa_cons (pv 1) pa_nil)) (nomark _))
        (pe_one (pe_not (pe_callB call_isi (by rfl) B.isi PyProof.Rows.boot_isinstance (pa_cons (pe_fld (pv 0) rfl) (pa_cons (pe_bltn (v := .ty "bool") (by rfl) B.bool bootB rfl) pa_nil))))))))), ?_⟩
    have ty := hP.ty N
    obtain ⟨dx, fs, e, l1, l2, l3, l4⟩ := hP
    refine ⟨fun σ' H' => σ' = [some (.ref a), some (.ref t), some (.int (p : Int)), some (.int (L.length : Int))] ∧ H' = H, ?_, ?_⟩
    · refine ⟨_, rfl, _, _, _, _, true, rfl, .own C, ty, N.kC, _, rfl, iteF ?_⟩
      refine ⟨_, rfl, a, C, dx, fs, _, rfl, e, N.cl, N.nL, l1, _, rfl, _, rfl, t, L, z, rfl, et, hL, hl, rfl, _, rfl, ?_⟩
      rw [decide_eq_true rfl]
      refine iteF ⟨_, rfl, a, C, dx, fs, _, rfl, e, N.cl, N.nP, l2, _, rfl, rfl, _, rfl, ?_⟩
      rw [decide_eq_true rfl]
      exact iteF ⟨rfl, rfl⟩
    rintro _ H1 ⟨rfl, rfl⟩
    refine ⟨_, rfl, a, C, dx, fs, _, rfl, e, N.cl, N.nS, l3, _, rfl, rfl, _, rfl, ?_⟩
    rw [decide_eq_true rfl]
    refine iteT ⟨_, rfl, a, C, dx, fs, _, rfl, e, N.cl, N.nW, l4, _, rfl, t, L, z, rfl, et, hL, hl, rfl, _, rfl, ?_⟩
    have ew : ((L.length : Int) - (L.count 73 : Int)) = ((wt L : Nat) : Int) := by
      have := List.count_le_length (a := 73) (l := L)
      unfold wt
      omega
    rw [ew, decide_eq_true rfl]
    exact iteT ⟨_, rfl, a, C, dx, fs, _, rfl, e, N.cl, N.nP, l2, _, _, _, _, false, rfl, .ty "bool", .base (.int _), kit_ty (by decide +kernel), _, rfl, q⟩
end
end KQ

namespace KQ
open PySem PySem.Spec PyProof.Rows L2
theorem takeW_at {L : List Nat} {i c : Nat} (h : i < (L.takeWhile isL).length) (e : L[i]? = some c) : isL c = true := by
  have h1 : (L.takeWhile isL)[i]? = some c := by
    have h2 := List.takeWhile_append_dropWhile (p := isL) (l := L)
    rw [← h2, List.getElem?_append_left h] at e
    exact e
  exact List.all_eq_true.mp List.all_takeWhile c (List.mem_of_getElem? h1)
theorem dropW_at : ∀ {L : List Nat}, (L.takeWhile isL).length < L.length → ∃ c, L[(L.takeWhile isL).length]? = some c ∧ isL c = false
  | [], h => by cases h
  | a :: L, h => by
    cases ha : isL a with
    | false =>
      rw [List.takeWhile_cons_of_neg (by rw [ha]; exact Bool.false_ne_true)]
      exact ⟨a, rfl, ha⟩
    | true =>
      rw [List.takeWhile_cons_of_pos ha] at h ⊢
      obtain ⟨c, e1, e2⟩ := dropW_at (L := L) (by simpa using h)
      exact ⟨c, by simpa using e1, e2⟩
theorem notin_IXYZ (c : Nat) : (!decide (c ∈ ("IXYZ" : Str).cps.toList)) = !isL c := by
  rw [e_IXYZ]
  congr 1
  cases h : isL c with
  | true => exact decide_eq_true (by have := isL_iff.mp h; simpa using this)
  | false => exact decide_eq_false (fun z => by rw [isL_iff.mpr (by simpa using z)] at h; cases h)
theorem rest_at {B : List Nat} {i : Nat} : (rest B)[i]? = B[start B + i]? := by
  unfold rest
  rw [List.getElem?_drop]
section
variable {P : Program} {w : World} {K : PySem.W.Frag} {mg : Str → Option Value} {base : Heap}
theorem ok_col {f : Addr} {fd : FuncData} {k : Nat} (F : Fun K "_law_column" "_law_column" sCol f fd) (B : Bl mg) : FnOk P w K mg base CX0 (k + 1) f fd ["_law_text"] spCol := by
  refine F.ok scCol (fun vs H Q E h => ?_) (fun cdv A outer s H vs Q E hr h => ?_)
  · obtain ⟨B, rfl, _⟩ := h
    rfl
  · obtain ⟨B', rfl, hl, q⟩ := h
    refine ⟨_, C8.pss_cut (ps_set (i := 1) scCol.nd rfl (.inl rfl) (pe_callTy call_int1 (by rfl) B.int bootI (pa_cons (pe_cmpR op_in_seq (pe_slice sl_str (pv 0) po_none (po_some pe_int)) (pe_lst (pa_cons pe_str (pa_cons pe_str pa_nil))) (by rfl)) pa_nil)))
      (C8.pss_cut (ps_set (i := 1) scCol.nd rfl (.inl rfl) (pe_op op_add (pv 1) (pe_callTy call_int1 (by rfl) B.int bootI (pa_cons (pe_cmpR op_eq (pe_slice sl_str (pv 0) (po_some (pv 1)) (po_some (pe_op op_add (pv 1) pe_int))) pe_str (nomark _)) pa_nil))))
      (C8.pss_cut (ps_for PassesOwn.never rfl (pi_range2 (by rfl) B.range (pa_cons (pv 1) (pa_cons (pe_callB call_len_str (by rfl) B.len PySem.boot_len (pa_cons (pv 0) pa_nil)) pa_nil))) (pg_name (i := 2) scCol.nd rfl (.inl rfl))
        (pss_one (ps_if (pt_cmpR op_notIn_sign (pe_ix ix_str (pv 0) (pv 2) (fun _ _ => rfl)) pe_str (by rfl)) (pss_one (ps_ret (pe_op op_add (pv 2) pe_int))) pss_nil)))
      (pss_one (ps_ret (pe_ifExp (pt_cmpR op_eq (pe_callB call_len_str (by rfl) B.len PySem.boot_len (pa_cons (pv 0) pa_nil)) (pv 1) (nomark _)) (pe_op op_add (pe_callB call_len_str (by rfl) B.len PySem.boot_len (pa_cons (pv 0) pa_nil)) pe_int) pe_int))))), ?_⟩
    have hz : (mS B').length ≤ sizeLine := by rw [mS_len]; exact sizeBig hl
    refine ⟨fun σ' H' => σ' = [some (.str (mS B')), some (.int ((st1 B' : Nat) : Int)), none] ∧ Same H H', ?_, ?_⟩
    · refine ⟨_, rfl, _, rfl, _, rfl, hz, by show 2 ≤ sizeLine; decide, fun r nr => ⟨r, _, rfl, .inl (SqL.of upd_same), rfl, rfl, .inr ⟨_, rfl, ?_, same_new nr⟩⟩⟩
      rw [cut_one, show ("+" : Str) = mS [43] from e_plus, show ("-" : Str) = mS [45] from e_minus]
      have hv : inV (V.str (mS (B'.take 1))) [V.str (mS [43]), V.str (mS [45])] = decide (B'.head? = some 43 ∨ B'.head? = some 45) := by
        have t1 := take_one B' 43
        have t2 := take_one B' 45
        show ((mS [43] == mS (B'.take 1)) || ((mS [45] == mS (B'.take 1)) || false)) = _
        have b1 : ∀ c, (mS [c] == mS (B'.take 1)) = decide (B'.head? = some c) := fun c => by
          rw [← take_one B' c]
          by_cases h : mS (B'.take 1) = mS [c]
          · rw [h, decide_eq_true rfl, beq_self_eq_true]
          · rw [decide_eq_false (fun z => h (V.str.inj z)), beq_eq_false_iff_ne.mpr (Ne.symm h)]
        rw [b1, b1, Bool.or_false]
        by_cases h1 : B'.head? = some 43 <;> by_cases h2 : B'.head? = some 45 <;> simp [h1, h2]
      have : (if inV (V.str (mS (B'.take 1))) [V.str (mS [43]), V.str (mS [45])] then (1 : Int) else 0) = ((st1 B' : Nat) : Int) := by
        rw [hv]
        unfold st1
        by_cases h : B'.head? = some 43 ∨ B'.head? = some 45
        · rw [decide_eq_true h, if_pos h]
          rfl
        · rw [decide_eq_false h, if_neg h]
          rfl
      show [some (V.str (mS B')), some (V.int (if inV (V.str (mS (B'.take 1))) [V.str (mS [43]), V.str (mS [45])] then (1 : Int) else 0)), none] = _
      rw [this]
    rintro _ H1 ⟨rfl, s1⟩
    refine ⟨fun σ' H' => σ' = [some (.str (mS B')), some (.int ((start B' : Nat) : Int)), none] ∧ H' = H1, ?_, ?_⟩
    · refine ⟨_, rfl, _, rfl, _, rfl, _, rfl, _, rfl, _, _, rfl, rfl, _, rfl, _, rfl, hz, rfl, .inr ⟨_, rfl, _, _, rfl, rfl, ?_, rfl⟩⟩
      rw [cut_mid, show ("i" : Str) = mS [105] from e_i, take_one]
      unfold start
      by_cases h : (B'.drop (st1 B')).head? = some 105
      · rw [decide_eq_true h, if_pos h]
        rfl
      · rw [decide_eq_false h, if_neg h]
        rfl
    rintro _ H2 ⟨rfl, rfl⟩
    have hsl := start_le B'
    have hsp := len_split B'
    have hrl : (rest B').length = B'.length - start B' := List.length_drop
    refine ⟨fun σ' H' => ((rest B').dropWhile isL = []) ∧ ∃ lap, σ' = [some (.str (mS B')), some (.int ((start B' : Nat) : Int)), lap] ∧ H' = H2, ?_, ?_⟩
    · refine ⟨_, rfl, _, rfl, _, rfl, hz, _, _, rfl, ⟨by omega, by omega, by rw [mS_len]; omega, by rw [mS_len]; omega⟩, ?_⟩
      have en : (((mS B').length : Int) - ((start B' : Nat) : Int)).toNat = (rest B').length := by
        rw [mS_len, hrl]
        omega
      rw [en]
      refine for_range (lo := ((start B' : Nat) : Int)) (n := (rest B').length) (fun i σ' H' => i ≤ ((rest B').takeWhile isL).length ∧ ∃ lap, σ' = [some (.str (mS B')), some (.int ((start B' : Nat) : Int)), lap] ∧ H' = H2) ⟨Nat.zero_le _, none, rfl, rfl⟩ ?_ ?_
      · rintro i _ _ hi ⟨hb, lap, rfl, rfl⟩
        have hx : (rest B')[i]? = some (rest B')[i] := List.getElem?_eq_getElem hi
        have hat : atI (mS B').cps.toList (((start B' : Nat) : Int) + (i : Nat)) = some (rest B')[i] := by
          have e : (((start B' : Nat) : Int) + (i : Nat)) = ((start B' + i : Nat) : Int) := by omega
          rw [e]
          exact atI_nat (by rw [← hx, rest_at])
        refine ⟨_, rfl, _, rfl, _, _, _, rfl, rfl, hz, hat, _, _, rfl, rfl, _, rfl, ?_⟩
        rw [notin_IXYZ]
        refine ite2 (fun e => ?_) (fun e => ?_)
        · have hn : ¬ i < ((rest B').takeWhile isL).length := fun z => by
            rw [takeW_at z hx] at e
            cases e
          have hi2 : i = ((rest B').takeWhile isL).length := by omega
          have nf : ¬ fine B' := by
            rintro ⟨z, _⟩
            rw [z] at hsp
            simp at hsp
            omega
          have ec : (((start B' : Nat) : Int) + (i : Nat) + 1) = ((col B' : Nat) : Int) := by
            unfold col
            rw [if_neg nf]
            omega
          refine ⟨_, rfl, _, _, rfl, rfl, ?_⟩
          show Q (V.int (((start B' : Nat) : Int) + (i : Nat) + 1)) _
          rw [ec]
          exact q _ s1
        · have hin : isL (rest B')[i] = true := by
            cases h : isL (rest B')[i] with
            | true => rfl
            | false => rw [h] at e; exact absurd rfl e
          refine ⟨?_, _, rfl, rfl⟩
          rcases Nat.lt_or_ge i ((rest B').takeWhile isL).length with z | z
          · omega
          · have hi2 : ((rest B').takeWhile isL).length = i := by omega
            obtain ⟨c, e1, e2⟩ := dropW_at (L := rest B') (by omega)
            rw [hi2, hx] at e1
            cases e1
            rw [hin] at e2
            cases e2
      · rintro _ _ ⟨hb, lap, rfl, rfl⟩
        refine ⟨?_, lap, rfl, rfl⟩
        refine List.length_eq_zero_iff.mp ?_
        omega
    rintro _ H3 ⟨hd, lap, rfl, rfl⟩
    refine ⟨_, rfl, _, rfl, hz, _, rfl, rfl, _, rfl, ite2 (fun e => ?_) (fun e => ?_)⟩
    · have e' : B'.length = start B' := by
        have := V.int.inj (of_decide_eq_true e)
        rw [mS_len] at this
        omega
      have nf : ¬ fine B' := by
        rintro ⟨_, z⟩
        exact z (List.length_eq_zero_iff.mp (by omega))
      refine ⟨_, rfl, _, rfl, hz, _, _, rfl, rfl, ?_⟩
      have ec : (((mS B').length : Int) + 1) = ((col B' : Nat) : Int) := by
        rw [mS_len]
        unfold col
        rw [if_neg nf, hd]
        rfl
      show Q (V.int (((mS B').length : Int) + 1)) _
      rw [ec]
      exact q _ s1
    · have e' : B'.length ≠ start B' := fun z => e (decide_eq_true (by rw [mS_len, z]))
      have hf : fine B' := ⟨hd, fun z => by rw [z] at hrl; simp at hrl; omega⟩
      have ec : col B' = 0 := col_zero.mpr hf
      have := q _ s1
      rw [ec] at this
      exact this
end
end KQ

namespace KQ
open PySem PySem.Spec PyProof.Rows L2 LamX
/-! ### what a call refuses -/
theorem scWhy : FnScope ["_law_call", "_law_found", "e"] ["_law_call"] (defScope sWhy) := ⟨rfl, rfl, rfl, by decide +kernel, rfl, by decide +kernel, by decide +kernel⟩
def TTw (C : Addr) : (XK → Hp → VK → Prop) → Hp → VK → Prop := fun tl H Q => ∀ p0, H p0 = none →
  tl (fun cls d H' => ∃ (dd : Addr) (l c : V), cls = .ref C ∧ d = some dd ∧ H' dd = some (.xd (xdT l c)) ∧ ∀ p, H' p = none → Q (.ref p) (upd H' p (.tup [.str "text", l, c]))) (upd H p0 (.tup [.str "none"])) (fun _ H' => ∃ v, (some (some (V.ref p0)) : Option (Option V)) = some (some v) ∧ Q v H')
theorem lkL (l c : V) : (xdT l c).lookup ("line" : Str) = some l := by
  show ([("column", c), ("line", l)] : List (Str × V)).lookup ("line" : Str) = some l
  rw [lookup_put, if_neg (by decide +kernel), lookup_put, if_pos rfl]
theorem lkC (l c : V) : (xdT l c).lookup ("column" : Str) = some c := by
  show ([("column", c), ("line", l)] : List (Str × V)).lookup ("column" : Str) = some c
  rw [lookup_put, if_pos rfl]
/-- the five classes that the clauses name -/
structure Five (K : PySem.W.Frag) (mg : Str → Option Value) (CT cN cU cA cM : Addr) : Prop where
  gN : mg "BadNumber" = some (.ref cN)
  gU : mg "Unlike" = some (.ref cU)
  gA : mg "Anticommute" = some (.ref cA)
  gM : mg "MinusOne" = some (.ref cM)
  n1 : PySem.W.findIn K (.ref CT) "what" = some none
  n2 : PySem.W.findIn K (.ref CT) "number" = some none
  n3 : PySem.W.findIn K (.ref CT) "one" = some none
  n4 : PySem.W.findIn K (.ref CT) "other" = some none
  n5 : PySem.W.findIn K (.ref CT) "indices" = some none
theorem why_gives {X : Cx} {C g cN cU cA cM : Addr} {cdg : Value} {q : Str} (gC : X.mg "BadText" = some (.ref C)) (XF : XfC X.K C) (n0 : PySem.W.findIn X.K (.ref C) "line" = some none) (n1 : PySem.W.findIn X.K (.ref C) "column" = some none)
    (FV : Five X.K X.mg C cN cU cA cM) (ex : PySem.W.exmOne X.K (.ref C) (.ref C) = some true) : GivesTo X ["_law_call", "_law_found", "e"] "_law_why" (defScope sWhy) g cdg (defBody sWhy) "_law_call" q (TTw C) := by
  intro f c' s H Q tl act hc h
  refine ⟨_, pss_cons (ps_set (i := 1) scWhy.nd rfl (.inl rfl) (pe_tup (pa_cons pe_str pa_nil))) (pss_cons (ps_try_list (X := (cxOf C8.CX0 X.prog X.w X.K X.mg X.base ["_law_call", "_law_found", "e"] "_law_why" (defScope sWhy) g cdg X.A X.stack s H C8.E0).nox) (k := 2) (nm := "e")
      (tb := fun W D σ H => ∃ Ech : XK, (∀ cls d σ' H', σ'.length = 3 → Ech cls d H' → W cls d σ' H') ∧ σ[0]? = some (some (.ref f)) ∧ H c' = some (CodeO c' q) ∧ tl Ech H (fun _ H' => D.nx σ H'))
      rfl rfl scWhy.nd rfl rfl LamX.takes0 (fun W pn xe tk _ => ?_)
      (.next (cl := .ref C) ⟨rfl, by decide, .inl gC⟩ (fun a oe cls d pn hz hf => pss_one (ps_set (i := 1) scWhy.nd rfl (.inl rfl) (pe_tup (pa_cons pe_str (pa_cons (pe_xf XF n0 hz hf (pv 2)) (pa_cons (pe_xf XF n1 hz hf (pv 2)) pa_nil))))))
      (.next (cl := .ref cN) ⟨rfl, by decide, .inl FV.gN⟩ (fun a oe cls d pn hz hf => pss_one (ps_set (i := 1) scWhy.nd rfl (.inl rfl) (pe_tup (pa_cons pe_str (pa_cons (pe_xf XF FV.n1 hz hf (pv 2)) (pa_cons (pe_xf XF FV.n2 hz hf (pv 2)) pa_nil))))))
      (.next (cl := .ref cU) ⟨rfl, by decide, .inl FV.gU⟩ (fun a oe cls d pn hz hf => pss_one (ps_set (i := 1) scWhy.nd rfl (.inl rfl) (pe_tup (pa_cons pe_str (pa_cons (pe_xf XF FV.n1 hz hf (pv 2)) pa_nil)))))
      (.next (cl := .ref cA) ⟨rfl, by decide, .inl FV.gA⟩ (fun a oe cls d pn hz hf => pss_one (ps_set (i := 1) scWhy.nd rfl (.inl rfl) (pe_tup (pa_cons pe_str (pa_cons (pe_xf XF FV.n3 hz hf (pv 2)) (pa_cons (pe_xf XF FV.n4 hz hf (pv 2)) pa_nil))))))
      (.next (cl := .ref cM) ⟨rfl, by decide, .inl FV.gM⟩ (fun a oe cls d pn hz hf => pss_one (ps_set (i := 1) scWhy.nd rfl (.inl rfl) (pe_tup (pa_cons pe_str (pa_cons (pe_xf XF FV.n5 hz hf (pv 2)) pa_nil)))))
      .done))))))
    (pss_one (ps_ret (pv 1)))), ?_⟩
  · refine ⟨fun pins s' σ H' D I h' => ?_⟩
    obtain ⟨Ech, hW, h1, h2, h3⟩ := h'
    have tk' : Takes ((cxOf C8.CX0 X.prog X.w X.K X.mg X.base ["_law_call", "_law_found", "e"] "_law_why" (defScope sWhy) g cdg X.A X.stack s H C8.E0).tr pn xe) (fun cls d σ H => σ.length = 3 → W cls d σ H) :=
      fun u s' ⟨a, B, sI, pins, σ, H, cls, d, e, I, nb, up, sky, na, os, ag, w⟩ => tk u s' ⟨a, B, sI, pins, σ, H, cls, d, e, I, nb, up, sky, na, os, ag, w I.len⟩
    have hp := fun p1 p2 => act (fun cls d σ H => σ.length = 3 → W cls d σ H) pn xe Ech p1 p2 tk' (fun cls d σ' H' h hl => hW cls d σ' H' hl h)
    exact (pss_one (ps_expr (hp _ _))).run pins s' σ H' D I ⟨h1, h2, h3⟩
  · refine ⟨by show 1 ≤ sizeLine; decide, fun p0 np => ?_⟩
    have hc0 : c' ≠ p0 := ne_of_none hc np
    refine ⟨fun cls d H' => ∃ (dd : Addr) (l c : V), cls = .ref C ∧ d = some dd ∧ H' dd = some (.xd (xdT l c)) ∧ ∀ p, H' p = none → Q (.ref p) (upd H' p (.tup [.str "text", l, c])), fun cls d σ' H' hl hE => ?_, rfl, (upd_ne hc0).trans hc, ?_⟩
    · obtain ⟨dd, l, c, rfl, rfl, hd, hq⟩ := hE
      refine ⟨true, ex, fun _ a na => ?_, fun z => nomatch z⟩
      have h2 : (σ'.set 2 (some (V.ref a)))[2]? = some (some (V.ref a)) := by
        rw [List.getElem?_set_self (by omega)]
      refine ⟨_, h2, rfl, rfl, dd, _, l, rfl, hd, lkL l c, ?_⟩
      refine ⟨_, h2, rfl, rfl, dd, _, c, rfl, hd, lkC l c, by show 3 ≤ sizeLine; decide, fun p np => ?_⟩
      refine ⟨_, ?_, hq p np⟩
      rw [List.getElem?_set_ne (by decide), List.getElem?_set_self (by rw [List.length_set]; omega)]
    · exact h p0 np
end KQ

namespace KQ
open PySem PySem.Spec PyProof.Rows L2 LamX
/-! ### the law -/
theorem scLaw : FnScope ["_law_script", "_law_pen_here", "_law_lap", "_law_size", "_law_string", "_law_head", "_law_text", "_law_phase", "_law_made", "_law_other", "_law_turn", "_law_at", "_law_sign", "_law_column_here", "_law_bent", "_law_odd"] ["_law_script"] (defScope sLaw) := ⟨rfl, rfl, rfl, by decide +kernel, rfl, by decide +kernel, by decide +kernel⟩
/-- all that the program's top has left -/
structure Top (K : PySem.W.Frag) (mg : Str → Option Value) (C CT fI fE fB hA cN cU cA cM fC fTx fPn fDr fPk fOn fLe fOt fWt fSo fWy fPh fTo fCo : Addr) (dI dE dB dC dTx dPn dDr dPk dOn dLe dOt dWt dSo dWy dPh dTo dCo : FuncData) : Prop where
  B : Bl mg
  T : BT K mg CT fB dB
  N : PCl K mg C fI fE
  hd : Hd4 K mg hA
  V : Five K mg CT cN cU cA cM
  XF : XfC K CT
  ex : PySem.W.exmOne K (.ref CT) (.ref CT) = some true
  FI : Fun K "__init__" "Pauli.__init__" sInit fI dI
  bI : Binds K dI ["self", "text"] []
  FE : Fun K "__eq__" "Pauli.__eq__" sEq fE dE
  bE : Binds K dE ["self", "other"] []
  FC : Fun K "_cut_text" "_cut_text" sCut fC dC
  bC : Binds K dC ["text"] []
  gC : mg "_cut_text" = some (.ref fC)
  FTx : Fun K "pauli_text" "pauli_text" sText fTx dTx
  bTx : Binds K dTx ["p"] []
  gTx : mg "pauli_text" = some (.ref fTx)
  FPn : Fun K "_law_pen" "_law_pen" sPen fPn dPn
  bPn : Binds K dPn ["_law_script"] []
  gPn : mg "_law_pen" = some (.ref fPn)
  FDr : Fun K "_law_draw" "_law_draw" sDraw fDr dDr
  bDr : Binds K dDr ["_law_pen_here", "_law_many"] []
  gDr : mg "_law_draw" = some (.ref fDr)
  FPk : Fun K "_law_pick" "_law_pick" sPick fPk dPk
  bPk : Binds K dPk ["_law_pen_here", "_law_some"] []
  gPk : mg "_law_pick" = some (.ref fPk)
  FOn : Fun K "_law_ones" "_law_ones" sOnes fOn dOn
  bOn : Binds K dOn ["_law_number"] []
  gOn : mg "_law_ones" = some (.ref fOn)
  FLe : Fun K "_law_letters" "_law_letters" sLett fLe dLe
  bLe : Binds K dLe ["_law_string", "_law_size"] []
  gLe : mg "_law_letters" = some (.ref fLe)
  FOt : Fun K "_law_of_text" "_law_of_text" sOfT fOt dOt
  bOt : Binds K dOt ["_law_text"] []
  gOt : mg "_law_of_text" = some (.ref fOt)
  FWt : Fun K "_law_weight" "_law_weight" sWt fWt dWt
  bWt : Binds K dWt ["_law_string"] []
  gWt : mg "_law_weight" = some (.ref fWt)
  FSo : Fun K "_law_some_string" "_law_some_string" sSome fSo dSo
  bSo : Binds K dSo ["_law_pen_here", "_law_size"] []
  gSo : mg "_law_some_string" = some (.ref fSo)
  FWy : Fun K "_law_why" "_law_why" sWhy fWy dWy
  bWy : Binds K dWy ["_law_call"] []
  gWy : mg "_law_why" = some (.ref fWy)
  FPh : Fun K "_law_phased" "_law_phased" sPh fPh dPh
  bPh : Binds K dPh ["_law_string", "_law_phase", "_law_size"] []
  gPh : mg "_law_phased" = some (.ref fPh)
  FTo : Fun K "_law_told" "_law_told" sTold fTo dTo
  bTo : Binds K dTo ["_law_pauli", "_law_string", "_law_phase", "_law_size"] []
  gTo : mg "_law_told" = some (.ref fTo)
  FCo : Fun K "_law_column" "_law_column" sCol fCo dCo
  bCo : Binds K dCo ["_law_text"] []
  gCo : mg "_law_column" = some (.ref fCo)
theorem bootL : bootBuiltins "list" = some (.type "list") := by decide +kernel
def spLawT (K : PySem.W.Frag) (P : Addr) : Sp := fun vs H Q _ => ∃ (a : Addr) (ns : List Int), vs = [.ref a] ∧ SqL K H a (ns.map V.int) ∧ ns.length ≤ 63 ∧ H P = some (.tbl #[]) ∧ ∀ H', Q (.bl true) H'
/-- as Fun.ok, the code object told -/
theorem ok_code {P : Program} {w : World} {K : PySem.W.Frag} {mg : Str → Option Value} {base : Heap} {x qual : Str} {st : Stmt} {f c : Addr} {N ps : List Str} {k : Nat} {sp : Sp} {oc : Value} {od an : Option Addr} {osl : Array (Option Value)} {kV doc pm ct : Value}
    (lk : K.lookup f = some ⟨oc, od, .func (PySem.W.fnOf x qual (defArgs st) (defBody st) (defScope st) .none kV doc pm an (.ref c) ct), osl⟩) (hcd : PySem.W.codeIn K (.ref c) qual = true) (S : FnScope N ps (defScope st)) (len : ∀ vs H Q E, sp vs H Q E → vs.length = ps.length)
    (body : ∀ (A : Around) (outer : List Env) (s : Shared) (H : Hp) (vs : List V) (Q : VK) (E : XK), Room k (A.deeper (envOfC qual (defScope st) s.heap.objs.size f (.ref c))) → sp vs H Q E →
      ∃ t, PSs (cxOf CX0 P w K mg base N qual (defScope st) f (.ref c) A outer s H E).nox (defBody st) t ∧ t { nx := fun _ H' => Q .non H', rt := Q } (L2.start N vs) H) :
    FnOk P w K mg base CX0 (k + 1) f (PySem.W.fnOf x qual (defArgs st) (defBody st) (defScope st) .none kV doc pm an (.ref c) ct) ps sp := by
  refine fn_of lk hcd S len fun A outer s H vs Q E hr want => ?_
  obtain ⟨t, fits, rd⟩ := body A outer s H vs Q E hr want
  exact ⟨t, fits.nox, rd⟩
/-! ### beside the pen -/
def Sx (TT : List (Addr × Str)) (p c : Addr) (N : Nat) (H : Hp) : Prop := ∃ n, n ≤ N ∧ PenAt H p c n ∧ Tabs TT H
theorem codeO_ne {c : Addr} {q : Str} : ∀ kv, CodeO c q ≠ .dK kv := by
  intro kv z
  unfold CodeO at z
  cases z
theorem tabs_keepP {TT : List (Addr × Str)} {H H' : Hp} {p c : Addr} {n : Nat} (hP : PenAt H p c n) (t : Tabs TT H) (k : KeepP p H H') : Tabs TT H' := by
  intro q hq
  obtain ⟨ps, h1, h2, h3⟩ := t q hq
  refine ⟨ps, k _ _ (pen_off hP h1 (by intro kv z; cases z)) h1, h2, fun pos cv hc => ?_⟩
  obtain ⟨c, e1, e2⟩ := h3 pos cv hc
  exact ⟨c, e1, k _ _ (pen_off hP e2 codeO_ne) e2⟩
theorem pen_ext {H H' : Hp} {p c : Addr} {n : Nat} (h : PenAt H p c n) (x : ExtN H H') : PenAt H' p c n := by
  obtain ⟨ns, a, d, f, e1, e2, r⟩ := h
  exact ⟨ns, a, d, f, x _ _ e1 (fun ps z => by cases z), x _ _ e2 (fun ps z => by cases z), r⟩
theorem Sx.same {TT : List (Addr × Str)} {p c : Addr} {N : Nat} {H H' : Hp} (h : Sx TT p c N H) (s : Same H H') : Sx TT p c N H' := by
  obtain ⟨n, hn, hP, t⟩ := h
  exact ⟨n, hn, pen_sm hP s, Tabs.ext t s⟩
theorem Sx.mono {TT : List (Addr × Str)} {p c : Addr} {N M : Nat} {H : Hp} (h : Sx TT p c N H) (le : N ≤ M) : Sx TT p c M H := by
  obtain ⟨n, hn, r⟩ := h
  exact ⟨n, Nat.le_trans hn le, r⟩
theorem sx_step {TT : List (Addr × Str)} {p c : Addr} {n n' N' : Nat} {H H' : Hp} (hP : PenAt H p c n) (t : Tabs TT H) (hP' : PenAt H' p c n') (k : KeepP p H H') (le : n' ≤ N') : Sx TT p c N' H' := ⟨n', le, hP', tabs_keepP hP t k⟩
theorem Sx.ext {TT : List (Addr × Str)} {p c : Addr} {N : Nat} {H H' : Hp} (h : Sx TT p c N H) (x : ExtN H H') (t : Tabs TT H') : Sx TT p c N H' := by
  obtain ⟨n, hn, hP, _⟩ := h
  exact ⟨n, hn, pen_ext hP x, t⟩
theorem PauliAt.keep {C : Addr} {H H' : Hp} {a : Addr} {R : List Nat} {q : Nat} (h : PauliAt C H a R q) (k : ∀ o, H a = some o → H' a = some o) : PauliAt C H' a R q := by
  obtain ⟨dx, fs, e, r⟩ := h
  exact ⟨dx, fs, k _ e, r⟩
theorem PauliAt.same {C : Addr} {H H' : Hp} {a : Addr} {R : List Nat} {q : Nat} (h : PauliAt C H a R q) (s : Same H H') : PauliAt C H' a R q := h.keep fun o e => s _ _ e
theorem PauliAt.off {C : Addr} {H : Hp} {a p c : Addr} {n : Nat} {R : List Nat} {q : Nat} (h : PauliAt C H a R q) (hP : PenAt H p c n) : a ≠ p := by
  obtain ⟨dx, fs, e, r⟩ := h
  exact pen_off hP e (by intro kv z; cases z)
/-- what a make has left -/
theorem make_same {H H' : Hp} {x dx C : Addr} (nx : H x = none) (nd : H dx = none) (k : ∀ b o, b ≠ x → (upd (upd H dx (.own x)) x (.ins C dx [])) b = some o → H' b = some o) : Same H H' := by
  intro b o e
  have h1 : b ≠ x := ne_of_none e nx
  have h2 : b ≠ dx := ne_of_none e nd
  exact k b o h1 (by rw [upd_ne h1, upd_ne h2]; exact e)
theorem Odd.ext {H H' : Hp} {v : V} (h : Odd H v) (s : ExtN H H') : Odd H' v := by
  rcases h with h | h | h | ⟨p, xs, h, e⟩ | ⟨p, xs, h, e⟩ | ⟨p, kv, h, e⟩
  · exact .inl h
  · exact .inr (.inl h)
  · exact .inr (.inr (.inl h))
  · exact .inr (.inr (.inr (.inl ⟨p, xs, h, s _ _ e (fun ps z => by cases z)⟩)))
  · exact .inr (.inr (.inr (.inr (.inl ⟨p, xs, h, s _ _ e (fun ps z => by cases z)⟩))))
  · exact .inr (.inr (.inr (.inr (.inr ⟨p, kv, h, s _ _ e (fun ps z => by cases z)⟩))))
theorem odd_make {H : Hp} {v : V} {x dx C : Addr} (h : Odd H v) (nx : H x = none) (nd : H dx = none) : Odd (upd (upd H dx (.own x)) x (.ins C dx [])) v := h.same fun b o e => by
  rw [upd_ne (ne_of_none e nx), upd_ne (ne_of_none e nd)]
  exact e
/-- the heads that are put before the letters -/
def headTab : List (List Nat × Nat) := [([], 0), ([43], 0), ([45], 2), ([105], 1), ([43, 105], 1), ([45, 105], 3)]
theorem e_pi : ("+i" : Str) = mS [43, 105] := by decide +kernel
theorem heads_at {h : Nat} (hh : h < 6) : ∃ T q, headTab[h]? = some (T, q) ∧ T.length ≤ 2 ∧ q < 4 ∧ ([V.str "", V.str "+", V.str "-", V.str "i", V.str "+i", V.str "-i"] : List V)[h]? = some (.str (mS T)) ∧ ([V.int 0, V.int 0, V.int 2, V.int 1, V.int 1, V.int 3] : List V)[h]? = some (.int ((q : Nat) : Int)) := by
  match h, hh with
  | 0, _ => exact ⟨_, _, rfl, by decide, by decide, by rw [e_no]; rfl, rfl⟩
  | 1, _ => exact ⟨_, _, rfl, by decide, by decide, by rw [e_plus]; rfl, rfl⟩
  | 2, _ => exact ⟨_, _, rfl, by decide, by decide, by rw [e_minus]; rfl, rfl⟩
  | 3, _ => exact ⟨_, _, rfl, by decide, by decide, by rw [e_i]; rfl, rfl⟩
  | 4, _ => exact ⟨_, _, rfl, by decide, by decide, by rw [e_pi]; rfl, rfl⟩
  | 5, _ => exact ⟨_, _, rfl, by decide, by decide, by rw [e_mi]; rfl, rfl⟩
theorem read_tab {L : List Nat} (hL : Lets L) (h0 : L ≠ []) {h q : Nat} {T : List Nat} (e : headTab[h]? = some (T, q)) : rest (T ++ L) = L ∧ ph (T ++ L) = q ∧ fine (T ++ L) := read_head hL h0 h T q e
theorem read_own {L : List Nat} (hL : Lets L) (h0 : L ≠ []) {q : Nat} (hq : q < 4) : rest (headL q ++ L) = L ∧ ph (headL q ++ L) = q ∧ fine (headL q ++ L) := by
  match q, hq with
  | 0, _ => exact read_head hL h0 0 _ _ rfl
  | 1, _ => exact read_head hL h0 3 _ _ rfl
  | 2, _ => exact read_head hL h0 2 _ _ rfl
  | 3, _ => exact read_head hL h0 5 _ _ rfl
theorem headL_len {q : Nat} (hq : q < 4) : (headL q).length ≤ 2 := by
  match q, hq with
  | 0, _ => decide
  | 1, _ => decide
  | 2, _ => decide
  | 3, _ => decide
theorem told_eqv (x : Str) (l c : Int) : PyData.eqv (.tuple [.str x, .int l, .int c]) (.tuple [.str x, .int l, .int c]) = true := by
  show ((x == x) && ((l == l) && ((c == c) && true))) = true
  simp
theorem none_eqv (x : Str) : PyData.eqv (.tuple [.str x]) (.tuple [.str x]) = true := by
  show ((x == x) && true) = true
  simp
theorem dp3 {K : PySem.W.Frag} {H : Hp} {a : Addr} {x : Str} {l c : Int} (h : H a = some (.tup [.str x, .int l, .int c])) : Dp K H (.ref a) (.tuple [.str x, .int l, .int c]) := .tup (.inl (.inl h)) (.cons (.str x) (.cons (.int l) (.cons (.int c) .nil)))
theorem dp1 {K : PySem.W.Frag} {H : Hp} {a : Addr} {x : Str} (h : H a = some (.tup [.str x])) : Dp K H (.ref a) (.tuple [.str x]) := .tup (.inl (.inl h)) (.cons (.str x) .nil)
theorem sh3 (l c : Int) : SeqAt.shaped (.tuple [.str ("text" : Str), .int l, .int c]) = true := by
  have z : SeqAt.shaped (.tuple [.str ("text" : Str), .int 0, .int 0]) = true := by decide +kernel
  exact z
theorem sh1 : SeqAt.shaped (.tuple [.str ("none" : Str)]) = true := by decide +kernel
theorem ne3 {K : PySem.W.Frag} {H : Hp} {a b : Addr} {l c : Int} {Q : VK} (h : H a = some (.tup [.str ("text" : Str), .int l, .int c])) (h' : H b = some (.tup [.str ("text" : Str), .int l, .int c])) (q : Q (.bl false) H) : rNeD K (.ref a) (.ref b) H Q := by
  refine ⟨_, _, dp3 h, dp3 h', sh3 l c, sh3 l c, ?_⟩
  rw [told_eqv]
  exact q
theorem eq3 {K : PySem.W.Frag} {H : Hp} {a b : Addr} {l c : Int} {Q : VK} (h : H a = some (.tup [.str ("text" : Str), .int l, .int c])) (h' : H b = some (.tup [.str ("text" : Str), .int l, .int c])) (q : Q (.bl true) H) : rEqD K (.ref a) (.ref b) H Q := by
  refine ⟨_, _, dp3 h, dp3 h', sh3 l c, sh3 l c, ?_⟩
  rw [told_eqv]
  exact q
theorem ne1 {K : PySem.W.Frag} {H : Hp} {a b : Addr} {Q : VK} (h : H a = some (.tup [.str ("none" : Str)])) (h' : H b = some (.tup [.str ("none" : Str)])) (q : Q (.bl false) H) : rNeD K (.ref a) (.ref b) H Q := by
  refine ⟨_, _, dp1 h, dp1 h', sh1, sh1, ?_⟩
  rw [none_eqv]
  exact q
section
variable {P : Program} {w : World} {K : PySem.W.Frag} {mg : Str → Option Value} {base : Heap}
theorem ok_law {f c tP C CT fI fE fB hA cN cU cA cM fC fTx fPn fDr fPk fOn fLe fOt fWt fSo fWy fPh fTo fCo : Addr} {dI dE dB dC dTx dPn dDr dPk dOn dLe dOt dWt dSo dWy dPh dTo dCo : FuncData} {oc : Value} {od an : Option Addr} {osl : Array (Option Value)} {kV doc pm ct : Value}
    (lk : K.lookup f = some ⟨oc, od, .func (PySem.W.fnOf "law" "law" (defArgs sLaw) (defBody sLaw) (defScope sLaw) .none kV doc pm an (.ref c) ct), osl⟩) (hcd : PySem.W.codeIn K (.ref c) "law" = true) (TB : TabB base mg c tP)
    (T : Top K mg C CT fI fE fB hA cN cU cA cM fC fTx fPn fDr fPk fOn fLe fOt fWt fSo fWy fPh fTo fCo dI dE dB dC dTx dPn dDr dPk dOn dLe dOt dWt dSo dWy dPh dTo dCo) : FnOk P w K mg base CX0 8 f (PySem.W.fnOf "law" "law" (defArgs sLaw) (defBody sLaw) (defScope sLaw) .none kV doc pm an (.ref c) ct) ["_law_script"] (spLawT K tP) := by
  have GI : FnOk P w K mg base (L2.CX P w) 4 fI dI ["self", "text"] (spInit C CT) := ok_init T.FI T.N T.FC T.bC T.gC T.T T.hd T.B
  have GE : FnOk P w K mg base CX0 1 fE dE ["self", "other"] (spEqP C) := ok_eq T.FE T.N T.B
  have GTx : FnOk P w K mg base CX0 1 fTx dTx ["p"] (spText C) := ok_text T.FTx T.N T.hd
  have GPn : FnOk P w K mg base CX0 1 fPn dPn ["_law_script"] (spPen K) := ok_pen T.FPn T.B.int T.B.list
  have GDr : FnOk P w K mg base CX0 1 fDr dDr ["_law_pen_here", "_law_many"] spDraw := ok_draw T.FDr T.B.int T.B.len
  have GPk : FnOk P w K mg base CX0 2 fPk dPk ["_law_pen_here", "_law_some"] (spPick K) := ok_pick T.FPk T.FDr T.bDr T.gDr T.B.int T.B.len
  have GLe : FnOk P w K mg base CX0 1 fLe dLe ["_law_string", "_law_size"] spLett := ok_lett T.FLe T.B
  have GSo : FnOk P w K mg base CX0 3 fSo dSo ["_law_pen_here", "_law_size"] spSome := ok_some T.FSo T.FDr T.bDr T.gDr T.FPk T.bPk T.gPk T.FOt T.bOt T.gOt T.B
  have GPh : FnOk P w K mg base CX0 2 fPh dPh ["_law_string", "_law_phase", "_law_size"] spPh := ok_ph T.FPh T.FLe T.bLe T.gLe T.B
  have GTo : FnOk P w K mg base CX0 3 fTo dTo ["_law_pauli", "_law_string", "_law_phase", "_law_size"] (spTold C) := ok_told T.FTo T.FLe T.bLe T.gLe T.FWt T.bWt T.gWt T.FOn T.bOn T.gOn T.N T.B
  have GCo : FnOk P w K mg base CX0 1 fCo dCo ["_law_text"] spCol := ok_col T.FCo T.B
  obtain ⟨ocW, odW, kVW, dcW, pmW, anW, cdvW, ctW, oslW, eW, lkW, hcW⟩ := T.FWy.ex
  have bW' := T.bWy
  rw [eW] at bW' lkW
  refine ok_code lk hcd scLaw (fun vs H Q E h => ?_) (fun A outer s H vs Q E hr h => ?_)
  · obtain ⟨a, ns, rfl, _⟩ := h
    rfl
  · obtain ⟨a, ns, rfl, hS, hlen, hTP, q⟩ := h
    have r1 : Room 1 _ := hr.mono (by decide)
    have r2 : Room 2 _ := hr.mono (by decide)
    have r3 : Room 3 _ := hr.mono (by decide)
    have r5 : Room 5 _ := hr.mono (by decide)
    have hu : (A.deeper (envOfC "law" (defScope sLaw) s.heap.objs.size f (.ref c))).units + 64 < cLine := hr.units
    let TT : List (Addr × Str) := [(tP, (envOfC "law" (defScope sLaw) s.heap.objs.size f (.ref c)).qual ++ "<lambda>")]
    refine ⟨_, (C8.pss_cut (ps_set (i := 1) scLaw.nd rfl (.inl rfl) (pe_call GPn r1 (by rfl) T.gPn T.FPn.kp T.bPn .nil pass0 (pa_cons (pv 0) pa_nil)))
      (C8.pss_cut (ps_for PassesOwn.never rfl (pi_range1 (by rfl) T.B.range (pa_cons pe_int pa_nil)) (pg_name (i := 2) scLaw.nd rfl (.inl rfl))
        (C8.pss_cut (ps_set (i := 3) scLaw.nd rfl (.inl rfl) (pe_op op_add pe_int (pe_call GDr r1 (by rfl) T.gDr T.FDr.kp T.bDr .nil pass0 (pa_cons (pv 1) (pa_cons (pe_call GPk r2 (by rfl) T.gPk T.FPk.kp T.bPk .nil pass0 (pa_cons (pv 1) (pa_cons (pe_lst (pa_cons pe_int (pa_cons pe_int pa_nil))) pa_nil))) pa_nil)))))
        (C8.pss_cut (ps_par (i := 4) (j := 5) rfl scLaw.nd rfl rfl (by decide) rfl rfl (pa_cons (pe_call GSo r3 (by rfl) T.gSo T.FSo.kp T.bSo .nil pass0 (pa_cons (pv 1) (pa_cons (pv 3) pa_nil))) (pa_cons (pe_call GDr r1 (by rfl) T.gDr T.FDr.kp T.bDr .nil pass0 (pa_cons (pv 1) (pa_cons pe_int pa_nil))) pa_nil)) rfl)
        (C8.pss_cut (ps_set (i := 6) scLaw.nd rfl (.inl rfl) (pe_op op_add_str (pe_ix ix_list (pe_lst (pa_cons pe_str (pa_cons pe_str (pa_cons pe_str (pa_cons pe_str (pa_cons pe_str (pa_cons pe_str pa_nil))))))) (pv 5) (fun _ _ => rfl)) (pe_call GLe r1 (by rfl) T.gLe T.FLe.kp T.bLe .nil pass0 (pa_cons (pv 4) (pa_cons (pv 3) pa_nil)))))
        (C8.pss_cut (ps_set (i := 7) scLaw.nd rfl (.inl rfl) (pe_ix ix_list (pe_lst (pa_cons pe_int (pa_cons pe_int (pa_cons pe_int (pa_cons pe_int (pa_cons pe_int (pa_cons pe_int pa_nil))))))) (pv 5) (fun _ _ => rfl)))
        (C8.pss_cut (ps_set (i := 8) scLaw.nd rfl (.inl rfl) (pe_make T.N.mkf GI r5 (by rfl) T.N.g T.bI .nil passL (pa_cons (pv 6) pa_nil)))
        (C8.pss_cut (ps_if (pw_or (pt_not (pt_val (pe_call GTo r3 (by rfl) T.gTo T.FTo.kp T.bTo .nil pass0 (pa_cons (pv 8) (pa_cons (pv 4) (pa_cons (pv 7) (pa_cons (pv 3) pa_nil))))))) (pw_or1 (pt_cmpR op_ne (pe_call GTx r1 (by rfl) T.gTx T.FTx.kp T.bTx .nil pass0 (pa_cons (pv 8) pa_nil)) (pe_call GPh r2 (by rfl) T.gPh T.FPh.kp T.bPh .nil pass0 (pa_cons (pv 4) (pa_cons (pv 7) (pa_cons (pv 3) pa_nil)))) (nomark _)))).pt (pss_one (ps_ret pe_bl)) pss_nil)
        (C8.pss_cut (ps_set (i := 9) scLaw.nd rfl (.inl rfl) (pe_make T.N.mkf GI r5 (by rfl) T.N.g T.bI .nil passL (pa_cons (pe_call GPh r2 (by rfl) T.gPh T.FPh.kp T.bPh .nil pass0 (pa_cons (pv 4) (pa_cons (pe_op op_mod (pe_callTy call_int1 (by rfl) T.B.int bootI (pa_cons (pe_op op_add (pv 7) (pe_call GDr r1 (by rfl) T.gDr T.FDr.kp T.bDr .nil pass0 (pa_cons (pv 1) (pa_cons pe_int pa_nil)))) pa_nil)) pe_int) (pa_cons (pv 3) pa_nil)))) pa_nil)))
        (C8.pss_cut (ps_if (pw_or (pt_cmpR op_ne (pe_cmpR (op_own GE r1 T.N.eq T.N.ef T.N.en T.bE pass0) (pv 8) (pv 9) (nomark _)) (pe_cmpR op_eq (pe_fld (pv 8) rfl) (pe_fld (pv 9) rfl) (nomark _)) (nomark _)) (pw_or1 (pt_not (pt_cmpR (op_own GE r1 T.N.eq T.N.ef T.N.en T.bE pass0) (pv 8) (pe_make T.N.mkf GI r5 (by rfl) T.N.g T.bI .nil passL (pa_cons (pe_call GTx r1 (by rfl) T.gTx T.FTx.kp T.bTx .nil pass0 (pa_cons (pv 8) pa_nil)) pa_nil)) (nomark _))))).pt (pss_one (ps_ret pe_bl)) pss_nil)
        (C8.pss_cut (ps_if (pw_or (pt_cmpR (op_own GE r1 T.N.eq T.N.ef T.N.en T.bE pass0) (pv 8) (pv 6) (nomark _)) (pw_or1 (pt_cmpR (op_own GE r1 T.N.eq T.N.ef T.N.en T.bE pass0) (pv 8) (pe_make T.N.mkf GI r5 (by rfl) T.N.g T.bI .nil passL (pa_cons (pe_op op_add_str (pv 6) pe_str) pa_nil)) (nomark _)))).pt (pss_one (ps_ret pe_bl)) pss_nil)
        (C8.pss_cut (ps_for PassesOwn.never rfl (pi_range1 (by rfl) T.B.range (pa_cons pe_int pa_nil)) (pg_name (i := 10) scLaw.nd rfl (.inl rfl))
          (C8.pss_cut (ps_par (i := 11) (j := 12) rfl scLaw.nd rfl rfl (by decide) rfl rfl (pa_cons (pe_call GDr r1 (by rfl) T.gDr T.FDr.kp T.bDr .nil pass0 (pa_cons (pv 1) (pa_cons (pe_op op_add (pe_callB call_len_str (by rfl) T.B.len PySem.boot_len (pa_cons (pv 6) pa_nil)) pe_int) pa_nil))) (pa_cons (pe_call GPk r2 (by rfl) T.gPk T.FPk.kp T.bPk .nil pass0 (pa_cons (pv 1) (pa_cons (pe_op op_cat (pe_callTy (call_list_txt rfl) (by rfl) T.B.list bootL (pa_cons pe_str pa_nil)) (pe_lst (pa_cons pe_str pa_nil))) pa_nil))) pa_nil)) rfl)
          (C8.pss_cut (ps_set (i := 14) scLaw.nd rfl (.inr rfl) (pe_op op_add_str (pe_op op_add_str (pe_slice sl_str (pv 6) po_none (po_some (pv 11))) (pv 12)) (pe_slice sl_str (pv 6) (po_some (pe_op op_add (pv 11) (pe_call GDr r1 (by rfl) T.gDr T.FDr.kp T.bDr .nil pass0 (pa_cons (pv 1) (pa_cons pe_int pa_nil))))) po_none)))
          (C8.pss_cut (ps_set (i := 14) scLaw.nd rfl (.inr rfl) (pe_ifExp (pt_cmpR op_eq (pe_call GDr r1 (by rfl) T.gDr T.FDr.kp T.bDr .nil pass0 (pa_cons (pv 1) (pa_cons pe_int pa_nil))) pe_int (nomark _)) (pe_slice sl_str (pv 14) po_none (po_some (pv 11))) (pv 14)))
          (C8.pss_cut (ps_set (i := 13) scLaw.nd rfl (.inl rfl) (pe_call GCo r1 (by rfl) T.gCo T.FCo.kp T.bCo .nil pass0 (pa_cons (pv 14) pa_nil)))
          (pss_one (ps_if (pt_cmpR (op_neD hu) (pe_lamcall (T := TT) (TT := TTw CT) (Ng := ["_law_call", "_law_found", "e"]) (by rfl) T.gWy T.FWy.kp lkW hcW bW' scWhy rfl (.inl rfl) (why_gives T.T.g T.XF T.T.n0 T.T.n1 T.V T.ex) TB rfl (List.mem_singleton.mpr rfl) (fun p hp _ => by rw [List.mem_singleton.mp hp]; rfl) hr (lamS_by (sc := defScope sLaw) (by decide +kernel)) rfl (fun _ _ _ _ _ => rfl) (fun A2 o2 s2 H2 E2 f2 c2 hr2 => pe_make T.N.mkf GI hr2 (by rfl) T.N.g T.bI .nil (passes_call (takes_of rfl rfl rfl rfl) (fun _ _ _ _ h => h)) (pa_cons (pv 14) pa_nil))) (pe_ifExp (pt_cmpR op_gt (pv 13) pe_int (nomark _)) (pe_tup (pa_cons pe_str (pa_cons pe_int (pa_cons (pv 13) pa_nil)))) (pe_tup (pa_cons pe_str pa_nil))) (nomark _)) (pss_one (ps_ret pe_bl)) pss_nil)))))))
          pss_nil)))))))))))
      (C8.pss_cut (ps_set (i := 15) scLaw.nd rfl (.inr rfl) (pe_call GPk r2 (by rfl) T.gPk T.FPk.kp T.bPk .nil pass0 (pa_cons (pv 1) (pa_cons (pe_lst (pa_cons pe_non (pa_cons pe_int (pa_cons pe_bl (pa_cons (pe_lst (pa_cons pe_str pa_nil)) (pa_cons (pe_tup (pa_cons pe_str (pa_cons pe_str pa_nil))) (pa_cons (pe_disp (pps_cons pe_str pe_int pps_nil) (by rfl) (by rfl) (fun z => by cases z) (by decide)) pa_nil))))))) pa_nil))))
      (C8.pss_cut (ps_if (pt_cmpR (op_neD hu) (pe_lamcall (T := TT) (TT := TTw CT) (Ng := ["_law_call", "_law_found", "e"]) (by rfl) T.gWy T.FWy.kp lkW hcW bW' scWhy rfl (.inl rfl) (why_gives T.T.g T.XF T.T.n0 T.T.n1 T.V T.ex) TB rfl (List.mem_singleton.mpr rfl) (fun p hp _ => by rw [List.mem_singleton.mp hp]; rfl) hr (lamS_by (sc := defScope sLaw) (by decide +kernel)) rfl (fun _ _ _ _ _ => rfl) (fun A2 o2 s2 H2 E2 f2 c2 hr2 => pe_make T.N.mkf GI hr2 (by rfl) T.N.g T.bI .nil (passes_call (takes_of rfl rfl rfl rfl) (fun _ _ _ _ h => h)) (pa_cons (pv 15) pa_nil))) (pe_tup (pa_cons pe_str (pa_cons pe_int (pa_cons pe_int pa_nil)))) (nomark _)) (pss_one (ps_ret pe_bl)) pss_nil)
      (pss_one (ps_ret (pe_cmpR (op_eqD hu) (pe_lamcall (T := TT) (TT := TTw CT) (Ng := ["_law_call", "_law_found", "e"]) (by rfl) T.gWy T.FWy.kp lkW hcW bW' scWhy rfl (.inl rfl) (why_gives T.T.g T.XF T.T.n0 T.T.n1 T.V T.ex) TB rfl (List.mem_singleton.mpr rfl) (fun p hp _ => by rw [List.mem_singleton.mp hp]; rfl) hr (lamS_by (sc := defScope sLaw) (by decide +kernel)) rfl (fun _ _ _ _ _ => rfl) (fun A2 o2 s2 H2 E2 f2 c2 hr2 => pe_make T.N.mkf GI hr2 (by rfl) T.N.g T.bI .nil (passes_call (takes_of rfl rfl rfl rfl) (fun _ _ _ _ h => h)) (pa_cons pe_str pa_nil))) (pe_tup (pa_cons pe_str (pa_cons pe_int (pa_cons pe_int pa_nil)))) (nomark _)))))))), ?_⟩
    -- the pen
    refine ⟨fun σ' H' => ∃ p pc : Addr, σ' = [some (.ref a), some (.ref p), none, none, none, none, none, none, none, none, none, none, none, none, none, none] ∧ Sx TT p pc 0 H', ?_, ?_⟩
    · refine ⟨_, rfl, a, ns, rfl, hS, hlen, fun H' p pc sm np nc hP => ⟨p, pc, rfl, 0, Nat.le_refl _, hP, fun q hq => ?_⟩⟩
      rw [List.mem_singleton.mp hq]
      exact TabS.nil (sm _ _ hTP)
    rintro _ H1 ⟨p, pc, rfl, x1⟩
    clear hTP hS
    -- four laps
    refine ⟨fun σ' H' => ∃ (s2 s3 s4 s5 s6 s7 s8 s9 s10 s11 s12 s13 s14 s15 : Option V), σ' = [some (.ref a), some (.ref p), s2, s3, s4, s5, s6, s7, s8, s9, s10, s11, s12, s13, s14, s15] ∧ Sx TT p pc 400 H', ?_, ?_⟩
    · refine ⟨4, rfl, by decide, by decide, for_range (n := 4) (fun i σ' H' => ∃ (s2 s3 s4 s5 s6 s7 s8 s9 s10 s11 s12 s13 s14 s15 : Option V), σ' = [some (.ref a), some (.ref p), s2, s3, s4, s5, s6, s7, s8, s9, s10, s11, s12, s13, s14, s15] ∧ Sx TT p pc (100 * i) H')
        ⟨_, _, _, _, _, _, _, _, _, _, _, _, _, _, rfl, x1⟩ ?_ (fun _ _ z => z)⟩
      rintro i _ H2 hi ⟨s2, s3, s4, s5, s6, s7, s8, s9, s10, s11, s12, s13, s14, s15, rfl, x2⟩
      -- the size
      refine ⟨fun σ' H' => ∃ m : Nat, 1 ≤ m ∧ m ≤ 22 ∧ σ' = [some (.ref a), some (.ref p), some (.int (0 + (i : Nat))), some (.int (m : Int)), s4, s5, s6, s7, s8, s9, s10, s11, s12, s13, s14, s15] ∧ Sx TT p pc (100 * i + 2) H', ?_, ?_⟩
      · obtain ⟨n, hn, hP, tb⟩ := x2
        refine ⟨_, rfl, _, rfl, by show 2 ≤ sizeLine; decide, fun r nr => ⟨p, pc, r, n, _, rfl, pen_sm hP (same_new nr), by omega, .inl (SqL.of upd_same), by simp, by show 2 ≤ 1000; decide, fun j v H3 hj hP3 hk3 => ?_⟩⟩
        obtain ⟨b, rfl, hb⟩ : ∃ b : Int, v = .int b ∧ (b = 4 ∨ b = 22) := by
          have := List.mem_of_getElem? hj
          simp only [List.mem_cons, List.mem_nil_iff, or_false] at this
          rcases this with h | h
          · exact ⟨4, h, .inl rfl⟩
          · exact ⟨22, h, .inr rfl⟩
        refine ⟨p, pc, n + 1, b, rfl, hP3, by omega, by omega, Nat.lt_of_le_of_lt (by omega : b.natAbs ≤ 22) (by decide), fun y H4 y0 y1 hP4 hk4 => ⟨_, _, rfl, rfl, (1 + y).toNat, by omega, by omega, ?_, ?_⟩⟩
        · have e : (((1 + y).toNat : Nat) : Int) = 1 + y := by omega
          rw [e]
          rfl
        · have t3 := tabs_keepP (pen_sm hP (same_new nr)) (Tabs.ext tb (same_new nr)) (KeepP.of_eq hk3)
          exact sx_step hP3 t3 hP4 (KeepP.of_eq hk4) (by omega)
      rintro _ H3 ⟨m, m1, m2, rfl, x3⟩
      clear x2
      -- the string and the head
      refine ⟨fun σ' H' => ∃ (t : Addr) (L : List Nat) (h : Nat), L.length = m ∧ Lets L ∧ h < 6 ∧ σ' = [some (.ref a), some (.ref p), some (.int (0 + (i : Nat))), some (.int (m : Int)), some (.ref t), some (.int (h : Int)), s6, s7, s8, s9, s10, s11, s12, s13, s14, s15] ∧ Sx TT p pc (100 * i + 25) H' ∧ H' t = some (.tup [.int (bv lx L : Nat), .int (bv lz L : Nat), .int 0]), ?_, ?_⟩
      · obtain ⟨n, hn, hP, tb⟩ := x3
        refine ⟨_, rfl, _, rfl, p, pc, n, m, rfl, hP, by omega, by omega, fun L t H4 hl hL et hP4 k4 => ?_⟩
        refine ⟨_, rfl, p, pc, n + m, 6, rfl, hP4, by omega, by decide, by decide, fun y H5 y0 y1 hP5 hk5 => ⟨_, _, rfl, t, L, y.toNat, hl, hL, by omega, ?_, ?_, ?_⟩⟩
        · have e : ((y.toNat : Nat) : Int) = y := by omega
          rw [e]
          rfl
        · exact sx_step hP4 (tabs_keepP hP tb k4) hP5 (KeepP.of_eq hk5) (by omega)
        · rw [hk5 t (pen_off hP4 et (by intro kv z; cases z))]
          exact et
      rintro _ H4 ⟨t, L, h, hl, hL, h6, rfl, x4, et⟩
      subst hl
      clear x3
      obtain ⟨T', q', eT, lT, q4, vT, vq⟩ := heads_at h6
      have h0 : L ≠ [] := fun z => by rw [z] at m1; simp at m1
      obtain ⟨f1, f2, f3⟩ := read_tab hL h0 eT
      have lB : (T' ++ L).length ≤ 24 := by rw [List.length_append]; omega
      have hzB : (mS (T' ++ L)).length ≤ sizeLine := by rw [mS_len]; exact sizeBig (by omega)
      -- the text
      refine ⟨fun σ' H' => σ' = [some (.ref a), some (.ref p), some (.int (0 + (i : Nat))), some (.int (L.length : Int)), some (.ref t), some (.int (h : Int)), some (.str (mS (T' ++ L))), s7, s8, s9, s10, s11, s12, s13, s14, s15] ∧ Same H4 H', ?_, ?_⟩
      · refine ⟨by show 6 ≤ sizeLine; decide, fun r nr => ⟨_, rfl, r, _, _, .str (mS T'), rfl, rfl, SqL.of upd_same, atI_nat vT, _, rfl, _, rfl, t, L, 0, rfl, same_new nr _ _ et, hL, by omega, _, _, rfl, rfl, ?_, ?_⟩⟩
        · rw [mS_len, mS_len]
          exact sizeBig (by omega)
        · rw [mS_app]
          exact ⟨rfl, same_new nr⟩
      rintro _ H5 ⟨rfl, s5'⟩
      have x5 := x4.same s5'
      have et5 := s5' _ _ et
      clear x4 et s5'
      -- the phase
      refine ⟨fun σ' H' => σ' = [some (.ref a), some (.ref p), some (.int (0 + (i : Nat))), some (.int (L.length : Int)), some (.ref t), some (.int (h : Int)), some (.str (mS (T' ++ L))), some (.int ((q' : Nat) : Int)), s8, s9, s10, s11, s12, s13, s14, s15] ∧ Same H5 H', ?_, ?_⟩
      · exact ⟨by show 6 ≤ sizeLine; decide, fun r nr => ⟨_, rfl, r, _, _, _, rfl, rfl, SqL.of upd_same, atI_nat vq, rfl, same_new nr⟩⟩
      rintro _ H6 ⟨rfl, s6'⟩
      have x6 := x5.same s6'
      have et6 := s6' _ _ et5
      clear x5 et5 s6'
      -- the object
      refine ⟨fun σ' H' => ∃ a1 : Addr, σ' = [some (.ref a), some (.ref p), some (.int (0 + (i : Nat))), some (.int (L.length : Int)), some (.ref t), some (.int (h : Int)), some (.str (mS (T' ++ L))), some (.int ((q' : Nat) : Int)), some (.ref a1), s9, s10, s11, s12, s13, s14, s15] ∧ Same H6 H' ∧ PauliAt C H' a1 L q', ?_, ?_⟩
      · refine ⟨_, rfl, fun x dx nx nd ne => ⟨x, dx, _, rfl, upd_same, .inl ⟨T' ++ L, rfl, by omega, .inl ⟨f3, fun H' PA k => ⟨rfl, x, rfl, make_same nx nd k, ?_⟩⟩⟩⟩⟩
        rw [f1, f2] at PA
        exact PA
      rintro _ H7 ⟨a1, rfl, s7', PA⟩
      have x7 := x6.same s7'
      have et7 := s7' _ _ et6
      clear x6 et6 s7'
      -- what is told
      refine ⟨fun σ' H' => σ' = [some (.ref a), some (.ref p), some (.int (0 + (i : Nat))), some (.int (L.length : Int)), some (.ref t), some (.int (h : Int)), some (.str (mS (T' ++ L))), some (.int ((q' : Nat) : Int)), some (.ref a1), s9, s10, s11, s12, s13, s14, s15] ∧ Same H7 H', ?_, ?_⟩
      · refine ⟨_, rfl, _, rfl, _, rfl, _, rfl, a1, t, L, 0, q', rfl, PA, et7, hL, by omega, _, rfl, iteF ?_⟩
        refine ⟨_, rfl, a1, L, q', rfl, PA, q4, by omega, _, rfl, _, rfl, _, rfl, t, L, 0, q', rfl, q4, et7, hL, by omega, fun H' s' => ⟨rfl, _, rfl, ?_⟩⟩
        rw [decide_eq_true rfl]
        exact iteF ⟨rfl, s'⟩
      rintro _ H8 ⟨rfl, s8'⟩
      have x8 := x7.same s8'
      have et8 := s8' _ _ et7
      have PA8 := PA.same s8'
      clear x7 et7 s8' PA
      -- another phase
      refine ⟨fun σ' H' => ∃ (a2 : Addr) (g : Nat), g < 4 ∧ σ' = [some (.ref a), some (.ref p), some (.int (0 + (i : Nat))), some (.int (L.length : Int)), some (.ref t), some (.int (h : Int)), some (.str (mS (T' ++ L))), some (.int ((q' : Nat) : Int)), some (.ref a1), some (.ref a2), s10, s11, s12, s13, s14, s15] ∧ Sx TT p pc (100 * i + 26) H' ∧ PauliAt C H' a1 L q' ∧ PauliAt C H' a2 L g, ?_, ?_⟩
      · obtain ⟨n, hn, hP, tb⟩ := x8
        refine ⟨_, rfl, _, rfl, _, rfl, p, pc, n, 4, rfl, hP, by omega, by decide, by decide, fun y H9 y0 y1 hP9 hk9 => ⟨_, _, rfl, rfl, .inl ⟨_, rfl, _, _, rfl, rfl, by show (0 : Int) < 4; decide, _, rfl, t, L, 0, (q' + y.toNat) % 4, ?_, by omega, ?_, hL, by omega, fun H10 s10' => ?_⟩⟩⟩
        · have e : (((q' : Nat) : Int) + y) % 4 = (((q' + y.toNat) % 4 : Nat) : Int) := by omega
          show [V.ref t, V.int ((((q' : Nat) : Int) + y) % 4), V.int (L.length : Int)] = _
          rw [e]
        · rw [hk9 t (pen_off hP et8 (by intro kv z; cases z))]
          exact et8
        · obtain ⟨u1, u2, u3⟩ := read_own hL h0 (by omega : (q' + y.toNat) % 4 < 4)
          have := headL_len (by omega : (q' + y.toNat) % 4 < 4)
          refine fun x dx nx nd ne => ⟨x, dx, _, rfl, upd_same, .inl ⟨headL ((q' + y.toNat) % 4) ++ L, rfl, by rw [List.length_append]; omega, .inl ⟨u3, fun H' PB k => ⟨rfl, x, (q' + y.toNat) % 4, by omega, rfl, ?_, ?_, ?_⟩⟩⟩⟩
          · exact ((sx_step hP tb hP9 (KeepP.of_eq hk9) (by omega) : Sx TT p pc (100 * i + 26) H9).same s10').same (make_same nx nd k)
          · exact ((PA8.keep fun o e => by rw [hk9 a1 (PA8.off hP)]; exact e).same s10').same (make_same nx nd k)
          · rw [u1, u2] at PB
            exact PB
      rintro _ H9 ⟨a2, g, g4, rfl, x9, PA9, PB9⟩
      clear x8 et8 PA8
      -- equal by letters and phase
      have fl1 : (headL q' ++ L).length ≤ 1000 := by
        have := headL_len q4
        rw [List.length_append]
        omega
      obtain ⟨u1, u2, u3⟩ := read_own hL h0 q4
      refine ⟨fun σ' H' => σ' = [some (.ref a), some (.ref p), some (.int (0 + (i : Nat))), some (.int (L.length : Int)), some (.ref t), some (.int (h : Int)), some (.str (mS (T' ++ L))), some (.int ((q' : Nat) : Int)), some (.ref a1), some (.ref a2), s10, s11, s12, s13, s14, s15] ∧ Same H9 H', ?_, ?_⟩
      · obtain ⟨dx1, fs1, e1, k1, k2, k34⟩ := id PA9
        obtain ⟨dx2, fs2, e2, l1, l2, l34⟩ := id PB9
        refine ⟨_, rfl, _, rfl, a1, dx1, fs1, rfl, e1, .inl ⟨a2, dx2, fs2, rfl, e2⟩, a1, .ref a2, L, q', rfl, PA9, .inl ⟨a2, L, g, rfl, PB9, ⟨_, rfl⟩, ?_⟩⟩
        refine ⟨_, rfl, a1, C, dx1, fs1, _, rfl, e1, T.N.cl, T.N.nP, k2, _, rfl, a2, C, dx2, fs2, _, rfl, e2, T.N.cl, T.N.nP, l2, rfl, rfl, _, rfl, ?_⟩
        have eb : (decide (L = L) && decide (q' = g)) = decide (V.int ((q' : Nat) : Int) = V.int ((g : Nat) : Int)) := by
          rw [decide_eq_true (rfl : L = L), Bool.true_and]
          by_cases z : q' = g
          · subst z
            rw [decide_eq_true rfl, decide_eq_true rfl]
          · rw [decide_eq_false z, decide_eq_false (fun y => z (by have := V.int.inj y; omega))]
        rw [eb, decide_eq_true rfl]
        refine iteF ?_
        refine ⟨_, rfl, _, rfl, a1, L, q', rfl, PA9, q4, by omega, fun x dx nx nd ne => ⟨x, dx, _, rfl, upd_same, .inl ⟨headL q' ++ L, rfl, fl1, .inl ⟨u3, fun H' PB k => ⟨rfl, ?_⟩⟩⟩⟩⟩
        have ms := make_same nx nd k
        rw [u1, u2] at PB
        obtain ⟨dx3, fs3, e3, _⟩ := id PB
        refine ⟨a1, dx1, fs1, rfl, ms _ _ e1, .inl ⟨x, dx3, fs3, rfl, e3⟩, a1, .ref x, L, q', rfl, PA9.same ms, .inl ⟨x, L, q', rfl, PB, ⟨_, rfl⟩, _, rfl, ?_⟩⟩
        rw [decide_eq_true rfl, decide_eq_true rfl]
        exact iteF ⟨rfl, ms⟩
      rintro _ H10 ⟨rfl, s10'⟩
      have x10 := x9.same s10'
      have PA10 := PA9.same s10'
      clear x9 PA9 PB9 s10'
      -- unlike a text, and a longer one
      refine ⟨fun σ' H' => σ' = [some (.ref a), some (.ref p), some (.int (0 + (i : Nat))), some (.int (L.length : Int)), some (.ref t), some (.int (h : Int)), some (.str (mS (T' ++ L))), some (.int ((q' : Nat) : Int)), some (.ref a1), some (.ref a2), s10, s11, s12, s13, s14, s15] ∧ Same H10 H', ?_, ?_⟩
      · obtain ⟨dx1, fs1, e1, k1, k2, k34⟩ := id PA10
        refine ⟨_, rfl, _, rfl, a1, dx1, fs1, rfl, e1, .inr ⟨_, rfl⟩, a1, _, L, q', rfl, PA10, .inr ⟨⟨_, rfl⟩, ⟨_, rfl⟩, _, rfl, iteF ?_⟩⟩
        have eI : mS (T' ++ L) ++ ("I" : Str) = mS (T' ++ (L ++ [73])) := by
          rw [e_I, ← List.append_assoc]
          exact mS_app _ _
        have hL2 : Lets (L ++ [73]) := by
          intro x hx
          rcases List.mem_append.mp hx with hx | hx
          · exact hL x hx
          · rw [List.mem_singleton.mp hx]
            exact isL_iff.mpr (.inl rfl)
        obtain ⟨w1, w2, w3⟩ := read_tab hL2 (by simp) eT
        refine ⟨_, rfl, _, rfl, _, _, rfl, rfl, ?_, fun x dx nx nd ne => ⟨x, dx, .str (mS (T' ++ (L ++ [73]))), ?_, upd_same, .inl ⟨T' ++ (L ++ [73]), rfl, ?_, .inl ⟨w3, fun H' PB k => ⟨rfl, ?_⟩⟩⟩⟩⟩
        · rw [mS_len, show ("I" : Str).length = 1 from by decide +kernel]
          exact sizeBig (by omega)
        · rw [← eI]
          rfl
        · simp only [List.length_append, List.length_cons, List.length_nil]
          omega
        have ms := make_same nx nd k
        rw [w1, w2] at PB
        obtain ⟨dx3, fs3, e3, _⟩ := id PB
        refine ⟨a1, dx1, fs1, rfl, ms _ _ e1, .inl ⟨x, dx3, fs3, rfl, e3⟩, a1, .ref x, L, q', rfl, PA10.same ms, .inl ⟨x, L ++ [73], q', rfl, PB, ⟨_, rfl⟩, _, rfl, ?_⟩⟩
        rw [decide_eq_false (fun z : L = L ++ [73] => by have := congrArg List.length z; simp at this)]
        exact iteF ⟨rfl, ms⟩
      rintro _ H11 ⟨rfl, s11'⟩
      have x11 := x10.same s11'
      clear x10 PA10 s11'
      -- four bent texts
      refine ⟨fun σ' H' => ∃ (s2 s3 s4 s5 s6 s7 s8 s9 s10 s11 s12 s13 s14 s15 : Option V), σ' = [some (.ref a), some (.ref p), s2, s3, s4, s5, s6, s7, s8, s9, s10, s11, s12, s13, s14, s15] ∧ Sx TT p pc (100 * (i + 1)) H', ⟨4, rfl, by decide, by decide, for_range (n := 4) (fun k σ' H' => ∃ s10 s11 s12 s13 s14 s15 : Option V, σ' = [some (.ref a), some (.ref p), some (.int (0 + (i : Nat))), some (.int (L.length : Int)), some (.ref t), some (.int (h : Int)), some (.str (mS (T' ++ L))), some (.int ((q' : Nat) : Int)), some (.ref a1), some (.ref a2), s10, s11, s12, s13, s14, s15] ∧ Sx TT p pc (100 * i + 26 + 4 * k) H')
        ⟨_, _, _, _, _, _, rfl, x11⟩ ?_ (fun _ _ ⟨_, _, _, _, _, _, e, x⟩ => ⟨_, _, _, _, _, _, _, _, _, _, _, _, _, _, e, x.mono (by omega)⟩)⟩, fun _ _ z => z⟩
      clear x11
      rintro k _ H12 hk ⟨z10, z11, z12, z13, z14, z15, rfl, x12⟩
      -- where, and what sign
      refine ⟨fun σ' H' => ∃ (j : Nat) (S : List Nat), j ≤ (T' ++ L).length ∧ S.length ≤ 1 ∧ σ' = [some (.ref a), some (.ref p), some (.int (0 + (i : Nat))), some (.int (L.length : Int)), some (.ref t), some (.int (h : Int)), some (.str (mS (T' ++ L))), some (.int ((q' : Nat) : Int)), some (.ref a1), some (.ref a2), some (.int (0 + (k : Nat))), some (.int (j : Int)), some (.str (mS S)), z13, z14, z15] ∧ Sx TT p pc (100 * i + 28 + 4 * k) H', ?_, ?_⟩
      · obtain ⟨n, hn, hP, tb⟩ := x12
        refine ⟨_, rfl, _, rfl, _, rfl, hzB, _, _, rfl, rfl, p, pc, n, _, rfl, hP, by omega, by omega, ?_, fun y H13 y0 y1 hP13 hk13 => ?_⟩
        · rw [mS_len]
          exact Nat.lt_of_le_of_lt (by omega : _ ≤ 25) (by decide)
        rw [mS_len] at y1
        refine ⟨_, rfl, _, rfl, by decide +kernel, fun l nl => ⟨by show 1 ≤ sizeLine; decide, fun r2 nr2 => ?_⟩⟩
        have nrl : r2 ≠ l := fun z => by rw [z, upd_same] at nr2; cases nr2
        refine ⟨l, r2, _, _, rfl, rfl, (upd_ne nrl.symm).trans upd_same, upd_same, by decide +kernel, fun pp npp => ?_⟩
        have sa := fun o : HO => ((same_new (o := HO.lst (("IXYZ+-i Axyz0_\n*" : Str).cps.toList.map fun c => V.str ⟨#[c]⟩)) nl).trans (same_new nr2)).trans (same_new (o := o) npp)
        refine ⟨p, pc, pp, n + 1, _, rfl, pen_sm hP13 (sa _), by omega, .inl (SqL.of upd_same), by simp, by decide +kernel, fun u v H14 hv hP14 hk14 => ?_⟩
        obtain ⟨S, rfl, hS⟩ : ∃ S : List Nat, v = .str (mS S) ∧ S.length ≤ 1 := by
          rcases List.mem_append.mp (List.mem_of_getElem? hv) with h | h
          · obtain ⟨c, _, rfl⟩ := List.mem_map.mp h
            exact ⟨[c], rfl, by simp⟩
          · rw [List.mem_singleton.mp h]
            exact ⟨[], by rw [e_no], by simp⟩
        refine ⟨_, _, rfl, y.toNat, S, by omega, hS, ?_, ?_⟩
        · have e : ((y.toNat : Nat) : Int) = y := by omega
          rw [e]
          rfl
        · have t13 := tabs_keepP hP tb (KeepP.of_eq hk13)
          exact sx_step (pen_sm hP13 (sa _)) (Tabs.ext t13 (sa _)) hP14 (KeepP.of_eq hk14) (by omega)
      rintro _ H13 ⟨j, S, hj, hS, rfl, x13⟩
      clear x12
      -- the bent text
      refine ⟨fun σ' H' => ∃ D : List Nat, D.length ≤ 100 ∧ σ' = [some (.ref a), some (.ref p), some (.int (0 + (i : Nat))), some (.int (L.length : Int)), some (.ref t), some (.int (h : Int)), some (.str (mS (T' ++ L))), some (.int ((q' : Nat) : Int)), some (.ref a1), some (.ref a2), some (.int (0 + (k : Nat))), some (.int (j : Int)), some (.str (mS S)), z13, some (.str (mS D)), z15] ∧ Sx TT p pc (100 * i + 29 + 4 * k) H', ?_, ?_⟩
      · obtain ⟨n, hn, hP, tb⟩ := x13
        refine ⟨_, rfl, _, rfl, _, rfl, _, rfl, hzB, _, rfl, _, _, rfl, rfl, ?_, ?_⟩
        · rw [cut_to, mS_len, mS_len, List.length_take]
          exact sizeBig (by omega)
        refine ⟨_, rfl, _, rfl, _, rfl, p, pc, n, 2, rfl, hP, by omega, by decide, by decide, fun y H14 y0 y1 hP14 hk14 => ⟨_, _, rfl, rfl, _, rfl, _, rfl, hzB, _, _, rfl, rfl, ?_, ?_⟩⟩
        · have e : ((j : Nat) : Int) + y = ((j + y.toNat : Nat) : Int) := by omega
          rw [e, cut_to, cut_from, mS_app, mS_len, mS_len, List.length_append, List.length_take, List.length_drop]
          exact sizeBig (by omega)
        · have e : ((j : Nat) : Int) + y = ((j + y.toNat : Nat) : Int) := by omega
          refine ⟨((T' ++ L).take j ++ S) ++ (T' ++ L).drop (j + y.toNat), ?_, ?_, sx_step hP tb hP14 (KeepP.of_eq hk14) (by omega)⟩
          · rw [List.length_append, List.length_append, List.length_take, List.length_drop]
            omega
          · show [_, _, _, _, _, _, _, _, _, _, _, _, _, _, some (V.str (cutS (mS (T' ++ L)) none (some ((j : Nat) : Int)) ++ mS S ++ cutS (mS (T' ++ L)) (some (((j : Nat) : Int) + y)) none)), _] = _
            rw [e, cut_to, cut_from, mS_app, mS_app]
      rintro _ H14 ⟨D, hD, rfl, x14⟩
      clear x13
      have hzD : (mS D).length ≤ sizeLine := by rw [mS_len]; exact sizeBig (by omega)
      -- perhaps cut
      refine ⟨fun σ' H' => ∃ D : List Nat, D.length ≤ 100 ∧ σ' = [some (.ref a), some (.ref p), some (.int (0 + (i : Nat))), some (.int (L.length : Int)), some (.ref t), some (.int (h : Int)), some (.str (mS (T' ++ L))), some (.int ((q' : Nat) : Int)), some (.ref a1), some (.ref a2), some (.int (0 + (k : Nat))), some (.int (j : Int)), some (.str (mS S)), z13, some (.str (mS D)), z15] ∧ Sx TT p pc (100 * i + 30 + 4 * k) H', ?_, ?_⟩
      · obtain ⟨n, hn, hP, tb⟩ := x14
        refine ⟨_, rfl, p, pc, n, 5, rfl, hP, by omega, by decide, by decide, fun y H15 y0 y1 hP15 hk15 => ⟨rfl, _, rfl, ite2 (fun _ => ?_) (fun _ => ?_)⟩⟩
        · refine ⟨_, rfl, _, rfl, _, rfl, _, rfl, hzD, D.take j, by rw [List.length_take]; omega, ?_, sx_step hP tb hP15 (KeepP.of_eq hk15) (by omega)⟩
          rw [cut_to]
          rfl
        · exact ⟨_, rfl, D, hD, rfl, sx_step hP tb hP15 (KeepP.of_eq hk15) (by omega)⟩
      rintro _ H15 ⟨D, hD, rfl, x15⟩
      clear x14 hzD
      -- the column
      refine ⟨fun σ' H' => σ' = [some (.ref a), some (.ref p), some (.int (0 + (i : Nat))), some (.int (L.length : Int)), some (.ref t), some (.int (h : Int)), some (.str (mS (T' ++ L))), some (.int ((q' : Nat) : Int)), some (.ref a1), some (.ref a2), some (.int (0 + (k : Nat))), some (.int (j : Int)), some (.str (mS S)), some (.int ((col D : Nat) : Int)), some (.str (mS D)), z15] ∧ Same H15 H', ?_, ?_⟩
      · exact ⟨_, rfl, D, rfl, by omega, fun H' s' => ⟨rfl, s'⟩⟩
      rintro _ H16 ⟨rfl, s16⟩
      have x16 := x15.same s16
      clear x15 s16
      obtain ⟨n, hn, hP, tb⟩ := id x16
      refine ⟨tb, fun H1 x1 tb1 p0 np0 => ⟨_, rfl, fun x dx nx nd ne => ⟨x, dx, _, rfl, upd_same, .inl ⟨D, rfl, by omega, ?_⟩⟩⟩⟩
      have xb := x16.ext x1 tb1
      by_cases hf : fine D
      · refine .inl ⟨hf, fun H' PB kp => ⟨rfl, _, rfl, ?_⟩⟩
        have ms : Same H1 H' := (same_new np0).trans (make_same nx nd kp)
        have e0 : H' p0 = some (.tup [.str ("none" : Str)]) := make_same nx nd kp _ _ upd_same
        refine ⟨_, rfl, _, _, rfl, rfl, _, rfl, ?_⟩
        rw [decide_eq_false (by rw [col_zero.mpr hf]; decide : ¬ ((0 : Int) < ((col D : Nat) : Int)))]
        refine iteF ⟨by show 1 ≤ sizeLine; decide, fun r nr => ne1 (same_new nr _ _ e0) upd_same ⟨_, rfl, iteF ?_⟩⟩
        exact ⟨_, _, _, _, _, _, rfl, ((xb.same ms).same (same_new nr)).mono (by omega)⟩
      · refine .inr ⟨hf, fun d H2 s2 ed => ⟨d, .int 1, .int ((col D : Nat) : Int), rfl, rfl, ed, fun pp npp => ?_⟩⟩
        have hpos : (0 : Int) < ((col D : Nat) : Int) := by
          have : col D ≠ 0 := fun z => hf (col_zero.mp z)
          omega
        have ms : Same H1 (upd H2 pp (.tup [.str "text", .int 1, .int ((col D : Nat) : Int)])) := by
          intro b o e
          have h1 := same_new np0 (o := HO.tup [.str "none"]) b o e
          have hx : b ≠ x := ne_of_none h1 nx
          have hdx : b ≠ dx := ne_of_none h1 nd
          have h2 := s2 b o (by rw [upd_ne hx, upd_ne hdx]; exact h1)
          exact same_new npp _ _ h2
        refine ⟨_, rfl, _, _, rfl, rfl, _, rfl, ?_⟩
        rw [decide_eq_true hpos]
        refine iteT ⟨_, rfl, by show 3 ≤ sizeLine; decide, fun r nr => ne3 (same_new nr _ _ upd_same) upd_same ⟨_, rfl, iteF ?_⟩⟩
        exact ⟨_, _, _, _, _, _, rfl, ((xb.same ms).same (same_new nr)).mono (by omega)⟩
    rintro _ H2 ⟨s2, s3, s4, s5, s6, s7, s8, s9, s10, s11, s12, s13, s14, s15, rfl, x2⟩
    clear x1
    -- what is no text
    refine ⟨fun σ' H' => ∃ odd : V, σ' = [some (.ref a), some (.ref p), s2, s3, s4, s5, s6, s7, s8, s9, s10, s11, s12, s13, s14, some odd] ∧ Odd H' odd ∧ Sx TT p pc 401 H', ?_, ?_⟩
    · obtain ⟨n, hn, hP, tb⟩ := x2
      refine ⟨_, rfl, by show 1 ≤ sizeLine; decide, fun l1 n1 => ⟨by show 2 ≤ sizeLine; decide, fun l2 n2 d nd => ⟨upd_same, [((.inr "X" : Key), V.int 1)], rfl, by show 1 ≤ 15; decide, ?_⟩⟩⟩
      refine ⟨by show 6 ≤ sizeLine; decide, fun l3 n3 => ?_⟩
      have a1 := same_new (o := HO.lst [V.str "X"]) n1
      have a2 := same_new (o := HO.tup [V.str "X", V.str "Z"]) n2
      have e1 := a2 _ _ (upd_same (H := H2) (a := l1) (o := HO.lst [V.str "X"]))
      have e2 : (upd (upd H2 l1 (.lst [.str "X"])) l2 (.tup [.str "X", .str "Z"])) l2 = some (.tup [.str "X", .str "Z"]) := upd_same
      have nl3 : l3 ≠ d := fun z => by rw [z, upd_same] at n3; cases n3
      have a3 : ∀ (o1 o2 o3 : HO), Same (upd (upd H2 l1 (.lst [.str "X"])) l2 (.tup [.str "X", .str "Z"])) (upd (upd (upd (upd (upd H2 l1 (.lst [.str "X"])) l2 (.tup [.str "X", .str "Z"])) d o1) d o2) l3 o3) := by
        intro o1 o2 o3 b o e
        have h1 : b ≠ d := ne_of_none e nd
        have h2 : b ≠ l3 := fun z => by
          rw [← z, upd_ne h1, upd_ne h1, e] at n3
          cases n3
        rw [upd_ne h2, upd_ne h1, upd_ne h1]
        exact e
      have all := fun o1 o2 o3 => (a1.trans a2).trans (a3 o1 o2 o3)
      refine ⟨p, pc, l3, n, _, rfl, pen_sm hP (all _ _ _), by omega, .inl (SqL.of upd_same), by simp, by show 6 ≤ 1000; decide, fun j v H3 hj hP3 hk3 => ⟨v, rfl, ?_, ?_⟩⟩
      · have hPa := pen_sm hP (all (.dK []) (.dK [((.inr "X" : Key), V.int 1)]) (.lst []))
        obtain ⟨⟨op, ep⟩, _⟩ := pen_get hP
        have keep : ∀ b o, (upd (upd H2 l1 (.lst [.str "X"])) l2 (.tup [.str "X", .str "Z"])) b = some o → b ≠ p → H3 b = some o := fun b o e hb => by
          rw [hk3 b hb]
          exact a3 _ _ _ _ _ e
        have hP2 := pen_sm hP (a1.trans a2)
        have := List.mem_of_getElem? hj
        simp only [List.mem_cons, List.mem_nil_iff, or_false] at this
        rcases this with h | h | h | h | h | h <;> subst h
        · exact .inl rfl
        · exact .inr (.inr (.inl ⟨_, rfl⟩))
        · exact .inr (.inl ⟨_, rfl⟩)
        · exact .inr (.inr (.inr (.inl ⟨_, _, rfl, keep _ _ e1 (pen_off hP2 e1 (by intro kv z; cases z))⟩)))
        · exact .inr (.inr (.inr (.inr (.inl ⟨_, _, rfl, keep _ _ e2 (pen_off hP2 e2 (by intro kv z; cases z))⟩))))
        · have hd : d ≠ p := Ne.symm (ne_of_none ((a1.trans a2) _ _ ep) nd)
          exact .inr (.inr (.inr (.inr (.inr ⟨d, _, rfl, ((hk3 d hd).trans (upd_ne nl3.symm)).trans upd_same⟩))))
      · exact sx_step (pen_sm hP (all _ _ _)) (Tabs.ext tb (all _ _ _)) hP3 (KeepP.of_eq hk3) (by omega)
    rintro _ H3 ⟨odd, rfl, ho, x3⟩
    clear x2
    refine ⟨fun σ' H' => Sx TT p pc 401 H', ?_, ?_⟩
    · obtain ⟨n, hn, hP, tb⟩ := id x3
      refine ⟨tb, fun H1 x1 tb1 p0 np0 => ⟨_, rfl, fun x dx nx nd ne => ⟨x, dx, odd, rfl, upd_same, .inr ⟨odd_make ((ho.ext x1).same (same_new np0)) nx nd, fun d H4 s4' ed => ⟨d, .int 0, .int 0, rfl, rfl, ed, fun pp npp => ?_⟩⟩⟩⟩⟩
      refine ⟨by show 3 ≤ sizeLine; decide, fun r nr => ne3 (same_new nr _ _ upd_same) upd_same ⟨_, rfl, iteF ?_⟩⟩
      have ms : Same H1 (upd H4 pp (.tup [.str "text", .int 0, .int 0])) := by
        intro b o e
        have h1 := same_new np0 (o := HO.tup [.str "none"]) b o e
        have h2 := s4' b o (by rw [upd_ne (ne_of_none h1 nx), upd_ne (ne_of_none h1 nd)]; exact h1)
        exact same_new npp _ _ h2
      exact ((x3.ext x1 tb1).same ms).same (same_new nr)
    rintro σ4 H4 x4
    obtain ⟨n, hn, hP, tb⟩ := id x4
    have nf : ¬ fine [] := fun z => z.2 rfl
    have c1 : ((col [] : Nat) : Int) = 1 := by
      unfold col
      rw [if_neg nf]
      rfl
    refine ⟨tb, fun H1 x1 tb1 p0 np0 x dx nx nd ne => ⟨x, dx, .str (mS []), by rw [show mS [] = ("" : Str) from e_no.symm]; rfl, upd_same, .inl ⟨[], rfl, by decide, .inr ⟨nf, fun d H5 s5' ed => ⟨d, .int 1, .int ((col [] : Nat) : Int), rfl, rfl, ed, fun pp npp => ?_⟩⟩⟩⟩⟩
    rw [c1]
    exact ⟨by show 3 ≤ sizeLine; decide, fun r nr => eq3 (same_new nr _ _ upd_same) upd_same (q _)⟩
end
end KQ

namespace KQ
open PySem PySem.Spec PyProof.Rows L2 LamX

/-! ### what the top has written -/
/-- an own exception class straight over the class at cK, which is straight over ValueError -/
structure KC (K : PySem.W.Frag) (cK C : Addr) : Prop where
  l : ∃ nm q N bs sn sub ab col dd k0 k1 k2 k3 k5, K.lookup C = some (excClassObj nm q C N bs [.ref cK, .type "ValueError", .type "Exception", .type "BaseException", .type "object"] true sn sub ab col dd k0 k1 k2 k3 k5 "ValueError.__new__")
  sa : PySem.W.findIn K (Value.ref C) "__setattr__" = some (some (.builtin "object.__setattr__"))
  ty : PySem.W.typeIn K (.ref C) = some (.type "type")
  kp : PySem.W.keepIn K (Value.ref C) = true
  hg : PySem.W.findIn K (.ref C) "__getattribute__" = some (some (.builtin "BaseException.__getattribute__"))
  hk : PySem.W.findIn K (.ref C) "__getattr__" = some none
  ha : PySem.W.findIn K (Value.ref C) "__class__" = some (some (.builtin "object.__class__"))
theorem KC.of {K : PySem.W.Frag} {cK C N : Addr} {nm q : Str} {bs : List Value} {sn : List Str} {sub : List Value} {ab : Bool} {col : Option Bool} {dd : Option Addr} {k0 k1 k2 k3 k5 : Option Value}
    (l : K.lookup C = some (excClassObj nm q C N bs [.ref cK, .type "ValueError", .type "Exception", .type "BaseException", .type "object"] true sn sub ab col dd k0 k1 k2 k3 k5 "ValueError.__new__"))
    (sa : PySem.W.findIn K (.ref C) "__setattr__" = some (some (.builtin "object.__setattr__"))) (ty : PySem.W.typeIn K (.ref C) = some (.type "type")) (kp : PySem.W.keepIn K (.ref C) = true)
    (hg : PySem.W.findIn K (.ref C) "__getattribute__" = some (some (.builtin "BaseException.__getattribute__"))) (hk : PySem.W.findIn K (.ref C) "__getattr__" = some none)
    (ha : PySem.W.findIn K (.ref C) "__class__" = some (some (.builtin "object.__class__"))) : KC K cK C := ⟨⟨_, _, _, _, _, _, _, _, _, _, _, _, _, _, l⟩, sa, ty, kp, hg, hk, ha⟩
theorem fun_ex {K : PySem.W.Frag} {x qual : Str} {st : Stmt} {f : Addr} {oc : Value} {od an : Option Addr} {osl : Array (Option Value)} {kV doc pm cdv ct : Value} (l : K.lookup f = some ⟨oc, od, .func (PySem.W.fnOf x qual (defArgs st) (defBody st) (defScope st) .none kV doc pm an cdv ct), osl⟩)
    (c : PySem.W.codeIn K cdv qual = true) (k : PySem.W.keepIn K (.ref f) = true) : ∃ d, Fun K x qual st f d := ⟨_, L2.fun_mk l c k⟩
theorem KC.cls {K : PySem.W.Frag} {cK C : Addr} (h : KC K cK C) : ∃ cd, PySem.W.clsIn K C = some cd ∧ cd.mro = [.ref C, .ref cK, .type "ValueError", .type "Exception", .type "BaseException", .type "object"] ∧ cd.hasDict = true := by
  obtain ⟨nm, q, N, bs, sn, sub, ab, col, dd, k0, k1, k2, k3, k5, hl⟩ := h.l
  refine ⟨_, by unfold PySem.W.clsIn; rw [hl] <;> rfl, rfl, rfl⟩
theorem KC.mro {K : PySem.W.Frag} {cK C : Addr} (h : KC K cK C) (b : Value) : PySem.W.mroIn K C b = some ([Value.ref C, .ref cK, .type "ValueError", .type "Exception", .type "BaseException", .type "object"].contains b) := by
  obtain ⟨cd, e, m, _⟩ := h.cls
  unfold PySem.W.mroIn
  rw [e, Option.bind_some, m]
  rfl
theorem KC.exC {K : PySem.W.Frag} {cK C : Addr} (h : KC K cK C) : PySem.W.subIn K (.ref C) (.type "BaseException") = some true := by
  show PySem.W.mroIn K C _ = _
  rw [h.mro]
  rfl
theorem KC.ox {K : PySem.W.Frag} {cK C : Addr} (h : KC K cK C) : OexC K C := by
  obtain ⟨nm, q, N, bs, sn, sub, ab, col, dd, k0, k1, k2, k3, k5, hl⟩ := h.l
  exact ⟨⟨nm, q, N, bs, _, sn, sub, ab, col, dd, k0, k1, k2, k3, k5, hl, rfl⟩, h.sa, h.exC, h.ty, h.kp⟩

theorem KC.hd {K : PySem.W.Frag} {cK C : Addr} (h : KC K cK C) : PySem.W.hasDictIn K C = true := by
  obtain ⟨cd, e, _, d⟩ := h.cls
  show (PySem.W.clsIn K C).any _ = true
  rw [e]
  exact d
theorem KC.xf {K : PySem.W.Frag} {cK C : Addr} (h : KC K cK C) : XfC K C := ⟨h.hg, h.hk, h.exC, h.hd⟩
theorem KC.ex {K : PySem.W.Frag} {cK C : Addr} (h : KC K cK C) : PySem.W.exmOne K (.ref C) (.ref C) = some true := by
  refine PySem.W.exm_ref h.exC h.hd h.ty ?_
  show PySem.W.mroIn K C _ = _
  rw [h.mro, List.contains_cons, beq_self_eq_true, Bool.true_or]


theorem hd_ex {K : PySem.W.Frag} {A : Addr} {t0 t1 t2 t3 : Tok} {n : Nat} {sl : Array (Option Value)} (l : K.lookup A = some ⟨.type "tuple", none, .seq #[.str "" t0, .str "i" t1, .str "-" t2, .str "-i" t3] n, sl⟩) : ∃ t0 t1 t2 t3 n sl, K.lookup A = some ⟨.type "tuple", none, .seq #[.str "" t0, .str "i" t1, .str "-" t2, .str "-i" t3] n, sl⟩ := ⟨_, _, _, _, _, _, l⟩

theorem all_mk {l : PySem.W.OpenLaw} {w : World} {K : PySem.W.Frag} {h : Heap} {mg : Str → Option Value} {fa : Addr} {CX : CXT} (eCX : CX = CX0) (X : K.In h) (G : h.Ns mainGlobals mg) (hfa : mg "law" = some (.ref fa)) {ts : List Addr} (hTs : ∀ R ∈ ts, h.get? R = some (PySem.W.tabObj #[]))
    {cK C CT fI fE fB hA cN cU cA cM fC fTx fPn fDr fPk fOn fLe fOt fWt fSo fWy fPh fTo fCo fLa c tP : Addr} {oc ec kV doc pm ct : Value} {od an dc : Option Addr} {osl sc : Array (Option Value)} {vc : Array Value}
    (aK : PySem.W.nsIn K mainGlobals "KeptError" = some (some (.ref cK)))
    (aT : PySem.W.nsIn K mainGlobals "BadText" = some (some (.ref CT)))
    (aP : PySem.W.nsIn K mainGlobals "Pauli" = some (some (.ref C)))
    (aH : PySem.W.nsIn K mainGlobals "HEADS" = some (some (.ref hA)))
    (aN : PySem.W.nsIn K mainGlobals "BadNumber" = some (some (.ref cN)))
    (aU : PySem.W.nsIn K mainGlobals "Unlike" = some (some (.ref cU)))
    (aA : PySem.W.nsIn K mainGlobals "Anticommute" = some (some (.ref cA)))
    (aM : PySem.W.nsIn K mainGlobals "MinusOne" = some (some (.ref cM)))
    (kc : KC K cK CT)
    (icT : PySem.W.findIn K (.ref CT) "__init__" = some (some (.ref fB)))
    (tiT : PySem.W.typeIn K (.ref fB) = some (.type "function"))
    (nt0 : PySem.W.findIn K (.ref CT) "line" = some none)
    (nt1 : PySem.W.findIn K (.ref CT) "column" = some none)
    (nt2 : PySem.W.findIn K (.ref CT) "what" = some none)
    (nt3 : PySem.W.findIn K (.ref CT) "number" = some none)
    (nt4 : PySem.W.findIn K (.ref CT) "one" = some none)
    (nt5 : PySem.W.findIn K (.ref CT) "other" = some none)
    (nt6 : PySem.W.findIn K (.ref CT) "indices" = some none)
    (FB : ∃ d, Fun K "__init__" "BadText.__init__" sInitT fB d)
    (pgP : PySem.W.plainGet K C Str.empty = true)
    (hdi : PySem.W.hasDictIn K C = true)
    (po : PySem.W.plainOver K C = true)
    (saP : PySem.W.findIn K (.ref C) "__setattr__" = some (some (.builtin "object.__setattr__")))
    (np0 : PySem.W.findIn K (.ref C) "letters" = some none)
    (np1 : PySem.W.findIn K (.ref C) "phase" = some none)
    (np2 : PySem.W.findIn K (.ref C) "size" = some none)
    (np3 : PySem.W.findIn K (.ref C) "weight" = some none)
    (mkC : PySem.W.makesIn K C = true)
    (icP : PySem.W.findIn K (.ref C) "__init__" = some (some (.ref fI)))
    (ifP : PySem.W.isFn K (.ref fI) = true)
    (kpP : PySem.W.keepIn K (.ref C) = true)
    (haP : PySem.W.findIn K (.ref C) "__class__" = some (some (.builtin "object.__class__")))
    (hnP : PySem.W.specialIn K (.builtin "object.__class__") "__get__" = some (some (.builtin "getset_descriptor.__get__")))
    (htP : PySem.W.takesIn K (.builtin "object.__class__") = some true)
    (hmP : PySem.W.mroIn K C (.type "object") = some true)
    (kCP : PySem.W.kitOne K (.ref C) (.ref C) = some true)
    (kSP : PySem.W.kitOne K (.type "str") (.ref C) = some false)
    (eqP : PySem.W.findIn K (.ref C) "__eq__" = some (some (.ref fE)))
    (efP : PySem.W.isFn K (.ref fE) = true)
    (enP : PySem.W.notFirst K C (.type "str") = true)
    (hl : ∃ t0 t1 t2 t3 n sl, K.lookup hA = some ⟨.type "tuple", none, .seq #[.str "" t0, .str "i" t1, .str "-" t2, .str "-i" t3] n, sl⟩)
    (FI : ∃ d, Fun K "__init__" "Pauli.__init__" sInit fI d)
    (FE : ∃ d, Fun K "__eq__" "Pauli.__eq__" sEq fE d)
    (gC : PySem.W.nsIn K mainGlobals "_cut_text" = some (some (.ref fC)))
    (FC : ∃ d, Fun K "_cut_text" "_cut_text" sCut fC d)
    (gTx : PySem.W.nsIn K mainGlobals "pauli_text" = some (some (.ref fTx)))
    (FTx : ∃ d, Fun K "pauli_text" "pauli_text" sText fTx d)
    (gPn : PySem.W.nsIn K mainGlobals "_law_pen" = some (some (.ref fPn)))
    (FPn : ∃ d, Fun K "_law_pen" "_law_pen" sPen fPn d)
    (gDr : PySem.W.nsIn K mainGlobals "_law_draw" = some (some (.ref fDr)))
    (FDr : ∃ d, Fun K "_law_draw" "_law_draw" sDraw fDr d)
    (gPk : PySem.W.nsIn K mainGlobals "_law_pick" = some (some (.ref fPk)))
    (FPk : ∃ d, Fun K "_law_pick" "_law_pick" sPick fPk d)
    (gOn : PySem.W.nsIn K mainGlobals "_law_ones" = some (some (.ref fOn)))
    (FOn : ∃ d, Fun K "_law_ones" "_law_ones" sOnes fOn d)
    (gLe : PySem.W.nsIn K mainGlobals "_law_letters" = some (some (.ref fLe)))
    (FLe : ∃ d, Fun K "_law_letters" "_law_letters" sLett fLe d)
    (gOt : PySem.W.nsIn K mainGlobals "_law_of_text" = some (some (.ref fOt)))
    (FOt : ∃ d, Fun K "_law_of_text" "_law_of_text" sOfT fOt d)
    (gWt : PySem.W.nsIn K mainGlobals "_law_weight" = some (some (.ref fWt)))
    (FWt : ∃ d, Fun K "_law_weight" "_law_weight" sWt fWt d)
    (gSo : PySem.W.nsIn K mainGlobals "_law_some_string" = some (some (.ref fSo)))
    (FSo : ∃ d, Fun K "_law_some_string" "_law_some_string" sSome fSo d)
    (gWy : PySem.W.nsIn K mainGlobals "_law_why" = some (some (.ref fWy)))
    (FWy : ∃ d, Fun K "_law_why" "_law_why" sWhy fWy d)
    (gPh : PySem.W.nsIn K mainGlobals "_law_phased" = some (some (.ref fPh)))
    (FPh : ∃ d, Fun K "_law_phased" "_law_phased" sPh fPh d)
    (gTo : PySem.W.nsIn K mainGlobals "_law_told" = some (some (.ref fTo)))
    (FTo : ∃ d, Fun K "_law_told" "_law_told" sTold fTo d)
    (gCo : PySem.W.nsIn K mainGlobals "_law_column" = some (some (.ref fCo)))
    (FCo : ∃ d, Fun K "_law_column" "_law_column" sCol fCo d)
    (z_isinstance : PySem.W.nsIn K mainGlobals "isinstance" = some none)
    (z_int : PySem.W.nsIn K mainGlobals "int" = some none)
    (z_bool : PySem.W.nsIn K mainGlobals "bool" = some none)
    (z_str : PySem.W.nsIn K mainGlobals "str" = some none)
    (z_len : PySem.W.nsIn K mainGlobals "len" = some none)
    (z_range : PySem.W.nsIn K mainGlobals "range" = some none)
    (z_list : PySem.W.nsIn K mainGlobals "list" = some none)
    (gLa : PySem.W.nsIn K mainGlobals "law" = some (some (.ref fLa)))
    (lk : K.lookup fLa = some ⟨oc, od, .func (PySem.W.fnOf "law" "law" (defArgs sLaw) (defBody sLaw) (defScope sLaw) .none kV doc pm an (.ref c) ct), osl⟩)
    (hcd : PySem.W.codeIn K (.ref c) "law" = true)
    (lc : K.lookup c = some ⟨ec, dc, .fields vc, sc⟩)
    (h11 : vc[11]? = some (.ref tP))
    (nP : K.lookup tP = none)
    (hb : PySem.W.codeHdIn K c tP = true)
    (mem : tP ∈ ts) :
    LawAtS l w K CX 8 63 "_law_script" mg fa h := by
  subst eCX
  have e := hfa.symm.trans (PySem.W.mg_of X G gLa)
  cases e
  obtain ⟨dB, FB⟩ := FB
  have bB := FB.binds (ps := ["self", "line", "column"]) fun _ _ _ _ _ _ us hl => match us, hl with | [_, _, _], _ => rfl
  obtain ⟨dI, FI⟩ := FI
  have bI := FI.binds (ps := ["self", "text"]) fun _ _ _ _ _ _ us hl => match us, hl with | [_, _], _ => rfl
  obtain ⟨dE, FE⟩ := FE
  have bE := FE.binds (ps := ["self", "other"]) fun _ _ _ _ _ _ us hl => match us, hl with | [_, _], _ => rfl
  obtain ⟨dC, FC⟩ := FC
  have bC := FC.binds (ps := ["text"]) fun _ _ _ _ _ _ us hl => match us, hl with | [_], _ => rfl
  obtain ⟨dTx, FTx⟩ := FTx
  have bTx := FTx.binds (ps := ["p"]) fun _ _ _ _ _ _ us hl => match us, hl with | [_], _ => rfl
  obtain ⟨dPn, FPn⟩ := FPn
  have bPn := FPn.binds (ps := ["_law_script"]) fun _ _ _ _ _ _ us hl => match us, hl with | [_], _ => rfl
  obtain ⟨dDr, FDr⟩ := FDr
  have bDr := FDr.binds (ps := ["_law_pen_here", "_law_many"]) fun _ _ _ _ _ _ us hl => match us, hl with | [_, _], _ => rfl
  obtain ⟨dPk, FPk⟩ := FPk
  have bPk := FPk.binds (ps := ["_law_pen_here", "_law_some"]) fun _ _ _ _ _ _ us hl => match us, hl with | [_, _], _ => rfl
  obtain ⟨dOn, FOn⟩ := FOn
  have bOn := FOn.binds (ps := ["_law_number"]) fun _ _ _ _ _ _ us hl => match us, hl with | [_], _ => rfl
  obtain ⟨dLe, FLe⟩ := FLe
  have bLe := FLe.binds (ps := ["_law_string", "_law_size"]) fun _ _ _ _ _ _ us hl => match us, hl with | [_, _], _ => rfl
  obtain ⟨dOt, FOt⟩ := FOt
  have bOt := FOt.binds (ps := ["_law_text"]) fun _ _ _ _ _ _ us hl => match us, hl with | [_], _ => rfl
  obtain ⟨dWt, FWt⟩ := FWt
  have bWt := FWt.binds (ps := ["_law_string"]) fun _ _ _ _ _ _ us hl => match us, hl with | [_], _ => rfl
  obtain ⟨dSo, FSo⟩ := FSo
  have bSo := FSo.binds (ps := ["_law_pen_here", "_law_size"]) fun _ _ _ _ _ _ us hl => match us, hl with | [_, _], _ => rfl
  obtain ⟨dWy, FWy⟩ := FWy
  have bWy := FWy.binds (ps := ["_law_call"]) fun _ _ _ _ _ _ us hl => match us, hl with | [_], _ => rfl
  obtain ⟨dPh, FPh⟩ := FPh
  have bPh := FPh.binds (ps := ["_law_string", "_law_phase", "_law_size"]) fun _ _ _ _ _ _ us hl => match us, hl with | [_, _, _], _ => rfl
  obtain ⟨dTo, FTo⟩ := FTo
  have bTo := FTo.binds (ps := ["_law_pauli", "_law_string", "_law_phase", "_law_size"]) fun _ _ _ _ _ _ us hl => match us, hl with | [_, _, _, _], _ => rfl
  obtain ⟨dCo, FCo⟩ := FCo
  have bCo := FCo.binds (ps := ["_law_text"]) fun _ _ _ _ _ _ us hl => match us, hl with | [_], _ => rfl
  have B : Bl mg := ⟨PySem.W.mg_none_of X G z_isinstance, PySem.W.mg_none_of X G z_int, PySem.W.mg_none_of X G z_bool, PySem.W.mg_none_of X G z_str, PySem.W.mg_none_of X G z_len, PySem.W.mg_none_of X G z_range, PySem.W.mg_none_of X G z_list⟩
  have TT : BT K mg CT fB dB := ⟨kc.ox, icT, tiT, nt0, nt1, PySem.W.mg_of X G aT, FB, bB⟩
  have N : PCl K mg C fI fE := ⟨⟨pgP, hdi, po, saP⟩, np0, np1, np2, np3, ⟨mkC, icP, ifP, kpP⟩, haP, hnP, htP, hmP, kCP, kSP, eqP, efP, enP, PySem.W.mg_of X G aP⟩
  have hd : Hd4 K mg hA := ⟨hl, PySem.W.mg_of X G aH⟩
  have V : Five K mg CT cN cU cA cM := ⟨PySem.W.mg_of X G aN, PySem.W.mg_of X G aU, PySem.W.mg_of X G aA, PySem.W.mg_of X G aM, nt2, nt3, nt4, nt5, nt6⟩
  have T : Top K mg C CT fI fE fB hA cN cU cA cM fC fTx fPn fDr fPk fOn fLe fOt fWt fSo fWy fPh fTo fCo dI dE dB dC dTx dPn dDr dPk dOn dLe dOt dWt dSo dWy dPh dTo dCo := ⟨B, TT, N, hd, V, kc.xf, kc.ex, FI, bI, FE, bE, FC, bC, PySem.W.mg_of X G gC, FTx, bTx, PySem.W.mg_of X G gTx, FPn, bPn, PySem.W.mg_of X G gPn, FDr, bDr, PySem.W.mg_of X G gDr, FPk, bPk, PySem.W.mg_of X G gPk, FOn, bOn, PySem.W.mg_of X G gOn, FLe, bLe, PySem.W.mg_of X G gLe, FOt, bOt, PySem.W.mg_of X G gOt, FWt, bWt, PySem.W.mg_of X G gWt, FSo, bSo, PySem.W.mg_of X G gSo, FWy, bWy, PySem.W.mg_of X G gWy, FPh, bPh, PySem.W.mg_of X G gPh, FTo, bTo, PySem.W.mg_of X G gTo, FCo, bCo, PySem.W.mg_of X G gCo⟩
  refine ⟨PySem.W.fnOf "law" "law" (defArgs sLaw) (defBody sLaw) (defScope sLaw) .none kV doc pm an (.ref c) ct, [(c, tP)], spLawT K tP, fun p hp => ?_, fun p hp => ?_, fun p hp => ?_, fun s v => .of_eq rfl, ?_, ?_⟩
  · rw [List.mem_singleton.mp hp]
    exact hTs tP mem
  · rw [List.mem_singleton.mp hp]
    exact nP
  · rw [List.mem_singleton.mp hp]
    exact PySem.W.codeHd_of_K X hb
  · intro H a ns hl _ hT hS
    exact ⟨a, ns, rfl, hS, hl, hT (c, tP) (List.mem_singleton.mpr rfl), fun _ => rfl⟩
  · intro base _ _ TB
    exact ok_law lk hcd (TB (c, tP) (List.mem_singleton.mpr rfl)) T
theorem walk {l : PySem.W.OpenLaw} {q : Program} {loose : List Str} {XP : (Str → Option Value) → Heap → Prop} {YP : World → Heap → Prop} {d : DefRec} {K : Params → PySem.W.Frag} (hn : l.most = some 63) (hdf : d.params.defaults = [])
    (ts : List Addr) (hY : ∀ (w : World) (h : Heap), YP w h → (K w.params).In h) (hT : ∀ (w : World) (h : Heap), YP w h → ∀ R ∈ ts, h.get? R = some (PySem.W.tabObj #[]))
    (F : ∀ (w : World) (mg : Str → Option Value) (fa : Addr) (h : Heap), (K w.params).In h → h.Ns mainGlobals mg → mg d.name = some (.ref fa) → (∀ R ∈ ts, h.get? R = some (PySem.W.tabObj #[])) → LawAtS l w (K w.params) CX0 8 63 "_law_script" mg fa h) :
    PySem.W.WalkO q loose XP YP l.row.toRowW d [] (fun f vs => PySem.call f vs) :=
  walk_ofTs (n := 63) (k := 8) (x := "_law_script") (CX := fun _ => CX0) hn (by decide) hdf ⟨rfl, by decide, by decide⟩ hY (fun w mg fa h Y X G e => F w mg fa h X G e (hT w h Y)) (fun _ _ _ _ _ z => z)
end KQ
open PySem PySem.W PyProof.Rows
set_option maxRecDepth 100000 in
set_option maxHeartbeats 0 in
theorem PySem.Challenge.cw_keptqubits_k07_texts_of_strings_holds : PySem.Challenge.rw_keptqubits_k07_texts_of_strings.Holds := by
  w_on; o_law; k_head; (case hw => w_witness2)
  k_fill
  refine KQ.walk (l := PySem.Challenge.rw_keptqubits_k07_texts_of_strings) rfl rfl _ (fun w h Y => PySem.W.km_in_of Y) (fun w h Y => PySem.W.km_tabs_of Y) ?F
  case F =>
    intro w mg fa h KX G hmg own
    refine' KQ.all_mk rfl KX G hmg own ?zq_aK ?zq_aT ?zq_aP ?zq_aH ?zq_aN ?zq_aU ?zq_aA ?zq_aM ?zq_kc ?zq_icT ?zq_tiT ?zq_nt0 ?zq_nt1 ?zq_nt2 ?zq_nt3 ?zq_nt4 ?zq_nt5 ?zq_nt6 ?zq_FB ?zq_pgP ?zq_hdi ?zq_po ?zq_saP ?zq_np0 ?zq_np1 ?zq_np2 ?zq_np3 ?zq_mkC ?zq_icP ?zq_ifP ?zq_kpP ?zq_haP ?zq_hnP ?zq_htP ?zq_hmP ?zq_kCP ?zq_kSP ?zq_eqP ?zq_efP ?zq_enP ?zq_hl ?zq_FI ?zq_FE ?zq_gC ?zq_FC ?zq_gTx ?zq_FTx ?zq_gPn ?zq_FPn ?zq_gDr ?zq_FDr ?zq_gPk ?zq_FPk ?zq_gOn ?zq_FOn ?zq_gLe ?zq_FLe ?zq_gOt ?zq_FOt ?zq_gWt ?zq_FWt ?zq_gSo ?zq_FSo ?zq_gWy ?zq_FWy ?zq_gPh ?zq_FPh ?zq_gTo ?zq_FTo ?zq_gCo ?zq_FCo ?zq_z_isinstance ?zq_z_int ?zq_z_bool ?zq_z_str ?zq_z_len ?zq_z_range ?zq_z_list ?zq_gLa ?zq_lk ?zq_hcd ?zq_lc ?zq_h11 ?zq_nP ?zq_hb ?zq_mem
    (case zq_aK => k_is)
    (case zq_aT => k_is)
    (case zq_aP => k_is)
    (case zq_aH => k_is)
    (case zq_aN => k_is)
    (case zq_aU => k_is)
    (case zq_aA => k_is)
    (case zq_aM => k_is)
    (case zq_kc => refine' KQ.KC.of ?l ?sa ?ty ?kp ?hg ?hk ?ha; (case l => k_is); (case sa => k_is); (case ty => k_is); (case kp => k_is); (case hg => k_is); (case hk => k_is); (case ha => k_is))
    (case zq_icT => k_is)
    (case zq_tiT => k_is)
    (case zq_nt0 => k_is)
    (case zq_nt1 => k_is)
    (case zq_nt2 => k_is)
    (case zq_nt3 => k_is)
    (case zq_nt4 => k_is)
    (case zq_nt5 => k_is)
    (case zq_nt6 => k_is)
    (case zq_FB => refine' KQ.fun_ex ?l ?c ?k; (case l => k_is); (case c => k_is); (case k => k_is))
    (case zq_pgP => k_is)
    (case zq_hdi => k_is)
    (case zq_po => k_is)
    (case zq_saP => k_is)
    (case zq_np0 => k_is)
    (case zq_np1 => k_is)
    (case zq_np2 => k_is)
    (case zq_np3 => k_is)
    (case zq_mkC => k_is)
    (case zq_icP => k_is)
    (case zq_ifP => first | k_is | kernel_rfl | decide +kernel)
    (case zq_kpP => k_is)
    (case zq_haP => k_is)
    (case zq_hnP => first | k_is | kernel_rfl | decide +kernel)
    (case zq_htP => first | k_is | kernel_rfl | decide +kernel)
    (case zq_hmP => first | k_is | kernel_rfl | decide +kernel)
    (case zq_kCP => first | k_is | kernel_rfl | decide +kernel)
    (case zq_kSP => first | k_is | kernel_rfl | decide +kernel)
    (case zq_eqP => k_is)
    (case zq_efP => first | k_is | kernel_rfl | decide +kernel)
    (case zq_enP => first | k_is | kernel_rfl | decide +kernel)
    (case zq_hl => refine' KQ.hd_ex ?l; (case l => k_is))
    (case zq_FI => refine' KQ.fun_ex ?l ?c ?k; (case l => k_is); (case c => k_is); (case k => k_is))
    (case zq_FE => refine' KQ.fun_ex ?l ?c ?k; (case l => k_is); (case c => k_is); (case k => k_is))
    (case zq_gC => k_is)
    (case zq_FC => refine' KQ.fun_ex ?l ?c ?k; (case l => k_is); (case c => k_is); (case k => k_is))
    (case zq_gTx => k_is)
    (case zq_FTx => refine' KQ.fun_ex ?l ?c ?k; (case l => k_is); (case c => k_is); (case k => k_is))
    (case zq_gPn => k_is)
    (case zq_FPn => refine' KQ.fun_ex ?l ?c ?k; (case l => k_is); (case c => k_is); (case k => k_is))
    (case zq_gDr => k_is)
    (case zq_FDr => refine' KQ.fun_ex ?l ?c ?k; (case l => k_is); (case c => k_is); (case k => k_is))
    (case zq_gPk => k_is)
    (case zq_FPk => refine' KQ.fun_ex ?l ?c ?k; (case l => k_is); (case c => k_is); (case k => k_is))
    (case zq_gOn => k_is)
    (case zq_FOn => refine' KQ.fun_ex ?l ?c ?k; (case l => k_is); (case c => k_is); (case k => k_is))
    (case zq_gLe => k_is)
    (case zq_FLe => refine' KQ.fun_ex ?l ?c ?k; (case l => k_is); (case c => k_is); (case k => k_is))
    (case zq_gOt => k_is)
    (case zq_FOt => refine' KQ.fun_ex ?l ?c ?k; (case l => k_is); (case c => k_is); (case k => k_is))
    (case zq_gWt => k_is)
    (case zq_FWt => refine' KQ.fun_ex ?l ?c ?k; (case l => k_is); (case c => k_is); (case k => k_is))
    (case zq_gSo => k_is)
    (case zq_FSo => refine' KQ.fun_ex ?l ?c ?k; (case l => k_is); (case c => k_is); (case k => k_is))
    (case zq_gWy => k_is)
    (case zq_FWy => refine' KQ.fun_ex ?l ?c ?k; (case l => k_is); (case c => k_is); (case k => k_is))
    (case zq_gPh => k_is)
    (case zq_FPh => refine' KQ.fun_ex ?l ?c ?k; (case l => k_is); (case c => k_is); (case k => k_is))
    (case zq_gTo => k_is)
    (case zq_FTo => refine' KQ.fun_ex ?l ?c ?k; (case l => k_is); (case c => k_is); (case k => k_is))
    (case zq_gCo => k_is)
    (case zq_FCo => refine' KQ.fun_ex ?l ?c ?k; (case l => k_is); (case c => k_is); (case k => k_is))
    (case zq_z_isinstance => k_is)
    (case zq_z_int => k_is)
    (case zq_z_bool => k_is)
    (case zq_z_str => k_is)
    (case zq_z_len => k_is)
    (case zq_z_range => k_is)
    (case zq_z_list => k_is)
    (case zq_gLa => k_is)
    (case zq_lk => k_is)
    (case zq_hcd => k_is)
    (case zq_lc => k_is)
    (case zq_h11 => rfl)
    (case zq_nP => kernel_rfl)
    (case zq_hb => kernel_rfl)
    (case zq_mem => simp)
