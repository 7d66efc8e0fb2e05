import PyProof.Rows.All
import Wide.All
import OpenK.AllK
import Wide.FinOn
import HandS.ForMost
import HandS.ForExc
import HandS.Evl
import HandS.Star
import HandS.ExcInit
import HandS.ExcField
import HandS.IsInst
import HandS.Conv
import HandS.Flow
import HandS.ClsMeth
import HandS.CallSlots
import HandS.TryMany
import HandS.ExcCtx
import HandS.HotCalls
import HandS.ExcInitHot
import KE.KExcIs
import KE.GoesMore
import HandS.Wide
import HandS.Lambda
import HandS.OwnEq
import HandS.Style
import HandS.SetFor
import HandS.TupAny
import HandS.NoneIn
import KE.KMathGC
import HandS.SortRule
import HandS.GenList
import HandS.GenCall
import HandS.IterNext
import PyProof.ReprRoads
import HandS.DictComp
import HandS.SortInts
import HandS.WordsDict
import HandS.Steps
import PyProof.Rows.StrJoinMade
import PyProof.Rows.StrDigitsNeg
import PyProof.Rows.RegFStrParts
import HandS.Gcd
import KE.SortData
import PyProof.Rows.ReprOcc
import KE.GoesNew
import PyProof.Draws
import HandS.MethStar
import KE.KOpsOwn
import HandS.Nested
import KE.KSuper
import HandS.CallLocal
import HandS.WrittenGet
import HandS.SetBool
import HandS.Strs
import HandS.Deep
import PyProof.SumAnyB
import PyProof.Rows.SumGenD
import HandS.Defaults
import PyProof.FitsBits
import PyProof.NoPylong
import PyProof.InstNe
import KE.SortKeyHeap
import HandS.Keys
import HandS.EndTab
import KE.OsRunLaw
import PySem.Challenge.RW_everybowl_k07_lefts_of_lines
set_option Elab.async false
set_option linter.all false
set_option maxRecDepth 100000
set_option maxHeartbeats 4000000
/-! EB: own layer: values as data (PV), what gives them (EvP), promises that may raise (SpX), several named except clauses. -/
namespace EB
open PySem PySem.Spec PyProof.Rows L2 Evl
/-! ### several clauses, each with a name of its own -/
/-- what the clauses want of an exception out of the body: class, slot of the name, suite -/
def wClauses (K : PySem.W.Frag) (Wo : WX) (D : Ends) : List (Value × Nat × (Addr → Value → Option Addr → TS)) → WX
  | [] => Wo
  | (c, i, ts) :: r => fun cls d σ H => ∃ b, PySem.W.exmOne K cls c = some b ∧
      (b = true → ∀ a, H a = none → ts a cls d { nx := fun σ' H' => D.nx (σ'.set i none) H', rt := D.rt, bk := fun σ' H' => D.bk (σ'.set i none) H', ct := fun σ' H' => D.ct (σ'.set i none) H' } (σ.set i (some (.ref a))) H) ∧
      (b = false → wClauses K Wo D r cls d σ H)
inductive Clauses (X : Cx) : List ExceptHandler → List (Value × Nat × (Addr → Value → Option Addr → TS)) → Prop
  | nil : Clauses X [] []
  | cons {x n : Str} {c : Value} {i : Nat} {ts : Addr → Value → Option Addr → TS} {st0 : Stmt} {more : List Stmt} {p1 p2 : Pos} {hl : List ExceptHandler} {l : List (Value × Nat × (Addr → Value → Option Addr → TS))}
      (nm : Names X x c) (at_ : X.N[i]? = some n) (lc : X.env.kindOf n = some .local)
      (body : ∀ (a : Addr) (ob : Obj) (cls : Value) (d : Option Addr) (pn : List (Addr × Obj)), Zc cls d ob → (∃ vs, ob.data = .fields vs) → L2H.HotC (X.suite a ((a, ob) :: pn)) → PSs (X.suite a ((a, ob) :: pn)) (st0 :: more) (ts a cls d))
      (rest : Clauses X hl l) : Clauses X (.ExceptHandler (some (.Name x p1)) (some n) (st0 :: more) p2 :: hl) ((c, i, ts) :: l)
section
variable {X : Cx} {body : List Stmt} {h0 : ExceptHandler} {hl : List ExceptHandler} {l : List (Value × Nat × (Addr → Value → Option Addr → TS))} {pos : Pos} {tb : WX → TS} {Wo : WX}
theorem ps_try_named (eS : X.stack = X.env :: X.outer) (eF : X.env.frame = some X.env.locals) (nd : X.N.Nodup) (tk : L2N.Takes X Wo)
    (hb : ∀ (W : WX) (pn : List (Addr × Obj)) (xe : Value → Shared → Prop), L2N.Takes (X.tr pn xe) W → PassesOwn (model X.prog X.w) X.A X.env xe → PSs (X.tr pn xe) body (tb W))
    (hh : Clauses X (h0 :: hl) l) : PS X (.Try body (h0 :: hl) [] [] pos) (fun D σ H => tb (wClauses X.K Wo D l) D σ H) := by
  refine ⟨fun pins s σ H D I hyp => ?_⟩
  have okX := I.ok
  have eFr : X.A.frames = some (X.env :: X.outer) := by rw [okX.frames, eS]
  refine wpAny_Try_except ?_
  refine wpAny_mono ((hb (wClauses X.K Wo D l) (X.pn ++ pins) (fun ev t1 => wpAny (model X.prog X.w) X.A (noteFrame ev X.env) (fun _ t2 => wpAny (model X.prog X.w) X.A (setFlight ev none) (fun _ t3 =>
    wpAny (model X.prog X.w) X.A (handleBy ev X.env (h0 :: hl)) (SP X pins D) X.xe t3) X.xe t2) X.xe t1) (fun u t xx => ?_) PassesOwn.looking).run [] s σ H D (I.toTry _) hyp) (fun fl t hsp => ?_) (fun _ _ z => z)
  · obtain ⟨a, B, tI, pins1, σ1, H1, cls, d, rfl, J0, keepB, upS, sky0, freeA, osE, bareE, wish⟩ := xx
    have J : Inv X pins σ1 H1 tI := J0.ofTry okX
    have sky1 : Sky B (X.env :: X.outer) a (L2N.Zn cls d) X.env.locals t.heap := by rw [← eS] <;> exact sky0
    show wpAny (model X.prog X.w) X.A (noteFrame (.ref a) X.env) _ _ _
    refine L2N.Sky.land L2N.Zn.steady eFr eF sky1 fun g3 f3 u3 => ?_
    have K3 : Inv X pins σ1 H1 { t with heap := g3 } := J.landed keepB f3.1 (upS.trans u3) osE bareE
    obtain ⟨ob3, fv3, at3, zc3, dat3⟩ := f3.there
    have off : a ∉ frs (X.env :: X.outer) := fun hm => by
      obtain ⟨_, o', e', hnf⟩ := f3.2.2.1.mem hm
      rw [at3] at e'
      cases e'
      exact hnf _ dat3
    have offL : a ≠ X.env.locals := fun z => off (List.mem_filterMap.mpr ⟨X.env, List.mem_cons_self, by rw [eF, z]⟩)
    have offF : a ∉ X.fs := fun hm => by
      obtain ⟨ee, he, q⟩ := List.mem_filterMap.mp hm
      exact off (List.mem_filterMap.mpr ⟨ee, List.mem_cons_of_mem _ he, q⟩)
    have S3 := K3.suite at3 dat3 freeA offL offF
    have run : ∀ {hl' : List ExceptHandler} {l' : List (Value × Nat × (Addr → Value → Option Addr → TS))}, Clauses X hl' l' → wClauses X.K Wo D l' cls d σ1 H1 →
        wpAny (model X.prog X.w) X.A (handleBy (.ref a) X.env hl') (SP X pins D) X.xe { t with heap := g3 } := by
      intro hl' l' hk
      induction hk with
      | nil =>
        intro wsh
        refine wpAny_handleBy_nil ?_
        obtain ⟨q1, q2, q3, ob, fv, T, oT, tsl, hat, hzc, hdat, hone, hr⟩ := id f3
        unfold PySem.passOn
        refine wpAny_bind (wpAny_field hat hdat hone ?_)
        rw [if_neg (show ¬ ((Value.ref T == Value.none) = true) by simp)]
        have last : wpAny (model X.prog X.w) X.A (setFlight (.ref a) X.env.frame) (fun _ t4 => wpAny (model X.prog X.w) X.A (throw (.ref a) : Sem Flow) (SP X pins D) X.xe t4) X.xe { t with heap := g3 } := by
          rw [eF]
          refine HandSPX.setFlight_upZ f3 fun g4 hh4 u4 => wpAny_throw (tk _ _ ⟨a, B, tI, pins, σ1, H1, cls, d, rfl, J, keepB, (upS.trans u3).trans u4, .inr (.inr (by rw [eS] <;> exact hh4)), freeA, osE, bareE, wsh⟩)
        first
          | exact wpAny_bind (wpAny_pure (wpAny_bind last))
          | exact wpAny_bind last
      | @cons x n c i ts st0 more p1 p2 hl2 l2 nm at_ lc bod rest ih =>
        intro wsh
        obtain ⟨b, isB, yes, no⟩ := wsh
        refine wpAny_handleBy_cons (codeAny_handlers_test ?_) (by intro q; cases q)
        have lookT : PySem.W.Looks (model X.prog X.w) g3 (typeOf (.ref a)) cls := fun _ _ _ _ k q => wpAny_typeOf_ref (k _ _ at3) (by rw [zc3.1] <;> exact q)
        have lookM := PySem.W.exm_one (M := model X.prog X.w) K3.kIn lookT isB
        have ask : ∀ {Q : Value → Shared → Prop} {E : Value → Shared → Prop}, Q c { t with heap := g3 } → wpAny (model X.prog X.w) (X.A.mark (some (.ref a))) (eval (.Name x p1) X.env) Q E { t with heap := g3 } := fun {Q E} q => by
          obtain ⟨gl, dbg, hm | ⟨hm, hv, hnn⟩⟩ := nm
          · exact ld_glob (X := X.suite a ((a, ob3) :: (X.pn ++ pins))) S3 gl hm q dbg
          · exact ld_blt (X := X.suite a ((a, ob3) :: (X.pn ++ pins))) S3 gl hm hv q hnn dbg
        refine ask (lookM.here ?_)
        cases b with
        | true =>
          refine codeAny_handlers_suite_as (HandSPX.lands_againZ f3 fun g4 f4 u4 => ?_)
          have K4 : Inv X pins σ1 H1 { t with heap := g4 } := J.landed keepB f4.1 ((upS.trans u3).trans u4) osE bareE
          obtain ⟨ob4, fv4, at4, zc4, dat4⟩ := f4.there
          have S4 := K4.suite at4 dat4 freeA offL offF
          refine store_ok (X := X.suite a ((a, ob4) :: (X.pn ++ pins))) (v := .ref a) S4 nd at_ (.inl lc) rfl (fun t5 S5 => ?_) (.inr lc)
          refine wpAny_mono ((bod a ob4 cls d (X.pn ++ pins) zc4.zc ⟨_, dat4⟩ ⟨(a, ob4), ⟨rfl, fv4, dat4, zc4.2.2 fv4 dat4⟩, List.mem_cons_self⟩).run [] t5 _ H1 _ S5 (yes rfl a freeA)) (fun fl t6 hsp => ?_) (fun _ _ z => False.elim z)
          have fin6 : ∀ {σ6 : L2.St} {H6 : Hp} {Q : Shared → Prop}, Inv (X.suite a ((a, ob4) :: (X.pn ++ pins))) [] σ6 H6 t6 → (∀ t7, Inv X pins (σ6.set i none) H6 t7 → Q t7) →
              wpAny (model X.prog X.w) X.A (do bindName X.env n .none; unbindBehindTheSuite X.env n p2) (fun _ t7 => Q t7) X.xe t6 := fun S6 hq => gone_ok (S6.unsuite okX) nd at_ lc hq
          cases fl with
          | next =>
            obtain ⟨σ6, H6, S6, q6⟩ := hsp
            exact fin6 S6 fun t7 J7 => ⟨_, _, J7, q6⟩
          | brk =>
            obtain ⟨σ6, H6, S6, q6⟩ := hsp
            exact fin6 S6 fun t7 J7 => ⟨_, _, J7, q6⟩
          | cont =>
            obtain ⟨σ6, H6, S6, q6⟩ := hsp
            exact fin6 S6 fun t7 J7 => ⟨_, _, J7, q6⟩
          | ret u6 =>
            obtain ⟨v6, σ6, H6, S6, r6, q6⟩ := hsp
            exact fin6 S6 fun t7 J7 => ⟨_, _, _, J7, r6, q6⟩
        | false =>
          show wpAny _ X.A (handleBy (.ref a) X.env hl2) _ _ _
          exact ih (no rfl)
    exact run hh wish
  · cases fl with
    | next =>
      obtain ⟨σ1, H1, J, q⟩ := hsp
      exact wpAny_execs_nil ⟨σ1, H1, J.ofTry okX, q⟩
    | brk =>
      obtain ⟨σ1, H1, J, q⟩ := hsp
      exact ⟨σ1, H1, J.ofTry okX, q⟩
    | cont =>
      obtain ⟨σ1, H1, J, q⟩ := hsp
      exact ⟨σ1, H1, J.ofTry okX, q⟩
    | ret u1 =>
      obtain ⟨v1, σ1, H1, J, rv, q⟩ := hsp
      exact ⟨v1, σ1, H1, J.ofTry okX, rv, q⟩
/-- nothing is let out -/
theorem takes0N {X : Cx} : L2N.Takes X (fun _ _ _ _ => False) := fun _ _ h => by
  obtain ⟨_, _, _, _, _, _, _, _, _, _, _, _, _, _, _, _, w⟩ := h
  exact w.elim
end
section
variable {X : Cx} {e0 : Expr} {er : List Expr} {tA : TA} {p0 p1 : Pos}
/-- an error of the program is made: its context is None -/
theorem pmk_oexN {CX : CXT} {nx : Str} {C fi : Addr} {j : Nat} {fd : FuncData} {nps : List Str} {sp : Sp} {dl : List Value} {dw : List V} (T : OexC X.K C)
    (hI : PySem.W.findIn X.K (.ref C) "__init__" = some (some (.ref fi))) (hT : PySem.W.typeIn X.K (.ref fi) = some (.type "function")) (Fi : FnOk X.prog X.w X.K X.mg X.base CX j fi fd nps sp) (room : Room (j + 1) X.A) (bd : Binds X.K fd nps dl) (hdl : Vals dw dl)
    (px : Passes CX X (fun _ _ _ => False)) (gl : Gl X nx) (hmg : X.mg nx = some (.ref C)) (hargs : PA X (e0 :: er) tA) (nd : (nx == ("__debug__" : Str)) = false := by decide)
    (st1 : starEach (e0 :: er) X.env = (false, eval e0 X.env) :: starEach er X.env := by rfl) (st2 : (backTo p1 (starEach er X.env)).any (·.1) = false := by rfl) : L2N.PMk X (.Call (.Name nx p0) (e0 :: er) [] p1) (tMkO C sp dw tA) := fun ps s σ H Q I want => by
  obtain ⟨_, _, _, _, bmr, _, _, _, _, _, _, _, _, _, _, hC, inB⟩ := T.cls
  refine wpAny_Call_Name_kw (ld_glob I gl hmg ?_ nd)
  refine PySem.W.callWith_K (h₀ := X.base) I.ok.mod.kin T.kC (thn (hargs.run p1 ps s σ H _ I want) fun ws s1 ⟨vw, H1, J1, rv, hlen, go⟩ => ⟨J1.kIn, ?_⟩) st1 st2
  show wpAny _ _ (call (.ref C) ws) _ _ _
  obtain ⟨h1, gn, dr, tk, os⟩ := s1
  let a1 := h1.objs.size + 1
  let h2 := (h1.push (PySem.W.kdv_tup ws)).push (PySem.HandSPX.excO C h1.objs.size)
  have up1 : h1.objs.size ≤ a1 := Nat.le_succ _
  have run := go a1 (J1.hok.fresh up1)
  have keep : ∀ b o, h1.get? b = some o → h2.get? b = some o := fun _ _ q => Heap.get?_push_of_some _ (Heap.get?_push_of_some _ q)
  have at1 : h2.get? a1 = some (PySem.HandSPX.excO C h1.objs.size) := by
    show ((h1.push (PySem.W.kdv_tup ws)).push (PySem.HandSPX.excO C h1.objs.size)).get? (h1.objs.size + 1) = _
    heap_get
  have J2 : Inv X ps σ (upd H1 a1 (exo a1 C none)) ⟨h2, gn, dr, tk, os⟩ := J1.laid (t' := tk) (a := a1) (o := exo a1 C none) (h' := h2) keep up1 (exo_ok at1)
  have r2 : Vals (V.ref a1 :: (vw ++ dw)) (Value.ref a1 :: (ws ++ dl)) := .cons rfl (rv.append hdl)
  have size : (Value.ref a1 :: ws ++ dl).length = nps.length := (Fi.len _ _ _ _ run ▸ r2.length).symm
  have small : ws.length ≤ sizeLine := by rw [← Paired.length rv, sizeLine_eq]; omega
  refine wpAny_call (PySem.HandSPX.call_own F.excBase_ValueError (fun Y => PySem.HandSPX.refsVE_contains Y bmr inB) (J1.kIn _ _ hC) (PySem.W.looks_findIn J1.kIn hI) (fun self => PySem.W.bind_fn J1.kIn self hT) small
    (codeAny_mono (Fi.run _ X.stack _ _ ⟨Value.ref a1 :: ws, []⟩ (Value.ref a1 :: (ws ++ dl)) _ _ (fun _ _ _ => False) (room.make C ws []) (J2.env0.make C ws []) (bd _ (Value.ref a1 :: ws) J2.kIn size) r2 run) fun r s3 out => ?_))
  match r, out with
  | .error x, out => exact px ps σ _ _ x s3 J2 out
  | .ok .next, out => exact False.elim out
  | .ok .brk, out => exact False.elim out
  | .ok .cont, out => exact False.elim out
  | .ok (.ret u), out =>
    obtain ⟨v, H3, os3, bare3, un3, ok3, rr, rfl, d, fs, ea, ed, free, w⟩ := out
    obtain ⟨h3, g3, d3, t3, os4⟩ := s3
    obtain ⟨t0, G, J, kG, ge, oe, na⟩ := mk_end0 (d2 := d3) (t2 := t3) J1 up1 keep un3 ok3 os3 bare3 ea ed free
    exact ⟨rr, a1, _, _, ⟨G, g3, d3, t3, os4⟩, _, .ref C, some d, rfl, J, kG, ge, oe, ⟨rfl, rfl, fun _ q => by cases q; rfl⟩, rfl, rfl, na, rfl, bare3, raises_own T.exC T.tyC, w⟩
end
/-! ### isinstance of an exception that a suite holds (it may have a dict of its own) -/
structure ExK (K : PySem.W.Frag) (C : Addr) : Prop where
  cl : (PySem.W.clsIn K C).isSome = true
  ga : PySem.W.findIn K (.ref C) "__getattribute__" = some (some (.builtin "BaseException.__getattribute__"))
  gt : PySem.W.findIn K (.ref C) "__getattr__" = some none
  sb : PySem.W.subIn K (.ref C) (.type "BaseException") = some true
  ca : PySem.W.findIn K (.ref C) "__class__" = some (some (.builtin "object.__class__"))
  gn : PySem.W.specialIn K (.builtin "object.__class__") "__get__" = some (some (.builtin "getset_descriptor.__get__"))
  tk : PySem.W.takesIn K (.builtin "object.__class__") = some true
  mo : PySem.W.mroIn K C (.type "object") = some true
/-- isinstance(e, c): a the exception, cls its class, d its dict -/
def rIsEx (K : PySem.W.Frag) (a : Addr) (cls : Value) (d : Option Addr) : List V → Hp → VK → Prop := fun xs H Q => ∃ (C : Addr) (c : V) (cv : Value) (b : Bool), cls = .ref C ∧ ExK K C ∧ xs = [.ref a, c] ∧ (∀ dd, d = some dd → ∃ fs, H dd = some (.xd fs)) ∧ ClsV c cv ∧ PySem.W.kitOne K (.ref C) cv = some b ∧ Q (.bl b) H
/-- isinstance(e, (c1, c2, ..)) -/
def rIsExT (K : PySem.W.Frag) (a : Addr) (cls : Value) (d : Option Addr) : List V → Hp → VK → Prop := fun xs H Q => ∃ (C : Addr) (tp : Addr) (cs : List V) (us : List Value) (b : Bool), cls = .ref C ∧ ExK K C ∧ xs = [.ref a, .ref tp] ∧ (∀ dd, d = some dd → ∃ fs, H dd = some (.xd fs)) ∧ H tp = some (.tup cs) ∧ Paired ClsV cs us ∧ PySem.W.kitAny K (.ref C) us = some b ∧ Q (.bl b) H
section
variable {X : Cx} {a C : Addr} {cls : Value} {d : Option Addr} {ob : Obj} {pn : List (Addr × Obj)}
theorem inst_here {pins : List (Addr × Obj)} {σ : L2.St} {H : Hp} {s : Shared} (hz : Zc (.ref C) d ob) (hf : ∃ vs, ob.data = .fields vs) (I : Inv (X.suite a ((a, ob) :: pn)) pins σ H s) (hk : ∀ dd, d = some dd → ∃ fs, H dd = some (.xd fs)) : ∃ od, PySem.W.InstAt s.heap a ob C od := by
  obtain ⟨vs, hv⟩ := hf
  obtain ⟨got, _⟩ := I.pin (a, ob) (List.mem_append_left _ List.mem_cons_self)
  cases d with
  | none => exact ⟨none, got, hz.1, by unfold PySem.W.notCls; rw [hv] <;> rfl, by rw [hz.2] <;> trivial⟩
  | some dd =>
  obtain ⟨fs, hd⟩ := hk dd rfl
  obtain ⟨mA, hns, _⟩ := (show ObjOk X.prog X.w H s.heap dd (.xd fs) from I.hok dd _ hd)
  obtain ⟨od, ho, _⟩ := lookIn_ns hns
  exact ⟨some od, got, hz.1, by unfold PySem.W.notCls; rw [hv] <;> rfl, by rw [hz.2] <;> exact ho⟩
theorem call_isEx (hz : Zc cls d ob) (hf : ∃ vs, ob.data = .fields vs) : CallR (X.suite a ((a, ob) :: pn)) (.builtin "isinstance") (rIsEx X.K a cls d) := by
  intro pins s σ H xs us Q I r h
  obtain ⟨C, c, cv, b, rfl, T, rfl, hd, hc, e, q⟩ := h
  obtain ⟨u1, u2, rfl, r1, r2⟩ := vals2 r
  cases (show u1 = Value.ref a from r1)
  have e2 := hc.eq r2
  subst e2
  obtain ⟨od, J⟩ := inst_here hz hf I hd
  exact PySem.W.kia_one (PySem.W.kitx_exc T.cl T.ga T.gt T.sb T.ca T.gn T.tk T.mo) I.kIn J e (fun z => nomatch z) fun tk => ⟨.bl b, H, I.tok tk, rfl, q⟩
theorem call_isExT (hz : Zc cls d ob) (hf : ∃ vs, ob.data = .fields vs) : CallR (X.suite a ((a, ob) :: pn)) (.builtin "isinstance") (rIsExT X.K a cls d) := by
  intro pins s σ H xs us Q I r h
  obtain ⟨C, tp, cs, ws, b, rfl, T, rfl, hd, hT, hc, e, q⟩ := h
  obtain ⟨u1, u2, rfl, r1, r2⟩ := vals2 r
  cases (show u1 = Value.ref a from r1)
  cases (show u2 = Value.ref tp from r2)
  obtain ⟨od, J⟩ := inst_here hz hf I hd
  obtain ⟨_, its, rv, ot, g1, g2, n, g3⟩ := (show ObjOk X.prog X.w H s.heap tp (.tup cs) from I.hok tp _ hT)
  have e3 := ClsV.all hc rv
  subst e3
  obtain ⟨oc, odd, dt, sl⟩ := ot
  simp only at g2 g3
  subst g2 g3
  exact PySem.W.kia_tup (PySem.W.kitx_exc T.cl T.ga T.gt T.sb T.ca T.gn T.tk T.mo) I.kIn J g1 e (fun z => nomatch z) fun tk => ⟨.bl b, H, I.tok tk, rfl, q⟩
end
/-- as Fun.okX, where what is let out has no context -/
theorem _root_.L2.Fun.okXN {P : Program} {w : World} {K : PySem.W.Frag} {mg : Str → Option Value} {base : Heap} {nx ql : Str} {st : Stmt} {f : Addr} {fd : FuncData} {N nps : List Str} {j : Nat} {sp : Sp} (F : Fun K nx ql st f fd) (S : FnScope N nps (defScope st))
    (size : ∀ vs H Q E, sp vs H Q E → vs.length = nps.length) (body : ∀ (cc : Value) (A : Around) (outer : List Env) (s : Shared) (H : Hp) (vs : List V) (Q : VK) (E : XK), Room j (A.deeper (envOfC ql (defScope st) s.heap.objs.size f cc)) → sp vs H Q E →
      ∃ t, PSs (cxOf (L2N.CX P w) P w K mg base N ql (defScope st) f cc A outer s H E) (defBody st) t ∧ t { nx := fun _ H' => Q .non H', rt := Q } (start N vs) H) : FnOk P w K mg base (L2N.CX P w) (j + 1) f fd nps sp := by
  obtain ⟨_, _, _, _, _, _, _, _, _, rfl, lk, hc⟩ := F.ex
  exact fn_of lk hc S size fun A outer s H vs Q E hr want => body _ A outer s H vs Q E hr want
end EB
/-! EB2: enumerate over a tuple. -/
namespace EB
open PySem PySem.Spec PyProof.Rows L2 Evl
open AutoSeq1 (wpAny_loadPart')
theorem enumT_new (t : Addr) (ob : Obj) (xs : Array Value) (k : Nat) (hc : ob.cls = .type "tuple") (hd : ob.data = .seq xs k) :
    Meets (Builtin.«enumerate.__new__» ⟨[.type "enumerate", .ref t], []⟩) (fun _ R s => s.heap.get? t = some ob ∧
      R (.ok (.ret (.ref (s.heap.push { cls := .type "tuple_iterator", data := .fields #[.ref t, .int 0 0] }).objs.size)))
        { s with heap := (s.heap.push { cls := .type "tuple_iterator", data := .fields #[.ref t, .int 0 0] }).push { cls := .type "enumerate", data := .fields #[.none, .bool false, .ref s.heap.objs.size, rawInt 0, .none, .none] } }) :=
  .of_wp fun prog w A R s h => by
    obtain ⟨hp, g, d, tk, os⟩ := s
    obtain ⟨ht, h⟩ := h
    have sub_ := sub_enumerate
    have hT : Heap.IsTuple (Shared.heap ⟨hp, g, d, tk, os⟩) t xs := ⟨_, ht, hc, k, hd⟩
    wp_walk using wpAny_loadPart' ht
    refine wpAny_stack_any fun st => wpAny_pure ?_
    split
    · rename_i c _ _ _ _ _
      cases (c == Value.type "enumerate")
      · wp_walk using wpAny_loadPart' ht, wpAny_pyIter_tuple hT
        exact ⟨_, rfl, h⟩
      · wp_walk using wpAny_loadPart' ht, wpAny_pyIter_tuple hT
        exact ⟨_, rfl, h⟩
    · wp_walk using wpAny_loadPart' ht, wpAny_pyIter_tuple hT
      exact ⟨_, rfl, h⟩
section
variable {prog : Program} {w : World} {A : Around} {E : Value → Shared → Prop} {s : Shared}
theorem enumT_call {t : Addr} {xs : Array Value} {Q : Value → Shared → Prop} (hT : s.heap.IsTuple t xs)
    (fin : ∀ g, IsEnum g (s.heap.objs.size + 1) s.heap.objs.size 0 .none → g.IsTupleIter s.heap.objs.size t 0 → g.objs.size = s.heap.objs.size + 2 →
      (∀ b o, s.heap.get? b = some o → g.get? b = some o) → Q (.ref (s.heap.objs.size + 1)) { s with heap := g }) :
    wpAny (model prog w) A (call (.type "enumerate") [.ref t]) Q E s := by
  obtain ⟨ob, ht, hc, k, hd⟩ := hT
  refine callType_new F.called_enumerate (by decide) (F.typeCall_enumerate_1 _) (F.newCall_enumerate_1 _) (fun z => F.args_object_init_2 z _) F.entry_enumerate_new (enumT_new t ob xs k hc hd) ⟨ht, ?_⟩
  have sz : (s.heap.push { cls := .type "tuple_iterator", data := .fields #[.ref t, .int 0 0] }).objs.size = s.heap.objs.size + 1 := Heap.size_push ..
  show _ ∧ _
  rw [sz]
  have en : IsEnum ((s.heap.push { cls := .type "tuple_iterator", data := .fields #[.ref t, .int 0 0] }).push
      { cls := .type "enumerate", data := .fields #[.none, .bool false, .ref s.heap.objs.size, rawInt 0, .none, .none] }) (s.heap.objs.size + 1) s.heap.objs.size 0 .none := by
    have z := Heap.get?_push_size (s.heap.push { cls := .type "tuple_iterator", data := .fields #[.ref t, .int 0 0] })
      (o := { cls := .type "enumerate", data := .fields #[.none, .bool false, .ref s.heap.objs.size, rawInt 0, .none, .none] }) rfl
    rw [sz] at z
    exact z
  refine ⟨⟨_, en, rfl⟩, fin _ en ⟨_, Heap.get?_push_of_some _ (Heap.get?_push_size _ rfl), rfl, rfl⟩ (by rw [Heap.size_push, sz]) fun b o x => Heap.get?_push_of_some _ (Heap.get?_push_of_some _ x)⟩
end
/-- the tuple at a, each item in a new pair -/
def IteT (K : PySem.W.Frag) (a : Addr) : It :=
  ⟨fun i H => ∃ (xs : List V) (x : V), SqT K H a xs ∧ xs[i]? = some x, fun i H v H' => ∃ T x, v = .ref T ∧ H T = none ∧ H' = upd H T (.tup [.int (i : Nat), x]) ∧ ∀ xs, SqT K H a xs → xs[i]? = some x, fun i H => ∃ xs : List V, SqT K H a xs ∧ xs.length ≤ i⟩
theorem tup_inj {X : Cx} {pins : List (Addr × Obj)} {σ : L2.St} {H : Hp} {s : Shared} {a : Addr} {xs ys : List V} (I : Inv X pins σ H s) (h : SqT X.K H a xs) (h2 : SqT X.K H a ys) : xs = ys := by
  first
    | exact I.tuple_inj h h2
    | exact I.tup_inj h h2
theorem turn_enumT {P : Program} {w : World} {K : PySem.W.Frag} {elts : List Expr} {kk : Nat} {tpos : Pos} (a e it : Addr) :
    Turn P w K (.Tuple elts kk tpos) (IteT K a) [e, it] e (fun i h => (∃ old, IsEnum h e it ((i : Nat) : Int) old) ∧ h.IsTupleIter it a i ∧ e ≠ it) where
  mem := by simp
  obj := fun i h st b hb => by
    obtain ⟨⟨old, he⟩, ⟨o, ho, hc, hd⟩, _⟩ := st
    have z : b = e ∨ b = it := by simpa using hb
    rcases z with z | z
    · rw [z]
      exact ⟨_, he, fun v q => nomatch q⟩
    · rw [z]
      exact ⟨o, ho, fun v q => by rw [hd] at q <;> cases q⟩
  keep := fun i h g st k => let ⟨⟨old, he⟩, hi, hne⟩ := st; ⟨⟨old, k e (by simp) _ he⟩, hi.at fun o q => k it (by simp) o q, hne⟩
  item := by
    intro X hP hw hK hcalm i pins s σ H E I hf st hg
    subst hP hw hK
    obtain ⟨⟨old, he⟩, hit, hne⟩ := st
    obtain ⟨xs, x, hq, hx⟩ := hg
    obtain ⟨its, rv, p, hz⟩ := I.tuple hq
    obtain ⟨u, hu, ru⟩ := rv.get hx
    have eLt : e < s.heap.objs.size := Heap.lt_size he
    have iLt : it < s.heap.objs.size := by
      obtain ⟨_, q, _⟩ := hit
      exact Heap.lt_size q
    have hT : s.heap.IsTuple a its.toArray := p
    have nea : a ≠ it := by
      intro z
      obtain ⟨o1, h1, c1, _⟩ := hit
      obtain ⟨o2, h2, c2, _⟩ := hT
      rw [z, h1] at h2
      cases h2
      rw [c1] at c2
      exact absurd c2 (by decide)
    have nef : e ∉ [it, a] := by
      intro z
      rcases List.mem_cons.mp z with z | z
      · exact hne z
      · have z' : e = a := by simpa using z
        obtain ⟨o2, h2, c2, _⟩ := hT
        rw [← z', he] at h2
        cases h2
        exact absurd (show Value.type "enumerate" = Value.type "tuple" from c2) (by decide)
    have ilt : i < its.toArray.size := by
      have := (List.getElem?_eq_some_iff.mp hu).1
      simpa using this
    refine wpAny_pyNext_enum_itemD (PySem.Draws.tuple (A := X.A.in1) (I.ok.hd hcalm) it a nea its.toArray) he ⟨hit, hT⟩ ilt hne nef fun y g tk hy ho hst hTT hsz hk => ?_
    have ey : y = u := by
      have z : its.toArray[i]? = some u := by simpa using hu
      have hy' : its.toArray[i]? = some y := hy
      rw [z] at hy'
      exact (Option.some.inj hy').symm
    subst ey
    refine ⟨_, rfl, wpAny_letOwnedTupleGo_enum (s := { s with heap := g, toks := tk + 1 }) ho fun g2 he2 sb => ?_⟩
    have hT2 : g2.get? s.heap.objs.size = some { cls := .type "tuple", data := .seq #[.int i tk, y] } := (sb.2 _ (Nat.ne_of_gt eLt)).trans hTT
    have new : ObjOk X.prog X.w (upd H s.heap.objs.size (.tup [.int (i : Nat), x])) g2 s.heap.objs.size (.tup [.int (i : Nat), x]) :=
      ⟨by show 2 ≤ sizeLine; decide, [.int i tk, y], .cons ⟨_, rfl⟩ (.cons ru .nil), ⟨_, hT2, rfl, _, rfl⟩⟩
    have I1 : Inv X pins σ (upd H s.heap.objs.size (.tup [.int (i : Nat), x])) { s with heap := g2, toks := tk + 1 } :=
      I.turnedNew (ch := [e, it]) (fun b ob hb q => (sb.2 b (fun z => hb (by simp [z]))).trans (hk b ob (fun z => hb (by simp [z])) (fun z => hb (by simp [z])) q)) hf (Nat.le_refl _) new
    refine ⟨.ref s.heap.objs.size, _, I1, rfl, ⟨_, x, rfl, I.hok.fresh (Nat.le_refl _), rfl, fun ys hy => by rw [tup_inj I hy hq] <;> exact hx⟩, ⟨⟨y, ?_⟩, hst.1.at fun o q => (sb.2 it (Ne.symm hne)).trans q, hne⟩, fun b hb => ?_⟩
    · have e1 : ((i + 1 : Nat) : Int) = (i : Int) + 1 := by omega
      rw [e1]
      exact he2
    · have hb2 : b < s.heap.objs.size := by
        have z : b = e ∨ b = it := by simpa using hb
        rcases z with z | z
        · rw [z]; exact eLt
        · rw [z]; exact iLt
      rw [upd_ne (Nat.ne_of_lt hb2)]
      exact (hf b hb).1
  done := by
    intro X hP hw hK hcalm i pins s σ H E I hf st hg
    subst hP hw hK
    obtain ⟨⟨old, he⟩, hit, hne⟩ := st
    obtain ⟨xs, hq, hx⟩ := hg
    obtain ⟨its, rv, p, hz⟩ := I.tuple hq
    obtain ⟨f0, f1, f2, f3, f4, f5⟩ := hf it (by simp)
    have hl := rv.length
    have hT : s.heap.IsTuple a its.toArray := p
    have nea : a ≠ it := by
      intro z
      obtain ⟨o1, h1, c1, _⟩ := hit
      obtain ⟨o2, h2, c2, _⟩ := hT
      rw [z, h1] at h2
      cases h2
      rw [c1] at c2
      exact absurd c2 (by decide)
    unfold pyNext
    have hTy : s.TypeIs (.ref e) "enumerate" := ⟨_, he, rfl⟩
    refine wpAny_bind (wpAny_attempt (wpAny_callSpecial?_slot (name := Str.ofString "__next__") hTy F.slot_enumerate_next
      (wpAny_call_entry F.slot_enumerate_next hTy F.entry_enumerate_next ?_ (F.args_enumerate_next_1 _))))
    show wpAny _ _ (field (.ref e) 2 >>= _) _ _ _
    refine wpAny_bind (wpAny_field he rfl (x := .ref it) rfl ?_)
    refine wpAny_bind (wpAny_nextOf_tuple_end (I.ok.hd hcalm) hit hT (by simp; omega) fun g x he' hx' => ?_)
    obtain ⟨o, ho, hc⟩ := hx'
    refine wpAny_bind (wpAny_isInstance (T := "StopIteration") (b := true) ⟨o, ho, hc⟩ isSubtype_stop ?_)
    exact wpAny_pure ⟨rfl, I.turned (t' := s.toks) (fun b o hb q => he' b o hb q) f0 f1 f3 f4 f5⟩
  self := fun A i s Q E st h => let ⟨⟨_, he⟩, _⟩ := st; wpAny_pyIter_enum he h
def iEnumT (K : PySem.W.Frag) (ta : TA) : TI := fun σ H R => ta σ H fun vs H1 => ∃ a xs, vs = [.ref a] ∧ SqT K H1 a xs ∧ R (IteT K a) H1
theorem pi_enumT {X : Cx} {e : Expr} {ta : TA} {p pos tpos : Pos} {elts : List Expr} {kk : Nat} (hg : Gl X "enumerate") (hm : X.mg "enumerate" = none) (ha : PA X [e] ta) (hs : starEach [e] X.env = [(false, eval e X.env)] := by rfl) :
    PI X (.Tuple elts kk tpos) (.Call (.Name "enumerate" p) [e] [] pos) (iEnumT X.K ta) := by
  refine ⟨fun pins s σ H R I h => ?_⟩
  refine Call_ (ld_blt I hg hm boot_enumerate (PyProof.Rows.callWith_type1 (thn (ha.run pos pins s σ H _ I h) fun us s1 ⟨vs, H1, I1, r1, a, xs, ex, hq, q⟩ => ?_) hs rfl))
  subst ex
  cases r1 with
  | cons r rr =>
    cases rr
    cases r
    obtain ⟨its, rv, p', hz⟩ := I1.tuple hq
    have hT : s1.heap.IsTuple a its.toArray := p'
    refine enumT_call hT fun g he hit hsz hk => wpAny_pyIter_enum he ?_
    have I2 : Inv X pins σ H1 { s1 with heap := g } := I1.kept (t' := s1.toks) hk
    refine ⟨s1.heap.objs.size + 1, [s1.heap.objs.size + 1, s1.heap.objs.size], _, _, H1, rfl, I2, turn_enumT a (s1.heap.objs.size + 1) s1.heap.objs.size, ⟨⟨.none, he⟩, hit, Nat.succ_ne_self _⟩, fun b hb => ?_, q⟩
    have hle : s1.heap.objs.size ≤ b := by
      have z : b = s1.heap.objs.size + 1 ∨ b = s1.heap.objs.size := by simpa using hb
      rcases z with z | z
      · rw [z]
        exact Nat.le_add_right _ _
      · rw [z]
        exact Nat.le_refl _
    exact I1.fpOk hle (I1.hok.fresh hle)
end EB
/-! EB3: what is known of the slots (Kn), what an expression comes to (JE), a test (JT), arguments (JA), a statement (JS). -/
namespace EB
open PySem PySem.Spec PyProof.Rows L2 Evl
/-- what is known of a value; it stays known while the heap grows -/
structure PV where
  p : Hp → V → Prop
  mn : ∀ {H H' : Hp} {v : V}, Ex H H' → p H v → p H' v
abbrev Kn := List (Option PV)
mutual
theorem dp_mono {K : PySem.W.Frag} {H H' : Hp} (e : Ex H H') : ∀ {v : V} {d : PyData}, Dp K H v d → Dp K H' v d
  | _, _, .non => .non
  | _, _, .bl b => .bl b
  | _, _, .int i => .int i
  | _, _, .str x => .str x
  | _, _, .lst h a => .lst (ex_l e h) (dpAll_mono e a)
  | _, _, .tup h a => .tup (ex_t e h) (dpAll_mono e a)
theorem dpAll_mono {K : PySem.W.Frag} {H H' : Hp} (e : Ex H H') : ∀ {vs : List V} {ds : List PyData}, DpAll K H vs ds → DpAll K H' vs ds
  | _, _, .nil => .nil
  | _, _, .cons h t => .cons (dp_mono e h) (dpAll_mono e t)
end
def dv (K : PySem.W.Frag) (d : PyData) : PV := ⟨fun H v => Dp K H v d, fun e h => dp_mono e h⟩
/-- exactly this value -/
def xv (v : V) : PV := ⟨fun _ u => u = v, fun _ h => h⟩
theorem dp_int {K : PySem.W.Frag} {H : Hp} {v : V} {i : Int} (h : Dp K H v (.int i)) : v = .int i := by cases h; rfl
theorem dp_bl {K : PySem.W.Frag} {H : Hp} {v : V} {b : Bool} (h : Dp K H v (.bool b)) : v = .bl b := by cases h; rfl
theorem dp_str {K : PySem.W.Frag} {H : Hp} {v : V} {x : Str} (h : Dp K H v (.str x)) : v = .str x := by cases h; rfl
theorem dp_tup {K : PySem.W.Frag} {H : Hp} {v : V} {ds : List PyData} (h : Dp K H v (.tuple ds)) : ∃ a xs, v = .ref a ∧ SqT K H a xs ∧ DpAll K H xs ds := by
  cases h with
  | tup h a => exact ⟨_, _, rfl, h, a⟩
theorem dp_lst {K : PySem.W.Frag} {H : Hp} {v : V} {ds : List PyData} (h : Dp K H v (.list ds)) : ∃ a xs, v = .ref a ∧ SqL K H a xs ∧ DpAll K H xs ds := by
  cases h with
  | lst h a => exact ⟨_, _, rfl, h, a⟩
theorem dpLength {K : PySem.W.Frag} {H : Hp} : ∀ {vs : List V} {ds : List PyData}, DpAll K H vs ds → vs.length = ds.length
  | _, _, .nil => rfl
  | _, _, .cons _ t => congrArg (· + 1) (dpLength t)
theorem dpGet {K : PySem.W.Frag} {H : Hp} : ∀ {vs : List V} {ds : List PyData} {i : Nat} {d : PyData}, DpAll K H vs ds → ds[i]? = some d → ∃ v, vs[i]? = some v ∧ Dp K H v d
  | _, _, _, _, .nil, h => by simp at h
  | _, _, 0, _, .cons h _, e => by
    simp at e
    subst e
    exact ⟨_, rfl, h⟩
  | _, _, i + 1, _, .cons _ t, e => by
    obtain ⟨v, h1, h2⟩ := dpGet (i := i) t (by simpa using e)
    exact ⟨v, by simpa using h1, h2⟩
theorem dpApp {K : PySem.W.Frag} {H : Hp} : ∀ {vs us : List V} {ds es : List PyData}, DpAll K H vs ds → DpAll K H us es → DpAll K H (vs ++ us) (ds ++ es)
  | _, _, _, _, .nil, s => s
  | _, _, _, _, .cons h t, s => .cons h (dpApp t s)
theorem dpTake {K : PySem.W.Frag} {H : Hp} : ∀ {vs : List V} {ds : List PyData} (n : Nat), DpAll K H vs ds → DpAll K H (vs.take n) (ds.take n)
  | _, _, 0, _ => .nil
  | _, _, _ + 1, .nil => .nil
  | _, _, n + 1, .cons h t => .cons h (dpTake n t)
theorem dpDrop {K : PySem.W.Frag} {H : Hp} : ∀ {vs : List V} {ds : List PyData} (n : Nat), DpAll K H vs ds → DpAll K H (vs.drop n) (ds.drop n)
  | _, _, 0, h => h
  | _, _, _ + 1, .nil => .nil
  | _, _, n + 1, .cons _ t => dpDrop n t
theorem dpAll_ints {K : PySem.W.Frag} {H : Hp} : ∀ (ns : List Int), DpAll K H (ns.map V.int) (ns.map PyData.int)
  | [] => .nil
  | n :: r => .cons (.int n) (dpAll_ints r)
theorem dpAll_ints_eq {K : PySem.W.Frag} {H : Hp} : ∀ {vs : List V} {ns : List Int}, DpAll K H vs (ns.map PyData.int) → vs = ns.map V.int
  | _, [], h => by cases h; rfl
  | _, n :: r, h => by
    cases h with
    | cons h1 h2 => rw [dp_int h1, dpAll_ints_eq h2] <;> rfl
/-! ### the slots -/
def Sl (H : Hp) (σ : L2.St) (ps : Kn) : Prop := σ.length = ps.length ∧ ∀ (i : Nat) (P : PV), ps[i]? = some (some P) → ∃ v, σ[i]? = some (some v) ∧ P.p H v
theorem Sl.mono {H H' : Hp} {σ : L2.St} {ps : Kn} (S : Sl H σ ps) (e : Ex H H') : Sl H' σ ps := ⟨S.1, fun i P h => by
  obtain ⟨v, h1, h2⟩ := S.2 i P h
  exact ⟨v, h1, P.mn e h2⟩⟩
theorem Sl.set {H : Hp} {σ : L2.St} {ps : Kn} {P : PV} {v : V} (S : Sl H σ ps) (i : Nat) (h : P.p H v) : Sl H (σ.set i (some v)) (ps.set i (some P)) := by
  refine ⟨by rw [List.length_set, List.length_set, S.1], fun j R hj => ?_⟩
  by_cases e : i = j
  · subst e
    have hl : i < ps.length := by
      have := (List.getElem?_eq_some_iff.mp hj).1
      simpa using this
    rw [List.getElem?_set_self hl] at hj
    cases hj
    exact ⟨v, List.getElem?_set_self (by rw [S.1]; exact hl), h⟩
  · rw [List.getElem?_set_ne e] at hj
    obtain ⟨u, h1, h2⟩ := S.2 j R hj
    exact ⟨u, by rw [List.getElem?_set_ne e]; exact h1, h2⟩
theorem Sl.forget {H : Hp} {σ : L2.St} {ps : Kn} (S : Sl H σ ps) (i : Nat) (x : Option V) : Sl H (σ.set i x) (ps.set i none) := by
  refine ⟨by rw [List.length_set, List.length_set, S.1], fun j R hj => ?_⟩
  by_cases e : i = j
  · subst e
    have hl : i < ps.length := by
      have := (List.getElem?_eq_some_iff.mp hj).1
      simpa using this
    rw [List.getElem?_set_self hl] at hj
    cases hj
  · rw [List.getElem?_set_ne e] at hj
    obtain ⟨u, h1, h2⟩ := S.2 j R hj
    exact ⟨u, by rw [List.getElem?_set_ne e]; exact h1, h2⟩
/-- less is known -/
def Weak : Kn → Kn → Prop
  | [], [] => True
  | p :: ps, q :: qs => (q = none ∨ q = p) ∧ Weak ps qs
  | _, _ => False
theorem Weak.len : ∀ {ps qs : Kn}, Weak ps qs → ps.length = qs.length
  | [], [], _ => rfl
  | _ :: _, _ :: _, h => congrArg (· + 1) (Weak.len h.2)
theorem Weak.get : ∀ {ps qs : Kn} {i : Nat} {P : PV}, Weak ps qs → qs[i]? = some (some P) → ps[i]? = some (some P)
  | [], [], _, _, _, e => by simp at e
  | p :: ps, q :: qs, 0, P, h, e => by
    simp at e ⊢
    rcases h.1 with z | z
    · rw [z] at e; cases e
    · rw [← z]; exact e
  | p :: ps, q :: qs, i + 1, P, h, e => by
    simp at e ⊢
    exact Weak.get h.2 e
theorem Sl.weak {H : Hp} {σ : L2.St} {ps qs : Kn} (S : Sl H σ ps) (w : Weak ps qs) : Sl H σ qs := ⟨by rw [S.1, w.len], fun i P h => S.2 i P (w.get h)⟩
/-- known of several values, one after the other -/
inductive AllP (H : Hp) : List V → List PV → Prop
  | nil : AllP H [] []
  | cons {v : V} {vs : List V} {P : PV} {Ps : List PV} : P.p H v → AllP H vs Ps → AllP H (v :: vs) (P :: Ps)
theorem AllP.mono {H H' : Hp} (e : Ex H H') : ∀ {vs : List V} {Ps : List PV}, AllP H vs Ps → AllP H' vs Ps
  | _, _, .nil => .nil
  | _, _, .cons h t => .cons (PV.mn _ e h) (AllP.mono e t)
theorem AllP.length {H : Hp} : ∀ {vs : List V} {Ps : List PV}, AllP H vs Ps → vs.length = Ps.length
  | _, _, .nil => rfl
  | _, _, .cons _ t => congrArg (· + 1) (AllP.length t)
theorem AllP.dv {K : PySem.W.Frag} {H : Hp} : ∀ {vs : List V} {ds : List PyData}, AllP H vs (ds.map (dv K)) → DpAll K H vs ds
  | _, [], h => by cases h; exact .nil
  | _, d :: r, h => by
    cases h with
    | cons h1 h2 => exact .cons h1 (AllP.dv h2)
theorem AllP.of_dv {K : PySem.W.Frag} {H : Hp} : ∀ {vs : List V} {ds : List PyData}, DpAll K H vs ds → AllP H vs (ds.map (EB.dv K))
  | _, _, .nil => .nil
  | _, _, .cons h t => .cons h (AllP.of_dv t)
theorem AllP.get {H : Hp} : ∀ {vs : List V} {Ps : List PV} {i : Nat} {P : PV}, AllP H vs Ps → Ps[i]? = some P → ∃ v, vs[i]? = some v ∧ P.p H v
  | _, _, _, _, .nil, e => by simp at e
  | _, _, 0, _, .cons h _, e => by
    simp at e
    subst e
    exact ⟨_, rfl, h⟩
  | _, _, i + 1, _, .cons _ t, e => by
    obtain ⟨v, h1, h2⟩ := AllP.get (i := i) t (by simpa using e)
    exact ⟨v, by simpa using h1, h2⟩
theorem AllP.app {H : Hp} : ∀ {vs us : List V} {Ps Qs : List PV}, AllP H vs Ps → AllP H us Qs → AllP H (vs ++ us) (Ps ++ Qs)
  | _, _, _, _, .nil, s => s
  | _, _, _, _, .cons h t, s => .cons h (AllP.app t s)
def entry (N : List Str) (Ps : List PV) : Kn := Ps.map some ++ List.replicate (N.length - Ps.length) none
theorem Sl.start {H : Hp} {N : List Str} {vs : List V} {Ps : List PV} (h : AllP H vs Ps) : Sl H (L2.start N vs) (entry N Ps) := by
  refine ⟨by unfold L2.start entry; simp [h.length], fun i P e => ?_⟩
  unfold entry at e
  by_cases hi : i < Ps.length
  · rw [List.getElem?_append_left (by simpa using hi)] at e
    rw [List.getElem?_map] at e
    cases q : Ps[i]? with
    | none => rw [q] at e; simp at e
    | some R =>
      rw [q] at e
      have : R = P := by simpa using e
      subst this
      obtain ⟨v, h1, h2⟩ := h.get q
      refine ⟨v, ?_, h2⟩
      unfold L2.start
      rw [List.getElem?_append_left (by simp [h.length]; exact hi), List.getElem?_map, h1]
      rfl
  · rw [List.getElem?_append_right (by simpa using hi)] at e
    have := List.mem_of_getElem? e
    have := List.eq_of_mem_replicate this
    cases this
/-! ### growing: F, where the facts are told; H, the heap; the tables of code objects (LT) may be written -/
class LT where
  tabs : List (Addr × Str)
/-- all but the tables stays -/
structure Xh [LT] (H H' : Hp) : Prop where
  t0 : LamX.Tabs LT.tabs H
  t1 : LamX.Tabs LT.tabs H'
  ex : ∀ b o, H b = some o → (∀ p ∈ LT.tabs, p.1 ≠ b) → H' b = some o
  nn : ∀ b, H' b = none → H b = none
theorem tab_ne [LT] {H : Hp} (t : LamX.Tabs LT.tabs H) {b : Addr} {o : HO} (h : H b = some o) (nt : ∀ ps, o ≠ .tbl ps) : ∀ p ∈ LT.tabs, p.1 ≠ b := fun p hp z => by
  obtain ⟨ps, q, _⟩ := t p hp
  rw [z, h] at q
  exact nt ps (Option.some.inj q)
theorem Xh.fn [LT] {H H' : Hp} (e : Xh H H') (b : Addr) (o : HO) (h : H b = some o) (nt : ∀ ps, o ≠ .tbl ps := by (intro ps z; cases z)) : H' b = some o := e.ex b o h (tab_ne e.t0 h nt)
theorem Xh.by [LT] {H H' : Hp} (t0 : LamX.Tabs LT.tabs H) (t1 : LamX.Tabs LT.tabs H') (ex : ∀ b o, H b = some o → (∀ p ∈ LT.tabs, p.1 ≠ b) → H' b = some o) : Xh H H' := ⟨t0, t1, ex, fun b h => by
  cases q : H b with
  | none => rfl
  | some o =>
    have k := ex b o q fun p hp z => by
      obtain ⟨ps, e, _⟩ := t1 p hp
      rw [z, h] at e
      cases e
    rw [h] at k
    cases k⟩
theorem Xh.of [LT] {H H' : Hp} (t : LamX.Tabs LT.tabs H) (e : Ex H H') : Xh H H' := ⟨t, t.ext e, fun b o h _ => e b o h, fun b h => fresh_back e h⟩
theorem Xh.trans [LT] {H H1 H2 : Hp} (a : Xh H H1) (b : Xh H1 H2) : Xh H H2 := ⟨a.t0, b.t1, fun c o h n => b.ex c o (a.ex c o h n) n, fun c h => a.nn c (b.nn c h)⟩
structure Fx [LT] (F H : Hp) : Prop where
  ex : Ex F H
  no : ∀ p ∈ LT.tabs, F p.1 = none
  tb : LamX.Tabs LT.tabs H
instance [LT] {F H : Hp} : CoeFun (Fx F H) (fun _ => ∀ a o, F a = some o → H a = some o) := ⟨fun e => e.ex⟩
instance [LT] {F H : Hp} : CoeOut (Fx F H) (Ex F H) := ⟨Fx.ex⟩
theorem Fx.trans [LT] {F H H' : Hp} (fh : Fx F H) (e : Xh H H') : Fx F H' := ⟨fun b o q => e.ex b o (fh.ex b o q) fun p hp z => (by
  have := fh.no p hp
  rw [z, q] at this
  cases this), fh.no, e.t1⟩
structure Gr [LT] (F H F' H' : Hp) : Prop where
  ff : Ex F F'
  hh : Xh H H'
  fh : Fx F' H'
  nw : ∀ a, H a ≠ none → F a = none → F' a = none
theorem Gr.refl [LT] {F H : Hp} (fh : Fx F H) : Gr F H F H := ⟨Ex.refl _, Xh.of fh.tb (Ex.refl _), fh, fun _ _ h => h⟩
theorem Gr.trans [LT] {F H F1 H1 F2 H2 : Hp} (a : Gr F H F1 H1) (b : Gr F1 H1 F2 H2) : Gr F H F2 H2 := ⟨a.ff.trans b.ff, a.hh.trans b.hh, b.fh, fun x hx hf => b.nw x (fun z => hx (a.hh.nn x z)) (a.nw x hx hf)⟩
theorem ex_upd {F H : Hp} {p : Addr} {o : HO} (fh : Ex F H) (hp : H p = none) : Ex (upd F p o) (upd H p o) := fun a u e => by
  by_cases z : a = p
  · subst z
    rw [upd_same] at e ⊢
    exact e
  · rw [upd_ne z] at e ⊢
    exact fh a u e
/-- no table is at a place that is not in use -/
theorem Fx.nt [LT] {F H : Hp} (fh : Fx F H) {b : Addr} (h : H b = none) {p : Addr × Str} (hp : p ∈ LT.tabs) : p.1 ≠ b := fun z => by
  obtain ⟨ps, e, _⟩ := fh.tb p hp
  rw [z, h] at e
  cases e
theorem Gr.new [LT] {F H : Hp} {p : Addr} {o : HO} (fh : Fx F H) (hp : H p = none) : Gr F H (upd F p o) (upd H p o) := ⟨Ex.new (fresh_back fh.ex hp), Xh.of fh.tb (Ex.new hp), ⟨ex_upd fh.ex hp, fun q hq => by rw [upd_ne (fh.nt hp hq)]; exact fh.no q hq, fh.tb.ext (Ex.new hp)⟩, fun a ha hf => by
  have : a ≠ p := fun z => by
    subst z
    exact ha hp
  rw [upd_ne this]
  exact hf⟩
/-- the heap alone grows -/
theorem Gr.heap [LT] {F H H' : Hp} (fh : Fx F H) (e : Ex H H') : Gr F H F H' := ⟨Ex.refl _, Xh.of fh.tb e, ⟨fh.ex.trans e, fh.no, fh.tb.ext e⟩, fun _ _ h => h⟩
theorem Ex.fx [LT] {F F1 H : Hp} (a : Ex F F1) (b : Fx F1 H) : Fx F H := ⟨a.trans b.ex, fun p hp => fresh_back a (b.no p hp), b.tb⟩
/-- what lies at D is no table and no code object -/
def NT (H : Hp) (D : Addr) : Prop := ∀ o, H D = some o → (∀ c q, o ≠ LamX.CodeO c q) ∧ ∀ ps, o ≠ .tbl ps
theorem NT.none {H : Hp} {D : Addr} (h : H D = none) : NT H D := fun o e => by rw [h] at e; cases e
theorem NT.lst {H : Hp} {D : Addr} {xs : List V} (h : H D = some (.lst xs)) : NT H D := fun o e => by
  rw [h] at e
  cases e
  exact ⟨fun _ _ z => (by unfold LamX.CodeO at z; cases z), fun _ z => (by cases z)⟩
theorem NT.ins {H : Hp} {D : Addr} {C dx : Addr} {fs : List (Str × V)} (h : H D = some (.ins C dx fs)) : NT H D := fun o e => by
  rw [h] at e
  cases e
  exact ⟨fun _ _ z => (by unfold LamX.CodeO at z; cases z), fun _ z => (by cases z)⟩
theorem NT.dK {H : Hp} {D : Addr} {kvs : List (Key × V)} (h : H D = some (.dK kvs)) : NT H D := fun o e => by
  rw [h] at e
  cases e
  exact ⟨fun _ _ z => (by unfold LamX.CodeO at z; cases z), fun _ z => (by cases z)⟩
theorem NT.xd {H : Hp} {D : Addr} {fs : List (Str × V)} (h : H D = some (.xd fs)) : NT H D := fun o e => by
  rw [h] at e
  cases e
  exact ⟨fun _ _ z => (by unfold LamX.CodeO at z; cases z), fun _ z => (by cases z)⟩
theorem Tabs.mut {T : List (Addr × Str)} {H : Hp} {D : Addr} {o : HO} (t : LamX.Tabs T H) (nt : NT H D) : LamX.Tabs T (upd H D o) := fun p hp => by
  obtain ⟨ps, e, h2, h3⟩ := t p hp
  have n1 : p.1 ≠ D := fun z => by rw [z] at e; exact (nt _ e).2 ps rfl
  refine ⟨ps, by rw [upd_ne n1]; exact e, h2, fun pos cv hc => ?_⟩
  obtain ⟨c, e1, e2⟩ := h3 pos cv hc
  have n2 : c ≠ D := fun z => by rw [z] at e2; exact (nt _ e2).1 _ _ rfl
  exact ⟨c, e1, by rw [upd_ne n2]; exact e2⟩
theorem Fx.mut [LT] {F H : Hp} {D : Addr} {o : HO} (fh : Fx F H) (off : F D = none) (nt : NT H D := by first | (apply NT.none; assumption) | (apply NT.lst; assumption) | (apply NT.ins; assumption) | (apply NT.dK; assumption) | (apply NT.xd; assumption) | (apply NT.lst; exact upd_same) | (apply NT.ins; exact upd_same) | (apply NT.dK; exact upd_same)) : Fx F (upd H D o) := ⟨fh.ex.mut off, fh.no, Tabs.mut fh.tb nt⟩
theorem Xh.mut [LT] {H1 H : Hp} {D : Addr} {o : HO} (e : Xh H1 H) (h1 : H1 D = none) (nt : NT H D := by first | (apply NT.none; assumption) | (apply NT.lst; assumption) | (apply NT.ins; assumption) | (apply NT.dK; assumption) | (apply NT.xd; assumption) | (apply NT.lst; exact upd_same) | (apply NT.ins; exact upd_same) | (apply NT.dK; exact upd_same)) : Xh H1 (upd H D o) := ⟨e.t0, Tabs.mut e.t1 nt, fun b u q n => by
  rw [upd_ne (ne_of_none q h1)]
  exact e.ex b u q n, fun b q => by
  by_cases z : b = D
  · rw [z]; exact h1
  · rw [upd_ne z] at q; exact e.nn b q⟩
/-! ### errors and outcomes -/
inductive EC | WrongCount | TooFar | NoPoint | Repeated | OnLine | NoSize | WrongRow | WrongLine | OnPlane | Within | NotTouched | NotBowl | OtherFloor
  deriving DecidableEq
def EC.fld : EC → Str
  | .WrongCount => "count"
  | .TooFar => "value"
  | .NoPoint => "number"
  | .Repeated => "number"
  | .OnLine => "numbers"
  | .NoSize => "size"
  | .WrongRow => "form"
  | .WrongLine => "line"
  | .OnPlane => "numbers"
  | .Within => "triangle"
  | .NotTouched => "triangle"
  | .NotBowl => "triangle"
  | .OtherFloor => ""
structure Er where
  c : EC
  val : PyData
/-- an error that has no field -/
def EC.nof : EC → Bool
  | .OtherFloor => true
  | _ => false
/-- an error with another number of fields than one -/
def EC.two : EC → Bool
  | .NotBowl => true
  | .OtherFloor => true
  | _ => false
def numOf : PyData → Int
  | .tuple [_, .int n] => n
  | _ => 0
def fstOf : PyData → PyData
  | .tuple (d :: _) => d
  | d => d
/-- its fields, u the first one's value -/
def Er.xs (e : Er) (u : V) : List (Str × V) := match e.c.two with
  | true => [("number", .int (numOf e.val)), ("triangle", u)]
  | false => [(e.c.fld, u)]
def Er.v1 (e : Er) : PyData := match e.c.two with
  | true => fstOf e.val
  | false => e.val
theorem xs_one {c : EC} (h : c.two = false) (d : PyData) (u : V) : Er.xs ⟨c, d⟩ u = [(c.fld, u)] := by
  unfold Er.xs
  rw [show (⟨c, d⟩ : Er).c.two = false from h]
theorem v1_one {c : EC} (h : c.two = false) (d : PyData) : Er.v1 ⟨c, d⟩ = d := by
  unfold Er.v1
  rw [show (⟨c, d⟩ : Er).c.two = false from h]
theorem nof_of {c : EC} (h : c.two = false) : c.nof = false := by cases c <;> first | rfl | cases h
/-- what is told of an error's dict dd -/
def XD (K : PySem.W.Frag) (H F' H' : Hp) (e : Er) (dd : Option Addr) : Prop := match e.c.nof with
  | true => dd = none
  | false => ∃ d u, dd = some d ∧ H d = none ∧ H' d = some (.xd (e.xs u)) ∧ Dp K F' u e.v1
theorem XD.of {K : PySem.W.Frag} {H F' H' : Hp} {e : Er} {d : Addr} {u : V} (hc : e.c.nof = false) (h1 : H d = none) (h2 : H' d = some (.xd (e.xs u))) (h3 : Dp K F' u e.v1) : XD K H F' H' e (some d) := by
  unfold XD
  rw [hc]
  exact ⟨d, u, rfl, h1, h2, h3⟩
theorem XD.no {K : PySem.W.Frag} {H F' H' : Hp} {e : Er} (hc : e.c.nof = true) : XD K H F' H' e none := by
  unfold XD
  rw [hc]
theorem XD.cases {K : PySem.W.Frag} {H F' H' : Hp} {e : Er} {dd : Option Addr} (x : XD K H F' H' e dd) : (e.c.nof = true ∧ dd = none) ∨ (e.c.nof = false ∧ ∃ d u, dd = some d ∧ H d = none ∧ H' d = some (.xd (e.xs u)) ∧ Dp K F' u e.v1) := by
  unfold XD at x
  cases h : e.c.nof with
  | true =>
    rw [h] at x
    exact .inl ⟨rfl, x⟩
  | false =>
    rw [h] at x
    exact .inr ⟨rfl, x⟩
theorem XD.get {K : PySem.W.Frag} {H F' H' : Hp} {e : Er} {dd : Option Addr} (x : XD K H F' H' e dd) (hc : e.c.nof = false) : ∃ d u, dd = Option.some d ∧ H d = none ∧ H' d = Option.some (.xd (e.xs u)) ∧ Dp K F' u e.v1 := by
  rcases x.cases with ⟨h, _⟩ | ⟨_, h⟩
  · rw [hc] at h
    cases h
  · exact h
theorem XD.back [LT] {K : PySem.W.Frag} {H H1 F' H' : Hp} {e : Er} {dd : Option Addr} (x : XD K H1 F' H' e dd) (g : Xh H H1) : XD K H F' H' e dd := by
  rcases x.cases with ⟨h, rfl⟩ | ⟨h, d, u, rfl, h1, h2, h3⟩
  · exact XD.no h
  · exact XD.of h (g.nn _ h1) h2 h3
inductive Out
  | ok (P : PV)
  | er (e : Er)
/-- what is wanted of a call that ends in o; M: where the classes stand -/
def Then [LT] (K : PySem.W.Frag) (M : EC → Addr) (F H : Hp) (Q : VK) (E : XK) : Out → Prop
  | .ok P => ∀ v F' H', Gr F H F' H' → P.p F' v → Q v H'
  | .er e => ∀ dd F' H', Gr F H F' H' → XD K H F' H' e dd → E (.ref (M e.c)) dd H'
theorem Then.step [LT] {K : PySem.W.Frag} {M : EC → Addr} {F H F1 H1 : Hp} {Q : VK} {E : XK} {o : Out} (e : Gr F H F1 H1) (h : Then K M F H Q E o) : Then K M F1 H1 Q E o := by
  cases o with
  | ok P => exact fun v F' H' e2 p => h v F' H' (e.trans e2) p
  | er x => exact fun dd F' H' e2 y => h dd F' H' (e.trans e2) (y.back e.hh)
/-- a def's promise: the arguments' kinds, the domain, the outcome -/
def Prm [LT] (K : PySem.W.Frag) (M : EC → Addr) {α : Type} (args : α → List PV) (dom : α → Prop) (out : α → Out) : Sp :=
  fun vs H Q E => ∃ a F, Fx F H ∧ AllP F vs (args a) ∧ dom a ∧ Then K M F H Q E (out a)
section
variable {K : PySem.W.Frag} {M : EC → Addr} {W : WX} {ps : Kn}
def JE [LT] (K : PySem.W.Frag) (M : EC → Addr) (W : WX) (te : TE) (ps : Kn) (o : Out) : Prop := ∀ σ F H Q, Fx F H → Sl F σ ps → Then K M F H Q (WE W σ) o → te σ H Q
abbrev JV [LT] (K : PySem.W.Frag) (M : EC → Addr) (W : WX) (te : TE) (ps : Kn) (P : PV) : Prop := JE K M W te ps (.ok P)
abbrev JD [LT] (K : PySem.W.Frag) (M : EC → Addr) (W : WX) (te : TE) (ps : Kn) (d : PyData) : Prop := JE K M W te ps (.ok (dv K d))
def JT [LT] (K : PySem.W.Frag) (M : EC → Addr) (W : WX) (tt : TT) (ps : Kn) (b : Bool) : Prop := ∀ σ F H (Q : Bool → Hp → Prop), Fx F H → Sl F σ ps → (∀ F' H', Gr F H F' H' → Q b H') → tt σ H Q
def JA [LT] (K : PySem.W.Frag) (M : EC → Addr) (W : WX) (ta : TA) (ps : Kn) (Ps : List PV) : Prop := ∀ σ F H (Q : List V → Hp → Prop), Fx F H → Sl F σ ps → (∀ vs F' H', Gr F H F' H' → AllP F' vs Ps → Q vs H') → ta σ H Q
variable {ta tb tc te : TE} {t u : TT}
theorem JE.go [LT] {P : PV} (h : JV K M W te ps P) {σ : L2.St} {F H : Hp} {Q : VK} (fh : Fx F H) (S : Sl F σ ps) (k : ∀ v F' H', Gr F H F' H' → P.p F' v → Q v H') : te σ H Q := h σ F H Q fh S k
theorem je_var [LT] {i : Nat} {P : PV} (h : ps[i]? = some (some P)) : JV K M W (tVar i) ps P := fun σ F H Q fh S k => by
  obtain ⟨v, h1, h2⟩ := S.2 i P h
  exact ⟨v, h1, k v F H (Gr.refl fh) h2⟩
theorem je_int [LT] {i : Int} : JD K M W (tC (.int i)) ps (.int i) := fun σ F H Q fh S k => k _ F H (Gr.refl fh) (.int i)
theorem je_str [LT] {x : Str} : JD K M W (tC (.str x)) ps (.str x) := fun σ F H Q fh S k => k _ F H (Gr.refl fh) (.str x)
theorem je_bl [LT] {b : Bool} : JD K M W (tC (.bl b)) ps (.bool b) := fun σ F H Q fh S k => k _ F H (Gr.refl fh) (.bl b)
theorem je_x [LT] {v : V} : JV K M W (tC v) ps (xv v) := fun σ F H Q fh S k => k _ F H (Gr.refl fh) rfl
theorem je_weak [LT] {P R : PV} (h : JV K M W te ps P) (i : ∀ H v, P.p H v → R.p H v) : JV K M W te ps R := fun σ F H Q fh S k => h.go fh S fun v F' H' e p => k v F' H' e (i F' v p)
/-- two operands that are known, an operation on values -/
theorem je_op [LT] {r : R2} {P R S' : PV} (ha : JV K M W ta ps P) (hb : JV K M W tb ps R) (hr : ∀ x y F H, Fx F H → P.p F x → R.p F y → ∀ Q : VK, (∀ v F' H', Gr F H F' H' → S'.p F' v → Q v H') → r x y H Q) : JV K M W (tOp r ta tb) ps S' := fun σ F H Q fh S k =>
  ha.go fh S fun x F1 H1 e1 p => hb.go e1.fh (S.mono e1.ff) fun y F2 H2 e2 q => hr x y F2 H2 e2.fh (P.mn e2.ff p) q Q fun v F3 H3 e3 s => k v F3 H3 ((e1.trans e2).trans e3) s
theorem je_un [LT] {r : V → Hp → VK → Prop} {P R : PV} (ha : JV K M W ta ps P) (hr : ∀ x F H, Fx F H → P.p F x → ∀ Q : VK, (∀ v F' H', Gr F H F' H' → R.p F' v → Q v H') → r x H Q) : JV K M W (tUn r ta) ps R := fun σ F H Q fh S k =>
  ha.go fh S fun x F1 H1 e1 p => hr x F1 H1 e1.fh p Q fun v F2 H2 e2 s => k v F2 H2 (e1.trans e2) s
/-- two ints -/
theorem je_ii0 [LT] {g : Int → Int → V} {i j : Int} {d : PyData} (ha : JD K M W ta ps (.int i)) (hb : JD K M W tb ps (.int j)) (hd : ∀ H, Dp K H (g i j) d) : JD K M W (tOp (rI0 g) ta tb) ps d :=
  je_op ha hb fun x y F H fh p q Q k => ⟨i, j, dp_int p, dp_int q, k _ F H (Gr.refl fh) (hd F)⟩
theorem je_iiC [LT] {C : Int → Int → Prop} {g : Int → Int → V} {i j : Int} {d : PyData} (ha : JD K M W ta ps (.int i)) (hb : JD K M W tb ps (.int j)) (hc : C i j) (hd : ∀ H, Dp K H (g i j) d) : JD K M W (tOp (rI C g) ta tb) ps d :=
  je_op ha hb fun x y F H fh p q Q k => ⟨i, j, dp_int p, dp_int q, hc, k _ F H (Gr.refl fh) (hd F)⟩
theorem je_add [LT] {i j : Int} (ha : JD K M W ta ps (.int i)) (hb : JD K M W tb ps (.int j)) : JD K M W (tOp (rI0 fun i j => .int (i + j)) ta tb) ps (.int (i + j)) := je_ii0 ha hb fun _ => .int _
theorem je_sub [LT] {i j : Int} (ha : JD K M W ta ps (.int i)) (hb : JD K M W tb ps (.int j)) : JD K M W (tOp (rI0 fun i j => .int (i - j)) ta tb) ps (.int (i - j)) := je_ii0 ha hb fun _ => .int _
theorem je_mul [LT] {i j : Int} (ha : JD K M W ta ps (.int i)) (hb : JD K M W tb ps (.int j)) (hc : CMul i j) : JD K M W (tOp (rI CMul fun i j => .int (i * j)) ta tb) ps (.int (i * j)) := je_iiC ha hb hc fun _ => .int _
theorem je_mod [LT] {i j : Int} (ha : JD K M W ta ps (.int i)) (hb : JD K M W tb ps (.int j)) (hc : 0 < j) : JD K M W (tOp (rI (fun _ j => 0 < j) fun i j => .int (i % j)) ta tb) ps (.int (i % j)) := je_iiC (C := fun _ j => 0 < j) ha hb hc fun _ => .int _
theorem je_div [LT] {i j : Int} (ha : JD K M W ta ps (.int i)) (hb : JD K M W tb ps (.int j)) (hc : CDiv i j) : JD K M W (tOp (rI CDiv fun i j => .int (i / j)) ta tb) ps (.int (i / j)) := je_iiC ha hb hc fun _ => .int _
theorem je_pow [LT] {i j : Int} (ha : JD K M W ta ps (.int i)) (hb : JD K M W tb ps (.int j)) (hc : CPow i j) : JD K M W (tOp (rI CPow fun i j => .int (i ^ j.toNat)) ta tb) ps (.int (i ^ j.toNat)) := je_iiC ha hb hc fun _ => .int _
theorem je_lt [LT] {i j : Int} (ha : JD K M W ta ps (.int i)) (hb : JD K M W tb ps (.int j)) : JD K M W (tOp (rI0 fun i j => .bl (decide (i < j))) ta tb) ps (.bool (decide (i < j))) := je_ii0 ha hb fun _ => .bl _
theorem je_gt [LT] {i j : Int} (ha : JD K M W ta ps (.int i)) (hb : JD K M W tb ps (.int j)) : JD K M W (tOp (rI0 fun i j => .bl (decide (j < i))) ta tb) ps (.bool (decide (j < i))) := je_ii0 ha hb fun _ => .bl _
theorem je_ge [LT] {i j : Int} (ha : JD K M W ta ps (.int i)) (hb : JD K M W tb ps (.int j)) : JD K M W (tOp (rI0 fun i j => .bl (decide (j ≤ i))) ta tb) ps (.bool (decide (j ≤ i))) := je_ii0 ha hb fun _ => .bl _
theorem je_eqI [LT] {i j : Int} (ha : JD K M W ta ps (.int i)) (hb : JD K M W tb ps (.int j)) : JD K M W (tOp rEq ta tb) ps (.bool (decide (i = j))) := je_op ha hb fun x y F H fh p q Q k => by
  rw [dp_int p, dp_int q]
  refine ⟨rfl, ?_⟩
  have e : decide (V.int i = V.int j) = decide (i = j) := by
    by_cases h : i = j
    · subst h; simp
    · simp [h]
  rw [e]
  exact k _ F H (Gr.refl fh) (.bl _)
theorem je_neI [LT] {i j : Int} (ha : JD K M W ta ps (.int i)) (hb : JD K M W tb ps (.int j)) : JD K M W (tOp rNe ta tb) ps (.bool (!decide (i = j))) := je_op ha hb fun x y F H fh p q Q k => by
  rw [dp_int p, dp_int q]
  refine ⟨rfl, ?_⟩
  have e : decide (V.int i = V.int j) = decide (i = j) := by
    by_cases h : i = j
    · subst h; simp
    · simp [h]
  rw [e]
  exact k _ F H (Gr.refl fh) (.bl _)
theorem je_eqS [LT] {x y : Str} (ha : JD K M W ta ps (.str x)) (hb : JD K M W tb ps (.str y)) : JD K M W (tOp rEq ta tb) ps (.bool (decide (x = y))) := je_op ha hb fun a b F H fh p q Q k => by
  rw [dp_str p, dp_str q]
  refine ⟨rfl, ?_⟩
  have e : decide (V.str x = V.str y) = decide (x = y) := by
    by_cases h : x = y
    · subst h; simp
    · simp [h]
  rw [e]
  exact k _ F H (Gr.refl fh) (.bl _)
/-- data at any depth -/
theorem je_eqD [LT] {d e : PyData} (ha : JD K M W ta ps d) (hb : JD K M W tb ps e) (sd : SeqAt.shaped d = true) (se : SeqAt.shaped e = true) : JD K M W (tOp (rEqD K) ta tb) ps (.bool (PyData.eqv d e)) :=
  je_op ha hb fun x y F H fh p q Q k => ⟨d, e, dp_mono fh.ex p, dp_mono fh.ex q, sd, se, k _ F H (Gr.refl fh) (.bl _)⟩
theorem je_neD [LT] {d e : PyData} (ha : JD K M W ta ps d) (hb : JD K M W tb ps e) (sd : SeqAt.shaped d = true) (se : SeqAt.shaped e = true) : JD K M W (tOp (rNeD K) ta tb) ps (.bool (!PyData.eqv d e)) :=
  je_op ha hb fun x y F H fh p q Q k => ⟨d, e, dp_mono fh.ex p, dp_mono fh.ex q, sd, se, k _ F H (Gr.refl fh) (.bl _)⟩
theorem je_neg [LT] {i : Int} (ha : JD K M W ta ps (.int i)) : JD K M W (tUn (rU fun i => .int (-i)) ta) ps (.int (-i)) := je_un ha fun x F H fh p Q k => ⟨i, dp_int p, k _ F H (Gr.refl fh) (.int _)⟩
/-- items -/
theorem atI_all {H : Hp} {vs : List V} {ds : List PyData} {i : Int} {d : PyData} (h : DpAll K H vs ds) (ha : atI ds i = some d) : ∃ v, atI vs i = some v ∧ Dp K H v d := by
  unfold atI at ha ⊢
  rw [dpLength h]
  cases q : ixN ds.length i with
  | none => rw [q] at ha; cases ha
  | some j =>
    rw [q] at ha
    exact dpGet h ha
theorem je_ixT [LT] {ds : List PyData} {i : Int} {d : PyData} (ha : JD K M W ta ps (.tuple ds)) (hb : JD K M W tb ps (.int i)) (hi : atI ds i = some d) : JD K M W (tOp (rIxT K) ta tb) ps d :=
  je_op ha hb fun x y F H fh p q Q k => by
    obtain ⟨a, xs, rfl, hs, hd⟩ := dp_tup p
    obtain ⟨v, hv, dd⟩ := atI_all hd hi
    exact ⟨a, xs, i, v, rfl, dp_int q, ex_t fh.ex hs, hv, k v F H (Gr.refl fh) dd⟩
theorem je_ixL [LT] {ds : List PyData} {i : Int} {d : PyData} (ha : JD K M W ta ps (.list ds)) (hb : JD K M W tb ps (.int i)) (hi : atI ds i = some d) : JD K M W (tOp (rIxL K) ta tb) ps d :=
  je_op ha hb fun x y F H fh p q Q k => by
    obtain ⟨a, xs, rfl, hs, hd⟩ := dp_lst p
    obtain ⟨v, hv, dd⟩ := atI_all hd hi
    exact ⟨a, xs, i, v, rfl, dp_int q, ex_l fh.ex hs, hv, k v F H (Gr.refl fh) dd⟩
theorem je_ixQT [LT] {ds : List PyData} {i : Int} {d : PyData} (ha : JD K M W ta ps (.tuple ds)) (hb : JD K M W tb ps (.int i)) (hi : atI ds i = some d) : JD K M W (tOp (rIx K) ta tb) ps d :=
  je_op ha hb fun x y F H fh p q Q k => by
    obtain ⟨a, xs, rfl, hs, hd⟩ := dp_tup p
    obtain ⟨v, hv, dd⟩ := atI_all hd hi
    exact .inr (.inl ⟨a, xs, i, v, rfl, dp_int q, ex_t fh.ex hs, hv, k v F H (Gr.refl fh) dd⟩)
theorem je_ixQL [LT] {ds : List PyData} {i : Int} {d : PyData} (ha : JD K M W ta ps (.list ds)) (hb : JD K M W tb ps (.int i)) (hi : atI ds i = some d) : JD K M W (tOp (rIx K) ta tb) ps d :=
  je_op ha hb fun x y F H fh p q Q k => by
    obtain ⟨a, xs, rfl, hs, hd⟩ := dp_lst p
    obtain ⟨v, hv, dd⟩ := atI_all hd hi
    exact .inl ⟨a, xs, i, v, rfl, dp_int q, ex_l fh.ex hs, hv, k v F H (Gr.refl fh) dd⟩
/-- arguments -/
theorem ja_nil [LT] : JA K M W tNil ps [] := fun σ F H Q fh S k => k [] F H (Gr.refl fh) .nil
theorem ja_cons [LT] {P : PV} {Ps : List PV} {tr : TA} (h : JV K M W te ps P) (hr : JA K M W tr ps Ps) : JA K M W (tCons te tr) ps (P :: Ps) := fun σ F H Q fh S k =>
  h.go fh S fun v F1 H1 e1 p => hr σ F1 H1 _ e1.fh (S.mono e1.ff) fun vs F2 H2 e2 a => k (v :: vs) F2 H2 (e1.trans e2) (.cons (P.mn e2.ff p) a)
theorem ja_starT [LT] {ds : List PyData} {Ps : List PV} {tr : TA} (h : JD K M W te ps (.tuple ds)) (hr : JA K M W tr ps Ps) : JA K M W (StX.tStar K te tr) ps (ds.map (dv K) ++ Ps) := fun σ F H Q fh S k =>
  h.go fh S fun v F1 H1 e1 p => by
    obtain ⟨a, xs, rfl, hs, hd⟩ := dp_tup p
    exact ⟨a, xs, rfl, .inl (ex_t e1.fh.ex hs), hr σ F1 H1 _ e1.fh (S.mono e1.ff) fun vs F2 H2 e2 b => k (xs ++ vs) F2 H2 (e1.trans e2) ((AllP.of_dv (dpAll_mono e2.ff hd)).app b)⟩
theorem ja_starL [LT] {ds : List PyData} {Ps : List PV} {tr : TA} (h : JD K M W te ps (.list ds)) (hr : JA K M W tr ps Ps) : JA K M W (StX.tStar K te tr) ps (ds.map (dv K) ++ Ps) := fun σ F H Q fh S k =>
  h.go fh S fun v F1 H1 e1 p => by
    obtain ⟨a, xs, rfl, hs, hd⟩ := dp_lst p
    exact ⟨a, xs, rfl, .inr (ex_l e1.fh.ex hs), hr σ F1 H1 _ e1.fh (S.mono e1.ff) fun vs F2 H2 e2 b => k (xs ++ vs) F2 H2 (e1.trans e2) ((AllP.of_dv (dpAll_mono e2.ff hd)).app b)⟩
theorem ja_is [LT] {Ps Qs : List PV} {tr : TA} (h : JA K M W tr ps Ps) (e : Ps = Qs) : JA K M W tr ps Qs := e ▸ h
theorem je_tup [LT] {ds : List PyData} {tr : TA} (h : JA K M W tr ps (ds.map (dv K))) (hl : ds.length ≤ 100000 := by first | decide | omega | (simp; done)) : JD K M W (tTup tr) ps (.tuple ds) := fun σ F H Q fh S k =>
  h σ F H _ fh S fun vs F1 H1 e1 a => ⟨sz_of (by rw [dpLength a.dv]; exact hl), fun p hp => k _ _ _ (e1.trans (Gr.new e1.fh hp)) (.tup (st_of upd_same) (dpAll_mono (Gr.new (o := .tup vs) e1.fh hp).ff a.dv))⟩
theorem je_lst [LT] {ds : List PyData} {tr : TA} (h : JA K M W tr ps (ds.map (dv K))) (hl : ds.length ≤ 100000 := by first | decide | omega | (simp; done)) : JD K M W (tLst tr) ps (.list ds) := fun σ F H Q fh S k =>
  h σ F H _ fh S fun vs F1 H1 e1 a => ⟨sz_of (by rw [dpLength a.dv]; exact hl), fun p hp => k _ _ _ (e1.trans (Gr.new e1.fh hp)) (.lst (sq_of upd_same) (dpAll_mono (Gr.new (o := .lst vs) e1.fh hp).ff a.dv))⟩
/-- calls -/
theorem je_call [LT] {α : Type} {args : α → List PV} {dom : α → Prop} {out : α → Out} {tr : TA} (a : α) (h : JA K M W tr ps (args a)) (hd : dom a) : JE K M W (tCallS (Prm K M args dom out) (WE W) tr) ps (out a) := fun σ F H Q fh S k =>
  h σ F H _ fh S fun vs F1 H1 e1 b => ⟨a, F1, e1.fh, b, hd, Then.step e1 k⟩
theorem je_cb [LT] {r : List V → Hp → VK → Prop} {Ps : List PV} {P : PV} {tr : TA} (h : JA K M W tr ps Ps) (hr : ∀ vs F H, Fx F H → AllP F vs Ps → ∀ Q : VK, (∀ v F' H', Gr F H F' H' → P.p F' v → Q v H') → r vs H Q) : JV K M W (tCB r tr) ps P := fun σ F H Q fh S k =>
  h σ F H _ fh S fun vs F1 H1 e1 b => hr vs F1 H1 e1.fh b Q fun v F2 H2 e2 p => k v F2 H2 (e1.trans e2) p
theorem allP1 {H : Hp} {vs : List V} {P : PV} (h : AllP H vs [P]) : ∃ v, vs = [v] ∧ P.p H v := by
  cases h with
  | cons h t => cases t; exact ⟨_, rfl, h⟩
theorem allP2 {H : Hp} {vs : List V} {P R : PV} (h : AllP H vs [P, R]) : ∃ v u, vs = [v, u] ∧ P.p H v ∧ R.p H u := by
  cases h with
  | cons h t =>
    obtain ⟨u, rfl, h2⟩ := allP1 t
    exact ⟨_, _, rfl, h, h2⟩
def rAbs : List V → Hp → VK → Prop := fun xs H Q => ∃ i, xs = [.int i] ∧ Q (.int (if i < 0 then -i else i)) H
theorem je_abs [LT] {i : Int} (h : JD K M W te ps (.int i)) : JD K M W (tCB rAbs (tCons te tNil)) ps (.int (if i < 0 then -i else i)) := je_cb (ja_cons h ja_nil) fun vs F H fh b Q k => by
  obtain ⟨v, rfl, p⟩ := allP1 b
  rw [dp_int p]
  exact ⟨i, rfl, k _ F H (Gr.refl fh) (.int _)⟩
def rInt1 : List V → Hp → VK → Prop := fun xs H Q => (∃ i, xs = [.int i] ∧ Q (.int i) H) ∨ ∃ k, xs = [.bl k] ∧ Q (.int (if k then 1 else 0)) H
theorem je_intI [LT] {i : Int} (h : JD K M W te ps (.int i)) : JD K M W (tCB rInt1 (tCons te tNil)) ps (.int i) := je_cb (ja_cons h ja_nil) fun vs F H fh b Q k => by
  obtain ⟨v, rfl, p⟩ := allP1 b
  rw [dp_int p]
  exact .inl ⟨i, rfl, k _ F H (Gr.refl fh) (.int _)⟩
theorem je_lenT [LT] {ds : List PyData} (h : JD K M W te ps (.tuple ds)) : JD K M W (tCB (rLenS K) (tCons te tNil)) ps (.int ds.length) := je_cb (ja_cons h ja_nil) fun vs F H fh b Q k => by
  obtain ⟨v, rfl, p⟩ := allP1 b
  obtain ⟨a, xs, rfl, hs, hd⟩ := dp_tup p
  refine ⟨a, xs, rfl, .inr (ex_t fh.ex hs), k _ F H (Gr.refl fh) ?_⟩
  rw [dpLength hd]
  exact .int _
theorem je_lenL [LT] {ds : List PyData} (h : JD K M W te ps (.list ds)) : JD K M W (tCB (rLenS K) (tCons te tNil)) ps (.int ds.length) := je_cb (ja_cons h ja_nil) fun vs F H fh b Q k => by
  obtain ⟨v, rfl, p⟩ := allP1 b
  obtain ⟨a, xs, rfl, hs, hd⟩ := dp_lst p
  refine ⟨a, xs, rfl, .inl (ex_l fh.ex hs), k _ F H (Gr.refl fh) ?_⟩
  rw [dpLength hd]
  exact .int _
theorem je_listL [LT] {ds : List PyData} (h : JD K M W te ps (.list ds)) : JD K M W (tCB (rListS K) (tCons te tNil)) ps (.list ds) := je_cb (ja_cons h ja_nil) fun vs F H fh b Q k => by
  obtain ⟨v, rfl, p⟩ := allP1 b
  obtain ⟨a, xs, rfl, hs, hd⟩ := dp_lst p
  exact ⟨a, xs, rfl, .inl (ex_l fh.ex hs), fun l hl => k _ _ _ (Gr.new fh hl) (.lst (sq_of upd_same) (dpAll_mono (Gr.new (o := .lst xs) fh hl).ff hd))⟩
theorem je_listT [LT] {ds : List PyData} (h : JD K M W te ps (.tuple ds)) : JD K M W (tCB (rListS K) (tCons te tNil)) ps (.list ds) := je_cb (ja_cons h ja_nil) fun vs F H fh b Q k => by
  obtain ⟨v, rfl, p⟩ := allP1 b
  obtain ⟨a, xs, rfl, hs, hd⟩ := dp_tup p
  exact ⟨a, xs, rfl, .inr (ex_t fh.ex hs), fun l hl => k _ _ _ (Gr.new fh hl) (.lst (sq_of upd_same) (dpAll_mono (Gr.new (o := .lst xs) fh hl).ff hd))⟩
def rTupS (K : PySem.W.Frag) : List V → Hp → VK → Prop := fun xs H Q => ∃ p ys, xs = [.ref p] ∧ ((SqL K H p ys ∧ ∀ l, H l = none → Q (.ref l) (upd H l (.tup ys))) ∨ (SqT K H p ys ∧ Q (.ref p) H))
theorem je_tupL [LT] {ds : List PyData} (h : JD K M W te ps (.list ds)) : JD K M W (tCB (rTupS K) (tCons te tNil)) ps (.tuple ds) := je_cb (ja_cons h ja_nil) fun vs F H fh b Q k => by
  obtain ⟨v, rfl, p⟩ := allP1 b
  obtain ⟨a, xs, rfl, hs, hd⟩ := dp_lst p
  exact ⟨a, xs, rfl, .inl ⟨ex_l fh.ex hs, fun l hl => k _ _ _ (Gr.new fh hl) (.tup (st_of upd_same) (dpAll_mono (Gr.new (o := .tup xs) fh hl).ff hd))⟩⟩
/-- tests -/
theorem jt_test [LT] {b : Bool} (h : JD K M W te ps (.bool b)) : JT K M W (tTest te) ps b := fun σ F H Q fh S k => h.go fh S fun v F1 H1 e p => ⟨b, dp_bl p, k F1 H1 e⟩
theorem jt_B [LT] {b : Bool} (h : JD K M W te ps (.bool b)) : JT K M W (tB te) ps b := fun σ F H Q fh S k => h.go fh S fun v F1 H1 e p => ⟨b, dp_bl p, k F1 H1 e⟩
theorem jt_and [LT] {a b : Bool} (h1 : JT K M W t ps a) (h2 : a = true → JT K M W u ps b) : JT K M W (tAnd t u) ps (a && b) := fun σ F H Q fh S k => h1 σ F H _ fh S fun F1 H1 e1 => by
  cases a with
  | true => exact h2 rfl σ F1 H1 Q e1.fh (S.mono e1.ff) fun F2 H2 e2 => k F2 H2 (e1.trans e2)
  | false => exact k F1 H1 e1
theorem jt_or [LT] {a b : Bool} (h1 : JT K M W t ps a) (h2 : a = false → JT K M W u ps b) : JT K M W (tOr t u) ps (a || b) := fun σ F H Q fh S k => h1 σ F H _ fh S fun F1 H1 e1 => by
  cases a with
  | false => exact h2 rfl σ F1 H1 Q e1.fh (S.mono e1.ff) fun F2 H2 e2 => k F2 H2 (e1.trans e2)
  | true => exact k F1 H1 e1
theorem jt_not [LT] {a : Bool} (h1 : JT K M W t ps a) : JT K M W (tNot t) ps (!a) := fun σ F H Q fh S k => h1 σ F H _ fh S fun F1 H1 e1 => k F1 H1 e1
theorem jt_yes [LT] : JT K M W tYes ps true := fun σ F H Q fh S k => k F H (Gr.refl fh)
theorem jt_is [LT] {a b : Bool} (h : JT K M W t ps a) (e : a = b) : JT K M W t ps b := by rw [← e]; exact h
theorem je_is [LT] {d e : PyData} (h : JD K M W te ps d) (q : d = e) : JD K M W te ps e := by rw [← q]; exact h
theorem je_andV [LT] {a b : Bool} (h1 : JD K M W ta ps (.bool a)) (h2 : a = true → JD K M W tb ps (.bool b)) : JD K M W (tAndV ta tb) ps (.bool (a && b)) := fun σ F H Q fh S k => h1.go fh S fun v F1 H1 e1 p => by
  refine ⟨a, dp_bl p, ?_⟩
  cases a with
  | true => exact (h2 rfl).go e1.fh (S.mono e1.ff) fun v F2 H2 e2 q => k v F2 H2 (e1.trans e2) q
  | false => exact k _ F1 H1 e1 (.bl false)
theorem je_notV [LT] {a : Bool} (h1 : JD K M W ta ps (.bool a)) : JD K M W (tNotV ta) ps (.bool (!a)) := fun σ F H Q fh S k => h1.go fh S fun v F1 H1 e1 p => ⟨a, dp_bl p, k _ F1 H1 e1 (.bl _)⟩
theorem je_if [LT] {b : Bool} {P : PV} (h : JT K M W t ps b) (h1 : b = true → JV K M W ta ps P) (h2 : b = false → JV K M W tb ps P) : JV K M W (tIf t ta tb) ps P := fun σ F H Q fh S k => h σ F H _ fh S fun F1 H1 e1 => by
  cases b with
  | true => exact (h1 rfl).go e1.fh (S.mono e1.ff) fun v F2 H2 e2 q => k v F2 H2 (e1.trans e2) q
  | false => exact (h2 rfl).go e1.fh (S.mono e1.ff) fun v F2 H2 e2 q => k v F2 H2 (e1.trans e2) q
/-- a < b <= c -/
theorem je_chain [LT] {r r' : R2} {P R T : PV} {k1 k2 : Bool} (ha : JV K M W ta ps P) (hb : JV K M W tb ps R) (hr : ∀ x y F H, Fx F H → P.p F x → R.p F y → ∀ Q : VK, Q (.bl k1) H → r x y H Q)
    (hc : k1 = true → JV K M W tc ps T) (hr' : ∀ x y F H, Fx F H → R.p F x → T.p F y → ∀ Q : VK, Q (.bl k2) H → r' x y H Q) : JD K M W (tChain r r' ta tb tc) ps (.bool (k1 && k2)) := fun σ F H Q fh S k =>
  ha.go fh S fun x F1 H1 e1 p => hb.go e1.fh (S.mono e1.ff) fun y F2 H2 e2 q => hr x y F2 H2 e2.fh (P.mn e2.ff p) q _ ⟨k1, rfl, by
    cases k1 with
    | false => exact k _ F2 H2 (e1.trans e2) (.bl _)
    | true => exact (hc rfl).go e2.fh ((S.mono e1.ff).mono e2.ff) fun z F3 H3 e3 s => hr' y z F3 H3 e3.fh (R.mn e3.ff q) s _ (k _ F3 H3 ((e1.trans e2).trans e3) (.bl _))⟩
theorem je_chainI [LT] {f f' : Int → Int → Bool} {i j l : Int} (ha : JD K M W ta ps (.int i)) (hb : JD K M W tb ps (.int j)) (hc : JD K M W tc ps (.int l)) :
    JD K M W (tChain (rI0 fun i j => .bl (f i j)) (rI0 fun i j => .bl (f' i j)) ta tb tc) ps (.bool (f i j && f' j l)) :=
  je_chain ha hb (fun x y F H fh p q Q k => ⟨i, j, dp_int p, dp_int q, k⟩) (fun _ => hc) (fun x y F H fh p q Q k => ⟨j, l, dp_int p, dp_int q, k⟩)
end
end EB
/-! EB4: statements (JS), loops over data, comprehensions, raise, methods, making. -/
namespace EB
open PySem PySem.Spec PyProof.Rows L2 Evl
inductive Res
  | nx (ps : Kn)
  | rt (P : PV)
  | bk (ps : Kn)
  | ct (ps : Kn)
  | er (e : Er)
def Wsh [LT] (K : PySem.W.Frag) (M : EC → Addr) (W : WX) (n : Nat) (D : Ends) (F H : Hp) : Res → Prop
  | .nx ps => ∀ σ' F' H', Gr F H F' H' → Sl F' σ' ps → D.nx σ' H'
  | .rt P => ∀ v F' H', Gr F H F' H' → P.p F' v → D.rt v H'
  | .bk ps => ∀ σ' F' H', Gr F H F' H' → Sl F' σ' ps → D.bk σ' H'
  | .ct ps => ∀ σ' F' H', Gr F H F' H' → Sl F' σ' ps → D.ct σ' H'
  | .er e => ∀ dd σ' F' H', Gr F H F' H' → XD K H F' H' e dd → σ'.length = n → W (.ref (M e.c)) dd σ' H'
theorem Wsh.step [LT] {K : PySem.W.Frag} {M : EC → Addr} {W : WX} {n : Nat} {D : Ends} {F H F1 H1 : Hp} {r : Res} (e : Gr F H F1 H1) (h : Wsh K M W n D F H r) : Wsh K M W n D F1 H1 r := by
  cases r with
  | nx ps => exact fun σ' F' H' e2 s => h σ' F' H' (e.trans e2) s
  | rt P => exact fun v F' H' e2 s => h v F' H' (e.trans e2) s
  | bk ps => exact fun σ' F' H' e2 s => h σ' F' H' (e.trans e2) s
  | ct ps => exact fun σ' F' H' e2 s => h σ' F' H' (e.trans e2) s
  | er x => exact fun dd σ' F' H' e2 y l => h dd σ' F' H' (e.trans e2) (y.back e.hh) l
/-- the end of a call's outcome, as a statement's -/
def Out.res (ps : Kn) : Out → Res
  | .ok _ => .nx ps
  | .er e => .er e
section
variable {K : PySem.W.Frag} {M : EC → Addr} {W : WX} {ps qs : Kn} {te ta tb : TE} {t : TT} {ts tu tw : TS} {r : Res}
def JS [LT] (K : PySem.W.Frag) (M : EC → Addr) (W : WX) (ts : TS) (ps : Kn) (r : Res) : Prop := ∀ D σ F H, Fx F H → Sl F σ ps → Wsh K M W ps.length D F H r → ts D σ H
/-- less is known of the slots behind it -/
theorem js_weak [LT] (h : JS K M W ts ps (.nx qs)) {rs : Kn} (w : Weak qs rs) : JS K M W ts ps (.nx rs) := fun D σ F H fh S k => h D σ F H fh S fun σ' F' H' e s => k σ' F' H' e (s.weak w)
theorem js_pre [LT] (h : JS K M W ts qs r) (w : Weak ps qs) : JS K M W ts ps r := fun D σ F H fh S k => h D σ F H fh (S.weak w) (by rw [← w.len]; exact k)
theorem js_next [LT] : JS K M W tNext ps (.nx ps) := fun D σ F H fh S k => k σ F H (Gr.refl fh) S
theorem js_seq [LT] (h1 : JS K M W ts ps (.nx qs)) (h2 : JS K M W tu qs r) (hq : qs.length = ps.length := by first | rfl | (simp; done)) : JS K M W (tSeq ts tu) ps r := fun D σ F H fh S k => h1 { D with nx := tu D } σ F H fh S fun σ' F' H' e s => h2 D σ' F' H' e.fh s (by rw [hq]; exact Wsh.step e k)
/-- nothing behind it is reached -/
theorem js_stop [LT] {r : Res} (h1 : JS K M W ts ps r) (hr : ∀ qs, r ≠ .nx qs) : JS K M W (tSeq ts tu) ps r := fun D σ F H fh S k => h1 { D with nx := tu D } σ F H fh S (by
  cases r with
  | nx qs => exact absurd rfl (hr qs)
  | rt P => exact k
  | bk ps => exact k
  | ct ps => exact k
  | er e => exact k)
theorem js_rt [LT] {P : PV} (h1 : JS K M W ts ps (.rt P)) : JS K M W (tSeq ts tu) ps (.rt P) := js_stop h1 fun _ h => nomatch h
theorem js_er [LT] {e : Er} (h1 : JS K M W ts ps (.er e)) : JS K M W (tSeq ts tu) ps (.er e) := js_stop h1 fun _ h => nomatch h
theorem js_set [LT] {i : Nat} {P : PV} (h : JV K M W te ps P) : JS K M W (tAsg te (gName i)) ps (.nx (ps.set i (some P))) := fun D σ F H fh S k => h.go fh S fun v F1 H1 e p => k _ F1 H1 e ((S.mono e.ff).set i p)
theorem js_set_er [LT] {g : TG} {e : Er} (h : JE K M W te ps (.er e)) : JS K M W (tAsg te g) ps (.er e) := fun D σ F H fh S k => h σ F H _ fh S fun dd F' H' e1 x => k dd σ F' H' e1 x S.1
theorem js_ret [LT] {P : PV} (h : JV K M W te ps P) : JS K M W (tRet te) ps (.rt P) := fun D σ F H fh S k => h.go fh S fun v F1 H1 e p => k v F1 H1 e p
theorem js_drop [LT] {o : Out} (h : JE K M W te ps o) : JS K M W (tDrop te) ps (o.res ps) := fun D σ F H fh S k => h σ F H _ fh S (by
  cases o with
  | ok P => exact fun v F1 H1 e p => k σ F1 H1 e (S.mono e.ff)
  | er e => exact fun dd F' H' e1 x => k dd σ F' H' e1 x S.1)
theorem js_if [LT] {b : Bool} (h : JT K M W t ps b) (h1 : b = true → JS K M W ts ps r) (h2 : b = false → JS K M W tu ps r) : JS K M W (tIfS t ts tu) ps r := fun D σ F H fh S k => h σ F H _ fh S fun F1 H1 e1 => by
  cases b with
  | true => exact h1 rfl D σ F1 H1 e1.fh (S.mono e1.ff) (Wsh.step e1 k)
  | false => exact h2 rfl D σ F1 H1 e1.fh (S.mono e1.ff) (Wsh.step e1 k)
/-! ### targets -/
/-- a target takes a value that is known -/
structure Upto (vs : List Nat) (σ σ' : L2.St) : Prop where
  len : σ'.length = σ.length
  out : ∀ j, j ∉ vs → σ'[j]? = σ[j]?
theorem Upto.refl (vs : List Nat) (σ : L2.St) : Upto vs σ σ := ⟨rfl, fun _ _ => rfl⟩
theorem Upto.trans {vs : List Nat} {σ τ ρ : L2.St} (a : Upto vs σ τ) (b : Upto vs τ ρ) : Upto vs σ ρ := ⟨b.len.trans a.len, fun j h => (b.out j h).trans (a.out j h)⟩
theorem Upto.set {vs : List Nat} {σ : L2.St} {j : Nat} {x : Option V} (h : j ∈ vs) : Upto vs σ (σ.set j x) := ⟨by rw [List.length_set], fun i hi => by
  rw [List.getElem?_set_ne (fun z => hi (by rw [← z]; exact h))]⟩
theorem wipe_in {σ : L2.St} : ∀ {vs : List Nat} {j : Nat}, j ∈ vs → j < σ.length → (wipe σ vs)[j]? = some none
  | v :: vs, j, h, hl => by
    show ((wipe σ vs).set v none)[j]? = some none
    by_cases e : v = j
    · subst e
      exact List.getElem?_set_self (by rw [wipe_length]; exact hl)
    · rw [List.getElem?_set_ne e]
      rcases List.mem_cons.mp h with z | z
      · exact absurd z.symm e
      · exact wipe_in z hl
theorem wipe_upto {vs : List Nat} {σ σ' : L2.St} (u : Upto vs σ σ') : wipe σ' vs = wipe σ vs := by
  apply List.ext_getElem?
  intro j
  by_cases h : j ∈ vs
  · by_cases hl : j < σ.length
    · rw [wipe_in h hl, wipe_in h (by rw [u.len]; exact hl)]
    · rw [List.getElem?_eq_none (by rw [wipe_length, u.len]; omega), List.getElem?_eq_none (by rw [wipe_length]; omega)]
  · rw [wipe_out h, wipe_out h, u.out j h]
theorem upto_wipe {vs : List Nat} {σ : L2.St} : Upto vs σ (wipe σ vs) := ⟨wipe_length σ vs, fun j h => wipe_out h⟩
def wipeK : Kn → List Nat → Kn
  | ps, [] => ps
  | ps, v :: vs => (wipeK ps vs).set v none
theorem Sl.wipe {H : Hp} {σ : L2.St} {ps : Kn} (S : Sl H σ ps) : ∀ vs : List Nat, Sl H (L2.wipe σ vs) (wipeK ps vs)
  | [] => S
  | v :: vs => (Sl.wipe S vs).forget v none
def JG [LT] (vs : List Nat) (g : TG) (ps : Kn) (P : PV) (qs : Kn) : Prop := ∀ v σ F H (Q : L2.St → Hp → Prop), Fx F H → Sl F σ ps → P.p F v → (∀ σ' F' H', Gr F H F' H' → Sl F' σ' qs → Upto vs σ σ' → Q σ' H') → g v σ H Q
def JGs [LT] (vs : List Nat) (g : TGs) (ps : Kn) (Ps : List PV) (qs : Kn) : Prop := ∀ us σ F H (Q : L2.St → Hp → Prop), Fx F H → Sl F σ ps → AllP F us Ps → (∀ σ' F' H', Gr F H F' H' → Sl F' σ' qs → Upto vs σ σ' → Q σ' H') → g us σ H Q
variable {vs : List Nat}
theorem jg_name [LT] {i : Nat} {P : PV} (h : i ∈ vs := by decide) : JG vs (gName i) ps P (ps.set i (some P)) := fun v σ F H Q fh S p k => k _ F H (Gr.refl fh) (S.set i p) (Upto.set h)
theorem jgs_nil [LT] : JGs vs gNil ps [] ps := fun us σ F H Q fh S a k => by
  cases a
  exact ⟨rfl, k σ F H (Gr.refl fh) S (Upto.refl _ _)⟩
theorem jgs_cons [LT] {g : TG} {gs : TGs} {P : PV} {Ps : List PV} {rs : Kn} (h : JG vs g ps P qs) (hs : JGs vs gs qs Ps rs) : JGs vs (gCons g gs) ps (P :: Ps) rs := fun us σ F H Q fh S a k => by
  cases a with
  | cons p a =>
    exact ⟨_, _, rfl, h _ σ F H _ fh S p fun σ1 F1 H1 e1 S1 u1 => hs _ σ1 F1 H1 Q e1.fh S1 (a.mono e1.ff) fun σ2 F2 H2 e2 S2 u2 => k σ2 F2 H2 (e1.trans e2) S2 (u1.trans u2)⟩
theorem jg_tup [LT] {gs : TGs} {n : Nat} {ds : List PyData} (h : JGs vs gs ps (ds.map (dv K)) qs) (hn : ds.length = n := by rfl) : JG vs (gTup K n gs) ps (dv K (.tuple ds)) qs := fun v σ F H Q fh S p k => by
  obtain ⟨a, xs, rfl, hs, hd⟩ := dp_tup p
  exact ⟨a, xs, rfl, ex_t fh.ex hs, by rw [dpLength hd, hn], h xs σ F H Q fh S (AllP.of_dv hd) k⟩
theorem js_asg [LT] {g : TG} {P : PV} (h : JV K M W te ps P) (hg : JG vs g ps P qs) : JS K M W (tAsg te g) ps (.nx qs) := fun D σ F H fh S k =>
  h.go fh S fun v F1 H1 e p => hg v σ F1 H1 _ e.fh (S.mono e.ff) p fun σ2 F2 H2 e2 S2 _ => k σ2 F2 H2 (e.trans e2) S2
/-! ### what is walked -/
/-- J walks the data ds, told at F, in every heap above -/
structure ItOf [LT] (K : PySem.W.Frag) (J : It) (F : Hp) (ds : List PyData) : Prop where
  stop : ∀ i H', Fx F H' → ds.length ≤ i → J.stop i H'
  go : ∀ i H', Fx F H' → i < ds.length → J.go i H'
  yld : ∀ i d F' H' x H2, Ex F F' → Fx F' H' → ds[i]? = some d → J.yld i H' x H2 → ∃ F2, Gr F' H' F2 H2 ∧ Dp K F2 x d
def JI [LT] (K : PySem.W.Frag) (M : EC → Addr) (W : WX) (wi : TI) (ps : Kn) (ds : List PyData) : Prop := ∀ σ F H R, Fx F H → Sl F σ ps → (∀ J F1 H1, Gr F H F1 H1 → ItOf K J F1 ds → R J H1) → wi σ H R
theorem itl_of [LT] {a : Addr} {xs : List V} {ds : List PyData} {F : Hp} (hx : SqL K F a xs) (hd : DpAll K F xs ds) : ItOf K (Itl K a) F ds where
  stop := fun i H' e h => ⟨xs, ex_l e hx, by rw [dpLength hd]; exact h⟩
  go := fun i H' e h => by
    have hl : i < xs.length := by rw [dpLength hd]; exact h
    exact ⟨xs, xs[i], ex_l e hx, List.getElem?_eq_getElem hl⟩
  yld := fun i d F' H' x H2 e fh hi y => by
    obtain ⟨rfl, y⟩ := y
    obtain ⟨v, hv, dvv⟩ := dpGet hd hi
    have := y xs (ex_l (e.trans fh) hx)
    rw [hv] at this
    cases this
    exact ⟨F', Gr.refl fh, dp_mono e dvv⟩
theorem itt_of [LT] {a : Addr} {xs : List V} {ds : List PyData} {F : Hp} (hx : SqT K F a xs) (hd : DpAll K F xs ds) : ItOf K (Itt K a) F ds where
  stop := fun i H' e h => ⟨xs, ex_t e hx, by rw [dpLength hd]; exact h⟩
  go := fun i H' e h => by
    have hl : i < xs.length := by rw [dpLength hd]; exact h
    exact ⟨xs, xs[i], ex_t e hx, List.getElem?_eq_getElem hl⟩
  yld := fun i d F' H' x H2 e fh hi y => by
    obtain ⟨rfl, y⟩ := y
    obtain ⟨v, hv, dvv⟩ := dpGet hd hi
    have := y xs (ex_t (e.trans fh) hx)
    rw [hv] at this
    cases this
    exact ⟨F', Gr.refl fh, dp_mono e dvv⟩
theorem ji_list [LT] {ds : List PyData} (h : JD K M W te ps (.list ds)) : JI K M W (iList K te) ps ds := fun σ F H R fh S k => h.go fh S fun v F1 H1 e p => by
  obtain ⟨a, xs, rfl, hx, hd⟩ := dp_lst p
  exact ⟨a, rfl, ⟨xs, ex_l e.fh.ex hx⟩, k _ F1 H1 e (itl_of hx hd)⟩
theorem ji_tup [LT] {ds : List PyData} (h : JD K M W te ps (.tuple ds)) : JI K M W (iTup K te) ps ds := fun σ F H R fh S k => h.go fh S fun v F1 H1 e p => by
  obtain ⟨a, xs, rfl, hx, hd⟩ := dp_tup p
  exact ⟨a, rfl, ⟨xs, ex_t e.fh.ex hx⟩, k _ F1 H1 e (itt_of hx hd)⟩
/-- the ints lo, lo + 1, .. -/
def rg (lo : Int) (n : Nat) : List Int := (List.range n).map fun i => lo + (i : Nat)
theorem rg_length (lo : Int) (n : Nat) : (rg lo n).length = n := by unfold rg; rw [List.length_map, List.length_range]
theorem rg_get {lo : Int} {n i : Nat} (h : i < n) : (rg lo n)[i]? = some (lo + (i : Nat)) := by
  unfold rg
  rw [List.getElem?_map, List.getElem?_range h]
  rfl
theorem itr_of [LT] {lo : Int} {n : Nat} {F : Hp} : ItOf K (Itr lo n) F ((rg lo n).map PyData.int) where
  stop := fun i H' e h => by
    rw [List.length_map, rg_length] at h
    exact h
  go := fun i H' e h => by
    rw [List.length_map, rg_length] at h
    exact h
  yld := fun i d F' H' x H2 e fh hi y => by
    obtain ⟨e2, e1⟩ := y
    subst e1
    subst e2
    have hl : i < n := by
      have := (List.getElem?_eq_some_iff.mp hi).1
      rw [List.length_map, rg_length] at this
      exact this
    rw [List.getElem?_map, rg_get hl] at hi
    cases hi
    exact ⟨F', Gr.refl fh, .int _⟩
theorem ji_rng1 [LT] {tr : TA} {n : Int} (h : JA K M W tr ps [dv K (.int n)]) (hn : -100000 ≤ n ∧ n ≤ 100000) : JI K M W (iRng1 tr) ps ((rg 0 n.toNat).map PyData.int) := fun σ F H R fh S k => h σ F H _ fh S fun us F1 H1 e1 a => by
  obtain ⟨v, rfl, p⟩ := allP1 a
  rw [dp_int p]
  exact ⟨n, rfl, by omega, by omega, k _ F1 H1 e1 itr_of⟩
theorem ji_rng2 [LT] {tr : TA} {lo n : Int} (h : JA K M W tr ps [dv K (.int lo), dv K (.int n)]) (hn : -100000 ≤ lo ∧ lo ≤ 100000 ∧ -100000 ≤ n ∧ n ≤ 100000) : JI K M W (iRng2 tr) ps ((rg lo (n - lo).toNat).map PyData.int) := fun σ F H R fh S k => h σ F H _ fh S fun us F1 H1 e1 a => by
  obtain ⟨v, u, rfl, p, q⟩ := allP2 a
  rw [dp_int p, dp_int q]
  exact ⟨lo, n, rfl, ⟨by omega, by omega, by omega, by omega⟩, k _ F1 H1 e1 itr_of⟩
/-- numbered -/
def nb (ds : List PyData) : List PyData := (List.range ds.length).zipWith (fun i d => PyData.tuple [.int (i : Nat), d]) ds
theorem nb_length (ds : List PyData) : (nb ds).length = ds.length := by unfold nb; simp
theorem nb_get {ds : List PyData} {i : Nat} {d : PyData} (h : ds[i]? = some d) : (nb ds)[i]? = some (.tuple [.int (i : Nat), d]) := by
  have hl := (List.getElem?_eq_some_iff.mp h).1
  unfold nb
  rw [List.getElem?_zipWith, List.getElem?_range hl, h]
theorem ite_of [LT] {a : Addr} {xs : List V} {ds : List PyData} {F : Hp} (hx : SqL K F a xs) (hd : DpAll K F xs ds) : ItOf K (Ite K a) F (nb ds) where
  stop := fun i H' e h => ⟨xs, ex_l e hx, by rw [dpLength hd]; rw [nb_length] at h; exact h⟩
  go := fun i H' e h => by
    have hl : i < xs.length := by rw [dpLength hd]; rw [nb_length] at h; exact h
    exact ⟨xs, xs[i], ex_l e hx, List.getElem?_eq_getElem hl⟩
  yld := fun i d F' H' x H2 e fh hi y => by
    obtain ⟨T, y0, rfl, nT, rfl, f⟩ := y
    have hl : i < ds.length := by
      have := (List.getElem?_eq_some_iff.mp hi).1
      rw [nb_length] at this
      exact this
    rw [nb_get (List.getElem?_eq_getElem hl)] at hi
    cases hi
    obtain ⟨v, hv, dvv⟩ := dpGet hd (List.getElem?_eq_getElem hl)
    have := f xs (ex_l (e.trans fh) hx)
    rw [hv] at this
    cases this
    exact ⟨_, Gr.new fh nT, .tup (st_of upd_same) (.cons (.int _) (.cons (dp_mono (e.trans (Gr.new (o := .tup [.int (i : Nat), y0]) fh nT).ff) dvv) .nil))⟩
theorem iteT_of [LT] {a : Addr} {xs : List V} {ds : List PyData} {F : Hp} (hx : SqT K F a xs) (hd : DpAll K F xs ds) : ItOf K (IteT K a) F (nb ds) where
  stop := fun i H' e h => ⟨xs, ex_t e hx, by rw [dpLength hd]; rw [nb_length] at h; exact h⟩
  go := fun i H' e h => by
    have hl : i < xs.length := by rw [dpLength hd]; rw [nb_length] at h; exact h
    exact ⟨xs, xs[i], ex_t e hx, List.getElem?_eq_getElem hl⟩
  yld := fun i d F' H' x H2 e fh hi y => by
    obtain ⟨T, y0, rfl, nT, rfl, f⟩ := y
    have hl : i < ds.length := by
      have := (List.getElem?_eq_some_iff.mp hi).1
      rw [nb_length] at this
      exact this
    rw [nb_get (List.getElem?_eq_getElem hl)] at hi
    cases hi
    obtain ⟨v, hv, dvv⟩ := dpGet hd (List.getElem?_eq_getElem hl)
    have := f xs (ex_t (e.trans fh) hx)
    rw [hv] at this
    cases this
    exact ⟨_, Gr.new fh nT, .tup (st_of upd_same) (.cons (.int _) (.cons (dp_mono (e.trans (Gr.new (o := .tup [.int (i : Nat), y0]) fh nT).ff) dvv) .nil))⟩
theorem ji_enum [LT] {ds : List PyData} (h : JD K M W te ps (.list ds)) : JI K M W (iEnum K (tCons te tNil)) ps (nb ds) := fun σ F H R fh S k => h.go fh S fun v F1 H1 e p => by
  obtain ⟨a, xs, rfl, hx, hd⟩ := dp_lst p
  exact ⟨a, xs, rfl, ex_l e.fh.ex hx, k _ F1 H1 e (ite_of hx hd)⟩
theorem ji_enumT [LT] {ds : List PyData} (h : JD K M W te ps (.tuple ds)) : JI K M W (iEnumT K (tCons te tNil)) ps (nb ds) := fun σ F H R fh S k => h.go fh S fun v F1 H1 e p => by
  obtain ⟨a, xs, rfl, hx, hd⟩ := dp_tup p
  exact ⟨a, xs, rfl, ex_t e.fh.ex hx, k _ F1 H1 e (iteT_of hx hd)⟩
theorem ji_is [LT] {wi : TI} {ds es : List PyData} (h : JI K M W wi ps ds) (e : ds = es) : JI K M W wi ps es := e ▸ h
/-- a for: m turns go on (f tells what is known ahead of each), then it ends, or the turn m leaves it by r -/
theorem js_for [LT] {wi : TI} {g : TG} {ds : List PyData} {tb : TS} (f : Nat → Kn) (m : Nat) (hi : JI K M W wi ps ds) (h0 : f 0 = ps) (hm : m ≤ ds.length)
    (hs : ∀ i d, i < m → ds[i]? = some d → ∃ qs, JG vs g (f i) (dv K d) qs ∧ (JS K M W tb qs (.nx (f (i + 1))) ∨ JS K M W tb qs (.ct (f (i + 1)))))
    (he : (m = ds.length ∧ r = .nx (f m)) ∨ (∃ d qs, ds[m]? = some d ∧ JG vs g (f m) (dv K d) qs ∧ JS K M W tb qs r ∧ ((∃ P, r = .rt P) ∨ ∃ e, r = .er e)))
    (hf : ∀ i, (f i).length = ps.length := by intro i; first | rfl | (simp; done)) : JS K M W (tFor wi g tb) ps r := fun D σ F H fh S k => hi σ F H _ fh S fun J F1 H1 e1 it => by
  refine ⟨fun i n σ' H' => n = ds.length - i ∧ i ≤ m ∧ ∃ F', Gr F1 H1 F' H' ∧ Sl F' σ' (f i), ⟨ds.length, by omega, Nat.zero_le _, F1, Gr.refl e1.fh, by rw [h0]; exact S.mono e1.ff⟩, ?_⟩
  rintro i n σ' H' ⟨rfl, him, F2, e2, S2⟩
  by_cases hlt : i < m
  · have hl : i < ds.length := Nat.lt_of_lt_of_le hlt hm
    refine .inr ⟨it.go i H' (Ex.fx e2.ff e2.fh) hl, fun σ3 H3 => ∃ F3, Gr F1 H1 F3 H3 ∧ Sl F3 σ3 (f (i + 1)), fun σ3 H3 q => ⟨ds.length - (i + 1), by omega, rfl, hlt, q⟩, fun x H3 y => ?_⟩
    obtain ⟨F3, e3, dx⟩ := it.yld i _ F2 H' x H3 e2.ff e2.fh (List.getElem?_eq_getElem hl) y
    obtain ⟨qs, hg, hb⟩ := hs i _ hlt (List.getElem?_eq_getElem hl)
    refine hg x σ' F3 H3 _ e3.fh (S2.mono e3.ff) dx fun σ4 F4 H4 e4 S4 _ => ?_
    rcases hb with hb | hb
    · exact hb _ σ4 F4 H4 e4.fh S4 fun σ5 F5 H5 e5 S5 => ⟨F5, ((e2.trans e3).trans e4).trans e5, S5⟩
    · exact hb _ σ4 F4 H4 e4.fh S4 fun σ5 F5 H5 e5 S5 => ⟨F5, ((e2.trans e3).trans e4).trans e5, S5⟩
  · have hem : i = m := by omega
    subst hem
    rcases he with ⟨hlen, hr⟩ | ⟨d, qs, hd, hg, hb, hr⟩
    · subst hr
      exact .inl ⟨it.stop i H' (Ex.fx e2.ff e2.fh) (by omega), k σ' F2 H' (e1.trans e2) S2⟩
    · have hl : i < ds.length := (List.getElem?_eq_some_iff.mp hd).1
      refine .inr ⟨it.go i H' (Ex.fx e2.ff e2.fh) hl, fun _ _ => False, fun _ _ z => z.elim, fun x H3 y => ?_⟩
      obtain ⟨F3, e3, dx⟩ := it.yld i _ F2 H' x H3 e2.ff e2.fh hd y
      refine hg x σ' F3 H3 _ e3.fh (S2.mono e3.ff) dx fun σ4 F4 H4 e4 S4 u4 => hb _ σ4 F4 H4 e4.fh S4 ?_
      have ql : qs.length = ps.length := by rw [← S4.1, u4.len, S2.1, hf]
      rw [ql]
      have k2 := Wsh.step (((e1.trans e2).trans e3).trans e4) k
      rcases hr with ⟨P, rfl⟩ | ⟨e, rfl⟩
      · exact k2
      · exact k2
/-! ### comprehensions -/
theorem filter_take_succ {α : Type} {b : α → Bool} {xs : List α} {i : Nat} {x : α} (h : xs[i]? = some x) : (xs.take (i + 1)).filter b = (xs.take i).filter b ++ (if b x then [x] else []) := by
  rw [List.take_succ, h, List.filter_append]
  cases hb : b x <;> simp [hb]
/-- a list that grows lies at D: not told at F -/
structure Acc [LT] (K : PySem.W.Frag) (D : Addr) (F1 H1 F H : Hp) (ds : List PyData) : Prop where
  gr : Gr F1 H1 F H
  off : F D = none
  at_ : ∃ acc, H D = some (.lst acc) ∧ DpAll K F acc ds
theorem gr_mut [LT] {F1 H1 F H : Hp} {D : Addr} {o : HO} (g : Gr F1 H1 F H) (h1 : H1 D = none) (off : F D = none) (nt : NT H D := by first | (apply NT.none; assumption) | (apply NT.lst; assumption) | (apply NT.ins; assumption) | (apply NT.dK; assumption) | (apply NT.xd; assumption) | (apply NT.lst; exact upd_same) | (apply NT.ins; exact upd_same) | (apply NT.dK; exact upd_same)) : Gr F1 H1 F (upd H D o) := ⟨g.ff, g.hh.mut h1 nt, g.fh.mut off nt, g.nw⟩
theorem gr_in [LT] {F1 H1 F H : Hp} {D : Addr} {o : HO} (g : Gr F1 H1 F H) (h1 : H1 D = none) (off : F D = none) (at_ : H D = some o) (nt : ∀ ps, o ≠ .tbl ps := by (intro ps z; cases z)) : Gr F1 H1 (upd F D o) H := ⟨g.ff.trans (Ex.new off), g.hh, ⟨fun a u e => by
  by_cases z : a = D
  · subst z
    rw [upd_same] at e
    cases e
    exact at_
  · rw [upd_ne z] at e
    exact g.fh a u e, fun p hp => by
  have n : p.1 ≠ D := fun z => by
    obtain ⟨ps, e, _⟩ := g.fh.tb p hp
    rw [z, at_] at e
    exact nt ps (Option.some.inj e)
  rw [upd_ne n]
  exact g.fh.no p hp, g.fh.tb⟩, fun a ha hf => by
  have : a ≠ D := fun z => by
    subst z
    exact ha h1
  rw [upd_ne this]
  exact g.nw a ha hf⟩
theorem Fx.tell [LT] {F H : Hp} {d : Addr} {o : HO} (fh : Fx F H) (e : Ex (upd F d o) H) (nt : ∀ ps, o ≠ .tbl ps := by (intro ps z; cases z)) : Fx (upd F d o) H := ⟨e, fun p hp => by
  have n : p.1 ≠ d := fun z => by
    obtain ⟨ps, q, _⟩ := fh.tb p hp
    rw [z, e d o upd_same] at q
    exact nt ps (Option.some.inj q)
  rw [upd_ne n]
  exact fh.no p hp, fh.tb⟩
theorem Fx.new [LT] {F H : Hp} {p : Addr} {o : HO} (fh : Fx F H) (hp : H p = none) : Fx (upd F p o) (upd H p o) := (Gr.new fh hp).fh
theorem Acc.start [LT] {D : Addr} {F H : Hp} (fh : Fx F H) (hD : H D = none) : Acc K D F H F (upd H D (.lst [])) [] := ⟨gr_mut (Gr.refl fh) hD (fresh_back fh hD), fresh_back fh hD, [], upd_same, .nil⟩
theorem Acc.step [LT] {D : Addr} {F1 H1 F H F2 H2 : Hp} {ds : List PyData} (a : Acc K D F1 H1 F H ds) (g : Gr F H F2 H2) : Acc K D F1 H1 F2 H2 ds := by
  obtain ⟨acc, h, d⟩ := a.at_
  exact ⟨a.gr.trans g, g.nw D (by rw [h]; exact fun z => nomatch z) a.off, acc, g.hh.fn _ _ h, dpAll_mono g.ff d⟩
theorem Acc.app [LT] {D : Addr} {F1 H1 F H : Hp} {ds : List PyData} {v : V} {d : PyData} {acc : List V} (a : Acc K D F1 H1 F H ds) (h1 : H1 D = none) (hacc : H D = some (.lst acc)) (p : Dp K F v d) : Acc K D F1 H1 F (upd H D (.lst (acc ++ [v]))) (ds ++ [d]) := by
  obtain ⟨acc2, h, dd⟩ := a.at_
  rw [hacc] at h
  cases h
  exact ⟨gr_mut a.gr h1 a.off, a.off, _, upd_same, dpApp dd (.cons p .nil)⟩
theorem Acc.len [LT] {D : Addr} {F1 H1 F H : Hp} {ds : List PyData} {acc : List V} (a : Acc K D F1 H1 F H ds) (hacc : H D = some (.lst acc)) : acc.length = ds.length := by
  obtain ⟨acc2, h, dd⟩ := a.at_
  rw [hacc] at h
  cases h
  exact dpLength dd
/-- it is told from now on -/
theorem Acc.done [LT] {D : Addr} {F1 H1 F H : Hp} {ds : List PyData} (a : Acc K D F1 H1 F H ds) (h1 : H1 D = none) : ∃ F', Gr F1 H1 F' H ∧ Dp K F' (.ref D) (.list ds) ∧ Ex F F' := by
  obtain ⟨acc, h, dd⟩ := a.at_
  exact ⟨upd F D (.lst acc), gr_in a.gr h1 a.off h, .lst (sq_of upd_same) (dpAll_mono (Ex.new a.off) dd), Ex.new a.off⟩
/-- [e for x in ds if b], the items told by xs -/
theorem je_lc [LT] {α : Type} {wi : TI} {g : TG} (xs : List α) (enc : α → PyData) (b : α → Bool) (e : α → PyData) {W' : WX} (hi : JI K M W wi ps (xs.map enc)) (hlen : xs.length ≤ 90000)
    (hs : ∀ x ∈ xs, ∃ qs, JG vs g (wipeK ps vs) (dv K (enc x)) qs ∧ JT K M W' t qs (b x) ∧ (b x = true → JD K M W' te qs (e x))) : JD K M W (tLc wi g t te vs) ps (.list ((xs.filter b).map e)) := fun σ F H Q fh S k => hi σ F H _ fh S fun J F1 H1 e1 it D hD => by
  refine ⟨fun i n H' => n = xs.length - i ∧ i ≤ xs.length ∧ ∃ F', Acc K D F1 H1 F' H' (((xs.take i).filter b).map e), ⟨xs.length, by omega, Nat.zero_le _, F1, Acc.start e1.fh hD⟩, ?_⟩
  rintro i n H' ⟨rfl, him, F2, A⟩
  have accLen : (((xs.take i).filter b).map e).length ≤ i := by
    rw [List.length_map]
    have := List.length_filter_le b (xs.take i)
    rw [List.length_take] at this
    omega
  by_cases hlt : i < xs.length
  · have hx : xs[i]? = some xs[i] := List.getElem?_eq_getElem hlt
    have hmem : xs[i] ∈ xs := List.getElem_mem hlt
    have hex : (xs.map enc)[i]? = some (enc xs[i]) := by rw [List.getElem?_map, hx] <;> rfl
    refine .inr ⟨it.go i H' (Ex.fx A.gr.ff A.gr.fh) (by rw [List.length_map]; exact hlt), fun H3 => ∃ F3, Acc K D F1 H1 F3 H3 (((xs.take (i + 1)).filter b).map e), fun H3 q => ⟨xs.length - (i + 1), by omega, rfl, hlt, q⟩, fun x H3 y => ?_⟩
    obtain ⟨F3, e3, dx⟩ := it.yld i _ F2 H' x H3 A.gr.ff A.gr.fh hex y
    have A3 := A.step e3
    obtain ⟨qs, hg, ht, he⟩ := hs xs[i] hmem
    refine hg x (wipe σ vs) F3 H3 _ e3.fh ((S.mono (e1.ff.trans A3.gr.ff)).wipe vs) dx fun σ4 F4 H4 e4 S4 u4 => ⟨wipe_upto (upto_wipe.trans u4), ht σ4 F4 H4 _ e4.fh S4 fun F5 H5 e5 => ?_⟩
    have A5 := (A3.step e4).step e5
    have ff := filter_take_succ (b := b) hx
    cases hb : b xs[i] with
    | true =>
      rw [hb] at ff
      show te σ4 H5 _
      refine (he hb).go e5.fh (S4.mono e5.ff) fun v F6 H6 e6 p => ?_
      have A6 := A5.step e6
      obtain ⟨acc, h6, _⟩ := A6.at_
      refine ⟨acc, h6, sz_lt (by rw [A6.len h6]; omega), F6, ?_⟩
      rw [ff, List.map_append]
      exact A6.app hD h6 p
    | false =>
      rw [hb] at ff
      show ∃ F3, Acc K D F1 H1 F3 H5 _
      rw [ff]
      simp only [Bool.false_eq_true, if_false, List.append_nil]
      exact ⟨F5, A5⟩
  · have hem : i = xs.length := by omega
    subst hem
    rw [List.take_length] at A
    obtain ⟨F3, g3, d3, _⟩ := A.done hD
    exact .inl ⟨it.stop _ H' (Ex.fx A.gr.ff A.gr.fh) (by rw [List.length_map]; exact Nat.le_refl _), k _ F3 H' (e1.trans g3) d3⟩
theorem flatMap_take_succ {α β : Type} {f : α → List β} {xs : List α} {i : Nat} {x : α} (h : xs[i]? = some x) : (xs.take (i + 1)).flatMap f = (xs.take i).flatMap f ++ f x := by
  rw [List.take_succ, h, List.flatMap_append]
  simp
theorem flatMap_take_le {α β : Type} (f : α → List β) (xs : List α) (i : Nat) : ((xs.take i).flatMap f).length ≤ (xs.flatMap f).length := by
  conv => rhs; rw [← List.take_append_drop i xs]
  rw [List.flatMap_append, List.length_append]
  omega
/-- [e for x in ds for y in (those of x) if b], the first clause without a test -/
theorem je_lc2 [LT] {α β : Type} {wi wi1 : TI} {g g1 : TG} {u : TT} {vs1 : List Nat} (xs : List α) (ys : α → List β) (enc : α → PyData) (enc1 : β → PyData) (b : α → β → Bool) (e : α → β → PyData) {W' : WX} (hi : JI K M W wi ps (xs.map enc))
    (hlen : (xs.flatMap fun x => ((ys x).filter (b x)).map (e x)).length ≤ 90000)
    (hs : ∀ x ∈ xs, ∃ qs, JG vs g (wipeK ps vs) (dv K (enc x)) qs ∧ JT K M W' t qs true ∧ JI K M W' wi1 qs ((ys x).map enc1) ∧
      ∀ y ∈ ys x, ∃ rs, JG vs1 g1 (wipeK qs vs1) (dv K (enc1 y)) rs ∧ JT K M W' u rs (b x y) ∧ (b x y = true → JD K M W' te rs (e x y))) :
    JD K M W (tLc2 wi g t wi1 g1 u te vs vs1) ps (.list (xs.flatMap fun x => ((ys x).filter (b x)).map (e x))) := fun σ F H Q fh S k => hi σ F H _ fh S fun J F1 H1 e1 it D hD => by
  let out : α → List PyData := fun x => ((ys x).filter (b x)).map (e x)
  refine ⟨fun i n H' => n = xs.length - i ∧ i ≤ xs.length ∧ ∃ F', Acc K D F1 H1 F' H' ((xs.take i).flatMap out), ⟨xs.length, by omega, Nat.zero_le _, F1, Acc.start e1.fh hD⟩, ?_⟩
  rintro i n H' ⟨rfl, him, F2, A⟩
  by_cases hlt : i < xs.length
  · have hx : xs[i]? = some xs[i] := List.getElem?_eq_getElem hlt
    have hmem : xs[i] ∈ xs := List.getElem_mem hlt
    have hex : (xs.map enc)[i]? = some (enc xs[i]) := by rw [List.getElem?_map, hx] <;> rfl
    refine .inr ⟨it.go i H' (Ex.fx A.gr.ff A.gr.fh) (by rw [List.length_map]; exact hlt), fun H3 => ∃ F3, Acc K D F1 H1 F3 H3 ((xs.take (i + 1)).flatMap out), fun H3 q => ⟨xs.length - (i + 1), by omega, rfl, hlt, q⟩, fun x H3 y => ?_⟩
    obtain ⟨F3, e3, dx⟩ := it.yld i _ F2 H' x H3 A.gr.ff A.gr.fh hex y
    have A3 := A.step e3
    obtain ⟨qs, hg, ht, hi1, hin⟩ := hs xs[i] hmem
    refine hg x (wipe σ vs) F3 H3 _ e3.fh ((S.mono (e1.ff.trans A3.gr.ff)).wipe vs) dx fun σ4 F4 H4 e4 S4 u4 => ⟨wipe_upto (upto_wipe.trans u4), ht σ4 F4 H4 _ e4.fh S4 fun F5 H5 e5 => ?_⟩
    have A5 := (A3.step e4).step e5
    show wi1 σ4 H5 _
    refine hi1 σ4 F5 H5 _ e5.fh (S4.mono e5.ff) fun J1 F6 H6 e6 it1 => ?_
    have A6 := A5.step e6
    have pre := flatMap_take_le out xs (i + 1)
    rw [flatMap_take_succ hx, List.length_append] at pre
    refine ⟨fun j n H' => n = (ys xs[i]).length - j ∧ j ≤ (ys xs[i]).length ∧ ∃ F', Ex F6 F' ∧ Acc K D F1 H1 F' H' ((xs.take i).flatMap out ++ (((ys xs[i]).take j).filter (b xs[i])).map (e xs[i])), ⟨(ys xs[i]).length, by omega, Nat.zero_le _, F6, Ex.refl _, by simpa using A6⟩, ?_⟩
    rintro j n H7 ⟨rfl, hj, F7, x67, A7⟩
    by_cases hjl : j < (ys xs[i]).length
    · have hy : (ys xs[i])[j]? = some (ys xs[i])[j] := List.getElem?_eq_getElem hjl
      have ymem : (ys xs[i])[j] ∈ ys xs[i] := List.getElem_mem hjl
      have hey : ((ys xs[i]).map enc1)[j]? = some (enc1 (ys xs[i])[j]) := by rw [List.getElem?_map, hy] <;> rfl
      refine .inr ⟨it1.go j H7 (Ex.fx x67 A7.gr.fh) (by rw [List.length_map]; exact hjl), fun H8 => ∃ F8, Ex F6 F8 ∧ Acc K D F1 H1 F8 H8 ((xs.take i).flatMap out ++ (((ys xs[i]).take (j + 1)).filter (b xs[i])).map (e xs[i])), fun H8 q => ⟨(ys xs[i]).length - (j + 1), by omega, rfl, hjl, q⟩, fun x1 H8 y1 => ?_⟩
      obtain ⟨F8, e8, dy⟩ := it1.yld j _ F7 H7 x1 H8 x67 A7.gr.fh hey y1
      have A8 := A7.step e8
      obtain ⟨rs, hg1, ht1, he1⟩ := hin _ ymem
      refine hg1 x1 (wipe σ4 vs1) F8 H8 _ e8.fh ((S4.mono ((e5.ff.trans e6.ff).trans (x67.trans e8.ff))).wipe vs1) dy fun σ9 F9 H9 e9 S9 u9 => ⟨wipe_upto (upto_wipe.trans u9), ht1 σ9 F9 H9 _ e9.fh S9 fun Fa Ha ea => ?_⟩
      have Aa := (A8.step e9).step ea
      have ff := filter_take_succ (b := b xs[i]) hy
      have pre2 : (((ys xs[i]).take j).filter (b xs[i])).length ≤ ((ys xs[i]).filter (b xs[i])).length := by
        conv => rhs; rw [← List.take_append_drop j (ys xs[i])]
        rw [List.filter_append, List.length_append]
        omega
      have lout : (out xs[i]).length = ((ys xs[i]).filter (b xs[i])).length := List.length_map _
      cases hb : b xs[i] (ys xs[i])[j] with
      | true =>
        rw [hb] at ff
        show te σ9 Ha _
        refine (he1 hb).go ea.fh (S9.mono ea.ff) fun v Fb Hb eb p => ?_
        have Ab := Aa.step eb
        obtain ⟨acc, hb6, _⟩ := Ab.at_
        refine ⟨acc, hb6, sz_lt ?_, Fb, ((x67.trans e8.ff).trans e9.ff).trans (ea.ff.trans eb.ff), ?_⟩
        · rw [Ab.len hb6, List.length_append, List.length_map]
          have h1 : (xs.flatMap out).length ≤ 90000 := hlen
          omega
        · rw [ff, List.map_append, ← List.append_assoc]
          exact Ab.app hD hb6 p
      | false =>
        rw [hb] at ff
        show ∃ F8, Ex F6 F8 ∧ Acc K D F1 H1 F8 Ha _
        rw [ff]
        simp only [Bool.false_eq_true, if_false, List.append_nil]
        exact ⟨Fa, ((x67.trans e8.ff).trans e9.ff).trans ea.ff, Aa⟩
    · have hem : j = (ys xs[i]).length := by omega
      subst hem
      rw [List.take_length] at A7
      refine .inl ⟨it1.stop _ H7 (Ex.fx x67 A7.gr.fh) (by rw [List.length_map]; exact Nat.le_refl _), F7, ?_⟩
      rw [flatMap_take_succ hx]
      exact A7
  · have hem : i = xs.length := by omega
    subst hem
    rw [List.take_length] at A
    obtain ⟨F3, g3, d3, _⟩ := A.done hD
    exact .inl ⟨it.stop _ H' (Ex.fx A.gr.ff A.gr.fh) (by rw [List.length_map]; exact Nat.le_refl _), k _ F3 H' (e1.trans g3) d3⟩
end
end EB
/-! EB5: errors with a field, raise, methods and making where what is raised is wished for at the slots, fields, isinstance, try. -/
namespace EB
open PySem PySem.Spec PyProof.Rows L2 Evl
/-! ### rules -/
section
variable {X : Cx} {CX : CXT} {k : Nat} {f C : Addr} {fd : FuncData} {ps : List Str} {sp : Sp} {E : L2.St → XK} {x m : Str} {p pos apos : Pos} {e o : Expr} {es : List Expr} {ta : TE} {t : TA}
/-- C(..), at the slots -/
def tMakeS (C : Addr) (sp : Sp) (E : L2.St → XK) (t : TA) : TE := fun σ H Q => tMake C sp [] (E σ) t σ H Q
theorem pe_makeS (M : Mk X.K C f) (F : FnOk X.prog X.w X.K X.mg X.base CX k f fd ps sp) (hr : Room (k + 1) X.A) (hg : Gl X x) (hm : X.mg x = some (.ref C)) (hb : Binds X.K fd ps []) (hx : ∀ σ, PassesAt CX X σ (E σ))
    (ha : PA X (e :: es) t) (hdb : (x == ("__debug__" : Str)) = false := by decide) (he : starEach (e :: es) X.env = (false, eval e X.env) :: starEach es X.env := by rfl) (hpl : (backTo pos (starEach es X.env)).any (·.1) = false := by rfl) :
    PE X (.Call (.Name x p) (e :: es) [] pos) (tMakeS C sp E t) := by
  refine ⟨fun pins s σ H Q I hyp => wpAny_Call_Name_kw (ld_glob I hg hm ?_ hdb)⟩
  refine PySem.W.callWith_K (h₀ := X.base) I.ok.mod.kin M.kp (thn (ha.run pos pins s σ H _ I hyp) fun us t1 ⟨vs, H1, I1, rr, want⟩ => ⟨I1.kIn, ?_⟩) he hpl
  have w1 := want (t1.heap.objs.size + 1) t1.heap.objs.size (I1.hok.fresh (Nat.le_succ _)) (I1.hok.fresh (Nat.le_refl _)) (Nat.ne_of_lt (Nat.lt_succ_self _))
  rw [List.append_nil] at w1
  have I2 := Inv.made (C := C) I1
  have r2 : Vals (V.ref (t1.heap.objs.size + 1) :: vs) (Value.ref (t1.heap.objs.size + 1) :: us) := .cons rfl rr
  have len2 : (Value.ref (t1.heap.objs.size + 1) :: us).length = ps.length := by
    have q := r2.length
    rw [F.len _ _ _ _ w1] at q
    exact q.symm
  have bnd := hb _ (Value.ref (t1.heap.objs.size + 1) :: us) I2.kIn (by rw [List.append_nil]; exact len2)
  rw [List.append_nil] at bnd
  refine wpAny_call (make_map (f := f) I1.kIn M.makes M.init (beq_iff_eq.mp M.fn) (codeAny_mono (F.run _ X.stack _ _ ⟨Value.ref (t1.heap.objs.size + 1) :: us, []⟩ (Value.ref (t1.heap.objs.size + 1) :: us) _ _ (E σ) (hr.make C us [])
    (I2.env0.make C us []) bnd r2 w1) fun r t2 got => ?_))
  cases r with
  | error er => exact hx σ pins _ _ er t2 I2 got
  | ok fl =>
    cases fl with
    | ret u =>
      obtain ⟨v, H2, I3, rv, ev, q3⟩ := I2.after got
      subst ev
      exact ⟨rv, ⟨V.ref (t1.heap.objs.size + 1), H2, I3, rfl, q3⟩⟩
    | next => exact got.elim
    | brk => exact got.elim
    | cont => exact got.elim
/-- o.m(e, ..), at the slots -/
def tMethW (C : Addr) (m : Str) (sp : Sp) (E : L2.St → XK) (ta : TE) (t : TA) : TE := fun σ H Q => tMeth C m sp [] (E σ) ta t σ H Q
theorem pe_methW {pl : Sem Bool} (he : PE X o ta) (c : Cls X.K C) (hm : Meth X.K C m f) (F : FnOk X.prog X.w X.K X.mg X.base CX k f fd ps sp) (hr : Room k X.A) (hb : Binds X.K fd ps []) (hx : ∀ σ, PassesAt CX X σ (E σ)) (ha : PA X (e :: es) t)
    (hst : starEach (e :: es) X.env = (false, eval e X.env) :: starEach es X.env := by rfl) (hpl : (backTo pos (starEach es X.env)).any (·.1) = false := by rfl)
    (ht : eval (.Call (.Attribute o m apos) (e :: es) [] pos) X.env = (do
      let whom ← eval o X.env
      standAt apos.atName
      let (fn, before) ← holding [whom] (getMethod whom m pl)
      callWith pos fn before (backTo pos (starEach (e :: es) X.env)) (backToKw pos (keywordEach [] X.env))) := by rfl) :
    PE X (.Call (.Attribute o m apos) (e :: es) [] pos) (tMethW C m sp E ta t) := by
  refine ⟨fun pins s σ H Q I hyp => PySem.W.methodCall_KW (pl := pl) (thn (he.run pins s σ H _ I hyp) fun u t1 ⟨x, H1, I1, rx, a, dx, fs, ex, ea, l, q⟩ => ?_) ht⟩
  subst ex
  obtain rfl : u = Value.ref a := rx
  refine getmeth_ok I1 ea c hm l (PySem.W.callWith_K (first := [.ref a]) (h₀ := X.base) I.ok.mod.kin hm.kp (thn (ha.run pos pins t1 σ H1 _ I1 q) fun us t2 ⟨vs, H2, I2, r, q2⟩ => ⟨I2.kIn, ?_⟩) hst hpl)
  have q3 := q2
  dsimp only at q3
  rw [List.append_nil] at q3
  exact run_fnS (us := .ref a :: us) (vs := .ref a :: vs) F hr hb (hx σ) I2 (.cons rfl r) q3
end
/-! ### an error's class -/
/-- __init__(self, f): self.f = f -/
def spErr (C : Addr) (f : Str) : Sp := fun vs H Q _ => ∃ a u, vs = [.ref a, u] ∧ H a = some (exo a C none) ∧ ∀ dx, H dx = none → dx ≠ a → Q .non (upd (upd H dx (exd dx [(f, u)])) a (exo a C (some dx)))
/-- what the written part says of an error's class C (its __init__ at fI) -/
structure ErT (K : PySem.W.Frag) (C fI : Addr) (f : Str) : Prop where
  ox : OexC K C
  iC : PySem.W.findIn K (.ref C) "__init__" = some (some (.ref fI))
  tI : PySem.W.typeIn K (.ref fI) = some (.type "function")
  nf : PySem.W.findIn K (.ref C) f = some none
  xf : XfC K C
  ek : ExK K C
section
variable {K : PySem.W.Frag} {M : EC → Addr} {W : WX} {ps qs : Kn} {te ta tb : TE} {tr : TA} {t : TT} {ts tu : TS} {r : Res}
/-- raise C(e) -/
def tRs (C : Addr) (f : Str) (W : WX) (tr : TA) : TS := fun _ σ H => tMkO C (spErr C f) [] tr σ H fun cls d H' => W cls d σ H'
theorem js_raise [LT] {c : EC} {d : PyData} (h : JA K M W tr ps [dv K d]) (hc : c.two = false := by first | rfl | assumption) : JS K M W (tRs (M c) c.fld W tr) ps (.er ⟨c, d⟩) := fun D σ F H fh S k => h σ F H _ fh S fun vs F1 H1 e1 a => by
  obtain ⟨v, rfl, p⟩ := allP1 a
  refine ⟨by show 1 ≤ 1000; decide, fun x hx => ⟨x, v, rfl, upd_same, fun dx hdx ne => ⟨rfl, dx, [(c.fld, v)], upd_same, ?_, ?_, ?_⟩⟩⟩
  · rw [upd_ne ne, upd_same]
  · rw [upd_ne ne] at hdx
    exact hdx
  · have h1 : H1 dx = none := by
      rw [upd_ne ne] at hdx
      exact hdx
    have key : Ex H1 (upd (del (upd (upd (upd H1 x (exo x (M c) none)) dx (exd dx [(c.fld, v)])) x (exo x (M c) (some dx))) x) dx (.xd [(c.fld, v)])) := fun b u q => by
      have nx : b ≠ x := ne_of_none q hx
      have nd : b ≠ dx := ne_of_none q h1
      rw [upd_ne nd, del_ne nx, upd_ne nx, upd_ne nd, upd_ne nx]
      exact q
    exact k (some dx) σ F1 _ (e1.trans (Gr.heap e1.fh key)) (XD.of (u := v) (nof_of hc) (Xh.nn e1.hh _ h1) (by rw [xs_one hc]; exact upd_same) (by rw [v1_one hc]; exact p)) S.1
/-! ### objects: a floor -/
def pD (p : Int × Int) : PyData := .tuple [.int p.1, .int p.2]
/-- an instance of C with one attribute, data that never changes -/
def ob1 (K : PySem.W.Frag) (C : Addr) (f : Str) (d : PyData) : PV := ⟨fun H v => ∃ a dx u, v = .ref a ∧ H a = some (.ins C dx [(f, u)]) ∧ Dp K H u d, fun e h => by
  obtain ⟨a, dx, u, h1, h2, h3⟩ := h
  exact ⟨a, dx, u, h1, e _ _ h2, dp_mono e h3⟩⟩
theorem je_fld [LT] {C : Addr} {f : Str} {d : PyData} (h : JV K M W te ps (ob1 K C f d)) (c : Cls K C) (n : NoAttr K C f) : JD K M W (tFld K te f) ps d := fun σ F H Q fh S k => h.go fh S fun v F1 H1 e p => by
  obtain ⟨a, dx, u, rfl, ha, hd⟩ := p
  exact ⟨a, C, dx, [(f, u)], u, rfl, e.fh _ _ ha, c, n, by simp [List.lookup], k u F1 H1 e hd⟩
/-- a constant of a class, read off the class -/
theorem je_cval [LT] {C : Addr} {mc : Value} {f : Str} {v : V} {u : Value} {P : PV} (h : JV K M W te ps (xv (.ref C))) (r : ClX.CRead K C mc) (c : ClX.CVal K C mc f v u) (hp : ∀ H, P.p H v) : JV K M W (ClX.tCVal K te f) ps P := fun σ F H Q fh S k => h.go fh S fun x F1 H1 e p => ⟨C, mc, v, u, p, r, c, k v F1 H1 e (hp F1)⟩
/-- a method that keeps a promise over data; self is known -/
theorem je_meth [LT] {α : Type} {args : α → List PV} {dom : α → Prop} {out : α → Out} {C : Addr} {m f : Str} {d : PyData} (a : α) (hs : JV K M W te ps (ob1 K C f d)) (hm : ¬ m = f) (Ps : List PV) (h : JA K M W tr ps Ps) (ea : args a = ob1 K C f d :: Ps) (hd : dom a) :
    JE K M W (tMethW C m (Prm K M args dom out) (WE W) te tr) ps (out a) := fun σ F H Q fh S k => hs.go fh S fun v F1 H1 e1 p => by
  obtain ⟨b, dx, u, rfl, hb, hdp⟩ := id p
  refine ⟨b, dx, [(f, u)], rfl, e1.fh _ _ hb, ?_, h σ F1 H1 _ e1.fh (S.mono e1.ff) fun vs F2 H2 e2 al => ⟨a, F2, e2.fh, ?_, hd, Then.step (e1.trans e2) k⟩⟩
  · have : (m == f) = false := by simpa using hm
    simp [List.lookup, this]
  · rw [ea, List.append_nil]
    exact .cons (PV.mn _ e2.ff p) al
/-- C(e) where __init__ promises: an instance with one attribute, or an error -/
def spMake [LT] (K : PySem.W.Frag) (M : EC → Addr) (C : Addr) (f : Str) {α : Type} (args : α → List PV) (dom : α → Prop) (out : α → Except Er PyData) : Sp := fun vs H Q E => ∃ (a : α) (F : Hp) (x dx : Addr) (us : List V), vs = .ref x :: us ∧ Fx F H ∧ H x = some (.ins C dx []) ∧ F x = none ∧ AllP F us (args a) ∧ dom a ∧
  (match out a with
    | .ok d => ∀ F' H' u, Gr F H F' H' → Dp K F' u d → F' x = none → Q .non (upd H' x (.ins C dx [(f, u)]))
    | .error e => ∀ dd F' H', Gr F H F' H' → XD K H F' H' e dd → E (.ref (M e.c)) dd H')
def mkOut (K : PySem.W.Frag) (C : Addr) (f : Str) : Except Er PyData → Out
  | .ok d => .ok (ob1 K C f d)
  | .error e => .er e
theorem je_make [LT] {α : Type} {args : α → List PV} {dom : α → Prop} {out : α → Except Er PyData} {C : Addr} {f : Str} (a : α) (h : JA K M W tr ps (args a)) (hd : dom a) : JE K M W (tMakeS C (spMake K M C f args dom out) (WE W) tr) ps (mkOut K C f (out a)) := fun σ F H Q fh S k =>
  h σ F H _ fh S fun vs F1 H1 e1 al x dx hx hdx ne => by
    have exn : Ex H1 (upd (upd H1 dx (.own x)) x (.ins C dx [])) := fun b o q => by
      rw [upd_ne (ne_of_none q hx), upd_ne (ne_of_none q hdx)]
      exact q
    have g0 : Gr F1 H1 F1 (upd (upd H1 dx (.own x)) x (.ins C dx [])) := Gr.heap e1.fh exn
    have fx : F1 x = none := fresh_back e1.fh hx
    refine ⟨a, F1, x, dx, vs, by rw [List.append_nil], g0.fh, upd_same, fx, al, hd, ?_⟩
    cases ho : out a with
    | ok d =>
      rw [ho] at k
      refine fun F' H' u g dd fx' => ⟨rfl, ?_⟩
      have hx' : H' x = some (.ins C dx []) := g.hh.fn _ _ upd_same
      have G1 : Gr F1 H1 F' (upd H' x (.ins C dx [(f, u)])) := ⟨g.ff, (g0.hh.trans g.hh).mut hx, g.fh.mut fx', (g0.trans g).nw⟩
      have G2 := gr_in G1 hx fx' (upd_same (H := H') (a := x) (o := .ins C dx [(f, u)]))
      exact k (.ref x) _ _ (e1.trans G2) ⟨x, dx, u, rfl, upd_same, dp_mono (Ex.new fx') dd⟩
    | error e =>
      rw [ho] at k
      exact fun dd F' H' g y => k dd F' H' ((e1.trans g0).trans g) (y.back (e1.trans g0).hh)
/-! ### isinstance -/
theorem je_isTyI [LT] {i : Int} {T : String} {b : Bool} (h : JD K M W te ps (.int i)) (hT : kitB "int" T = some b) : JD K M W (tCB (rIsi K) (tCons te (tCons (tC (.ty T)) tNil))) ps (.bool b) := je_cb (ja_cons h (ja_cons je_x ja_nil)) fun vs F H fh a Q k => by
  obtain ⟨v, u, rfl, p, q⟩ := allP2 a
  rw [dp_int p, show u = V.ty T from q]
  exact ⟨.int i, .ty T, .type "int", .type T, b, rfl, .ty T, .base (.int i), kit_ty hT, k _ F H (Gr.refl fh) (.bl b)⟩
/-- of an instance of an own class -/
theorem je_isOb [LT] {C D : Addr} {f : Str} {d : PyData} {b : Bool} (h : JV K M W te ps (ob1 K C f d)) (cl : Cls K C) (ha : PySem.W.findIn K (.ref C) "__class__" = some (some (.builtin "object.__class__")))
    (hn : PySem.W.specialIn K (.builtin "object.__class__") "__get__" = some (some (.builtin "getset_descriptor.__get__"))) (htk : PySem.W.takesIn K (.builtin "object.__class__") = some true) (hm : PySem.W.mroIn K C (.type "object") = some true)
    (hk : PySem.W.kitOne K (.ref C) (.ref D) = some b) : JD K M W (tCB (rIsi K) (tCons te (tCons (tC (.ref D)) tNil))) ps (.bool b) := je_cb (ja_cons h (ja_cons je_x ja_nil)) fun vs F H fh a Q k => by
  obtain ⟨v, u, rfl, p, q⟩ := allP2 a
  rw [show u = V.ref D from q]
  obtain ⟨o, dx, w, rfl, ho, _⟩ := p
  exact ⟨.ref o, .ref D, .ref C, .ref D, b, rfl, .own D, .base (.ins (fh _ _ ho) cl ha hn htk hm), hk, k _ F H (Gr.refl fh) (.bl b)⟩
/-! ### an exception that a suite holds -/
def exv (K : PySem.W.Frag) (a dd : Addr) (f : Str) (d : PyData) : PV := ⟨fun H v => v = .ref a ∧ ∃ u, H dd = some (.xd [(f, u)]) ∧ Dp K H u d, fun e h => by
  obtain ⟨h1, u, h2, h3⟩ := h
  exact ⟨h1, u, e _ _ h2, dp_mono e h3⟩⟩
/-- an error of any kind -/
def exvE (K : PySem.W.Frag) (a dd : Addr) (e : Er) : PV := ⟨fun H v => v = .ref a ∧ ∃ u, H dd = some (.xd (e.xs u)) ∧ Dp K H u e.v1, fun e h => by
  obtain ⟨h1, u, h2, h3⟩ := h
  exact ⟨h1, u, e _ _ h2, dp_mono e h3⟩⟩
theorem exvE_one {K : PySem.W.Frag} {a dd : Addr} {c : EC} (h : c.two = false) (d : PyData) : exvE K a dd ⟨c, d⟩ = exv K a dd c.fld d := by
  unfold exvE exv
  congr 1
  funext H v
  rw [v1_one h]
  congr 2
  funext u
  rw [xs_one h]
theorem je_xf [LT] {a dd C : Addr} {f : Str} {d : PyData} (h : JV K M W te ps (exv K a dd f d)) : JD K M W (tXf a (.ref C) (some dd) C f te) ps d := fun σ F H Q fh S k => h.go fh S fun v F1 H1 e p => by
  obtain ⟨rfl, u, h2, h3⟩ := p
  exact ⟨rfl, rfl, dd, [(f, u)], u, rfl, e.fh _ _ h2, by simp [List.lookup], k u F1 H1 e h3⟩
theorem je_isEx [LT] {a dd C : Addr} {f : Str} {d : PyData} {c : V} {cv : Value} {b : Bool} (h : JV K M W te ps (exv K a dd f d)) (T : ExK K C) (hc : ClsV c cv) (hk : PySem.W.kitOne K (.ref C) cv = some b) : JD K M W (tCB (rIsEx K a (.ref C) (some dd)) (tCons te (tCons (tC c) tNil))) ps (.bool b) := je_cb (ja_cons h (ja_cons je_x ja_nil)) fun vs F H fh al Q k => by
  obtain ⟨v, u, rfl, p, q⟩ := allP2 al
  obtain ⟨rfl, w, h2, h3⟩ := p
  rw [show u = c from q]
  exact ⟨C, c, cv, b, rfl, T, rfl, fun _ z => by cases z; exact ⟨_, fh _ _ h2⟩, hc, hk, k _ F H (Gr.refl fh) (.bl b)⟩
theorem je_isExT2 [LT] {a dd C C1 C2 : Addr} {f : Str} {d : PyData} {b : Bool} (h : JV K M W te ps (exv K a dd f d)) (T : ExK K C) (hk : PySem.W.kitAny K (.ref C) [.ref C1, .ref C2] = some b) :
    JD K M W (tCB (rIsExT K a (.ref C) (some dd)) (tCons te (tCons (tTup (tCons (tC (.ref C1)) (tCons (tC (.ref C2)) tNil))) tNil))) ps (.bool b) := fun σ F H Q fh S k => h.go fh S fun v F1 H1 e p => by
  obtain ⟨rfl, w, h2, h3⟩ := p
  refine ⟨by show 2 ≤ sizeLine; decide, fun tp htp => ?_⟩
  refine ⟨C, tp, [.ref C1, .ref C2], [.ref C1, .ref C2], b, rfl, T, rfl, fun _ z => by cases z; exact ⟨[(f, w)], (upd_ne (ne_of_none (e.fh _ _ h2) htp)).trans (e.fh _ _ h2)⟩, upd_same, .cons (.own C1) (.cons (.own C2) .nil), hk, k _ _ _ (e.trans (Gr.new e.fh htp)) (.bl b)⟩
/-! ### try -/
theorem js_try_ok [LT] {tb : WX → TS} {Wo : WX} {l : List (Value × Nat × (Addr → Value → Option Addr → TS))} (hb : ∀ W', JS K M W' (tb W') ps r) (hr : ∀ e, r ≠ .er e) : JS K M W (fun D σ H => tb (wClauses K Wo D l) D σ H) ps r := fun D σ F H fh S k => hb _ D σ F H fh S (by
  cases r with
  | er e => exact absurd rfl (hr e)
  | nx qs => exact k
  | rt P => exact k
  | bk qs => exact k
  | ct qs => exact k)
/-- an error without fields that a suite holds -/
def exv0 (a : Addr) : PV := xv (.ref a)
/-- the suite of the clause that catches: slot i holds the error, no other slot is known -/
def Suite [LT] (K : PySem.W.Frag) (M : EC → Addr) (W : WX) (n i : Nat) (ts : Addr → Value → Option Addr → TS) (e : Er) (P : PV) : Prop := match e.c.nof with
  | false => ∀ a dd, JS K M W (ts a (.ref (M e.c)) (some dd)) ((List.replicate n none).set i (some (exvE K a dd e))) (.rt P)
  | true => ∀ a, JS K M W (ts a (.ref (M e.c)) none) ((List.replicate n none).set i (some (exv0 a))) (.rt P)
theorem suite_of [LT] {n i : Nat} {ts : Addr → Value → Option Addr → TS} {e : Er} {P : PV} (hc : e.c.nof = false) (h : ∀ a dd, JS K M W (ts a (.ref (M e.c)) (some dd)) ((List.replicate n none).set i (some (exvE K a dd e))) (.rt P)) : Suite K M W n i ts e P := by
  unfold Suite
  rw [hc]
  exact h
theorem Suite.get [LT] {n i : Nat} {ts : Addr → Value → Option Addr → TS} {e : Er} {P : PV} (h : Suite K M W n i ts e P) (hc : e.c.nof = false) : ∀ a dd, JS K M W (ts a (.ref (M e.c)) (some dd)) ((List.replicate n none).set i (some (exvE K a dd e))) (.rt P) := by
  unfold Suite at h
  rw [hc] at h
  exact h
theorem Suite.get0 [LT] {n i : Nat} {ts : Addr → Value → Option Addr → TS} {e : Er} {P : PV} (h : Suite K M W n i ts e P) (hc : e.c.nof = true) : ∀ a, JS K M W (ts a (.ref (M e.c)) none) ((List.replicate n none).set i (some (exv0 a))) (.rt P) := by
  unfold Suite at h
  rw [hc] at h
  exact h
/-- which clause catches the error: the ones ahead of it do not -/
def Catch [LT] (K : PySem.W.Frag) (M : EC → Addr) (W : WX) (n : Nat) (e : Er) (P : PV) : List (Value × Nat × (Addr → Value → Option Addr → TS)) → Prop
  | [] => False
  | (c, i, ts) :: l => (PySem.W.exmOne K (.ref (M e.c)) c = some true ∧ Suite K M W n i ts e P) ∨ (PySem.W.exmOne K (.ref (M e.c)) c = some false ∧ Catch K M W n e P l)
theorem sl_bare {F : Hp} : ∀ σ : L2.St, Sl F σ (List.replicate σ.length none) := fun σ => ⟨by simp, fun i P h => by
  have := List.eq_of_mem_replicate (List.mem_of_getElem? h)
  cases this⟩
theorem catch_ok [LT] {Wo : WX} {D : Ends} {e : Er} {P : PV} {n : Nat} : ∀ {l : List (Value × Nat × (Addr → Value → Option Addr → TS))}, Catch K M W n e P l → ∀ {F H F1 H1 : Hp} {σ' : L2.St} {dd : Option Addr}, Wsh K M W n D F H (.rt P) → Gr F H F1 H1 → XD K H F1 H1 e dd → σ'.length = n →
    wClauses K Wo D l (.ref (M e.c)) dd σ' H1
  | [], h, _, _, _, _, _, _, _, _, _, _ => h.elim
  | (c, i, ts) :: l, h, F, H, F1, H1, σ', dd, k, g, y, hl => by
    rcases h with ⟨hx, hs⟩ | ⟨hx, hc⟩
    · refine ⟨true, hx, fun _ a ha => ?_, fun z => Bool.noConfusion z⟩
      rcases y.cases with ⟨hn0, rfl⟩ | ⟨hn1, d, u, rfl, hn, hd, dp⟩
      · have S0 : Sl F1 (σ'.set i (some (.ref a))) ((List.replicate n none).set i (some (exv0 a))) := by
          have := (sl_bare (F := F1) σ').set (P := exv0 a) (v := .ref a) i rfl
          rw [hl] at this
          exact this
        exact hs.get0 hn0 a _ (σ'.set i (some (.ref a))) F1 H1 g.fh S0 fun v F3 H3 g3 p => k v F3 H3 (g.trans g3) p
      · have fo : ∀ o, F1 d = some o → o = .xd (e.xs u) := fun o ho => by
          have := g.fh _ _ ho
          rw [hd] at this
          exact (Option.some.inj this).symm
        -- the error's dict is told from here on
        have F2 : Ex F1 (upd F1 d (.xd (e.xs u))) := fun b o q => by
          by_cases z : b = d
          · subst z
            rw [upd_same, fo o q]
          · rw [upd_ne z]
            exact q
        have fh2 : Ex (upd F1 d (.xd (e.xs u))) H1 := fun b o q => by
          by_cases z : b = d
          · subst z
            rw [upd_same] at q
            cases q
            exact hd
          · rw [upd_ne z] at q
            exact g.fh b o q
        have S0 : Sl (upd F1 d (.xd (e.xs u))) (σ'.set i (some (.ref a))) ((List.replicate n none).set i (some (exvE K a d e))) := by
          have := (sl_bare (F := upd F1 d (.xd (e.xs u))) σ').set (P := exvE K a d e) (v := .ref a) i ⟨rfl, u, upd_same, dp_mono F2 dp⟩
          rw [hl] at this
          exact this
        refine hs.get hn1 a d _ (σ'.set i (some (.ref a))) (upd F1 d (.xd (e.xs u))) H1 (g.fh.tell fh2) S0 fun v F3 H3 g3 p => ?_
        exact k v F3 H3 ⟨g.ff.trans (F2.trans g3.ff), g.hh.trans g3.hh, g3.fh, fun b hb hf => g3.nw b (fun z => by
          have := Xh.nn g.hh _ z
          exact hb this) (by
            by_cases z : b = d
            · subst z
              exact absurd hn hb
            · rw [upd_ne z]
              exact g.nw b hb hf)⟩ p
    · exact ⟨false, hx, fun z => Bool.noConfusion z, fun _ => catch_ok hc k g y hl⟩
/-- a def's end -/
def Fin (K : PySem.W.Frag) : Res → Out → Prop
  | .rt P, .ok R => P = R
  | .nx _, .ok R => R = dv K .none
  | .er e, .er e' => e = e'
  | _, _ => False
theorem fin_ok [LT] {N : List Str} {Ps : List PV} {vs : List V} {F H : Hp} {Q : VK} {E : XK} {o : Out} (h : JS K M (fun cls d _ H => E cls d H) ts (entry N Ps) r) (hf : Fin K r o) (fh : Fx F H) (al : AllP F vs Ps) (th : Then K M F H Q E o) : ts { nx := fun _ H' => Q .non H', rt := Q } (start N vs) H := by
  refine h _ _ F H fh (Sl.start al) ?_
  cases r with
  | rt P =>
    cases o with
    | ok R =>
      cases (show P = R from hf)
      exact fun v F' H' g p => th v F' H' g p
    | er e => exact hf.elim
  | nx qs =>
    cases o with
    | ok R =>
      cases (show R = dv K .none from hf)
      exact fun σ' F' H' g _ => th .non F' H' g .non
    | er e => exact hf.elim
  | er e =>
    cases o with
    | ok R => exact hf.elim
    | er e2 =>
      cases (show e = e2 from hf)
      exact fun dd σ' F' H' g y _ => th dd F' H' g y
  | bk qs =>
    cases o <;> exact hf.elim
  | ct qs =>
    cases o <;> exact hf.elim
theorem js_try_er [LT] {tb : WX → TS} {Wo : WX} {l : List (Value × Nat × (Addr → Value → Option Addr → TS))} {e : Er} {P : PV} (hb : ∀ W', JS K M W' (tb W') ps (.er e)) (hc : Catch K M W ps.length e P l) : JS K M W (fun D σ H => tb (wClauses K Wo D l) D σ H) ps (.rt P) := fun D σ F H fh S k =>
  hb _ D σ F H fh S fun dd σ' F' H' g y hl => catch_ok hc k g y hl
end
end EB
/-! EB6: loops that search, truth of a sequence, membership, slices, more sources. -/
namespace EB
open PySem PySem.Spec PyProof.Rows L2 Evl
/-- a turn that leaves the loop: returns, or raises -/
def Out.lv : Out → Res
  | .ok P => .rt P
  | .er e => .er e
def ends (ps : Kn) : Option Out → Res
  | none => .nx ps
  | some o => o.lv
section
variable {K : PySem.W.Frag} {M : EC → Addr} {W : WX} {ps qs : Kn} {te ta tb : TE} {tr : TA} {t : TT} {ts tu : TS} {r : Res} {vs : List Nat}
theorem lv_or (o : Out) : (∃ P, o.lv = .rt P) ∨ ∃ e, o.lv = .er e := by
  cases o with
  | ok P => exact .inl ⟨P, rfl⟩
  | er e => exact .inr ⟨e, rfl⟩
theorem range_first {β : Type} {c : Nat → Option β} {n : Nat} {o : β} (h : (List.range n).findSome? c = some o) : ∃ m, m < n ∧ c m = some o ∧ ∀ i, i < m → c i = none := by
  induction n with
  | zero => simp at h
  | succ n ih =>
    rw [List.range_succ, List.findSome?_append] at h
    cases q : (List.range n).findSome? c with
    | some o2 =>
      rw [q] at h
      have e : o2 = o := by simpa using h
      subst e
      obtain ⟨m, h1, h2, h3⟩ := ih q
      exact ⟨m, by omega, h2, h3⟩
    | none =>
      rw [q] at h
      have e : c n = some o := by simpa using h
      refine ⟨n, by omega, e, fun i hi => ?_⟩
      have := List.findSome?_eq_none_iff.mp q i (List.mem_range.mpr hi)
      exact this
/-- a loop that is left at the first turn i where c i tells how -/
theorem js_search [LT] {wi : TI} {g : TG} {ds : List PyData} {tb : TS} (c : Nat → Option Out) (hi : JI K M W wi ps ds)
    (hs : ∀ i d, ds[i]? = some d → ∃ qs, JG vs g ps (dv K d) qs ∧ (JS K M W tb qs (ends ps (c i)) ∨ (c i = none ∧ JS K M W tb qs (.ct ps)))) : JS K M W (tFor wi g tb) ps (ends ps ((List.range ds.length).findSome? c)) := by
  cases q : (List.range ds.length).findSome? c with
  | none =>
    have hn : ∀ i, i < ds.length → c i = none := fun i h => List.findSome?_eq_none_iff.mp q i (List.mem_range.mpr h)
    refine js_for (vs := vs) (fun _ => ps) ds.length hi rfl (Nat.le_refl _) (fun i d h hd => ?_) (.inl ⟨rfl, rfl⟩) (fun _ => rfl)
    obtain ⟨qs, hg, hb⟩ := hs i d hd
    refine ⟨qs, hg, ?_⟩
    rw [hn i h] at hb
    rcases hb with hb | ⟨_, hb⟩
    · exact .inl hb
    · exact .inr hb
  | some o =>
    obtain ⟨m, hm, hc, hn⟩ := range_first q
    refine js_for (vs := vs) (fun _ => ps) m hi rfl (Nat.le_of_lt hm) (fun i d h hd => ?_) (.inr ?_) (fun _ => rfl)
    · obtain ⟨qs, hg, hb⟩ := hs i d hd
      refine ⟨qs, hg, ?_⟩
      rw [hn i h] at hb
      rcases hb with hb | ⟨_, hb⟩
      · exact .inl hb
      · exact .inr hb
    · obtain ⟨qs, hg, hb⟩ := hs m _ (List.getElem?_eq_getElem hm)
      rw [hc] at hb
      rcases hb with hb | ⟨z, _⟩
      · exact ⟨_, qs, List.getElem?_eq_getElem hm, hg, hb, lv_or o⟩
      · cases z
/-- the truth of a sequence -/
theorem jt_truT [LT] {ds : List PyData} (h : JD K M W te ps (.tuple ds)) : JT K M W (fun σ H Q => te σ H fun x H' => ∃ k, TruV K x H' k ∧ Q k H') ps (!ds.isEmpty) := fun σ F H Q fh S k => h.go fh S fun v F1 H1 e p => by
  obtain ⟨a, xs, rfl, hs, hd⟩ := dp_tup p
  refine ⟨!ds.isEmpty, .inr (.inl ⟨xs, ex_t e.fh.ex hs, ?_⟩), k F1 H1 e⟩
  cases hd <;> rfl
/-- x in ns -/
theorem inV_ints (i : Int) : ∀ ns : List Int, inV (.int i) (ns.map V.int) = ns.contains i
  | [] => rfl
  | n :: r => by
    unfold inV
    rw [List.map_cons, List.any_cons, List.contains_cons]
    have := inV_ints i r
    unfold inV at this
    rw [this]
    congr 1
    show eqV (.int n) (.int i) = (i == n)
    unfold eqV
    exact BEq.comm
theorem flat_ints : ∀ ns : List Int, (ns.map V.int).all flatV = true
  | [] => rfl
  | n :: r => by
    rw [List.map_cons, List.all_cons, flat_ints r]
    rfl
theorem je_inT [LT] {i : Int} {ns : List Int} (ha : JD K M W ta ps (.int i)) (hb : JD K M W tb ps (.tuple (ns.map .int))) : JD K M W (tOp (rIn K false) ta tb) ps (.bool (ns.contains i)) := je_op ha hb fun x y F H fh p q Q k => by
  obtain ⟨a, xs, rfl, hs, hd⟩ := dp_tup q
  have e := dpAll_ints_eq hd
  subst e
  rw [dp_int p]
  refine ⟨a, _, rfl, .inr (ex_t fh.ex hs), rfl, flat_ints ns, ?_⟩
  rw [inV_ints]
  exact k _ F H (Gr.refl fh) (.bl _)
theorem je_inL [LT] {i : Int} {ns : List Int} (ha : JD K M W ta ps (.int i)) (hb : JD K M W tb ps (.list (ns.map .int))) : JD K M W (tOp (rIn K false) ta tb) ps (.bool (ns.contains i)) := je_op ha hb fun x y F H fh p q Q k => by
  obtain ⟨a, xs, rfl, hs, hd⟩ := dp_lst q
  have e := dpAll_ints_eq hd
  subst e
  rw [dp_int p]
  refine ⟨a, _, rfl, .inl (ex_l fh.ex hs), rfl, flat_ints ns, ?_⟩
  rw [inV_ints]
  exact k _ F H (Gr.refl fh) (.bl _)
/-- t[:k], not the whole; xs[:k] -/
def JO [LT] (K : PySem.W.Frag) (M : EC → Addr) (W : WX) (to : TO) (ps : Kn) (o : Option Int) : Prop := ∀ σ F H (Q : Option Int → Hp → Prop), Fx F H → Sl F σ ps → (∀ F' H', Gr F H F' H' → Q o H') → to σ H Q
theorem jo_none [LT] : JO K M W tNoPart ps none := fun σ F H Q fh S k => k F H (Gr.refl fh)
theorem jo_some [LT] {i : Int} (h : JD K M W te ps (.int i)) : JO K M W (tPart te) ps (some i) := fun σ F H Q fh S k => h.go fh S fun v F1 H1 e p => ⟨i, dp_int p, k F1 H1 e⟩
def cutD (ds : List PyData) (lo hi : Option Int) : List PyData := (ds.drop (HT.sIx ds.length 0 lo)).take (HT.sIx ds.length ds.length hi - HT.sIx ds.length 0 lo)
theorem cut_all {F : Hp} {xs : List V} {ds : List PyData} (h : DpAll K F xs ds) (lo hi : Option Int) : DpAll K F (cutV xs lo hi) (cutD ds lo hi) := by
  unfold cutV cutD
  rw [dpLength h]
  exact dpTake _ (dpDrop _ h)
theorem je_slL [LT] {ds : List PyData} {tl th : TO} {lo hi : Option Int} (h : JD K M W te ps (.list ds)) (h1 : JO K M W tl ps lo) (h2 : JO K M W th ps hi) : JD K M W (tSl (rSlL K) te tl th) ps (.list (cutD ds lo hi)) := fun σ F H Q fh S k =>
  h.go fh S fun v F1 H1 e p => h1 σ F1 H1 _ e.fh (S.mono e.ff) fun F2 H2 e2 => h2 σ F2 H2 _ e2.fh ((S.mono e.ff).mono e2.ff) fun F3 H3 e3 => by
    obtain ⟨a, xs, rfl, hs, hd⟩ := dp_lst (dp_mono (e2.ff.trans e3.ff) p)
    exact ⟨a, xs, rfl, ex_l e3.fh.ex hs, fun p hp => k _ _ _ (((e.trans e2).trans e3).trans (Gr.new e3.fh hp)) (.lst (sq_of upd_same) (dpAll_mono (Gr.new (o := .lst (cutV xs lo hi)) e3.fh hp).ff (cut_all hd lo hi)))⟩
theorem cutD_map {α : Type} (f : α → PyData) (xs : List α) (j : Nat) : cutD (xs.map f) none (some (j : Int)) = (xs.take j).map f := by
  unfold cutD
  rw [HT.sIx_none, HT.sIx_nat, List.drop_zero, Nat.sub_zero, List.length_map, ← List.map_take]
  congr 1
  by_cases h : j ≤ xs.length
  · rw [Nat.min_eq_left h]
  · rw [Nat.min_eq_right (by omega), List.take_length, List.take_of_length_le (by omega)]
/-- tuple(range(a, b)) -/
theorem rg_all {F : Hp} (a b : Int) : DpAll K F (rgV a b) ((rg a (b - a).toNat).map PyData.int) := by
  have e : rgV a b = (rg a (b - a).toNat).map V.int := by
    unfold rgV rg
    rw [List.map_map]
    rfl
  rw [e]
  exact dpAll_ints _
end
end EB
/-! EB7: the end of a law's row where the top's loose numbers are told too. -/
namespace EB
open PySem PySem.Spec PyProof.Rows L2 Evl
section
variable {K : PySem.W.Frag} {A C : Addr} {b : Bool}
theorem kit_refl : PySem.W.kitOne K (.ref C) (.ref C) = some true := if_pos (beq_self_eq_true _)
theorem cls_ask (ic : PySem.W.isClsIn K C = true) (ty : PySem.W.typeIn K (.ref C) = some (.type "type")) : ((PySem.W.clsIn K C).isSome && PySem.W.typeIn K (.ref C) == some (.type "type")) = true := by
  have i2 : (PySem.W.clsIn K C).isSome = true := ic
  rw [i2, ty] <;> rfl
theorem kit_sub (ic : PySem.W.isClsIn K C = true) (ty : PySem.W.typeIn K (.ref C) = some (.type "type")) (su : PySem.W.subIn K (.ref A) (.ref C) = some b) (hb : A = C → b = true) : PySem.W.kitOne K (.ref A) (.ref C) = some b := by
  by_cases z : A = C
  · rw [hb z, z]
    exact kit_refl
  · unfold PySem.W.kitOne
    have ne : (Value.ref A == Value.ref C) = false := by
      refine Bool.eq_false_iff.mpr fun q => z ?_
      exact Value.ref.inj (beq_iff_eq.mp q)
    rw [ne, if_neg Bool.false_ne_true]
    show (if ((PySem.W.clsIn K C).isSome && PySem.W.typeIn K (.ref C) == some (.type "type")) = true then PySem.W.subIn K (.ref A) (.ref C) else none) = some b
    rw [if_pos (cls_ask ic ty)]
    exact su
theorem kit_off (ic : PySem.W.isClsIn K C = true) (ty : PySem.W.typeIn K (.ref C) = some (.type "type")) (sa : PySem.W.subIn K (.ref A) (.ref A) = some true) (su : PySem.W.subIn K (.ref A) (.ref C) = some false) : PySem.W.kitOne K (.ref A) (.ref C) = some false := kit_sub ic ty su fun z => by
  rw [← z, sa] at su
  cases su
theorem kit_val (su : PySem.W.subIn K (.ref A) (.type "ValueError") = some true) : PySem.W.kitOne K (.ref A) (.type "ValueError") = some true := by
  unfold PySem.W.kitOne
  have ne : (Value.ref A == Value.type "ValueError") = false := Bool.eq_false_iff.mpr fun q => by
    have := beq_iff_eq.mp q
    cases this
  rw [ne, if_neg Bool.false_ne_true]
  show (if PySem.W.kitMeta "ValueError" = true then PySem.W.subIn K (.ref A) (.type "ValueError") else none) = some true
  rw [if_pos (by decide +kernel)]
  exact su
theorem kit_any2 {C1 C2 : Addr} (h1 : PySem.W.kitOne K (.ref A) (.ref C1) = some false) (h2 : PySem.W.kitOne K (.ref A) (.ref C2) = some false) : PySem.W.kitAny K (.ref A) [.ref C1, .ref C2] = some false := kitAny_cons h1 (fun _ => kitAny_cons h2 (fun _ => kitAny_nil) fun z => nomatch z) fun z => nomatch z
theorem exm_sub (sb : PySem.W.subIn K (.ref C) (.type "BaseException") = some true) (ic : PySem.W.isClsIn K C = true) (ty : PySem.W.typeIn K (.ref C) = some (.type "type")) (su : PySem.W.subIn K (.ref A) (.ref C) = some b) : PySem.W.exmOne K (.ref A) (.ref C) = some b := by
  have e1 : (PySem.W.subIn K (.ref C) (.type "BaseException") == some true) = true := by rw [sb] <;> rfl
  show (if (PySem.W.subIn K (.ref C) (.type "BaseException") == some true) = true then (if ((PySem.W.clsIn K C).isSome && PySem.W.typeIn K (.ref C) == some (.type "type")) = true then PySem.W.subIn K (.ref A) (.ref C) else none) else none) = some b
  rw [if_pos e1, if_pos (cls_ask ic ty)]
  exact su
end
end EB
/-! EB8: data that may be compared. -/
namespace EB
open PySem PySem.Spec PyProof.Rows L2 Evl
structure Ok (d : PyData) (n : Nat) : Prop where
  c : PyData.canLay0 d = true
  d : PyData.depth d ≤ n
theorem ok_all {n : Nat} : ∀ {ds : List PyData}, (∀ d ∈ ds, Ok d n) → PyData.canLayAll0 ds = true ∧ PyData.depthAll ds ≤ n
  | [], _ => by simp [PyData.canLayAll0, PyData.depthAll]
  | d :: r, h => by
    have h1 := h d (List.mem_cons_self)
    have h2 := ok_all (n := n) (ds := r) fun e he => h e (List.mem_cons_of_mem _ he)
    simp only [PyData.canLayAll0, PyData.depthAll, Bool.and_eq_true]
    exact ⟨⟨h1.c, h2.1⟩, Nat.max_le.mpr ⟨h1.d, h2.2⟩⟩
theorem ok_tup {n : Nat} {ds : List PyData} (h : ∀ d ∈ ds, Ok d n) : Ok (.tuple ds) (n + 1) := by
  have h2 := ok_all h
  refine ⟨by simp only [PyData.canLay0]; exact h2.1, ?_⟩
  simp only [PyData.depth]
  omega
theorem ok_lst {n : Nat} {ds : List PyData} (h : ∀ d ∈ ds, Ok d n) : Ok (.list ds) (n + 1) := by
  have h2 := ok_all h
  refine ⟨by simp only [PyData.canLay0]; exact h2.1, ?_⟩
  simp only [PyData.depth]
  omega
theorem ok_int {n : Nat} {i : Int} : Ok (.int i) n := ⟨by simp only [PyData.canLay0], by simp only [PyData.depth]; omega⟩
theorem ok_bl {n : Nat} {b : Bool} : Ok (.bool b) n := ⟨by simp only [PyData.canLay0], by simp only [PyData.depth]; omega⟩
theorem ok_str {n : Nat} {x : Str} (h : PyData.strOk x = true) : Ok (.str x) n := ⟨by simp only [PyData.canLay0]; exact h, by simp only [PyData.depth]; omega⟩
theorem Ok.sh {d : PyData} {n : Nat} (h : Ok d n) (hn : n ≤ 64) : SeqAt.shaped d = true := by
  unfold SeqAt.shaped
  rw [h.c, Bool.true_and]
  exact decide_eq_true (Nat.le_trans h.d hn)
theorem ok_ints {n : Nat} (xs : List Int) : ∀ d ∈ xs.map PyData.int, Ok d n := fun d hd => by
  obtain ⟨i, _, rfl⟩ := List.mem_map.mp hd
  exact ok_int
section
variable {K : PySem.W.Frag} {M : EC → Addr} {W : WX} {ps : Kn} {ta tb : TE}
/-- the same data on both sides -/
theorem je_eqR [LT] {d : PyData} {n : Nat} (ha : JD K M W ta ps d) (hb : JD K M W tb ps d) (o : Ok d n) (hn : n ≤ 64 := by decide) : JD K M W (tOp (rEqD K) ta tb) ps (.bool true) := je_is (je_eqD ha hb (o.sh hn) (o.sh hn)) (by rw [SeqAt.eqv_refl d o.c])
theorem je_neR [LT] {d : PyData} {n : Nat} (ha : JD K M W ta ps d) (hb : JD K M W tb ps d) (o : Ok d n) (hn : n ≤ 64 := by decide) : JD K M W (tOp (rNeD K) ta tb) ps (.bool false) := je_is (je_neD ha hb (o.sh hn) (o.sh hn)) (by rw [SeqAt.eqv_refl d o.c]; rfl)
end
end EB
/-! EB9: a list of one's own that is written to (appended to, items set), then handed on as data. -/
namespace EB
open PySem PySem.Spec PyProof.Rows L2 Evl
inductive LR
  | nx (qs : Kn) (ds : List PyData)
  | rt (d : PyData)
def LW [LT] (K : PySem.W.Frag) (D : Addr) (F1 H1 : Hp) (Dn : Ends) (F : Hp) : LR → Prop
  | .nx qs es => ∀ σ' F' H', Acc K D F1 H1 F' H' es → Ex F F' → Sl F' σ' qs → Dn.nx σ' H'
  | .rt d => ∀ v F' H', Gr F1 H1 F' H' → Dp K F' v d → Dn.rt v H'
theorem LW.step [LT] {K : PySem.W.Frag} {D : Addr} {F1 H1 : Hp} {Dn : Ends} {F F' : Hp} {R : LR} (e : Ex F F') (k : LW K D F1 H1 Dn F R) : LW K D F1 H1 Dn F' R := by
  cases R with
  | nx qs es => exact fun σ2 F2 H2 A2 e2 S2 => k σ2 F2 H2 A2 (e.trans e2) S2
  | rt d => exact k
def JL [LT] (K : PySem.W.Frag) (M : EC → Addr) (W : WX) (D : Addr) (F1 H1 : Hp) (ts : TS) (ps : Kn) (ds : List PyData) (R : LR) : Prop := ∀ Dn σ F H, Acc K D F1 H1 F H ds → Sl F σ ps → LW K D F1 H1 Dn F R → ts Dn σ H
section
variable {K : PySem.W.Frag} {M : EC → Addr} {W : WX} {D : Addr} {F1 H1 : Hp} {ps qs rs : Kn} {ts tu : TS} {te ti : TE} {ds es : List PyData} {R : LR} {t : TT}
theorem jl_js [LT] (h : JS K M W ts ps (.nx qs)) : JL K M W D F1 H1 ts ps ds (.nx qs ds) := fun Dn σ F H A S k => h Dn σ F H A.gr.fh S fun σ' F' H' g s => k σ' F' H' (A.step g) g.ff s
theorem jl_weak [LT] (h : JL K M W D F1 H1 ts ps ds (.nx qs es)) (w : Weak qs rs) : JL K M W D F1 H1 ts ps ds (.nx rs es) := fun Dn σ F H A S k => h Dn σ F H A S fun σ' F' H' A' e s => k σ' F' H' A' e (s.weak w)
theorem jl_is [LT] {es' : List PyData} (h : JL K M W D F1 H1 ts ps ds (.nx qs es)) (e : es = es') : JL K M W D F1 H1 ts ps ds (.nx qs es') := e ▸ h
theorem jl_seq [LT] (h1 : JL K M W D F1 H1 ts ps ds (.nx qs es)) (h2 : JL K M W D F1 H1 tu qs es R) : JL K M W D F1 H1 (tSeq ts tu) ps ds R := fun Dn σ F H A S k => h1 { Dn with nx := tu Dn } σ F H A S fun σ' F' H' A' e S' => h2 Dn σ' F' H' A' S' (LW.step e k)
theorem sl_at {F : Hp} {σ : L2.St} {i : Nat} {v : V} (S : Sl F σ ps) (h : ps[i]? = some (some (xv v))) : σ[i]? = some (some v) := by
  obtain ⟨u, hu, e⟩ := S.2 i _ h
  rw [hu, show u = v from e]
/-- xs.append(e) -/
theorem jl_app [LT] {i : Nat} {ta : TA} {d : PyData} (hi : ps[i]? = some (some (xv (.ref D)))) (hD : H1 D = none) (h : JA K M W ta ps [dv K d]) (hl : ds.length < 90000) : JL K M W D F1 H1 (tDrop (tBM K "list" rAppend (tVar i) ta)) ps ds (.nx ps (ds ++ [d])) := fun Dn σ F H A S k => by
  obtain ⟨acc0, h0, _⟩ := A.at_
  refine ⟨.ref D, sl_at S hi, (.inl ⟨rfl, acc0, sq_of h0⟩), h σ F H _ A.gr.fh S fun vs F2 H2 g a => ?_⟩
  obtain ⟨v, rfl, p⟩ := allP1 a
  have A2 := A.step g
  obtain ⟨acc, h2, hd⟩ := A2.at_
  exact ⟨D, acc, v, rfl, rfl, h2, sz_lt (by rw [A2.len h2]; omega), k σ F2 _ (A2.app hD h2 p) g.ff (S.mono g.ff)⟩
/-- for, the list grows or changes in every turn -/
theorem jl_for [LT] {vs : List Nat} {wi : TI} {g : TG} {tb : TS} (xs : List PyData) (f : Nat → Kn) (l : Nat → List PyData) (hi : JI K M W wi ps xs) (h0 : f 0 = ps) (hl0 : l 0 = ds)
    (hs : ∀ (j : Nat) (d : PyData), xs[j]? = some d → ∃ qs, JG vs g (f j) (dv K d) qs ∧ JL K M W D F1 H1 tb qs (l j) (.nx (f (j + 1)) (l (j + 1)))) : JL K M W D F1 H1 (tFor wi g tb) ps ds (.nx (f xs.length) (l xs.length)) := fun Dn σ F H A S k => hi σ F H _ A.gr.fh S fun J F2 H2 e1 it => by
  refine ⟨fun i n σ' H' => n = xs.length - i ∧ i ≤ xs.length ∧ ∃ F', Acc K D F1 H1 F' H' (l i) ∧ Ex F2 F' ∧ Sl F' σ' (f i), ⟨xs.length, by omega, Nat.zero_le _, F2, by rw [hl0]; exact A.step e1, Ex.refl _, by rw [h0]; exact S.mono e1.ff⟩, ?_⟩
  rintro i n σ' H' ⟨rfl, him, F3, A3, e3, S3⟩
  by_cases hlt : i < xs.length
  · refine .inr ⟨it.go i H' (Ex.fx e3 A3.gr.fh) hlt, fun σ4 H4 => ∃ F4, Acc K D F1 H1 F4 H4 (l (i + 1)) ∧ Ex F2 F4 ∧ Sl F4 σ4 (f (i + 1)), fun σ4 H4 q => ⟨xs.length - (i + 1), by omega, rfl, hlt, q⟩, fun x H4 y => ?_⟩
    obtain ⟨F4, e4, dx⟩ := it.yld i _ F3 H' x H4 e3 A3.gr.fh (List.getElem?_eq_getElem hlt) y
    obtain ⟨qs, hg, hb⟩ := hs i _ (List.getElem?_eq_getElem hlt)
    have A4 := A3.step e4
    refine hg x σ' F4 H4 _ e4.fh (S3.mono e4.ff) dx fun σ5 F5 H5 e5 S5 _ => ?_
    exact hb _ σ5 F5 H5 (A4.step e5) S5 fun σ6 F6 H6 A6 e6 S6 => ⟨F6, A6, ((e3.trans e4.ff).trans e5.ff).trans e6, S6⟩
  · have hem : i = xs.length := by omega
    subst hem
    exact .inl ⟨it.stop _ H' (Ex.fx e3 A3.gr.fh) (Nat.le_refl _), k σ' F3 H' A3 (e1.ff.trans e3) S3⟩
theorem jl_ret [LT] {i : Nat} (hi : ps[i]? = some (some (xv (.ref D)))) (hD : H1 D = none) : JL K M W D F1 H1 (tRet (tVar i)) ps ds (.rt (.list ds)) := fun Dn σ F H A S k => by
  obtain ⟨F3, g3, d3, _⟩ := A.done hD
  exact ⟨.ref D, sl_at S hi, k _ F3 H g3 d3⟩
/-- xs = [] -/
theorem jl_new [LT] {i : Nat} {d : PyData} (h : ∀ D F1 H1, H1 D = none → JL K M W D F1 H1 tu (ps.set i (some (xv (.ref D)))) [] (.rt d)) : JS K M W (tSeq (tAsg (tLst tNil) (gName i)) tu) ps (.rt (dv K d)) := fun Dn σ F H fh S k =>
  ⟨sz_of (by decide), fun D hD => h D F H hD Dn _ F _ (Acc.start fh hD) (S.set i rfl) fun v F' H' g p => k v F' H' g p⟩
end
end EB
/-! EB10: max and min, lists that stand in the heap, == by an own __eq__, is True. -/
namespace EB
open PySem PySem.Spec PyProof.Rows L2 Evl
/-- a list that was made at run time -/
def lv (K : PySem.W.Frag) (ds : List PyData) : PV := ⟨fun H v => ∃ a xs, v = .ref a ∧ H a = some (.lst xs) ∧ DpAll K H xs ds, fun e h => by
  obtain ⟨a, xs, h1, h2, h3⟩ := h
  exact ⟨a, xs, h1, e _ _ h2, dpAll_mono e h3⟩⟩
theorem lv_dv {K : PySem.W.Frag} {ds : List PyData} : ∀ (H : Hp) (v : V), (lv K ds).p H v → (dv K (.list ds)).p H v := fun H v h => by
  obtain ⟨a, xs, rfl, h2, h3⟩ := h
  exact .lst (sq_of h2) h3
section
variable {K : PySem.W.Frag} {M : EC → Addr} {W : WX} {ps : Kn} {ta tb te : TE} {tr : TA}
theorem je_lvd [LT] {ds : List PyData} (h : JV K M W te ps (lv K ds)) : JD K M W te ps (.list ds) := je_weak h lv_dv
theorem je_lstV [LT] {ds : List PyData} (h : JA K M W tr ps (ds.map (dv K))) (hl : ds.length ≤ 100000 := by first | decide | omega | (simp; done)) : JV K M W (tLst tr) ps (lv K ds) := fun σ F H Q fh S k =>
  h σ F H _ fh S fun vs F1 H1 e1 a => ⟨sz_of (by rw [dpLength a.dv]; exact hl), fun p hp => k _ _ _ (e1.trans (Gr.new e1.fh hp)) ⟨p, vs, rfl, upd_same, dpAll_mono (Gr.new (o := .lst vs) e1.fh hp).ff a.dv⟩⟩
theorem je_catV [LT] {ds es : List PyData} (ha : JV K M W ta ps (lv K ds)) (hb : JV K M W tb ps (lv K es)) (hl : ds.length + es.length ≤ 100000) : JV K M W (tOp rCat ta tb) ps (lv K (ds ++ es)) := je_op ha hb fun x y F H fh p q Q k => by
  obtain ⟨a, xs, rfl, hx, hd⟩ := p
  obtain ⟨b, ys, rfl, hy, he⟩ := q
  exact ⟨a, b, xs, ys, rfl, rfl, fh _ _ hx, fh _ _ hy, sz_of (by rw [dpLength hd, dpLength he]; exact hl), fun p hp => k _ _ _ (Gr.new fh hp) ⟨p, _, rfl, upd_same, dpApp (dpAll_mono (Gr.new (o := .lst (xs ++ ys)) fh hp).ff hd) (dpAll_mono (Gr.new (o := .lst (xs ++ ys)) fh hp).ff he)⟩⟩
/-- a list of one's own is told as data from here on -/
theorem jl_tell [LT] {D : Addr} {F1 H1 : Hp} {tu : TS} {i : Nat} {ds : List PyData} {d : PyData} (hi : ps[i]? = some (some (xv (.ref D)))) (hD : H1 D = none) (h : JS K M W tu (ps.set i (some (lv K ds))) (.rt (dv K d))) : JL K M W D F1 H1 tu ps ds (.rt d) := fun Dn σ F H A S k => by
  obtain ⟨acc, h0, hd⟩ := A.at_
  have fo : Ex F (upd F D (.lst acc)) := Ex.new A.off
  have g3 := gr_in A.gr hD A.off h0
  have S2 : Sl (upd F D (.lst acc)) σ (ps.set i (some (lv K ds))) := by
    refine ⟨by rw [List.length_set]; exact S.1, fun b P hb => ?_⟩
    by_cases z : b = i
    · subst z
      have hl : b < ps.length := (List.getElem?_eq_some_iff.mp hi).1
      rw [List.getElem?_set_self hl] at hb
      cases hb
      exact ⟨_, sl_at S hi, D, acc, rfl, upd_same, dpAll_mono fo hd⟩
    · rw [List.getElem?_set_ne (fun y => z y.symm)] at hb
      exact (S.mono fo).2 b P hb
  exact h Dn σ _ H g3.fh S2 fun v F' H' g p => k v F' H' (g3.trans g) p
end
end EB
/-! EB11: len by an own __len__, lists that a call has made anew (told by nobody yet), lists times n, turned lists, sums, counts, isinstance of lists. -/
namespace EB
open PySem PySem.Spec PyProof.Rows L2 Evl
section
variable {X : Cx} {CX : CXT} {n : Nat} {C f : Addr} {fd : FuncData} {ps : List Str} {sp : Sp} {E : XK}
/-- the callee runs somewhere below -/
theorem own_run {A1 : Around} {pins : List (Addr × Obj)} {σ : L2.St} {H : Hp} {s : Shared} {Q : VK} {us : List Value} {vs : List V} (sb : Sub X n A1) (F : FnOk X.prog X.w X.K X.mg X.base CX n f fd ps sp) (hb : Binds X.K fd ps []) (hx : Passes CX X E)
    (I : Inv X pins σ H s) (r : Vals vs us) (h : sp vs H Q E) : wpAny (model X.prog X.w) A1 (call (.ref f) us) (EP X pins σ Q) X.xe s := by
  have e0 : Env0 X.prog X.w X.K X.mg X.base A1 X.stack s H := by
    have e := I.env0
    exact ⟨by rw [sb.fr]; exact e.frames, e.mod, e.bs, e.bsz, e.funs, e.frf, e.hok, e.bare⟩
  have hl : us.length = ps.length := by rw [← r.length]; exact F.len _ _ _ _ h
  have b := hb s us I.kIn (by rw [List.append_nil]; exact hl)
  rw [List.append_nil] at b
  refine wpAny_call (codeAny_mono (F.run A1 X.stack s H ⟨us, []⟩ us vs Q E sb.room e0 b r h) fun r s' hq => ?_)
  cases r with
  | error e => exact hx pins σ H s e s' I hq
  | ok fl =>
    cases fl with
    | ret u => exact I.after hq
    | next => exact False.elim hq
    | brk => exact False.elim hq
    | cont => exact False.elim hq
theorem passF : Passes (L2N.CX X.prog X.w) X (fun _ _ _ => False) := fun pins σ H s e s' I c => by
  obtain ⟨_, _, _, _, _, _, _, _, _, _, _, _, h⟩ := c
  exact h.elim
/-- len(o), o an instance of C with an own __len__ -/
def rLenO (C : Addr) (sp : Sp) (E : XK) : List V → Hp → VK → Prop := fun xs H Q => ∃ a dx fs, xs = [V.ref a] ∧ H a = some (.ins C dx fs) ∧ sp [.ref a] H (fun v H' => ∃ i : Int, v = .int i ∧ 0 ≤ i ∧ i < 2 ^ 63 ∧ Q (.int i) H') E
theorem call_lenOwn (F : FnOk X.prog X.w X.K X.mg X.base CX n f fd ps sp) (hr : Room (n + 1) X.A) (hs : PySem.W.findIn X.K (.ref C) "__len__" = some (some (.ref f))) (hf : PySem.W.isFn X.K (.ref f) = true) (hb : Binds X.K fd ps []) (hx : Passes CX X E) : CallR X (.builtin "len") (rLenO C sp E) := by
  intro pins s σ H xs us Q I r h
  obtain ⟨a, dx, fs, rfl, ha, hsp⟩ := h
  obtain ⟨u, rfl, rx⟩ := vals1 r
  cases rx
  obtain ⟨mA, J, _⟩ := ins_get I.hok ha
  obtain ⟨od, J, _⟩ := J.look
  obtain ⟨m, hF⟩ := I.fr
  refine PySem.W.len_K hF I.ok.mod.kin J hs hf (thn (own_run (A1 := X.A.in1) (Sub.in1 ⟨hr, rfl⟩) F hb hx I (show Vals [V.ref a] [Value.ref a] from .cons rfl .nil) hsp) fun v s' hv => ?_)
  obtain ⟨y, H', I', ry, i, rfl, h0, h1, q⟩ := hv
  obtain ⟨t, rfl⟩ := ry
  exact ⟨⟨h0, h1⟩, .int i, H', I'.tok _, ⟨_, rfl⟩, q⟩
end
section
variable {K : PySem.W.Frag} {M : EC → Addr} {W : WX} {ps qs : Kn} {te ta tb : TE} {tr : TA} {t : TT} {ts tu : TS} {r : Res} {vs : List Nat}
theorem je_lenO [LT] {α : Type} {args : α → List PV} {dom : α → Prop} {out : α → Out} {C : Addr} {f : Str} {d : PyData} {i : Int} (a : α) (h : JV K M W te ps (ob1 K C f d)) (ea : args a = [ob1 K C f d]) (hd : dom a) (ho : out a = .ok (dv K (.int i))) (h0 : 0 ≤ i) (h1 : i < 2 ^ 63) :
    JD K M W (tCB (rLenO C (Prm K M args dom out) fun _ _ _ => False) (tCons te tNil)) ps (.int i) := je_cb (ja_cons h ja_nil) fun vs F H fh b Q k => by
  obtain ⟨v, rfl, p⟩ := allP1 b
  obtain ⟨o, dx, u, rfl, h2, h3⟩ := id p
  refine ⟨o, dx, _, rfl, fh _ _ h2, a, F, fh, by rw [ea]; exact .cons p .nil, hd, ?_⟩
  rw [ho]
  intro v F' H' g p2
  exact ⟨i, dp_int p2, h0, h1, k _ F' H' g (.int i)⟩
/-! ### lists made anew -/
/-- a list that was just made: nobody else has it -/
def JN [LT] (K : PySem.W.Frag) (te : TE) (ps : Kn) (ds : List PyData) : Prop := ∀ σ F H Q, Fx F H → Sl F σ ps → (∀ D F' H', Acc K D F H F' H' ds → H D = none → Q (.ref D) H') → te σ H Q
theorem Acc.pre [LT] {D : Addr} {F0 H0 F1 H1 F H : Hp} {ds : List PyData} (g : Gr F0 H0 F1 H1) (a : Acc K D F1 H1 F H ds) : Acc K D F0 H0 F H ds := ⟨g.trans a.gr, a.off, a.at_⟩
theorem jn_told [LT] (h : JN K te ps ds) : JD K M W te ps (.list ds) := fun σ F H Q fh S k => h σ F H Q fh S fun D F' H' A hD => by
  obtain ⟨F3, g3, d3, _⟩ := A.done hD
  exact k _ F3 H' g3 d3
/-- [e for x in ds if b], made anew -/
theorem jn_lc [LT] {α : Type} {wi : TI} {g : TG} (xs : List α) (enc : α → PyData) (b : α → Bool) (e : α → PyData) {W' : WX} (hi : JI K M W wi ps (xs.map enc)) (hlen : xs.length ≤ 90000)
    (hs : ∀ x ∈ xs, ∃ qs, JG vs g (wipeK ps vs) (dv K (enc x)) qs ∧ JT K M W' t qs (b x) ∧ (b x = true → JD K M W' te qs (e x))) : JN K (tLc wi g t te vs) ps ((xs.filter b).map e) := fun σ F H Q fh S k => hi σ F H _ fh S fun J F1 H1 e1 it D hD => by
  refine ⟨fun i n H' => n = xs.length - i ∧ i ≤ xs.length ∧ ∃ F', Acc K D F1 H1 F' H' (((xs.take i).filter b).map e), ⟨xs.length, by omega, Nat.zero_le _, F1, Acc.start e1.fh hD⟩, ?_⟩
  rintro i n H' ⟨rfl, him, F2, A⟩
  have accLen : (((xs.take i).filter b).map e).length ≤ i := by
    rw [List.length_map]
    have := List.length_filter_le b (xs.take i)
    rw [List.length_take] at this
    omega
  by_cases hlt : i < xs.length
  · have hx : xs[i]? = some xs[i] := List.getElem?_eq_getElem hlt
    have hmem : xs[i] ∈ xs := List.getElem_mem hlt
    have hex : (xs.map enc)[i]? = some (enc xs[i]) := by rw [List.getElem?_map, hx] <;> rfl
    refine .inr ⟨it.go i H' (Ex.fx A.gr.ff A.gr.fh) (by rw [List.length_map]; exact hlt), fun H3 => ∃ F3, Acc K D F1 H1 F3 H3 (((xs.take (i + 1)).filter b).map e), fun H3 q => ⟨xs.length - (i + 1), by omega, rfl, hlt, q⟩, fun x H3 y => ?_⟩
    obtain ⟨F3, e3, dx⟩ := it.yld i _ F2 H' x H3 A.gr.ff A.gr.fh hex y
    have A3 := A.step e3
    obtain ⟨qs, hg, ht, he⟩ := hs xs[i] hmem
    refine hg x (wipe σ vs) F3 H3 _ e3.fh ((S.mono (e1.ff.trans A3.gr.ff)).wipe vs) dx fun σ4 F4 H4 e4 S4 u4 => ⟨wipe_upto (upto_wipe.trans u4), ht σ4 F4 H4 _ e4.fh S4 fun F5 H5 e5 => ?_⟩
    have A5 := (A3.step e4).step e5
    have ff := filter_take_succ (b := b) hx
    cases hb : b xs[i] with
    | true =>
      rw [hb] at ff
      show te σ4 H5 _
      refine (he hb).go e5.fh (S4.mono e5.ff) fun v F6 H6 e6 p => ?_
      have A6 := A5.step e6
      obtain ⟨acc, h6, _⟩ := A6.at_
      refine ⟨acc, h6, sz_lt (by rw [A6.len h6]; omega), F6, ?_⟩
      rw [ff, List.map_append]
      exact A6.app hD h6 p
    | false =>
      rw [hb] at ff
      show ∃ F3, Acc K D F1 H1 F3 H5 _
      rw [ff]
      simp only [Bool.false_eq_true, if_false, List.append_nil]
      exact ⟨F5, A5⟩
  · have hem : i = xs.length := by omega
    subst hem
    rw [List.take_length] at A
    exact .inl ⟨it.stop _ H' (Ex.fx A.gr.ff A.gr.fh) (by rw [List.length_map]; exact Nat.le_refl _), k D F2 H' (A.pre e1) (Xh.nn e1.hh _ hD)⟩
/-- xs = e, a list of one's own from here on -/
theorem jl_own [LT] {i : Nat} {ds : List PyData} {d : PyData} (he : JN K te ps ds) (h : ∀ D F1 H1, H1 D = none → JL K M W D F1 H1 tu (ps.set i (some (xv (.ref D)))) ds (.rt d)) : JS K M W (tSeq (tAsg te (gName i)) tu) ps (.rt (dv K d)) := fun Dn σ F H fh S k =>
  he σ F H _ fh S fun D F1 H1 A hD => h D F H hD Dn _ F1 H1 A ((S.mono A.gr.ff).set i rfl) fun v F' H' g p => k v F' H' g p
/-- .. told as data in between: reads of a list of one's own -/
theorem acc_told [LT] {D : Addr} {F1 H1 F H : Hp} {i : Nat} {σ : L2.St} {ds : List PyData} (A : Acc K D F1 H1 F H ds) (S : Sl F σ ps) (hi : ps[i]? = some (some (xv (.ref D)))) : ∃ F0, Ex F F0 ∧ Fx F0 H ∧ Sl F0 σ (ps.set i (some (dv K (.list ds)))) ∧ ∀ a, a ≠ D → F0 a = F a := by
  obtain ⟨acc0, h0, hd0⟩ := A.at_
  have fo : Ex F (upd F D (.lst acc0)) := Ex.new A.off
  refine ⟨upd F D (.lst acc0), fo, Fx.tell A.gr.fh (fun b o q => ?_), ⟨by rw [List.length_set]; exact S.1, fun b P hb => ?_⟩, fun a ha => upd_ne ha⟩
  · by_cases z : b = D
    · subst z
      rw [upd_same] at q
      cases q
      exact h0
    · rw [upd_ne z] at q
      exact A.gr.fh b o q
  · by_cases z : b = i
    · subst z
      have hl : b < ps.length := (List.getElem?_eq_some_iff.mp hi).1
      rw [List.getElem?_set_self hl] at hb
      cases hb
      exact ⟨_, sl_at S hi, .lst (sq_of upd_same) (dpAll_mono fo hd0)⟩
    · rw [List.getElem?_set_ne (fun y => z y.symm)] at hb
      exact (S.mono fo).2 b P hb
/-- a test that reads the list -/
theorem jl_ifR [LT] {D : Addr} {F1 H1 : Hp} {i : Nat} {ds : List PyData} {R : LR} {b : Bool} (hi : ps[i]? = some (some (xv (.ref D)))) (h : JT K M W t (ps.set i (some (dv K (.list ds)))) b) (h1 : b = true → JL K M W D F1 H1 ts ps ds R) (h2 : b = false → JL K M W D F1 H1 tu ps ds R) : JL K M W D F1 H1 (tIfS t ts tu) ps ds R := fun Dn σ F H A S k => by
  obtain ⟨F0, x0, x1, S0, _⟩ := acc_told A S hi
  refine h σ F0 H _ x1 S0 fun F' H' g => ?_
  have A' : Acc K D F1 H1 F H' ds := by
    obtain ⟨acc, hh, hd⟩ := A.at_
    exact ⟨⟨A.gr.ff, A.gr.hh.trans g.hh, A.gr.fh.trans g.hh, A.gr.nw⟩, A.off, acc, g.hh.fn _ _ hh, hd⟩
  cases b with
  | true => exact h1 rfl Dn σ F H' A' S k
  | false => exact h2 rfl Dn σ F H' A' S k
theorem jl_copyT [LT] {D : Addr} {F1 H1 : Hp} {i j : Nat} {ds : List PyData} (hi : ps[i]? = some (some (xv (.ref D)))) : JL K M W D F1 H1 (tAsg (tCB (rTupS K) (tCons (tVar i) tNil)) (gName j)) ps ds (.nx (ps.set j (some (dv K (.tuple ds)))) ds) := fun Dn σ F H A S k => by
  obtain ⟨acc, h0, hd⟩ := A.at_
  refine ⟨.ref D, sl_at S hi, D, acc, rfl, .inl ⟨sq_of h0, fun l hl => ?_⟩⟩
  have g := Gr.new (o := .tup acc) A.gr.fh hl
  exact k _ _ _ (A.step g) g.ff ((S.mono g.ff).set j (.tup (st_of upd_same) (dpAll_mono g.ff hd)))
theorem jl_rt [LT] {D : Addr} {F1 H1 : Hp} {ds : List PyData} {d : PyData} (h : JD K M W te ps d) : JL K M W D F1 H1 (tRet te) ps ds (.rt d) := fun Dn σ F H A S k => h.go A.gr.fh S fun v F' H' g p => k v F' H' (A.gr.trans g) p
/-! ### more of lists -/
theorem je_isL [LT] {ds : List PyData} {T : String} {b : Bool} (h : JD K M W te ps (.list ds)) (hT : kitB "list" T = some b) : JD K M W (tCB (rIsi K) (tCons te (tCons (tC (.ty T)) tNil))) ps (.bool b) := je_cb (ja_cons h (ja_cons je_x ja_nil)) fun vs F H fh a Q k => by
  obtain ⟨v, u, rfl, p, q⟩ := allP2 a
  obtain ⟨o, xs, rfl, hs, hd⟩ := dp_lst p
  rw [show u = V.ty T from q]
  have ty : TyX K H (.ref o) (.type "list") := by
    rcases ex_l fh.ex hs with (z | ⟨ob, z⟩) | ⟨ob, its, n, z, c, _⟩
    · exact .base (.lst z)
    · exact .base (.frz z)
    · exact .kList z c
  exact ⟨.ref o, .ty T, .type "list", .type T, b, rfl, .ty T, ty, kit_ty hT, k _ F H (Gr.refl fh) (.bl b)⟩
theorem dpRev {F : Hp} : ∀ {us : List V} {ds : List PyData}, DpAll K F us ds → DpAll K F us.reverse ds.reverse
  | _, _, .nil => .nil
  | _, _, .cons h t => by
    rw [List.reverse_cons, List.reverse_cons]
    exact dpApp (dpRev t) (.cons h .nil)
/-- xs[:k] of a list or of a tuple -/
def rSlQ (K : PySem.W.Frag) : V → Option Int → Option Int → Hp → VK → Prop := fun x lo hi H Q => rSlL K x lo hi H Q ∨ rSlA K x lo hi H Q
theorem je_slQL [LT] {ds : List PyData} {tl th : TO} {lo hi : Option Int} (h : JD K M W te ps (.list ds)) (h1 : JO K M W tl ps lo) (h2 : JO K M W th ps hi) : JD K M W (tSl (rSlQ K) te tl th) ps (.list (cutD ds lo hi)) := fun σ F H Q fh S k =>
  h.go fh S fun v F1 H1 e p => h1 σ F1 H1 _ e.fh (S.mono e.ff) fun F2 H2 e2 => h2 σ F2 H2 _ e2.fh ((S.mono e.ff).mono e2.ff) fun F3 H3 e3 => by
    obtain ⟨a, xs, rfl, hs, hd⟩ := dp_lst (dp_mono (e2.ff.trans e3.ff) p)
    exact .inl ⟨a, xs, rfl, ex_l e3.fh.ex hs, fun p hp => k _ _ _ (((e.trans e2).trans e3).trans (Gr.new e3.fh hp)) (.lst (sq_of upd_same) (dpAll_mono (Gr.new (o := .lst (cutV xs lo hi)) e3.fh hp).ff (cut_all hd lo hi)))⟩
theorem cut_whole {ds : List PyData} {lo hi : Option Int} (h : HT.sIx ds.length 0 lo = 0 ∧ HT.sIx ds.length ds.length hi = ds.length) : cutD ds lo hi = ds := by
  unfold cutD
  rw [h.1, h.2, List.drop_zero, Nat.sub_zero, List.take_length]
theorem je_slQT [LT] {ds : List PyData} {tl th : TO} {lo hi : Option Int} (h : JD K M W te ps (.tuple ds)) (h1 : JO K M W tl ps lo) (h2 : JO K M W th ps hi) : JD K M W (tSl (rSlQ K) te tl th) ps (.tuple (cutD ds lo hi)) := fun σ F H Q fh S k =>
  h.go fh S fun v F1 H1 e p => h1 σ F1 H1 _ e.fh (S.mono e.ff) fun F2 H2 e2 => h2 σ F2 H2 _ e2.fh ((S.mono e.ff).mono e2.ff) fun F3 H3 e3 => by
    have p3 := dp_mono (e2.ff.trans e3.ff) p
    obtain ⟨a, xs, rfl, hs, hd⟩ := dp_tup p3
    refine .inr ⟨a, xs, rfl, ex_t e3.fh.ex hs, fun w => k _ _ _ ((e.trans e2).trans e3) ?_, fun _ p hp => k _ _ _ (((e.trans e2).trans e3).trans (Gr.new e3.fh hp)) (.tup (st_of upd_same) (dpAll_mono (Gr.new (o := .tup (cutV xs lo hi)) e3.fh hp).ff (cut_all hd lo hi)))⟩
    rw [dpLength hd] at w
    rw [cut_whole w]
    exact p3
/-- enumerate of a list or of a tuple -/
def iEnumQ (K : PySem.W.Frag) (ta : TA) : TI := fun σ H R => iEnum K ta σ H R ∨ iEnumT K ta σ H R
theorem pi_enumQ {X : Cx} {e : Expr} {ta : TA} {p pos tpos : Pos} {elts : List Expr} {kk : Nat} (hg : Gl X "enumerate") (hm : X.mg "enumerate" = none) (ha : PA X [e] ta) (hs : starEach [e] X.env = [(false, eval e X.env)] := by rfl) :
    PI X (.Tuple elts kk tpos) (.Call (.Name "enumerate" p) [e] [] pos) (iEnumQ X.K ta) :=
  ⟨fun pins s σ H R I h => h.elim (fun h => (pi_enum hg hm ha hs).run pins s σ H R I h) fun h => (pi_enumT hg hm ha hs).run pins s σ H R I h⟩
end
end EB
/-! EB12: several lists of one's own at once, lists of such lists; each told as data at the end. -/
namespace EB
open PySem PySem.Spec PyProof.Rows L2 Evl
/-- the lists of one's own: where each lies, and what is known of each item -/
abbrev Ow := List (Addr × List PV)
structure AccM [LT] (Os : Ow) (F1 H1 F H : Hp) : Prop where
  gr : Gr F1 H1 F H
  nd : (Os.map (·.1)).Nodup
  fr : ∀ p ∈ Os, H1 p.1 = none
  off : ∀ p ∈ Os, F p.1 = none
  at_ : ∀ p ∈ Os, ∃ acc, H p.1 = some (.lst acc) ∧ AllP F acc p.2
theorem AccM.start [LT] {F H : Hp} (fh : Fx F H) : AccM [] F H F H := ⟨Gr.refl fh, List.nodup_nil, fun p h => by simp at h, fun p h => by simp at h, fun p h => by simp at h⟩
theorem AccM.step [LT] {Os : Ow} {F1 H1 F H F2 H2 : Hp} (a : AccM Os F1 H1 F H) (g : Gr F H F2 H2) : AccM Os F1 H1 F2 H2 := ⟨a.gr.trans g, a.nd, a.fr, fun p h => by
    obtain ⟨acc, e, _⟩ := a.at_ p h
    exact g.nw p.1 (by rw [e]; exact fun z => nomatch z) (a.off p h), fun p h => by
    obtain ⟨acc, e, d⟩ := a.at_ p h
    exact ⟨acc, g.hh.fn _ _ e, d.mono g.ff⟩⟩
theorem AccM.new [LT] {Os : Ow} {F1 H1 F H : Hp} {D : Addr} {acc : List V} {items : List PV} (a : AccM Os F1 H1 F H) (hD : H D = none) (h : AllP F acc items) : AccM ((D, items) :: Os) F1 H1 F (upd H D (.lst acc)) := by
  have f1 : H1 D = none := Xh.nn a.gr.hh _ hD
  have f2 : F D = none := fresh_back a.gr.fh hD
  have ne : ∀ p ∈ Os, p.1 ≠ D := fun p hp z => by
    obtain ⟨acc, e, _⟩ := a.at_ p hp
    rw [z, hD] at e
    cases e
  refine ⟨gr_mut a.gr f1 f2, List.nodup_cons.mpr ⟨fun z => ?_, a.nd⟩, fun p hp => ?_, fun p hp => ?_, fun p hp => ?_⟩
  · obtain ⟨p, hp, e⟩ := List.mem_map.mp z
    exact ne p hp e
  · rcases List.mem_cons.mp hp with rfl | z
    · exact f1
    · exact a.fr p z
  · rcases List.mem_cons.mp hp with rfl | z
    · exact f2
    · exact a.off p z
  · rcases List.mem_cons.mp hp with rfl | z
    · exact ⟨acc, upd_same, h⟩
    · obtain ⟨c, e, d⟩ := a.at_ p z
      exact ⟨c, by rw [upd_ne (ne p z)]; exact e, d⟩
theorem AccM.set [LT] {Os : Ow} {F1 H1 F H : Hp} {i : Nat} {D : Addr} {items items' : List PV} {acc : List V} (a : AccM Os F1 H1 F H) (hi : Os[i]? = some (D, items)) (h : AllP F acc items') : AccM (Os.set i (D, items')) F1 H1 F (upd H D (.lst acc)) := by
  have hl : i < Os.length := (List.getElem?_eq_some_iff.mp hi).1
  have hm : (D, items) ∈ Os := List.mem_of_getElem? hi
  have e1 : (Os.set i (D, items')).map (·.1) = Os.map (·.1) := by
    rw [List.map_set]
    apply List.ext_getElem?
    intro j
    by_cases z : i = j
    · subst z
      rw [List.getElem?_set_self (by rw [List.length_map]; exact hl), List.getElem?_map, hi]
      rfl
    · rw [List.getElem?_set_ne z]
  have cases_ : ∀ p ∈ Os.set i (D, items'), p = (D, items') ∨ (p ∈ Os ∧ p.1 ≠ D) := fun p hp => by
    obtain ⟨j, hj, e⟩ := List.getElem_of_mem hp
    rw [List.length_set] at hj
    by_cases z : i = j
    · subst z
      rw [List.getElem_set_self] at e
      exact .inl e.symm
    · rw [List.getElem_set_ne z] at e
      refine .inr ⟨e ▸ List.getElem_mem hj, fun y => ?_⟩
      have nd := List.pairwise_iff_getElem.mp (List.nodup_iff_pairwise_ne.mp a.nd)
      have ei : Os[i] = (D, items) := by
        have := hi
        rw [List.getElem?_eq_getElem hl] at this
        exact Option.some.inj this
      have q1 : (Os.map (·.1))[i]'(by rw [List.length_map]; exact hl) = D := by rw [List.getElem_map, ei]
      have q2 : (Os.map (·.1))[j]'(by rw [List.length_map]; exact hj) = D := by rw [List.getElem_map, e, y]
      rcases Nat.lt_or_gt_of_ne z with w | w
      · exact nd i j _ _ w (q1.trans q2.symm)
      · exact nd j i _ _ w (q2.trans q1.symm)
  refine ⟨gr_mut a.gr (a.fr _ hm) (a.off _ hm) (by obtain ⟨acc0, e0, _⟩ := a.at_ _ hm; exact NT.lst e0), by rw [e1]; exact a.nd, fun p hp => ?_, fun p hp => ?_, fun p hp => ?_⟩
  · rcases cases_ p hp with rfl | ⟨z, _⟩
    · exact a.fr (D, items) hm
    · exact a.fr p z
  · rcases cases_ p hp with rfl | ⟨z, _⟩
    · exact a.off (D, items) hm
    · exact a.off p z
  · rcases cases_ p hp with rfl | ⟨z, ne⟩
    · exact ⟨acc, upd_same, h⟩
    · obtain ⟨c, e, d⟩ := a.at_ p z
      exact ⟨c, by rw [upd_ne ne]; exact e, d⟩
inductive MR
  | nx (qs : Kn) (Os : Ow)
  | rt (d : PyData)
def MW [LT] (K : PySem.W.Frag) (F1 H1 : Hp) (Dn : Ends) (F : Hp) : MR → Prop
  | .nx qs Os => ∀ σ' F' H', AccM Os F1 H1 F' H' → Ex F F' → Sl F' σ' qs → Dn.nx σ' H'
  | .rt d => ∀ v F' H', Gr F1 H1 F' H' → Dp K F' v d → Dn.rt v H'
theorem MW.step [LT] {K : PySem.W.Frag} {F1 H1 : Hp} {Dn : Ends} {F F' : Hp} {R : MR} (e : Ex F F') (k : MW K F1 H1 Dn F R) : MW K F1 H1 Dn F' R := by
  cases R with
  | nx qs Os => exact fun σ2 F2 H2 A2 e2 S2 => k σ2 F2 H2 A2 (e.trans e2) S2
  | rt d => exact k
end EB
/-! EB13: comb, shifts and masks, lists unpacked, not in, chains of ==. -/
namespace EB
open PySem PySem.Spec PyProof.Rows L2 Evl PySem.W
end EB
/-! EB14: lists whose items are known one by one, lists of new lists, sorted pairs. -/
namespace EB
open PySem PySem.Spec PyProof.Rows L2 Evl
def lp (Ps : List PV) : PV := ⟨fun H v => ∃ a xs, v = .ref a ∧ H a = some (.lst xs) ∧ AllP H xs Ps, fun e h => by
  obtain ⟨a, xs, h1, h2, h3⟩ := h
  exact ⟨a, xs, h1, e _ _ h2, h3.mono e⟩⟩
section
variable {K : PySem.W.Frag} {M : EC → Addr} {W : WX} {F1 H1 : Hp} {ps qs : Kn} {ts tu : TS} {te ta tb : TE} {t : TT} {tr : TA} {Os Os' : Ow} {R : MR} {D : Addr} {vs : List Nat}
/-! ### walks over such lists -/
/-! ### sorted pairs -/
def lexLt (p q : Int × Int) : Prop := p.1 < q.1 ∨ (p.1 = q.1 ∧ p.2 < q.2)
/-! ### a list of new lists -/
/-- got.reverse() of a list of one's own -/
theorem jl_rev [LT] {i : Nat} {ds : List PyData} (hi : ps[i]? = some (some (xv (.ref D)))) (hD : H1 D = none) : JL K M W D F1 H1 (tDrop (tBM0 K "list" rReverse (tVar i))) ps ds (.nx ps ds.reverse) := fun Dn σ F H A S k => by
  obtain ⟨acc, h0, hd⟩ := A.at_
  exact ⟨.ref D, sl_at S hi, .inl ⟨rfl, acc, sq_of h0⟩, D, acc, rfl, rfl, h0, k σ F _ ⟨gr_mut A.gr hD A.off, A.off, _, upd_same, dpRev hd⟩ (Ex.refl _) S⟩
/-- list(range(n)) -/
theorem je_listRg1 [LT] {n : Int} (h : JD K M W te ps (.int n)) (ok : RgOk 0 n) : JV K M W (tLstRg (tRg1 te)) ps (lv K ((rg 0 n.toNat).map .int)) := fun σ F H Q fh S k => h.go fh S fun x F1 H1 e1 p => ⟨n, dp_int p, ok, fun l hl => k _ _ _ (e1.trans (Gr.new e1.fh hl)) ⟨l, _, rfl, upd_same, by
  have := rg_all (K := K) (F := upd F1 l (.lst (rgV 0 n))) 0 n
  rw [Int.sub_zero] at this
  exact this⟩⟩
end
end EB
/-! EB16: defs that end with a list just made, or with an error; own lists told to other names. -/
namespace EB
open PySem PySem.Spec PyProof.Rows L2 Evl
def QW [LT] (K : PySem.W.Frag) (M : EC → Addr) (W : WX) (n : Nat) (F H : Hp) (rt : VK) : Except Er (List PyData) → Prop
  | .ok ds => ∀ D F' H', Acc K D F H F' H' ds → H D = none → rt (.ref D) H'
  | .error e => ∀ dd σ' F' H', Gr F H F' H' → XD K H F' H' e dd → σ'.length = n → W (.ref (M e.c)) dd σ' H'
theorem QW.step [LT] {K : PySem.W.Frag} {M : EC → Addr} {W : WX} {n : Nat} {F H F1 H1 : Hp} {rt : VK} {o : Except Er (List PyData)} (g : Gr F H F1 H1) (h : QW K M W n F H rt o) : QW K M W n F1 H1 rt o := by
  cases o with
  | ok ds => exact fun D F' H' A hD => h D F' H' (A.pre g) (Xh.nn g.hh _ hD)
  | error e => exact fun dd σ' F' H' e2 y l => h dd σ' F' H' (g.trans e2) (y.back g.hh) l
def JSN [LT] (K : PySem.W.Frag) (M : EC → Addr) (W : WX) (ts : TS) (ps : Kn) (o : Except Er (List PyData)) : Prop := ∀ Dn σ F H, Fx F H → Sl F σ ps → QW K M W ps.length F H Dn.rt o → ts Dn σ H
section
variable {K : PySem.W.Frag} {M : EC → Addr} {W : WX} {ps qs rs : Kn} {ts tu tv : TS} {ta tb te : TE} {tr : TA} {t : TT} {ds es : List PyData} {o : Except Er (List PyData)} {e : Er}
theorem jsn_ret [LT] (h : JN K te ps ds) : JSN K M W (tRet te) ps (.ok ds) := fun Dn σ F H fh S k => h σ F H _ fh S k
theorem jsn_seq [LT] (h1 : JS K M W ts ps (.nx qs)) (h2 : JSN K M W tu qs o) (hq : qs.length = ps.length := by first | rfl | (simp; done)) : JSN K M W (tSeq ts tu) ps o := fun Dn σ F H fh S k =>
  h1 { Dn with nx := tu Dn } σ F H fh S fun σ' F' H' g s => h2 Dn σ' F' H' g.fh s (by rw [hq]; exact QW.step g k)
theorem jsn_er [LT] (h : JS K M W ts ps (.er e)) : JSN K M W ts ps (.error e) := fun Dn σ F H fh S k => h Dn σ F H fh S k
theorem jsn_erS [LT] (h : JS K M W ts ps (.er e)) : JSN K M W (tSeq ts tu) ps (.error e) := jsn_er (js_er h)
theorem jn_lst [LT] (h : JA K M W tr ps (ds.map (dv K))) (hl : ds.length ≤ 100000 := by first | decide | omega | (simp; done)) : JN K (tLst tr) ps ds := fun σ F H Q fh S k =>
  h σ F H _ fh S fun vs F1 H1 e1 a => ⟨sz_of (by rw [dpLength a.dv]; exact hl), fun p hp => k p F1 _ ⟨gr_mut e1 (Xh.nn e1.hh _ hp) (fresh_back e1.fh hp), fresh_back e1.fh hp, vs, upd_same, a.dv⟩ (Xh.nn e1.hh _ hp)⟩
theorem jn_lv [LT] (h : JN K te ps ds) : JV K M W te ps (lv K ds) := fun σ F H Q fh S k => h σ F H Q fh S fun D F' H' A hD => by
  obtain ⟨acc, h0, hd⟩ := A.at_
  exact k _ _ H' (gr_in A.gr hD A.off h0) ⟨D, acc, rfl, upd_same, dpAll_mono (Ex.new A.off) hd⟩
/-! ### while a list of one's own is held -/
variable {D : Addr} {F1 H1 : Hp} {n : Nat}
/-! ### an own list that a statement of some form gives to a name -/
/-! ### a def's end -/
theorem fin_neO [LT] {N : List Str} {Ps : List PV} {us : List V} {F H : Hp} {Q : VK} {E : XK} (h : JSN K M (fun cls d _ H => E cls d H) ts (entry N Ps) (.ok ds)) (fh : Fx F H) (al : AllP F us Ps) (th : ∀ D F' H', Acc K D F H F' H' ds → H D = none → Q (.ref D) H') : ts { nx := fun _ H' => Q .non H', rt := Q } (start N us) H :=
  h _ _ F H fh (Sl.start al) th
theorem fin_neE [LT] {N : List Str} {Ps : List PV} {us : List V} {F H : Hp} {Q : VK} {E : XK} (h : JSN K M (fun cls d _ H => E cls d H) ts (entry N Ps) (.error e)) (fh : Fx F H) (al : AllP F us Ps) (th : ∀ dd F' H', Gr F H F' H' → XD K H F' H' e dd → E (.ref (M e.c)) dd H') : ts { nx := fun _ H' => Q .non H', rt := Q } (start N us) H :=
  h _ _ F H fh (Sl.start al) fun dd σ' F' H' g y _ => th dd F' H' g y
end
end EB
/-! EB17: generator defs that hand out a list by yield from, and list(g). -/
namespace EB
open PySem PySem.Spec PyProof.Rows L2 Evl GenW
/-! ### a generator def's promise -/
end EB
/-! EB18: a comprehension of two for's, as a plain list. -/
namespace EB
open PySem PySem.Spec PyProof.Rows L2 Evl
end EB
/-! EB19: defs that are only called where no repr is at work (the guards are known), repr of data, the row's end for such a law. -/
namespace EB
open PySem PySem.Spec PyProof.Rows L2 Evl
structure RoomG (k : Nat) (A : Around) : Prop where
  rm : Room k A
  gd : A.guards = some []
theorem RoomG.mono {j k : Nat} {A : Around} (h : RoomG k A) (q : j ≤ k) : RoomG j A := ⟨h.rm.mono q, h.gd⟩
end EB
/-! EB20: the end of a law's row for a law whose defs want the guards known. -/
namespace EB
open PySem PySem.Spec PyProof.Rows L2 Evl
end EB
/-! EB21: a dict comprehension with two for's. One lemma walks a clause, whichever of the two; it is used inside itself. -/
namespace EB
open PySem PySem.Spec PyProof.Rows L2 Evl
end EB
/-! EB22: dicts of ints as what is known of a value; while over a list of one's own; tuples of what is known; lists of one's own read on the way. -/
namespace EB
open PySem PySem.Spec PyProof.Rows L2 Evl
/-! ### a dict of ints -/
def ent (p : Int × Int) : Key × V := (.inl p.1, .int p.2)
def mp (es : List (Int × Int)) : PV := ⟨fun H v => ∃ a, v = .ref a ∧ H a = some (.dK (es.map ent)), fun e h => by
  obtain ⟨a, h1, h2⟩ := h
  exact ⟨a, h1, e _ _ h2⟩⟩
structure AccD [LT] (D : Addr) (F1 H1 F H : Hp) (es : List (Int × Int)) : Prop where
  gr : Gr F1 H1 F H
  off : F D = none
  at_ : H D = some (.dK (es.map ent))
theorem AccD.start [LT] {D : Addr} {F H : Hp} (fh : Fx F H) (hD : H D = none) : AccD D F H F (upd H D (.dK [])) [] := ⟨gr_mut (Gr.refl fh) hD (fresh_back fh hD), fresh_back fh hD, upd_same⟩
theorem AccD.step [LT] {D : Addr} {F1 H1 F H F2 H2 : Hp} {es : List (Int × Int)} (a : AccD D F1 H1 F H es) (g : Gr F H F2 H2) : AccD D F1 H1 F2 H2 es :=
  ⟨a.gr.trans g, g.nw D (by rw [a.at_]; exact fun z => nomatch z) a.off, g.hh.fn _ _ a.at_⟩
theorem AccD.done [LT] {D : Addr} {F1 H1 F H : Hp} {es : List (Int × Int)} (a : AccD D F1 H1 F H es) (h1 : H1 D = none) : ∃ F', Gr F1 H1 F' H ∧ (mp es).p F' (.ref D) :=
  ⟨upd F D (.dK (es.map ent)), gr_in a.gr h1 a.off a.at_, D, rfl, upd_same⟩
section
variable {K : PySem.W.Frag} {M : EC → Addr} {W : WX} {ps qs : Kn} {te ta tb td ty tk tv : TE} {t u : TT} {ts tu : TS} {tr : TA} {vs ws : List Nat} {r : Res}
/-! ### while -/
/-! ### tuples of what is known -/
/-! ### what does not lie in a list -/
/-! ### expressions while a list of one's own is held -/
variable {D : Addr} {F1 H1 : Hp} {ds es : List PyData} {P : PV} {Ps : List PV} {R : LR} {i j : Nat}
/-! ### sorted ints, made anew -/
theorem sortI_one : ∀ {xs ys : List Int}, xs.Perm ys → xs.Pairwise (· ≤ ·) → ys.Pairwise (· ≤ ·) → xs = ys := fun {xs ys} h h1 h2 => h.eq_of_pairwise (fun a b _ _ => Int.le_antisymm) h1 h2
theorem jn_sortI [LT] {ns ms : List Int} (h : JD K M W te ps (.list (ns.map .int))) (hp : ms.Perm ns) (hs : ms.Pairwise (· ≤ ·)) : JN K (tCB (rSortedI K) (tCons te tNil)) ps (ms.map .int) := fun σ F H Q fh S k => h.go fh S fun v F1 H1 e p => by
  obtain ⟨a, xs, rfl, hx, hd⟩ := dp_lst p
  have e2 := dpAll_ints_eq hd
  subst e2
  refine ⟨a, ns, rfl, ex_l e.fh.ex hx, fun ns' q h1 h2 hq => ?_⟩
  have : ns' = ms := sortI_one (h1.trans hp.symm) h2 hs
  subst this
  exact k q F1 _ ⟨gr_mut e (Xh.nn e.hh _ hq) (fresh_back e.fh hq), fresh_back e.fh hq, _, upd_same, dpAll_ints _⟩ (Xh.nn e.hh _ hq)
end
end EB
/-! EB23: try whose suite goes on with the slots as they were; several lists of one's own, made by calls, read by tests. -/
namespace EB
open PySem PySem.Spec PyProof.Rows L2 Evl
end EB
/-! EB24: data that is short enough for repr; texts that differ or not. -/
namespace EB
open PySem PySem.Spec PyProof.Rows L2 Evl
/-- small data: at most n deep, of weight w at most -/
structure Sm (d : PyData) (n w : Nat) : Prop where
  sh : PyData.showable d = true
  c : PyData.canLay0 d = true
  dp : PyData.depth d ≤ n
  wt : PyData.weight d ≤ w
  si : PyData.intsShort 13 d = true
theorem Sm.len {d : PyData} {n w : Nat} (h : Sm d n w) (hn : n ≤ 60) (hw : w ≤ 1000000) : d.shown.length ≤ sizeLine := by
  have hl : PyData.layable0 d = true := by
    unfold PyData.layable0
    rw [h.c, decide_eq_true (show PyData.depth d ≤ 64 by have := h.dp; omega), decide_eq_true (show PyData.weight d ≤ 2 ^ 20 by have := h.wt; omega)]
    rfl
  have := shown_le13 hl h.si
  have e : sizeLine = 16777216 := by decide
  omega
section
variable {K : PySem.W.Frag} {M : EC → Addr} {W : WX} {ps : Kn} {te ta tb : TE}
theorem je_neS [LT] {x y : Str} (ha : JD K M W ta ps (.str x)) (hb : JD K M W tb ps (.str y)) : JD K M W (tOp rNe ta tb) ps (.bool (!decide (x = y))) := je_op ha hb fun a b F H fh p q Q k => by
  rw [dp_str p, dp_str q]
  refine ⟨rfl, ?_⟩
  have e : decide (V.str x = V.str y) = decide (x = y) := by
    by_cases h : x = y
    · subst h; simp
    · simp [h]
  rw [e]
  exact k _ F H (Gr.refl fh) (.bl _)
end
end EB
/-! EB25: gcd of three, while over ints, list.index of an int, products of long ints. -/
namespace EB
open PySem PySem.Spec PyProof.Rows L2 Evl PySem.Calls
/-! ### gcd of three -/
end EB
/-! EB26: data with longer ints, short enough for repr; is None. -/
namespace EB
open PySem PySem.Spec PyProof.Rows L2 Evl
/-- data with ints of up to 19 digits -/
structure Sb (d : PyData) (n w : Nat) : Prop where
  sh : PyData.showable d = true
  c : PyData.canLay0 d = true
  dp : PyData.depth d ≤ n
  wt : PyData.weight d ≤ w
  si : PyData.intsShort 20 d = true
theorem Sb.len {d : PyData} {n w : Nat} (h : Sb d n w) (hw : w ≤ 100000) : d.shown.length ≤ sizeLine := by
  have h2 := PyData.shown_le 20 (by decide) d (PyData.leavesShort_of_canLay0 20 d h.c h.si)
  have e : sizeLine = 16777216 := by decide
  have := h.wt
  omega
end EB
/-! EB27: sorted of a list of data (ints, texts, tuples of such), repr of any data. -/
namespace EB
open PySem PySem.Spec PyProof.Rows L2 Evl PySem.W
def dLt (x y : PyData) : Bool := PyProof.Rows.lexLt itemOrd (keyToks x) (keyToks y)
theorem each_of {α β : Type} {R : α → β → Prop} : ∀ {as : List α} {bs : List β}, as.length = bs.length → (∀ (i : Nat) (a : α) (b : β), as[i]? = some a → bs[i]? = some b → R a b) → EachIs R as bs
  | [], [], _, _ => .nil
  | [], _ :: _, h, _ => by simp at h
  | _ :: _, [], h, _ => by simp at h
  | a :: as, b :: bs, h, f => .cons (f 0 a b rfl rfl) (each_of (by simpa using h) fun i x y hx hy => f (i + 1) x y (by simpa using hx) (by simpa using hy))
theorem each_vals : ∀ {us : List Value} {ys : List (V × PyData)}, EachIs (fun u (z : V × PyData) => RelV z.1 u) us ys → Vals (ys.map (·.1)) us
  | _, _, .nil => .nil
  | _, _, .cons h t => .cons h (each_vals t)
/-! ### a tuple sorted -/
section
variable {prog : Program} {w : World} {A : Around} {E : Value → Shared → Prop} {s : Shared}
theorem collect_tup {p : Addr} {us : List Value} {R : List Value → Shared → Prop} (ht : IsTup s.heap p us.toArray) (sz : us.length ≤ sizeLine) (k : R us { s with heap := (s.heap.push (seqObj "list" #[] 0)).update s.heap.objs.size (Obj.mapSeq (· ++ us.toArray)) }) : wpAny (model prog w) A (collect (.ref p)) R E s := by
  obtain ⟨ob, at_, cl, n, dt⟩ := id ht
  have new0 : (s.heap.push (seqObj "list" #[] 0)).get? s.heap.objs.size = some (seqObj "list" #[] 0) := Heap.get?_push_size _ rfl
  have at2 := Heap.get?_push_of_some (seqObj "list" #[] 0) at_
  unfold collect; refine wpAny_bind (wpAny_runValue (codeAny_builtin entry_proto_collect' ?_))
  refine (show wpAny _ _ (do again (.builtin "list.__iadd__" ⟨[← newList [], .ref p], []⟩)) _ _ s from wpAny_bind (wpAny_newList (wpAny_pure ⟨Code.quiet_builtin _ (by decide +kernel), codeAny_builtin entry_list_iadd' ?_⟩)))
  refine (show wpAny _ _ (Builtin.List.listExtendWith (.ref s.heap.objs.size) (.ref p) (.ref s.heap.objs.size)) _ _ { s with heap := s.heap.push (seqObj "list" #[] 0) } from ?_); unfold Builtin.List.listExtendWith
  refine wpAny_bind (wpAny_typeOf (T := "tuple") ⟨ob, at2, cl⟩ ?_); rw [if_pos (by rw [show (Value.type "tuple" == Value.type "tuple") = true by rfl]; simp)]
  refine wpAny_bind (listItems_at at2 dt (wpAny_bind (listItems_at (xs := #[]) (n := 0) new0 rfl ?_))); rw [if_neg (by simp)]
  refine wpAny_bind (listUpdate_at (xs := #[]) (n := 0) new0 rfl (wpAny_pure ?_) (Nat.zero_le _) (by show (#[] ++ us.toArray).size ≤ sizeLine + 1; simp only [Array.size_append, List.size_toArray, List.length_nil]; omega))
  refine (show wpAny (model prog w) A (do let o ← load s.heap.objs.size; match o.data with | .seq xs _ => pure xs.toList | _ => unsupported "internal:collect") R E { s with heap := (s.heap.push (seqObj "list" #[] 0)).update s.heap.objs.size (Obj.mapSeq (· ++ us.toArray)) } from wpAny_bind (wpAny_load (get?_update_seq new0 _) ?_))
  refine (show wpAny _ _ (pure ((#[] : Array Value) ++ us.toArray).toList) R E _ from ?_); rw [show ((#[] : Array Value) ++ us.toArray).toList = us by simp]; exact wpAny_pure k
end
end EB
/-! EB28: the text that repr tells is a text that == compares; ints and tuples of them in order. -/
namespace EB
open PySem PySem.Spec PyProof.Rows L2 Evl PySem.W
/-! ### order -/
theorem dLt_int (a b : Int) : dLt (.int a) (.int b) = decide (a < b) := dataLt_int a b
end EB
/-! EB29: a list made anew by two for's; a list of one's own that is forgotten again; turned around in place. -/
namespace EB
open PySem PySem.Spec PyProof.Rows L2 Evl
end EB
/-! EB30: zip of a tuple and a list, walked in new pairs. -/
namespace EB
open PySem PySem.Spec PyProof.Rows L2 Evl
end EB
/-! EB31: pairs of a zip as data; objects with three attributes, their making, their methods (with a star too); all of a list; max of two. -/
namespace EB
open PySem PySem.Spec PyProof.Rows L2 Evl
/-! ### zip -/
section
variable {K : PySem.W.Frag} {M : EC → Addr} {W : WX} {ps qs : Kn} {te tb : TE} {tr : TA} {t : TT} {ts tu : TS}
/-! ### three attributes -/
def ob3 (K : PySem.W.Frag) (C : Addr) (f1 f2 f3 : Str) (P1 P2 P3 : PV) : PV := ⟨fun H v => ∃ a dx u1 u2 u3, v = .ref a ∧ H a = some (.ins C dx [(f1, u1), (f2, u2), (f3, u3)]) ∧ P1.p H u1 ∧ P2.p H u2 ∧ P3.p H u3, fun e h => by
  obtain ⟨a, dx, u1, u2, u3, h0, h, h1, h2, h3⟩ := h
  exact ⟨a, dx, u1, u2, u3, h0, e _ _ h, PV.mn _ e h1, PV.mn _ e h2, PV.mn _ e h3⟩⟩
variable {C : Addr} {f1 f2 f3 : Str} {P1 P2 P3 : PV}
/-! ### all, max -/
end
end EB
/-! EB32: «is True» of any data; isinstance of any data; except with three or four other classes; a def that writes to a list that is handed to it. -/
namespace EB
open PySem PySem.Spec PyProof.Rows L2 Evl
end EB
/-! EB33: a list of lists of one's own, filled row by row, then told as data. -/
namespace EB
open PySem PySem.Spec PyProof.Rows L2 Evl
end EB
/-! EB34: an own list that is left behind before the def goes on; a pair whose second member raises; a clause's suite in three rows with three other classes. -/
namespace EB
open PySem PySem.Spec PyProof.Rows L2 Evl
end EB
/-! EB35: a clause's suite in three rows with one other class. -/
namespace EB
open PySem PySem.Spec PyProof.Rows L2 Evl
end EB
/-! EB36: o.m(*xs, y). -/
namespace EB
open PySem PySem.Spec PyProof.Rows L2 Evl
end EB
/-! EB37: several lists of one's own, read in tests, spoilt, left behind. -/
namespace EB
open PySem PySem.Spec PyProof.Rows L2 Evl
end EB
/-! EB38: -o by an own __neg__. -/
namespace EB
open PySem PySem.Spec PyProof.Rows L2 Evl
end EB
/-! EB39: a list of one's own that tells what has happened so far; counts kept in such a list. -/
namespace EB
open PySem PySem.Spec PyProof.Rows L2 Evl
section
variable {K : PySem.W.Frag} {M : EC → Addr} {W : WX} {D : Addr} {F1 H1 : Hp} {ps : Kn} {vs : List Nat}
/-- how often each number below m has happened -/
def tl (m : Nat) (e : List Nat) : List PyData := (List.range m).map fun j => .int ((e.count j : Nat) : Int)
end
end EB
/-! EB40: zip of two lists, walked in new pairs. -/
namespace EB
open PySem PySem.Spec PyProof.Rows L2 Evl
end EB
/-! EB41: several lists of one's own, counted up side by side and handed back. -/
namespace EB
open PySem PySem.Spec PyProof.Rows L2 Evl
end EB
/-! EB42: lists of things that are no data, walked through; strings in lists. -/
namespace EB
open PySem PySem.Spec PyProof.Rows L2 Evl
end EB
/-! EB43: a method whose first row says super().m(..). -/
namespace EB
open PySem PySem.Spec PyProof.Rows L2 Evl
/-- a method that says super(), D its class -/
structure SupF (K : PySem.W.Frag) (x qual : Str) (st : Stmt) (f : Addr) (fd : FuncData) (D : Addr) : Prop where
  ex : ∃ (oc : Value) (od : Option Addr) (kV doc pm : Value) (an : Option Addr) (cda : Addr) (ct : Value) (osl : Array (Option Value)) (cc : Addr) (ccl : Value) (cdd : Option Addr) (vs : Array Value) (ccs : Array (Option Value)) (tf : Tok) (cl : Value) (cld : Option Addr) (csl : Array (Option Value)),
    fd = PySem.W.fnX x qual (defArgs st) (defBody st) (defScope st) [("__class__", cc)] .none kV doc pm an (.ref cda) ct ∧ K.lookup f = some ⟨oc, od, .func fd, osl⟩ ∧ PySem.W.codeIn K (.ref cda) qual = true ∧
    K.lookup cda = some ⟨ccl, cdd, .fields vs, ccs⟩ ∧ vs[2]? = some (.str "/claim/cut.py" tf) ∧ K.lookup cc = some ⟨cl, cld, .cell (some (.ref D)), csl⟩
  kp : PySem.W.keepIn K (.ref f) = true
theorem SupF.binds {K : PySem.W.Frag} {x qual : Str} {st : Stmt} {f D : Addr} {fd : FuncData} {ps : List Str} (F : SupF K x qual st f fd D)
    (h : ∀ (kV doc pm : Value) (an : Option Addr) (cdv ct : Value) (us : List Value), us.length = ps.length → ∀ cc : Addr, bindArgs (PySem.W.fnX x qual (defArgs st) (defBody st) (defScope st) [("__class__", cc)] .none kV doc pm an cdv ct) ⟨us, []⟩ = pure (ps.zip us)) : L2.Binds K fd ps [] := by
  obtain ⟨oc, od, kV, doc, pm, an, cda, ct, osl, cc, ccl, cdd, vs, ccs, tf, cl, cld, csl, rfl, _⟩ := F.ex
  exact .all fun us hl => h kV doc pm an (.ref cda) ct us hl cc
end EB
/-! EB44: an error with two fields; suites with two other classes; making an instance whose last check may raise behind the attributes. -/
namespace EB
open PySem PySem.Spec PyProof.Rows L2 Evl
end EB
/-! EB45: bools and lists of ints compared; a list of ints made while others are read. -/
namespace EB
open PySem PySem.Spec PyProof.Rows L2 Evl
end EB
/-! EB46: objects with two attributes; C(..) and f(..) by a slot; classmethods; an own __call__; dicts of the top by text keys; statements that are never reached. -/
namespace EB
open PySem PySem.Spec PyProof.Rows L2 Evl
end EB
namespace EB
open PySem PySem.Spec PyProof.Rows L2 Evl
end EB
/-! EB47: lists put together are new; a def that fills a list of its own and tells it as new; division by wide integers. -/
namespace EB
open PySem PySem.Spec PyProof.Rows L2 Evl
end EB
namespace EB
open PySem PySem.Spec PyProof.Rows L2 Evl
end EB
/-! EB48: comprehensions over lists whose items are known one by one, with a test; such lists put together. -/
namespace EB
open PySem PySem.Spec PyProof.Rows L2 Evl
end EB
/-! EB49: a tuple of two lists made anew, both one's own; the tuple told as data. -/
namespace EB
open PySem PySem.Spec PyProof.Rows L2 Evl
end EB
/-! EB50: a set comprehension with two for's (ints), as EB21 has the dict. -/
namespace EB
open PySem PySem.Spec PyProof.Rows L2 Evl
open PpSet (eval_SetComp codeAny_compStart_set newSet_ok)
end EB
/-! EB51: a set of ints as what is known of a value: made by a comprehension with two for's, sorted. -/
namespace EB
open PySem PySem.Spec PyProof.Rows L2 Evl
/-- m: the members of l, each once -/
structure Mem1 (m l : List Int) : Prop where
  nd : m.Nodup
  mem : ∀ j, j ∈ m ↔ j ∈ l
  len : m.length ≤ l.length
def stP (w : World) (l : List Int) : PV := ⟨fun H v => ∃ a m, v = .ref a ∧ H a = some (SetO w a (fun j => decide (j ∈ l)) m.length) ∧ Mem1 m l, fun e h => by
  obtain ⟨a, m, h1, h2, h3⟩ := h
  exact ⟨a, m, h1, e _ _ h2, h3⟩⟩
theorem NT.set {H : Hp} {w : World} {D : Addr} {S : Int → Bool} {n : Nat} (h : H D = some (SetO w D S n)) : NT H D := fun o e => by
  rw [h] at e
  cases e
  refine ⟨fun c q z => ?_, fun _ z => by unfold SetO at z; cases z⟩
  unfold SetO LamX.CodeO at z
  have e2 : (fun h : Heap => SetR w h D S n) = fun h => ∃ (oc : Obj) (vs : Array Value) (t : Tok), h.get? c = some oc ∧ oc.data = .fields vs ∧ vs[1]? = some (.str q t) := by
    injection z
  let ob : Obj := { cls := .none, data := .fields #[.none, .str q 0] }
  let hp : Heap := { objs := Array.replicate (c + 1) ob }
  have g : ∀ a o, hp.get? a = some o → o = ob := fun a o k => by
    have k2 : (match (Array.replicate (c + 1) ob)[a]? with
      | some ⟨_, _, .freed, _⟩ => Option.none
      | o => o) = some o := k
    rw [Array.getElem?_replicate] at k2
    by_cases la : a < c + 1
    · rw [if_pos la] at k2; exact (Option.some.inj k2).symm
    · rw [if_neg la] at k2; cases k2
  have r : SetR w hp D S n := by
    have e3 := congrFun e2 hp
    rw [e3]
    refine ⟨ob, #[.none, .str q 0], 0, ?_, rfl, rfl⟩
    show (match (Array.replicate (c + 1) ob)[c]? with
      | some ⟨_, _, .freed, _⟩ => Option.none
      | o => o) = some ob
    rw [Array.getElem?_replicate, if_pos (Nat.lt_succ_self c)]
  obtain ⟨o2, es, ep, t2, ho, _, hd, _⟩ := r
  rw [g _ _ ho] at hd
  cases hd
structure AccS [LT] (w : World) (D : Addr) (F1 H1 F H : Hp) (l : List Int) : Prop where
  gr : Gr F1 H1 F H
  off : F D = none
  at_ : ∃ m : List Int, H D = some (SetO w D (fun j => decide (j ∈ l)) m.length) ∧ Mem1 m l
theorem AccS.start [LT] {w : World} {D : Addr} {F H : Hp} (fh : Fx F H) (hD : H D = none) : AccS w D F H F (upd H D (SetO w D (fun _ => false) 0)) [] := ⟨gr_mut (Gr.refl fh) hD (fresh_back fh hD), fresh_back fh hD, [], by
  rw [upd_same]
  congr 2, List.nodup_nil, fun _ => Iff.rfl, Nat.le_refl _⟩
theorem AccS.step [LT] {w : World} {D : Addr} {F1 H1 F H F2 H2 : Hp} {l : List Int} (a : AccS w D F1 H1 F H l) (g : Gr F H F2 H2) : AccS w D F1 H1 F2 H2 l := by
  obtain ⟨m, h, hm⟩ := a.at_
  exact ⟨a.gr.trans g, g.nw D (by rw [h]; exact fun z => nomatch z) a.off, m, g.hh.fn _ _ h, hm⟩
theorem AccS.done [LT] {w : World} {D : Addr} {F1 H1 F H : Hp} {l : List Int} (a : AccS w D F1 H1 F H l) (h1 : H1 D = none) : ∃ F', Gr F1 H1 F' H ∧ (stP w l).p F' (.ref D) := by
  obtain ⟨m, h, hm⟩ := a.at_
  exact ⟨upd F D (SetO w D (fun j => decide (j ∈ l)) m.length), gr_in a.gr h1 a.off h, D, m, rfl, upd_same, hm⟩
end EB
/-! EB52: a tuple of three lists made anew, of any data. -/
namespace EB
open PySem PySem.Spec PyProof.Rows L2 Evl
end EB
/-! EB53: a def that fills a list and returns it, the list first. -/
namespace EB
open PySem PySem.Spec PyProof.Rows L2 Evl
end EB
/-! EB54: a pair of ints in a list of pairs. -/
namespace EB
open PySem PySem.Spec PyProof.Rows L2 Evl
end EB
/-! EB55: the sum of a list of bools. -/
namespace EB
open PySem PySem.Spec PyProof.Rows L2 Evl
end EB
/-! EB56: a def with defaults, all written; wide products and quotients; gcd. -/
namespace EB
open PySem PySem.Spec PyProof.Rows L2 Evl
section
variable {P : Program} {w : World} {K : PySem.W.Frag} {mg : Str → Option Value} {base : Heap} {nx ql : Str} {params : Arguments} {body : List Stmt} {scope : Scope} {dvs : List V} {f : Addr} {fd : FuncData} {nps : List Str}
theorem _root_.L2.FunD.okXN {N : List Str} {j : Nat} {sp : Sp} (F : FunD K nx ql params body scope dvs [] f fd) (S : FnScope N nps scope) (size : ∀ vs H Q E, sp vs H Q E → vs.length = nps.length)
    (run : ∀ (cc : Value) (A : Around) (outer : List Env) (s : Shared) (H : Hp) (vs : List V) (Q : VK) (E : XK), Room j (A.deeper (envOfC ql scope s.heap.objs.size f cc)) → sp vs H Q E →
      ∃ t, PSs (cxOf (L2N.CX P w) P w K mg base N ql scope f cc A outer s H E) body t ∧ t { nx := fun _ H' => Q .non H', rt := Q } (start N vs) H) : FnOk P w K mg base (L2N.CX P w) (j + 1) f fd nps sp := F.ok S size run
end
end EB
/-! EB57: tuples of objects: unpacked, walked, their length; isinstance of an object with two fields. -/
namespace EB
open PySem PySem.Spec PyProof.Rows L2 Evl
end EB
/-! EB58: zip of two tuples; a tuple of two new lists, told through defs and a try. -/
namespace EB
open PySem PySem.Spec PyProof.Rows L2 Evl
/-! ### two new lists in a tuple -/
/-- v tells two new lists, as sh says -/
def Nw [LT] (K : PySem.W.Frag) (sh : Addr → Addr → PV) (d : List PyData × List PyData) (F H F' H' : Hp) (v : V) : Prop := ∃ D1 D2, AccM [(D2, d.2.map (dv K)), (D1, d.1.map (dv K))] F H F' H' ∧ (sh D1 D2).p F' v
theorem AccM.pre [LT] {Os : Ow} {F0 H0 F1 H1 F H : Hp} (g : Gr F0 H0 F1 H1) (a : AccM Os F1 H1 F H) : AccM Os F0 H0 F H := ⟨g.trans a.gr, a.nd, fun p h => Xh.nn g.hh _ (a.fr p h), a.off, a.at_⟩
theorem Nw.pre [LT] {K : PySem.W.Frag} {sh : Addr → Addr → PV} {d : List PyData × List PyData} {F0 H0 F H F' H' : Hp} {v : V} (g : Gr F0 H0 F H) (n : Nw K sh d F H F' H' v) : Nw K sh d F0 H0 F' H' v := by
  obtain ⟨D1, D2, a, p⟩ := n
  exact ⟨D1, D2, a.pre g, p⟩
end EB
/-! EB59: a op b by an own method of a's class, b of the same class or an int; its errors pass. -/
namespace EB
open PySem PySem.Spec PyProof.Rows L2 Evl
end EB
/-! EB60: C(e) where __init__ has defaults that stand in. -/
namespace EB
open PySem PySem.Spec PyProof.Rows L2 Evl
end EB
/-! EB61: lists of one's own: extend, a list of new lists that hold something, handed back at the end. -/
namespace EB
open PySem PySem.Spec PyProof.Rows L2 Evl
end EB
/-! EB62: a list of lists of one's own, each by what it holds. -/
namespace EB
open PySem PySem.Spec PyProof.Rows L2 Evl
section
variable {K : PySem.W.Frag} {M : EC → Addr} {W : WX} {ps qs : Kn} {te ta : TE} {ts tu : TS} {F1 H1 : Hp} {D : Addr} {Ds : List Addr} {c : Nat → List PyData} {i k : Nat} {d : PyData}
theorem jn_listT [LT] {ds : List PyData} (h : JD K M W te ps (.tuple ds)) : JN K (tCB (rListS K) (tCons te tNil)) ps ds := fun σ F H Q fh S c => h.go fh S fun v F1 H1 e p => by
  obtain ⟨a, xs, rfl, hs, hd⟩ := dp_tup p
  exact ⟨a, xs, rfl, .inr (ex_t e.fh.ex hs), fun D hD => c D F1 _ ⟨gr_mut e (Xh.nn e.hh _ hD) (fresh_back e.fh hD), fresh_back e.fh hD, xs, upd_same, hd⟩ (Xh.nn e.hh _ hD)⟩
end
end EB
/-! EB63: a != b of a class with its own == (and no !=); a part of a text. -/
namespace EB
open PySem PySem.Spec PyProof.Rows L2 Evl
end EB
/-! EB64: sorted with a key that the program itself makes: each call may change what is told of the state. -/
namespace EB
open PySem PySem.Spec PyProof.Rows L2 Evl PySem.W
section
variable {prog : Program} {w : World} {A : Around} {E : Value → Shared → Prop} {s : Shared} {a kS : Addr} {vs : List Value} {e1 : Nat} {P : PySem.Fin → Shared → Prop}
theorem freed_at (h : Heap) (a : Addr) : (h.update a fun o => { o with data := .freed }).get? a = none := by
  unfold Heap.get? Heap.update
  simp only [Array.getElem?_modify]
  cases h.objs[a]? with
  | none => rfl
  | some o => rfl
/-- what the calls of the key keep: I kA, the keys made so far, at every state that stands but for the keys' own list -/
structure KeyTurn (prog : Program) (w : World) (A : Around) (f : Value) (kS a : Addr) (e1 : Nat) (vs : List Value) (I : List Value → Shared → Prop) : Prop where
  go : ∀ (kA : List Value) (v : Value) (s' : Shared) (e : Nat), vs[kA.length]? = some v → I kA s' → s'.heap.get? kS = some (seqObj "list" kA.toArray e) → s'.heap.get? a = some (seqObj "list" #[] e1) →
    wpAny (model prog w) A (call f [v]) (fun u s2 => s2.heap.get? kS = some (seqObj "list" kA.toArray e) ∧ s2.heap.get? a = some (seqObj "list" #[] e1) ∧
      ∀ (h : Heap) (tk : Nat), (∀ b o, b ≠ kS → s2.heap.get? b = some o → h.get? b = some o) → I (kA ++ [u]) { s2 with heap := h, toks := tk }) (fun _ _ => False) s'
def KeyFin (A : Around) (kS a : Addr) (vs : List Value) (I : List Value → Shared → Prop) (P : Shared → Prop) : Prop :=
  ∀ (kA : List Value) (s' : Shared), kA.length = vs.length → I kA s' → ∃ kz : List PyData, EachIs (fun u d => ∃ as, Reads s'.heap u d as) kA kz ∧ AllAlike kz ∧ Sortable kz ∧ (∀ d ∈ kz, A.units + d.depth < cLine) ∧
    ∀ (out : List Value) (h : Heap) (tk c : Nat), KeyedOut false kz vs out → (∀ b o, b ≠ kS → b ≠ a → s'.heap.get? b = some o → h.get? b = some o) → h.get? a = some (seqObj "list" out.toArray c) → P { s' with heap := h, toks := tk }
theorem keyS_rest {f : Value} {I : List Value → Shared → Prop} (h0 : I [] s) (nk : s.heap.get? kS = some (seqObj "list" #[] 0)) (na : s.heap.get? a = some (seqObj "list" #[] e1)) (hka : kS ≠ a) (hZ : vs.length ≤ sizeLine)
    (T : KeyTurn prog w A f kS a e1 vs I) (F : KeyFin A kS a vs I fun s' => P (.done (.ret .none)) s') : wpAny (model prog w) A (ksk_rest a f false vs.toArray e1 (.ref kS)) P E s := by
  unfold ksk_rest
  refine wpAny_bind (wpAny_rule ?_)
  first
    | rw [List.forIn_toArray]
    | (rw [← Array.forIn_toList]; simp only [List.toList_toArray])
    | rw [← Array.forIn_toList]
  refine wpAny_bind (ksk_fold (fun i s' => ∃ (kA : List Value) (e : Nat), kA.length = i ∧ I kA s' ∧ s'.heap.get? kS = some (seqObj "list" kA.toArray e) ∧ s'.heap.get? a = some (seqObj "list" #[] e1)) vs 0 s ⟨[], 0, rfl, h0, nk, na⟩ (fun j x s' hx q => ?_) fun s' q => ?_)
  · obtain ⟨kA, e, hl, hI, nk', na'⟩ := q
    rw [Nat.zero_add] at hl
    have hj : j < vs.length := (List.getElem?_eq_some_iff.mp hx).1
    refine wpAny_bind (wpAny_attempt (wpAny_mono (T.go kA x s' e (by rw [hl]; exact hx) hI nk' na') (fun u s2 q => ?_) fun _ _ hF => hF.elim))
    obtain ⟨nk2, na2, up⟩ := q
    try dsimp only
    have s1 := Heap.SameBut.update s2.heap kS (Obj.mapSeq (·.push u))
    obtain ⟨c2, hc2⟩ : ∃ c2, (s2.heap.update kS (Obj.mapSeq (·.push u))).get? kS = some (seqObj "list" (kA.toArray.push u) c2) := ⟨_, get?_update_seq nk2 (·.push u)⟩
    have z1 : kA.toArray.size ≤ sizeLine := by rw [List.size_toArray, hl]; omega
    refine wpAny_bind (listUpdate_at nk2 rfl ?_ z1 (by rw [Array.size_push]; omega))
    refine wpAny_pure ⟨rfl, kA ++ [u], c2, by rw [List.length_append, hl]; simp, up _ s2.toks fun b o hb q => (s1.2 b hb).trans q, ?_, (s1.2 a hka.symm).trans na2⟩
    rw [hc2]
    simp
  · obtain ⟨kA, e, hl, hI, nk', na'⟩ := q
    rw [Nat.zero_add] at hl
    obtain ⟨kz, hr, hal, hsk, hu, got⟩ := F kA s' hl hI
    refine wpAny_bind (listItems_at nk' rfl ?_)
    refine keyH_end (κ := dataKind s'.heap kz) (h₁ := s'.heap.update kS fun o => { o with data := .freed }) (fun b o _ q => ?_) (freed_at _ _) nk' na' hka (by
      rw [List.toList_toArray]
      exact SortsAt.data hr hal hsk hu) (by rw [List.size_toArray]; exact hl) hZ fun h' tk c kp hD => ?_
    · by_cases hb : b = kS
      · rw [hb, freed_at] at q
        cases q
      · exact ((Heap.SameBut.update s'.heap kS fun o => { o with data := .freed }).2 b hb).symm.trans q
    · rw [List.toList_toArray] at hD
      exact got _ h' tk c ⟨s'.heap, kA, hal, rfl, hr⟩ (fun b o hb hb2 q => kp b o hb2 (((Heap.SameBut.update s'.heap kS fun o => { o with data := .freed }).2 b hb).trans q)) hD
theorem keyS_tree {f : Value} {n : Nat} {I : List Value → Shared → Prop} (ho : s.heap.get? a = some (seqObj "list" vs.toArray n)) (hZ : vs.length ≤ sizeLine)
    (h0 : ∀ (h : Heap) (tk : Nat), (∀ b o, b ≠ a → s.heap.get? b = some o → h.get? b = some o) → I [] { s with heap := h, toks := tk })
    (T : ∀ e1, KeyTurn prog w A f (s.heap.objs.size + 1) a e1 vs I) (F : KeyFin A (s.heap.objs.size + 1) a vs I fun s' => P (.done (.ret .none)) s') : wpAny (model prog w) A (ksk_tree a f false) P E s := by
  have ha : a < s.heap.objs.size := Heap.lt_size ho
  obtain ⟨e1, ho1⟩ : ∃ e1, (s.heap.update a (Obj.mapSeq fun _ => (#[] : Array Value))).get? a = some (seqObj "list" #[] e1) := ⟨_, get?_update_seq ho fun _ => #[]⟩
  have hkS : ((s.heap.update a (Obj.mapSeq fun _ => (#[] : Array Value))).push (seqObj "tuple" vs.toArray 0)).objs.size = s.heap.objs.size + 1 := by rw [size_push', Heap.size_update]
  unfold ksk_tree
  refine wpAny_bind (listItems_at ho rfl ?_)
  refine wpAny_bind (listUpdate_at ho rfl ?_ (by rw [List.size_toArray]; exact hZ) (Nat.zero_le _))
  refine wpAny_bind (seqEpoch_at ho1 rfl ?_)
  refine wpAny_bind (wpAny_newTuple ?_ (by show vs.length ≤ _; exact hZ))
  refine wpAny_bind (wpAny_newList ?_ (Nat.zero_le _))
  refine wpAny_holding ?_
  rw [hkS]
  refine keyS_rest (I := I) (h0 _ s.toks fun b o hb q => sortingHeap_old hb q) ?_ (Heap.get?_push_of_some _ (Heap.get?_push_of_some _ ho1)) (Nat.ne_of_gt (Nat.lt_succ_of_lt ha)) hZ (T e1) F
  have := Heap.get?_push_size ((s.heap.update a (Obj.mapSeq fun _ => (#[] : Array Value))).push (seqObj "tuple" vs.toArray 0)) (o := seqObj "list" #[] 0) rfl
  rw [hkS] at this
  exact this
end
end EB
/-! EB65: sorted(xs, key=lambda p: e): the lambda's own context, its calls, the rule. -/
namespace EB
open PySem PySem.Spec PyProof.Rows L2 Evl PySem.W
/-- one parameter p (slot i), names of its own (slots ws), captured ones -/
structure LamS1 (N : List Str) (sc scope : Scope) (p : Str) (i : Nat) (ws : List Nat) : Prop where
  kind : scope.kind = .function
  co : scope.isCoroutine = false
  gen : scope.isGenerator = false
  par : scope.names.lookup p = some .local
  noc : ∀ y ∈ scope.names, y.2 ≠ .cell
  free : ∀ y ∈ scope.names, y.2 = .free → sc.names.lookup y.1 = some .cell ∨ sc.names.lookup y.1 = some .free
  slot : N[i]? = some p
  own : ∀ (j : Nat) (y : Str), N[j]? = some y → scope.names.lookup y = some .local → j = i ∨ j ∈ ws
def lamS1B (N : List Str) (sc scope : Scope) (p : Str) (i : Nat) (ws : List Nat) : Bool :=
  decide (scope.kind = .function) && !scope.isCoroutine && !scope.isGenerator && decide (scope.names.lookup p = some .local) &&
  scope.names.all (fun y => !decide (y.2 = .cell) && (!decide (y.2 = .free) || decide (sc.names.lookup y.1 = some .cell) || decide (sc.names.lookup y.1 = some .free))) &&
  decide (N[i]? = some p) && (List.range N.length).all fun j => match N[j]? with
    | some y => !decide (scope.names.lookup y = some .local) || decide (j = i) || ws.contains j
    | none => true
theorem lamS1_by {N : List Str} {sc scope : Scope} {p : Str} {i : Nat} {ws : List Nat} (h : lamS1B N sc scope p i ws = true) : LamS1 N sc scope p i ws := by
  unfold lamS1B at h
  simp only [Bool.and_eq_true, Bool.or_eq_true, Bool.not_eq_true', decide_eq_true_eq, decide_eq_false_iff_not, List.all_eq_true] at h
  obtain ⟨⟨⟨⟨⟨⟨h1, h2⟩, h3⟩, h4⟩, h5⟩, h6⟩, h7⟩ := h
  refine ⟨h1, h2, h3, h4, fun y hy => (h5 y hy).1, fun y hy e => ?_, h6, fun j y hj hl => ?_⟩
  · rcases (h5 y hy).2 with (z | z) | z
    · exact absurd e z
    · exact .inl z
    · exact .inr z
  · have lt : j < N.length := (List.getElem?_eq_some_iff.mp hj).1
    have q := h7 j (List.mem_range.mpr lt)
    rw [hj] at q
    simp only [Bool.or_eq_true, Bool.not_eq_true', decide_eq_true_eq, decide_eq_false_iff_not, List.contains_eq_mem] at q
    rcases q with (z | z) | z
    · exact absurd hl z
    · exact .inl z
    · exact .inr z
theorem LamS1.has {X : Cx} {scope : Scope} {p : Str} {i : Nat} {ws : List Nat} (L : LamS1 X.N X.env.scope scope p i ws) (ok : X.Ok) : ∀ y ∈ scope.names, y.2 = .free → ∃ c, X.env.cells.lookup y.1 = some c := fun y hy e => by
  rcases L.free y hy e with k | k
  · exact ok.has _ (.inl k)
  · exact ok.has _ (.inr k)
abbrev lamEv (X : Cx) (scope : Scope) (L f c' : Addr) : Env := PySem.W.envX (X.env.qual ++ "<lambda>") scope L f (.ref c') (cloFrom X.env.cells scope.names [])
/-- the context of the lambda's body: nothing may be raised -/
def lam1Cx (X : Cx) (A : Around) (outer : List Env) (s : Shared) (H : Hp) (scope : Scope) (f c' : Addr) : Cx where
  prog := X.prog
  w := X.w
  K := X.K
  mg := X.mg
  base := X.base
  A := A.deeper (lamEv X scope s.heap.objs.size f c')
  N := X.N
  s_0 := s
  H_0 := H
  env := lamEv X scope s.heap.objs.size f c'
  outer := outer
  stack := lamEv X scope s.heap.objs.size f c' :: outer
  ex := []
  fn := fun _ => false
  calm := true
  pn := []
  xe := fun e s' => wpAny (model X.prog X.w) (A.deeper (lamEv X scope s.heap.objs.size f c')) (leaving (lamEv X scope s.heap.objs.size f c') e) (fun _ _ => False) (fun _ _ => False) s'
def lamSt (ws : List Nat) (i : Nat) (x : V) (σ : L2.St) : L2.St := (L2.wipe σ ws).set i (some x)
section
variable {X : Cx} {pins : List (Addr × Obj)} {σ : L2.St} {H : Hp} {s : Shared}
theorem lam1_start {A : Around} {outer : List Env} {scope : Scope} {f c' : Addr} {p : Str} {i : Nat} {ws : List Nat} {h₁ : Heap} {tk : Nat} {x : V} {u : Value} (I : Inv X pins σ H s) (L : LamS1 X.N X.env.scope scope p i ws) (e0 : Env0 X.prog X.w X.K X.mg X.base A outer s H) (hd : A.handled = none)
    (rx : RelV x u) (hns : h₁.Ns s.heap.objs.size fun y => ([(p, u)] : List (Str × Value)).reverse.lookup y) (kp : ∀ b o, s.heap.get? b = some o → h₁.get? b = some o) :
    Inv (lam1Cx X A outer s H scope f c') [] (lamSt ws i x σ) H { s with heap := h₁, toks := tk } := by
  have hfree := L.has I.ok
  have cm : ∀ {y c}, (cloFrom X.env.cells scope.names []).lookup y = some c → X.env.cells.lookup y = some c := fun {y c} e => by
    rcases cloFrom_mem (PySem.mem_of_lookup e) with hm | ⟨h1, h2⟩
    · cases hm
    · obtain ⟨c1, hc⟩ := hfree _ h1 rfl
      have hc : X.env.cells.lookup y = some c1 := hc
      have e2 : c = c1 := by
        rw [h2, hc] <;> rfl
      rw [e2]
      exact hc
  have look : ∀ {y}, scope.names.lookup y = some .free → ∃ c, (cloFrom X.env.cells scope.names []).lookup y = some c := fun {y} hl => by
    have hy : (y, NameKind.free) ∈ scope.names := PySem.mem_of_lookup hl
    exact mem_lookup (cloFrom_has (cells := X.env.cells) (acc := []) hy)
  have cellK : ∀ {c : Addr} {v : Option Value}, s.heap.IsCell c v → h₁.IsCell c v := fun {c v} ⟨o, ho, hd⟩ => ⟨o, kp _ _ ho, hd⟩
  have noA : ∀ b : Addr, b ∉ (lam1Cx X A outer s H scope f c').ex := fun b z => absurd (show b ∈ ([] : List Addr) from z) (by simp)
  refine ⟨⟨e0.mod, L.kind, rfl, rfl, Nat.le_refl _, fun y z c e1 e2 => I.ok.inj y z c (cm e1) (cm e2), fun y hy => ?_, fun y c z _ => ?_, fun _ => hd, Around.frames_deeper e0.frames, .inr ⟨rfl, rfl⟩, fun b z => absurd z (noA b), e0.bs, e0.bsz, fun b _ _ => noA b,
      fun b z => absurd z (noA b), e0.funs, e0.frf⟩,
    rfl, e0.bare, Un.kept kp, ⟨_, hns, fun j y v e1 e2 e3 => ?_⟩, fun y c e => ?_, e0.hok.fresh (Nat.le_refl _), fun y c e => ?_, fun q hq => absurd (show q ∈ ([] : List (Addr × Obj)) ++ [] from hq) (by simp), e0.hok.kept kp, ?_⟩
  · have hy : scope.names.lookup y = some .cell ∨ scope.names.lookup y = some .free := hy
    rcases hy with hy | hy
    · exact absurd rfl (L.noc _ (PySem.mem_of_lookup hy))
    · exact look hy
  · have z : false = true := z
    cases z
  · have e1 : X.N[j]? = some y := e1
    have e2 : ((L2.wipe σ ws).set i (some x))[j]? = some (some v) := e2
    by_cases hj : j = i
    · rw [hj] at e1 e2
      rw [L.slot] at e1
      cases e1
      have lt : i < (L2.wipe σ ws).length := by
        have := (List.getElem?_eq_some_iff.mp e2).1
        rwa [List.length_set] at this
      rw [List.getElem?_set_self lt] at e2
      cases e2
      refine ⟨u, rx, .inl ⟨L.par, ?_⟩⟩
      show ([(p, u)] : List (Str × Value)).lookup p = some u
      simp
    · rw [List.getElem?_set_ne (Ne.symm hj)] at e2
      have hw : j ∉ ws := fun z => by
        have lt : j < σ.length := by
          have := (List.getElem?_eq_some_iff.mp e2).1
          rwa [wipe_length] at this
        rw [wipe_in z lt] at e2
        cases e2
      rw [wipe_out hw] at e2
      have e3 : Vis scope y := e3
      rcases e3 with k | k | k
      · rcases L.own j y e1 k with z | z
        · exact absurd z hj
        · exact absurd z hw
      · exact absurd rfl (L.noc _ (PySem.mem_of_lookup k))
      · obtain ⟨m, hn, hl⟩ := I.loc
        have hvis : Vis X.env.scope y := (L.free _ (PySem.mem_of_lookup k) rfl).elim (fun k => .inr (.inl k)) (fun k => .inr (.inr k))
        obtain ⟨w', r, q⟩ := hl j y v e1 e2 hvis
        obtain ⟨c2, h2⟩ := look k
        refine ⟨w', r, .inr ⟨.inr k, c2, h2, ?_⟩⟩
        have c1 := cm h2
        rcases q with ⟨k', _⟩ | ⟨_, c3, e', z⟩
        · have k' : X.env.scope.names.lookup y = some .local := k'
          rcases L.free _ (PySem.mem_of_lookup k) rfl with k2 | k2 <;> rw [show X.env.scope.names.lookup y = _ from k2] at k' <;> cases k'
        · rw [c1] at e'
          cases e'
          exact cellK z
  · obtain ⟨w', z⟩ := I.cell y c (cm e)
    exact ⟨w', cellK z⟩
  · exact I.freeC y c (cm e)
  · show ((L2.wipe σ ws).set i (some x)).length = X.N.length
    rw [List.length_set, wipe_length, I.len]
/-- f(u): f the lambda -/
theorem lam1_run {A : Around} {k : Nat} {f c' : Addr} {pm ctv : Value} {params : Arguments} {body : Expr} {scope : Scope} {p : Str} {i : Nat} {ws : List Nat} {tb : TE} {x : V} {u : Value} {Q : VK} (I : Inv X pins σ H s) (L : LamS1 X.N X.env.scope scope p i ws)
    (hf : s.heap.get? f = some (PySem.W.kla_obj "<lambda>" (X.env.qual ++ "<lambda>") params body scope (cloFrom X.env.cells scope.names []) pm c' ctv)) (hc : H c' = some (LamX.CodeO c' (X.env.qual ++ "<lambda>")))
    (hbind : ∀ s : Shared, BindsTo s (PySem.W.kla_fn "<lambda>" (X.env.qual ++ "<lambda>") params body scope (cloFrom X.env.cells scope.names []) pm (.ref c') ctv) ⟨[u], []⟩ [(p, u)])
    (hr : Room (k + 1) A) (e0 : Env0 X.prog X.w X.K X.mg X.base A X.stack s H) (rx : RelV x u)
    (hbody : PE (lam1Cx X A X.stack s H scope f c') body tb) (ht : tb (lamSt ws i x σ) H Q) :
    codeAny (model X.prog X.w) A (.call (.ref f) ⟨[u], []⟩) (CR (fun _ _ _ _ _ _ => False) X.stack X.prog X.w H s Q fun _ _ _ => False) s := by
  obtain ⟨⟨oc, vs, t, hoc, hdc, hvc⟩, _, _⟩ := I.hok c' _ hc
  refine PySem.W.kla_callFunE hr.depth hf rfl L.co L.gen rfl ⟨c', oc, vs, t, rfl, hoc, hdc, hvc⟩ ?_
  refine hbind s _ _ _ _ (wpAny_newFunctionEnv (fun y hy => L.noc y hy) (fun y hy => ?_) (fun h₁ hns hsb => ⟨I.nolimit.fresh _ hsb, ?_⟩) L.kind)
  · obtain rfl : y = (p, u) := by simpa using hy
    exact L.par
  · have kp : ∀ b o, s.heap.get? b = some o → h₁.get? b = some o := fun b o e => hsb.extBut b o (Nat.ne_of_lt (Heap.lt_size e)) (Heap.get?_push_of_some _ e)
    have J : Inv (lam1Cx X A X.stack s H scope f c') [] (lamSt ws i x σ) H { s with heap := h₁, toks := s.toks + ([(p, u)] : List (Str × Value)).length } := lam1_start I L e0 hr.hd rx hns kp
    refine PySem.W.kla_codeExpr (wpAny_mono (hbody.run [] _ _ H Q J ht) (fun v s' hq => ?_) fun e s' hq => hq)
    obtain ⟨w', H', J', rv, q⟩ := hq
    exact ⟨w', H', J'.os, J'.bare, J'.base, J'.hok, rv, q⟩
end
end EB
/-! EB66: sorted(xs, key=lambda p: e), the rule. -/
namespace EB
open PySem PySem.Spec PyProof.Rows L2 Evl PySem.W
section
variable {prog : Program} {w : World} {A : Around} {E : Value → Shared → Prop} {s : Shared}
/-- sorted(v, key=f) where v's items can be collected -/
theorem sortedC {v : Value} {q : Addr} {G : List Value → Prop} {Q : Value → Shared → Prop}
    (hc : ∀ (R : List Value → Shared → Prop) (E' : Value → Shared → Prop), (∀ (h1 : Heap) (tk : Nat) (vs : List Value), (∀ b o, s.heap.get? b = some o → h1.get? b = some o) → G vs → R vs { s with heap := h1, toks := tk }) → wpAny (model prog w) A.in1 (collect v) R E' s)
    (hL : ∀ vs, G vs → vs.length ≤ sizeLine)
    (body : ∀ (h1 : Heap) (tk : Nat) (vs : List Value), (∀ b o, s.heap.get? b = some o → h1.get? b = some o) → G vs → ∀ E' : Value → Shared → Prop,
      wpAny (model prog w) A.in1.in1 (ksk_tree h1.objs.size (.ref q) false) (fun f s' => f = .done (.ret .none) ∧ Q (.ref h1.objs.size) s') E' { s with heap := h1.push (seqObj "list" vs.toArray 0), toks := tk }) :
    wpAny (model prog w) A (call (.builtin "sorted") [v] [(Str.ofString "key", .ref q)]) Q E s := by
  refine call_function_entry_kw kind_sorted plain_sorted entry_sorted (ksk_s1 _ _) ?_
  unfold Builtin.«sorted»
  refine wpAny_bind (m := checkCount "sorted" 1 1 _) (wpAny_pure ?_)
  refine wpAny_bind (hc _ _ fun h1 tk vs k g => ?_)
  refine wpAny_bind (wpAny_newList ?_ (hL vs g))
  show wpAny _ _ _ _ _ { s with heap := h1.push (seqObj "list" vs.toArray 0), toks := tk }
  refine wpAny_bind (wpAny_holding (wpAny_call_entry_kw slot_list_sort ⟨_, Heap.get?_push_size (o := seqObj "list" vs.toArray 0) h1 rfl, rfl⟩ entry_list_sort ?_ (ksk_l1 _ _)))
  show wpAny (model prog w) A.in1.in1 (Builtin.«list.sort» ⟨[.ref h1.objs.size], [(Str.ofString "key", .ref q)]⟩) _ _ _
  rw [ksk_t1]
  refine wpAny_mono (body h1 tk vs k g _) (fun f s' hf => ?_) fun _ _ e => e
  obtain ⟨rfl, hq⟩ := hf
  exact ⟨_, rfl, wpAny_pure ⟨_, rfl, hq⟩⟩
end
/-- the keys of the items, one after another -/
def keysT (q : Str) (i : Nat) (ws : List Nat) (tb : TE) (σ : L2.St) : List V → Hp → (List V → Hp → Prop) → Prop
  | [], H, k => k [] H
  | x :: xs, H, k => tb (lamSt ws i x σ) H fun v H1 => (∀ c, H c = some (LamX.CodeO c q) → H1 c = some (LamX.CodeO c q)) ∧ keysT q i ws tb σ xs H1 fun vs H2 => k (v :: vs) H2
/-- the items by their keys -/
def byKeys (xs : List V) (ds : List PyData) : List V := ((xs.zip ds).mergeSort (dataLe false fun z : V × PyData => z.2)).map (·.1)
/-- what is wanted once the keys ks of xs are there -/
def KeyEnds (K : PySem.W.Frag) (xs : List V) (Q : VK) (ks : List V) (H : Hp) : Prop :=
  ∃ ds : List PyData, DpAll K H ks ds ∧ AllAlike ds ∧ Sortable ds ∧ (∀ d ∈ ds, d.depth ≤ 60) ∧ ∀ p, H p = none → Q (.ref p) (upd H p (.lst (byKeys xs ds)))
/-- what a lambda wants of its maker -/
structure LamOk (X : Cx) (T : List (Addr × Str)) (c P : Addr) : Prop where
  tb : LamX.TabB X.base X.mg c P
  code : X.env.code = .ref c
  mem : (P, X.env.qual ++ "<lambda>") ∈ T
  one : ∀ p ∈ T, p.1 = P → p.2 = X.env.qual ++ "<lambda>"
section
variable {X : Cx} {pins : List (Addr × Obj)} {σ : L2.St} {H : Hp} {s : Shared}
theorem keysT_run {k i : Nat} {ws : List Nat} {f c' : Addr} {pm ctv : Value} {params : Arguments} {body : Expr} {scope : Scope} {p : Str} {tb : TE} {xs : List V} {Q : VK} {v : Value} {G : List Value → Prop} (I : Inv X pins σ H s) (L : LamS1 X.N X.env.scope scope p i ws)
    (hf : s.heap.get? f = some (PySem.W.kla_obj "<lambda>" (X.env.qual ++ "<lambda>") params body scope (cloFrom X.env.cells scope.names []) pm c' ctv)) (hfn : H f = none) (hfr : f ∉ frs X.stack) (hc' : H c' = some (LamX.CodeO c' (X.env.qual ++ "<lambda>")))
    (hbind : ∀ (s : Shared) (u : Value), BindsTo s (PySem.W.kla_fn "<lambda>" (X.env.qual ++ "<lambda>") params body scope (cloFrom X.env.cells scope.names []) pm (.ref c') ctv) ⟨[u], []⟩ [(p, u)])
    (hr : Room (k + 3) X.A) (hbody : ∀ (A : Around) (s : Shared) (H : Hp), Room k (A.deeper (lamEv X scope s.heap.objs.size f c')) → PE (lam1Cx X A X.stack s H scope f c') body tb)
    (hc : ∀ (R : List Value → Shared → Prop) (E' : Value → Shared → Prop), (∀ (h1 : Heap) (tk : Nat) (vs : List Value), (∀ b o, s.heap.get? b = some o → h1.get? b = some o) → G vs → R vs { s with heap := h1, toks := tk }) → wpAny (model X.prog X.w) X.A.in1 (collect v) R E' s)
    (hG : ∀ vs, G vs → Vals xs vs ∧ xs.length ≤ sizeLine)
    (h : keysT (X.env.qual ++ "<lambda>") i ws tb σ xs H (KeyEnds X.K xs Q)) :
    wpAny (model X.prog X.w) X.A (call (.builtin "sorted") [v] [(Str.ofString "key", .ref f)]) (EP X pins σ Q) X.xe s := by
  refine sortedC hc (fun vs g => by rw [← (hG vs g).1.length]; exact (hG vs g).2) fun h1 tk vs kp g E' => ?_
  obtain ⟨rv, hz⟩ := hG vs g
  have hzv : vs.length ≤ sizeLine := by rw [← rv.length]; exact hz
  have I1 : Inv X pins σ H { s with heap := h1, toks := tk } := I.kept kp
  have hf1 : h1.get? f = some (PySem.W.kla_obj "<lambda>" (X.env.qual ++ "<lambda>") params body scope (cloFrom X.env.cells scope.names []) pm c' ctv) := kp _ _ hf
  have fl : f < h1.objs.size := Heap.lt_size hf1
  have szP : (h1.push (seqObj "list" vs.toArray 0)).objs.size = h1.objs.size + 1 := size_push' ..
  have okA : ∀ {H' : Hp}, H' h1.objs.size = none → FpOk X pins H' h1.objs.size := fun {H'} n => I1.fpOk (Nat.le_refl _) n
  have okK : ∀ {H' : Hp}, H' (h1.objs.size + 2) = none → FpOk X pins H' (h1.objs.size + 2) := fun {H'} n => I1.fpOk (Nat.le_add_right _ 2) n
  have nofr : ∀ b, h1.objs.size ≤ b → b ∉ frs X.stack := fun b hb z => by
    rcases List.mem_cons.mp (I1.stkSub _ z) with e | e
    · have l := I1.lt
      rw [← e] at l
      exact Nat.lt_irrefl _ (Nat.lt_of_lt_of_le l hb)
    · exact I1.nofs hb e
  have I2 : Inv X pins σ H { s with heap := h1.push (seqObj "list" vs.toArray 0), toks := tk } := I1.kept (t' := tk) fun b o e => Heap.get?_push_of_some _ e
  let J : List Value → Shared → Prop := fun kA s' => ∃ (Hc : Hp) (ks : List V), Inv X pins σ Hc s' ∧ Hc h1.objs.size = none ∧ Hc (h1.objs.size + 2) = none ∧ Hc f = none ∧
    s'.heap.get? f = some (PySem.W.kla_obj "<lambda>" (X.env.qual ++ "<lambda>") params body scope (cloFrom X.env.cells scope.names []) pm c' ctv) ∧ Hc c' = some (LamX.CodeO c' (X.env.qual ++ "<lambda>")) ∧ Vals ks kA ∧
    keysT (X.env.qual ++ "<lambda>") i ws tb σ (xs.drop kA.length) Hc fun vs H => KeyEnds X.K xs Q (ks ++ vs) H
  have eK : (h1.push (seqObj "list" vs.toArray 0)).objs.size + 1 = h1.objs.size + 2 := by rw [szP]
  refine keyS_tree (s := { s with heap := h1.push (seqObj "list" vs.toArray 0), toks := tk }) (a := h1.objs.size) (I := J) (Heap.get?_push_size _ rfl) hzv (fun hh tk2 kp2 => ?_) (fun e1 => ⟨fun kA u s' e hu hJ nk na => ?_⟩) fun kA s' hl hJ => ?_
  · refine ⟨H, [], I2.turnedL (h' := hh) (t' := tk2) (ch := [h1.objs.size]) (fun b o hb q => kp2 b o (fun z => hb (by simp [z])) q) (fun b hb => by
      obtain rfl : b = h1.objs.size := by simpa using hb
      exact okA (I1.hok.fresh (Nat.le_refl _))), I1.hok.fresh (Nat.le_refl _), I1.hok.fresh (Nat.le_add_right _ 2), hfn, kp2 _ _ (Nat.ne_of_lt fl) (Heap.get?_push_of_some _ hf1), hc', .nil, h⟩
  · rw [eK] at nk
    show wpAny _ _ _ _ _ _
    obtain ⟨Hc, ks, Ic, nA, nK, nf, of, oc, rk, hk⟩ := hJ
    have lx : kA.length < xs.length := by
      rw [rv.length]
      exact (List.getElem?_eq_some_iff.mp hu).1
    have hx : xs[kA.length]? = some xs[kA.length] := List.getElem?_eq_getElem lx
    obtain ⟨u2, hu2, rx⟩ := rv.get hx
    rw [hu] at hu2
    cases hu2
    generalize xs[kA.length] = x at hx rx
    have ed : xs.drop kA.length = x :: xs.drop (kA.length + 1) := by
      obtain ⟨lt, e⟩ := List.getElem?_eq_some_iff.mp hx
      rw [List.drop_eq_getElem_cons lt, e]
    rw [ed] at hk
    have run := lam1_run (A := X.A.in1.in1) (u := u) Ic L of oc (fun s => hbind s u) hr.in1.in1 Ic.env0.in1.in1 rx (hbody _ _ _ (hr.in1.in1.deeper _)) hk
    refine wpAny_call (codeAny_mono run fun r s2 hq => ?_)
    cases r with
    | error e => exact (show False from hq).elim
    | ok flw =>
      cases flw with
      | next => exact False.elim hq
      | brk => exact False.elim hq
      | cont => exact False.elim hq
      | ret w2 =>
        have hq' := hq
        obtain ⟨v2, H2, os, bare, un, hok, r2, cod, q⟩ := hq
        have I3 : Inv X pins σ H2 s2 := by
          obtain ⟨v3, H3, I3, r3, q3⟩ := Ic.after (Q := fun v H' => v = v2 ∧ H' = H2) ⟨v2, H2, os, bare, un, hok, r2, rfl, rfl⟩
          obtain ⟨_, rfl⟩ := q3
          exact I3
        rw [eK]
        refine ⟨un.keep _ _ nk nK (nofr _ (Nat.le_add_right _ 2)) (by simp), un.keep _ _ na nA (nofr _ (Nat.le_refl _)) (by simp), fun h tk3 kp3 => ?_⟩
        have nK2 : H2 (h1.objs.size + 2) = none := un.free _ _ nk nK (by simp)
        have nA2 : H2 h1.objs.size = none := un.free _ _ na nA (by simp)
        have nf2 : H2 f = none := un.free _ _ of nf (by simp)
        have of2 := un.keep _ _ of nf hfr (by simp)
        refine ⟨H2, ks ++ [v2], I3.turnedL (h' := h) (t' := tk3) (ch := [h1.objs.size + 2]) (fun b o hb q => kp3 b o (fun z => hb (by simp [z])) q) (fun b hb => by
          obtain rfl : b = h1.objs.size + 2 := by simpa using hb
          exact okK nK2), nA2, nK2, nf2, kp3 _ _ (Nat.ne_of_lt (Nat.lt_of_lt_of_le fl (Nat.le_add_right _ 2))) of2, cod _ oc, rk.append (.cons r2 .nil), ?_⟩
        rw [List.length_append]
        simpa using q
  · obtain ⟨Hc, ks, Ic, nA, nK, nf, of, oc, rk, hk⟩ := hJ
    have ed : xs.drop kA.length = [] := List.drop_eq_nil_of_le (by rw [hl, rv.length]; exact Nat.le_refl _)
    rw [ed] at hk
    have hk : KeyEnds X.K xs Q (ks ++ []) Hc := hk
    rw [List.append_nil] at hk
    obtain ⟨ds, hd, hal, hsk, hdp, fin⟩ := hk
    have lk : ks.length = kA.length := rk.length
    have ld : ds.length = ks.length := (dpLength hd).symm
    have er : EachIs (fun u d => ∃ as, Reads s'.heap u d as) kA ds := each_of (by rw [ld]; exact lk.symm) fun j u d hu hd2 => by
      obtain ⟨v2, e1, e2⟩ := dpGet hd hd2
      obtain ⟨u2, h2, r2⟩ := rk.get e1
      rw [hu] at h2
      cases h2
      exact Dp.reads Ic d v2 u e2 r2
    have un := hr.un
    refine ⟨ds, er, hal, hsk, fun d hd2 => by have := hdp d hd2; show X.A.units + 1 + 1 + d.depth < cLine; omega, fun out h tk3 c ko kp3 ho => ⟨rfl, ?_⟩⟩
    rw [eK] at kp3
    have lz : xs.length = ds.length := by rw [rv.length]; omega
    have eR : EachIs (fun u (z : V × PyData) => RelV z.1 u) vs (xs.zip ds) := each_of (by rw [List.length_zip, ← lz, Nat.min_self, rv.length]) fun j u z hu hz2 => by
      obtain ⟨z1, z2⟩ := List.getElem?_zip_eq_some.mp hz2
      obtain ⟨u2, h2, r2⟩ := rv.get z1
      rw [hu] at h2
      cases h2
      exact r2
    have eM : (xs.zip ds).map (fun z : V × PyData => z.2) = ds := List.map_snd_zip (by omega)
    have rel := each_vals (keyedOut_each (rev := false) (bs := xs.zip ds) (fun z : V × PyData => z.2) (by rw [eM]; exact ko) eR)
    have I4 : Inv X pins σ Hc { s' with heap := h, toks := tk3 } := Ic.turnedL (h' := h) (t' := tk3) (ch := [h1.objs.size + 2, h1.objs.size]) (fun b o hb q => kp3 b o (fun z => hb (by simp [z])) (fun z => hb (by simp [z])) q) (fun b hb => by
      rcases List.mem_cons.mp hb with rfl | hb
      · exact okK nK
      · obtain rfl : b = h1.objs.size := by simpa using hb
        exact okA nA)
    refine ⟨.ref h1.objs.size, _, I4.take (t' := tk3) (it := h1.objs.size) (o := .lst (byKeys xs ds)) (fun b o _ q => q) (okA nA) ?_, rfl, fin _ nA⟩
    refine ⟨?_, out, c, rel, ho⟩
    rw [byKeys, List.length_map, (List.mergeSort_perm _ _).length_eq, List.length_zip, ← lz, Nat.min_self]
    exact hz
end
end EB
/-! EB67: sorted(xs, key=lambda p: e) as one rule of a context. -/
namespace EB
open PySem PySem.Spec PyProof.Rows L2 Evl PySem.W
/-- all stays but what stands at a table's address -/
def XT (T : List (Addr × Str)) (H H' : Hp) : Prop := ∀ b o, H b = some o → (∀ p ∈ T, p.1 ≠ b) → H' b = some o
theorem XT.no {T : List (Addr × Str)} {H : Hp} (t : LamX.Tabs T H) {b : Addr} {o : HO} (h : H b = some o) (nt : ∀ ps, o ≠ .tbl ps) : ∀ p ∈ T, p.1 ≠ b := fun p hp z => by
  obtain ⟨ps, e, _⟩ := t p hp
  rw [z, h] at e
  exact nt ps (Option.some.inj e)
theorem sqL_xt {K : PySem.W.Frag} {T : List (Addr × Str)} {H H' : Hp} {a : Addr} {xs : List V} (t : LamX.Tabs T H) (e : XT T H H') (h : SqL K H a xs) : SqL K H' a xs := by
  rcases h with (h | ⟨o, h⟩) | h
  · exact .inl (.inl (e _ _ h (XT.no t h fun _ z => by cases z)))
  · exact .inl (.inr ⟨o, e _ _ h (XT.no t h fun _ z => by cases z)⟩)
  · exact .inr h
theorem sqT_xt {K : PySem.W.Frag} {T : List (Addr × Str)} {H H' : Hp} {a : Addr} {xs : List V} (t : LamX.Tabs T H) (e : XT T H H') (h : SqT K H a xs) : SqT K H' a xs := by
  rcases h with (h | ⟨o, h⟩) | h
  · exact .inl (.inl (e _ _ h (XT.no t h fun _ z => by cases z)))
  · exact .inl (.inr ⟨o, e _ _ h (XT.no t h fun _ z => by cases z)⟩)
  · exact .inr h
/-- a lambda is made; every told object but the table stays -/
theorem lam_make3 {X : Cx} {pins : List (Addr × Obj)} {σ : L2.St} {H : Hp} {s : Shared} {T : List (Addr × Str)} {c P : Addr} {params : Arguments} {body : Expr} {scope : Scope} {pos : Pos} {E : Value → Shared → Prop} {Q : Value → Shared → Prop} (I : Inv X pins σ H s) (LO : LamOk X T c P)
    (hT : LamX.Tabs T H) (hdef : defaultsOf params X.env = ([], [])) (hfree : ∀ y ∈ scope.names, y.2 = .free → ∃ c, X.env.cells.lookup y.1 = some c)
    (h : ∀ (f c' : Addr) (pm ctv : Value) (H1 : Hp) (s' : Shared), Inv X pins σ H1 s' → XT T H H1 → LamX.Tabs T H1 →
      s'.heap.get? f = some (PySem.W.kla_obj "<lambda>" (X.env.qual ++ "<lambda>") params body scope (cloFrom X.env.cells scope.names []) pm c' ctv) → H1 f = none → f ∉ frs X.stack → H1 c' = some (LamX.CodeO c' (X.env.qual ++ "<lambda>")) → Q (.ref f) s') :
    wpAny (model X.prog X.w) X.A (eval (.Lambda params body scope pos) X.env) Q E s := by
  obtain ⟨ps, hP, ht, ha⟩ := hT _ LO.mem
  have kB := LO.tb.bm.keeps I.bk
  have kC := LO.tb.code.keeps I.bk
  have kG := I.mod.glob.keeps I.bk
  have atP : s.heap.get? P = some { cls := .none, data := .fields ps } := I.hok P _ hP
  have young : ∀ f, s.heap.objs.size ≤ f → f ∉ frs X.stack := fun f hf z => (List.mem_cons.mp (I.stkSub _ z)).elim (fun e => Nat.lt_irrefl _ (Nat.lt_of_lt_of_le (e ▸ I.lt) hf)) fun e => I.nofs hf e
  refine PySem.W.kla_eval hdef ?_
  cases hc : codeAmong pos ps.toList with
  | some cv =>
    obtain ⟨c', rfl, hco⟩ := ha pos cv hc
    exact PySem.W.kla_makeFunctionHit (mg := X.mg) (c := c) (P := P) (ps := ps) (closure_ok hfree) I.ok.glob kG LO.code kC atP ht hc kB fun ctv h' tk hx hsz =>
      h _ c' ((X.mg "__name__").getD .none) ctv H _ (I.kept fun b o e => Heap.get?_push_of_some _ (hx b o e)) (fun _ _ e _ => e) hT (Heap.get?_push_size _ rfl) (I.hok.fresh hsz) (young _ hsz) hco
  | none =>
    refine PySem.W.kla_makeFunction (mg := X.mg) (c := c) (P := P) (ps := ps) (closure_ok hfree) I.ok.glob kG LO.code kC atP ht hc LO.tb.gP kB fun c' ctv h' tk hx hge hlt hrec htb => ?_
    obtain ⟨_, oc, vs, t, e2, hoc, hd, hv⟩ := hrec
    cases e2
    have new : H c' = none := I.hok.fresh hge
    have nPc : P ≠ c' := ne_of_none hP new
    have big : s.heap.objs.size ≤ h'.objs.size := Nat.le_trans hge (Nat.le_of_lt hlt)
    have stays : ∀ b o, H b = some o → b ≠ P → upd (upd H P (.tbl (ps ++ #[rawInt pos.line, rawInt pos.col, .ref c']))) c' (LamX.CodeO c' (X.env.qual ++ "<lambda>")) b = some o := fun b o e n => by
      rw [upd_ne (ne_of_none e new), upd_ne n]
      exact e
    refine h h'.objs.size c' ((X.mg "__name__").getD .none) ctv _ _ (LamX.inv_table (t' := tk) (more := #[rawInt pos.line, rawInt pos.col, .ref c']) (q := X.env.qual ++ "<lambda>")
      (h' := h'.push (PySem.W.kla_obj "<lambda>" (X.env.qual ++ "<lambda>") params body scope (cloFrom X.env.cells scope.names []) ((X.mg "__name__").getD .none) c' ctv)) I hP
      (fun b o hb e => Heap.get?_push_of_some _ (hx b o hb e)) (Heap.get?_push_of_some _ htb) hge ⟨oc, vs, t, Heap.get?_push_of_some _ hoc, hd, hv⟩) (fun b o e n => stays b o e fun z => n _ LO.mem z.symm) (fun p hp => ?_) (Heap.get?_push_size _ rfl) ?_ (young _ big) upd_same
    · by_cases hb : p.1 = P
      · rw [LO.one p hp hb, hb]
        have eL : (ps ++ #[rawInt pos.line, rawInt pos.col, .ref c']).toList = ps.toList ++ [rawInt pos.line, rawInt pos.col, .ref c'] := by simp
        refine ⟨_, by rw [upd_ne nPc, upd_same], by rw [eL]; exact PySem.TriplesOk_snoc _ _ _ _ ht, fun p' cv hcv => ?_⟩
        rw [eL] at hcv
        rcases LamX.among_app _ ht hcv with z | z
        · obtain ⟨c0, e1, e2⟩ := ha p' cv z
          exact ⟨c0, e1, stays _ _ e2 fun z => by
            rw [z, hP] at e2
            exact LamX.codeO_ne ps (Option.some.inj e2).symm⟩
        · exact ⟨c', z, upd_same⟩
      · obtain ⟨ps', a1, a2, a3⟩ := hT p hp
        refine ⟨ps', stays _ _ a1 hb, a2, fun p' cv hcv => ?_⟩
        obtain ⟨c0, e1, e2⟩ := a3 p' cv hcv
        exact ⟨c0, e1, stays _ _ e2 fun z => by
          rw [z, hP] at e2
          exact LamX.codeO_ne ps (Option.some.inj e2).symm⟩
    · rw [upd_ne (Nat.ne_of_gt hlt), upd_ne (Nat.ne_of_gt (Nat.lt_of_lt_of_le (Heap.lt_size atP) big))]
      exact I.hok.fresh big
/-- the lambda is made, the keys come one after another -/
def tKeyed (K : PySem.W.Frag) (T : List (Addr × Str)) (q : Str) (i : Nat) (ws : List Nat) (tb : TE) (σ : L2.St) (xs : List V) (H : Hp) (Q : VK) : Prop :=
  LamX.Tabs T H ∧ ∀ H2, XT T H H2 → LamX.Tabs T H2 → keysT q i ws tb σ xs H2 (KeyEnds K xs Q)
def tSortL (K : PySem.W.Frag) (T : List (Addr × Str)) (q : Str) (i : Nat) (ws : List Nat) (te tb : TE) : TE := fun σ H Q => te σ H fun v H1 => ∃ a xs, v = .ref a ∧ (SqL K H1 a xs ∨ SqT K H1 a xs) ∧ tKeyed K T q i ws tb σ xs H1 Q
section
variable {X : Cx} {T : List (Addr × Str)} {c P : Addr} {k i : Nat} {ws : List Nat} {params : Arguments} {body : Expr} {scope : Scope} {p : Str} {e : Expr} {te tb : TE} {p1 lpos kp pos : Pos}
/-- a lambda as the only keyword, key -/
theorem keyed_args {pins : List (Addr × Obj)} {σ : L2.St} {H : Hp} {s : Shared} {vs : List Value} {xs : List V} {Q : VK} {R E : Value → Shared → Prop} (I : Inv X pins σ H s) (LO : LamOk X T c P) (L : LamS1 X.N X.env.scope scope p i ws) (hdef : defaultsOf params X.env = ([], []))
    (h : tKeyed X.K T (X.env.qual ++ "<lambda>") i ws tb σ xs H Q)
    (got : ∀ (f c' : Addr) (pm ctv : Value) (H2 : Hp) (s2 : Shared), Inv X pins σ H2 s2 → XT T H H2 → s2.heap.get? f = some (PySem.W.kla_obj "<lambda>" (X.env.qual ++ "<lambda>") params body scope (cloFrom X.env.cells scope.names []) pm c' ctv) → H2 f = none → f ∉ frs X.stack → H2 c' = some (LamX.CodeO c' (X.env.qual ++ "<lambda>")) →
      keysT (X.env.qual ++ "<lambda>") i ws tb σ xs H2 (KeyEnds X.K xs Q) → wpAny (model X.prog X.w) X.A (call (.builtin "sorted") vs [(Str.ofString "key", .ref f)]) R E s2) :
    wpAny (model X.prog X.w) X.A (evalAll ((backToKw pos (keywordEach [⟨some "key", .Lambda params body scope lpos, kp⟩] X.env)).map (·.2)))
      (fun kvs s2 => wpAny (model X.prog X.w) X.A (call (.builtin "sorted") vs (((backToKw pos (keywordEach [⟨some "key", .Lambda params body scope lpos, kp⟩] X.env)).filterMap (·.1)).zip kvs)) R E s2) E s := by
  obtain ⟨hT, h⟩ := h
  refine PyProof.Rows.kws_cons (lam_make3 I LO hT hdef (L.has I.ok) fun f c' pm ctv H2 s2 I2 eN T2 hf hfn hfr hco => PyProof.Rows.kws_nil ?_)
  exact got f c' pm ctv H2 s2 I2 eN hf hfn hfr hco (h H2 eN T2)
theorem pe_sortL (hg : Gl X "sorted") (hm : X.mg "sorted" = none) (ha : PE X e te) (LO : LamOk X T c P) (L : LamS1 X.N X.env.scope scope p i ws) (hdef : defaultsOf params X.env = ([], []))
    (hbind : ∀ (q : Str) (cl : List (Str × Addr)) (pm cv ctv : Value) (s : Shared) (u : Value), BindsTo s (PySem.W.kla_fn "<lambda>" q params body scope cl pm cv ctv) ⟨[u], []⟩ [(p, u)]) (hr : Room (k + 3) X.A)
    (hbody : ∀ (A : Around) (s : Shared) (H : Hp) (f c' : Addr), Room k (A.deeper (lamEv X scope s.heap.objs.size f c')) → PE (lam1Cx X A X.stack s H scope f c') body tb) (na : starEach [e] X.env = (false, eval e X.env) :: starEach [] X.env := by rfl) :
    PE X (.Call (.Name "sorted" p1) [e] [⟨some "key", .Lambda params body scope lpos, kp⟩] pos) (tSortL X.K T (X.env.qual ++ "<lambda>") i ws te tb) := by
  refine ⟨fun pins s σ H Q I h => ?_⟩
  refine wpAny_Call_Name_kw (ld_blt (u := .builtin "sorted") I hg hm (by decide +kernel) ?_ (by decide) (by decide))
  refine PyProof.Rows.callWith_kw (args_cons (thn (ha.run pins s σ H _ I h) fun v s1 ⟨x, H1, I1, r1, q1⟩ => args_nil ?_) na) (by rw [na]; rfl) (by rw [na]; rfl)
  obtain ⟨a, xs, rfl, hs, hk⟩ := q1
  obtain rfl : v = .ref a := r1
  refine keyed_args I1 LO L hdef hk fun f c' pm ctv H2 s2 I2 eN hf hfn hfr hco kt => ?_
  rcases hs with hs | hs
  · obtain ⟨its, rits, pl, hz⟩ := I2.list (sqL_xt hk.1 eN hs)
    exact keysT_run (G := fun vs => vs = its) I2 L hf hfn hfr hco (fun s u => hbind _ _ _ _ _ s u) hr (fun A s H r => hbody A s H f c' r)
      (fun R E' h => collect_list pl.isList (h _ s2.toks its (fun b o q => by
        rw [Heap.get?_update_ne _ _ _ _ (Nat.ne_of_lt (Heap.lt_size q))]
        exact Heap.get?_push_of_some _ q) rfl) (by rw [← rits.length]; exact hz)) (fun vs g => by rw [g]; exact ⟨rits, hz⟩) kt
  · obtain ⟨its, rits, pl, hz⟩ := I2.tuple (sqT_xt hk.1 eN hs)
    exact keysT_run (G := fun vs => vs = its) I2 L hf hfn hfr hco (fun s u => hbind _ _ _ _ _ s u) hr (fun A s H r => hbody A s H f c' r)
      (fun R E' h => collect_tup pl (by rw [← rits.length]; exact hz) (h _ s2.toks its (fun b o q => by
        rw [Heap.get?_update_ne _ _ _ _ (Nat.ne_of_lt (Heap.lt_size q))]
        exact Heap.get?_push_of_some _ q) rfl)) (fun vs g => by rw [g]; exact ⟨rits, hz⟩) kt
end
end EB
/-! EB68: sorted(xs, key=lambda p: e), what it gives: the items by what e gives of each, in order, stable. -/
namespace EB
open PySem PySem.Spec PyProof.Rows L2 Evl PySem.W
theorem dpAll_of {K : PySem.W.Frag} {F : Hp} {α : Type} {enc : α → PyData} : ∀ {zs : List (V × α)}, (∀ z ∈ zs, Dp K F z.1 (enc z.2)) → DpAll K F (zs.map (·.1)) (zs.map fun z => enc z.2)
  | [], _ => .nil
  | z :: zs, h => .cons (h z (List.mem_cons_self ..)) (dpAll_of fun y hy => h y (List.mem_cons_of_mem _ hy))
theorem byKeys_of {α : Type} (us : List V) (xs : List α) (key : α → PyData) (hl : us.length = xs.length) : ∃ zs : List (V × α), zs.Perm (us.zip xs) ∧ byKeys us (xs.map key) = zs.map (·.1) ∧ xs.mergeSort (dataLe false key) = zs.map (·.2) := by
  refine ⟨(us.zip xs).mergeSort fun a b => dataLe false key a.2 b.2, List.mergeSort_perm _ _, ?_, ?_⟩
  · have e : us.zip (xs.map key) = (us.zip xs).map fun z => (z.1, key z.2) := by rw [List.zip_map_right]; rfl
    rw [byKeys, e, ← List.map_mergeSort (r := fun a b : V × α => dataLe false key a.2 b.2) (s := dataLe false fun z : V × PyData => z.2) (f := fun z : V × α => (z.1, key z.2)) (fun a _ b _ => rfl), List.map_map]
    rfl
  · rw [List.map_mergeSort (s := dataLe false key) (fun a _ b _ => rfl), List.map_snd_zip (by omega)]
section
variable {K : PySem.W.Frag} {M : EC → Addr} {W : WX} {ps : Kn} {te tb : TE} {q : Str} {i : Nat} {ws : List Nat}
theorem keysT_tell [LT] {α : Type} {enc key : α → PyData} {W' : WX} {σ : L2.St} : ∀ (xs : List α) (us : List V) (F H : Hp) (R : List V → Hp → Prop), Fx F H → Sl F σ ps → DpAll K F us (xs.map enc) →
    (∀ x ∈ xs, JD K M W' tb ((wipeK ps ws).set i (some (dv K (enc x)))) (key x)) → (∀ ks F1 H1, Gr F H F1 H1 → DpAll K F1 ks (xs.map key) → R ks H1) → keysT q i ws tb σ us H R
  | [], _, F, H, R, fh, S, .nil, hs, k => k [] F H (Gr.refl fh) .nil
  | x :: xs, _, F, H, R, fh, S, .cons (v := v) p t, hs, k => by
    show tb (lamSt ws i v σ) H _
    refine (hs x (List.mem_cons_self ..)).go fh ((S.wipe ws).set i p) fun v1 F1 H1 e1 p1 => ⟨fun c hc => e1.hh.fn _ _ hc LamX.codeO_ne, ?_⟩
    refine keysT_tell xs _ F1 H1 _ e1.fh (S.mono e1.ff) (dpAll_mono e1.ff t) (fun y hy => hs y (List.mem_cons_of_mem _ hy)) fun ks F2 H2 e2 d2 => ?_
    exact k _ F2 H2 (e1.trans e2) (.cons (dp_mono e2.ff p1) d2)
theorem keyed_tell [LT] {α : Type} {enc key : α → PyData} {W' : WX} {σ : L2.St} {F H : Hp} {Q : VK} (xs : List α) (us : List V) (fh : Fx F H) (S : Sl F σ ps) (hd : DpAll K F us (xs.map enc))
    (hs : ∀ x ∈ xs, JD K M W' tb ((wipeK ps ws).set i (some (dv K (enc x)))) (key x)) (hal : AllAlike (xs.map key)) (hsk : Sortable (xs.map key)) (hdp : ∀ x ∈ xs, (key x).depth ≤ 60)
    (k : ∀ v F1 H1, Gr F H F1 H1 → (dv K (.list ((xs.mergeSort (dataLe false key)).map enc))).p F1 v → Q v H1) : tKeyed K LT.tabs q i ws tb σ us H Q := by
  refine ⟨fh.tb, fun H2 ex T2 => ?_⟩
  have g2 : Gr F H F H2 := ⟨Ex.refl _, Xh.by fh.tb T2 ex, fh.trans (Xh.by fh.tb T2 ex), fun _ _ h => h⟩
  refine keysT_tell xs us F H2 _ g2.fh S hd hs fun ks F3 H3 e3 d3 => ⟨xs.map key, dpAll_mono e3.fh.ex d3, hal, hsk, fun d hd => ?_, fun p hp => ?_⟩
  · obtain ⟨x, hx, rfl⟩ := List.mem_map.mp hd
    exact hdp x hx
  · have lu : us.length = xs.length := by
      have := dpLength hd
      rw [List.length_map] at this
      exact this
    obtain ⟨zs, hz, e1, e2⟩ := byKeys_of us xs key lu
    rw [e1]
    have n := Gr.new (o := .lst (zs.map (·.1))) e3.fh hp
    refine k _ _ _ ((g2.trans e3).trans n) ?_
    rw [e2, List.map_map]
    refine .lst (sq_of upd_same) (dpAll_of fun z hz2 => ?_)
    have hm := hz.mem_iff.mp hz2
    obtain ⟨j, hj⟩ := List.getElem?_of_mem hm
    obtain ⟨j1, j2⟩ := List.getElem?_zip_eq_some.mp hj
    obtain ⟨v, v1, v2⟩ := dpGet hd (i := j) (d := enc z.2) (by rw [List.getElem?_map, j2]; rfl)
    rw [j1] at v1
    cases v1
    exact dp_mono (e3.ff.trans n.ff) v2
/-- sorted(xs, key=lambda p: e) -/
theorem je_sortL [LT] {α : Type} (xs : List α) (enc key : α → PyData) {W' : WX} (h : JD K M W te ps (.list (xs.map enc))) (hs : ∀ x ∈ xs, JD K M W' tb ((wipeK ps ws).set i (some (dv K (enc x)))) (key x))
    (hal : AllAlike (xs.map key)) (hsk : Sortable (xs.map key)) (hdp : ∀ x ∈ xs, (key x).depth ≤ 60) : JD K M W (tSortL K LT.tabs q i ws te tb) ps (.list ((xs.mergeSort (dataLe false key)).map enc)) := fun σ F H Q fh S k => h.go fh S fun v F1 H1 e1 p => by
  obtain ⟨a, us, rfl, hx, hd⟩ := dp_lst p
  exact ⟨a, us, rfl, .inl (ex_l e1.fh.ex hx), keyed_tell xs us e1.fh (S.mono e1.ff) hd hs hal hsk hdp fun v F2 H2 e2 p2 => k v F2 H2 (e1.trans e2) p2⟩
/-- keys that are ints -/
theorem dataLe_int {α : Type} (g : α → Int) : dataLe false (fun x => PyData.int (g x)) = fun x y => decide (g x ≤ g y) := by
  funext x y
  show (!dLt (.int (g y)) (.int (g x))) = _
  rw [dLt_int]
  by_cases h : g x ≤ g y
  · rw [decide_eq_true h, decide_eq_false (by omega)]; rfl
  · rw [decide_eq_false h, decide_eq_true (by omega)]; rfl
theorem alike_ints {α : Type} (xs : List α) (g : α → Int) : AllAlike (xs.map fun x => PyData.int (g x)) := fun d hd d' hd' => by
  obtain ⟨x, _, rfl⟩ := List.mem_map.mp hd
  obtain ⟨y, _, rfl⟩ := List.mem_map.mp hd'
  rfl
theorem sortable_ints {α : Type} (xs : List α) (g : α → Int) : Sortable (xs.map fun x => PyData.int (g x)) := .inr fun d hd => by
  obtain ⟨x, _, rfl⟩ := List.mem_map.mp hd
  exact ⟨(nomatch ·), fun _ z => nomatch z⟩
theorem je_sortLI [LT] {α : Type} (xs : List α) (enc : α → PyData) (g : α → Int) {W' : WX} (h : JD K M W te ps (.list (xs.map enc))) (hs : ∀ x ∈ xs, JD K M W' tb ((wipeK ps ws).set i (some (dv K (enc x)))) (.int (g x))) :
    JD K M W (tSortL K LT.tabs q i ws te tb) ps (.list ((xs.mergeSort fun x y => decide (g x ≤ g y)).map enc)) := by
  rw [← dataLe_int g]
  exact je_sortL xs enc (fun x => .int (g x)) h hs (alike_ints xs g) (sortable_ints xs g) fun _ _ => Nat.zero_le _
end
end EB
/-! EB69: the end of a law's row where defs make lambdas: their tables are told, empty at the start. -/
namespace EB
open PySem PySem.Spec PyProof.Rows L2 Evl PySem.W
/-- a def that makes lambdas: its code, its table, its name -/
structure Mkr where
  c : Addr
  P : Addr
  q : Str
def tabsOf (ms : List Mkr) : List (Addr × Str) := ms.map fun m => (m.P, m.q)
/-- what the makers' tables are known for at the law's head -/
structure MkrAt (K : PySem.W.Frag) (h : Heap) (m : Mkr) : Prop where
  empty : h.get? m.P = some { cls := .none, data := .fields #[] }
  off : K.lookup m.P = none
  code : PySem.W.CodeHd h m.c m.P
theorem mkr_at {p : Program} {loose : List Str} {mean : ExcName → Option Value} {mg mb : Str → Option Value} {h : Heap} {K : PySem.W.Frag} {d : DefRec} {x : Str} {c P : Addr} {q : Str} (T : Top p loose mean mg mb h) (X : K.In h) (hr : (recsOf p).find? (fun e => e.name == x) = some d) (ht : PySem.W.tabIn K x = some (c, P)) (off : K.lookup P = none) : MkrAt K h ⟨c, P, q⟩ :=
  ⟨(PySem.W.tab_of T X hr ht).2, off, (PySem.W.tab_of T X hr ht).1⟩
/-- what is known of the law's promise at the head's heap h -/
def LawAtT (l : PySem.W.OpenLaw) (w : World) (K : PySem.W.Frag) (CX : CXT) (k n : Nat) (x : Str) (mg : Str → Option Value) (fa : Addr) (h : Heap) : Prop :=
  ∃ (fd : FuncData) (ms : List Mkr) (sp : Sp), (∀ m ∈ ms, MkrAt K h m) ∧ (∀ (s : Shared) (u : Value), BindsTo s fd ⟨[u], []⟩ [(x, u)]) ∧
    (∀ (H : Hp) (a : Addr) (ns : List Int), ns.length ≤ n → (∀ m ∈ ms, H m.P = some (.tbl #[])) → SqL K H a (ns.map V.int) → sp [.ref a] H (fun v _ => v = .bl true) fun _ _ _ => False) ∧
    ∀ base : Heap, K.In base → base.Ns mainGlobals mg → (∀ m ∈ ms, LamX.TabB base mg m.c m.P) → FnOk l.prog w K mg base CX k fa fd [x] sp
theorem walk_ofT {l : PySem.W.OpenLaw} {n k : Nat} {q : Program} {loose : List Str} {XP : (Str → Option Value) → Heap → Prop} {YP : World → Heap → Prop} {d : DefRec} {K : Params → PySem.W.Frag} {CX : World → CXT} {x : Str}
    (hn : l.most = some n) (hn2 : n ≤ sizeLine) (hdf : d.params.defaults = []) (hr : Room k callerA) (hY : ∀ (w : World) (h : Heap), YP w h → (K w.params).In h)
    (F : ∀ (w : World) (mean : ExcName → Option Value) (mg mb : Str → Option Value) (fa : Addr) (h : Heap), (K w.params).In h → Top q (PySem.W.looseW q loose) mean mg mb h → XP mg h → mg d.name = some (.ref fa) → LawAtT l w (K w.params) (CX w) k n x mg fa h)
    (hCX : ∀ (w : World) (H : Hp) (s : Shared) (e : Value) (s' : Shared), CX w [] H s (fun _ _ _ => False) e s' → False) :
    PySem.W.WalkO q loose XP YP l.row.toRowW d [] (fun f vs => PySem.call f vs) := by
  refine Att.attach_callB hn hdf fun w t0 t1 mg mb fa o pm cd doc a us ns G Y ho hd hcd hmg scr isI hlen _ nog => ?_
  have kin := hY w _ Y
  obtain ⟨fd, ms, sp, mk, bd, want, FF⟩ := F w _ mg mb fa _ kin G.T G.X hmg
  have back : ∀ {R : Addr → Addr → Prop}, (∀ p ∈ ms.map fun m => (m.c, m.P), R p.1 p.2) → ∀ m ∈ ms, R m.c m.P := fun {R} h m hm => h _ (List.mem_map.mpr ⟨m, hm, rfl⟩)
  have each : ∀ {R : Addr → Addr → Prop}, (∀ m ∈ ms, R m.c m.P) → ∀ p ∈ ms.map (fun m => (m.c, m.P)), R p.1 p.2 := fun {R} h p hp => by
    obtain ⟨m, hm, rfl⟩ := List.mem_map.mp hp
    exact h m hm
  exact LamX.law_callTs (cs := ms.map fun m => (m.c, m.P)) kin G.T.g G.T.b G.T.builtins G.T.nolimit nog (each (R := fun _ P => t1.heap.get? P = _) fun m hm => (mk m hm).empty) (each (R := fun _ P => (K w.params).lookup P = none) fun m hm => (mk m hm).off)
    (each (R := fun c P => PySem.W.CodeHd t1.heap c P) fun m hm => (mk m hm).code) G.T.bmain scr isI (Nat.le_trans hlen hn2) hr (fun base kb nb tb => FF base kb nb (back (R := fun c P => LamX.TabB base mg c P) tb)) bd
    (fun H hT hS => want H a ns hlen (back (R := fun _ P => H P = _) hT) hS) fun H e s' z => hCX w H t1 e s' z
end EB
/-! EB70: what the makers' names say to the rules. -/
namespace EB
open PySem PySem.Spec PyProof.Rows L2 Evl PySem.W
/-- the maker m is among the tables, its table the base knows -/
structure LK [LT] (mg : Str → Option Value) (base : Heap) (m : Mkr) : Prop where
  tb : LamX.TabB base mg m.c m.P
  mem : (m.P, m.q) ∈ LT.tabs
  one : ∀ p ∈ LT.tabs, p.1 = m.P → p.2 = m.q
theorem lk_ok [LT] {X : Cx} {m : Mkr} (k : LK X.mg X.base m) (hc : X.env.code = .ref m.c) (hq : m.q = X.env.qual ++ "<lambda>") : LamOk X LT.tabs m.c m.P := ⟨k.tb, hc, hq ▸ k.mem, fun p hp e => hq ▸ k.one p hp e⟩
/-- a def of the text that makes lambdas: its code is told -/
theorem _root_.L2.Fun.okXL {P : Program} {w : World} {K : PySem.W.Frag} {mg : Str → Option Value} {base : Heap} {nx ql : Str} {st : Stmt} {f c : Addr} {fd : FuncData} {N nps : List Str} {j : Nat} {sp : Sp} (F : Fun K nx ql st f fd) (hcd : fd.code = .ref c) (S : FnScope N nps (defScope st))
    (size : ∀ vs H Q E, sp vs H Q E → vs.length = nps.length) (body : ∀ (cc : Value) (_ : cc = .ref c) (A : Around) (outer : List Env) (s : Shared) (H : Hp) (vs : List V) (Q : VK) (E : XK), Room j (A.deeper (envOfC ql (defScope st) s.heap.objs.size f cc)) → sp vs H Q E →
      ∃ t, PSs (cxOf (L2N.CX P w) P w K mg base N ql (defScope st) f cc A outer s H E) (defBody st) t ∧ t { nx := fun _ H' => Q .non H', rt := Q } (start N vs) H) : FnOk P w K mg base (L2N.CX P w) (j + 1) f fd nps sp := by
  obtain ⟨_, _, _, _, _, _, _, _, _, rfl, lk, hc⟩ := F.ex
  exact fn_of lk hc S size fun A outer s H vs Q E hr want => body _ hcd A outer s H vs Q E hr want
/-- what is told at a law's start: all but the tables -/
def noTab [LT] (H : Hp) : Hp := fun b => if b ∈ LT.tabs.map (·.1) then none else H b
theorem fx_start [LT] {H : Hp} (T : LamX.Tabs LT.tabs H) : Fx (noTab H) H := ⟨fun b o h => by
  unfold noTab at h
  split at h
  · cases h
  · exact h, fun p hp => if_pos (List.mem_map.mpr ⟨p, hp, rfl⟩), T⟩
theorem sqL_start [LT] {K : PySem.W.Frag} {H : Hp} {a : Addr} {xs : List V} (T : LamX.Tabs LT.tabs H) (h : SqL K H a xs) : SqL K (noTab H) a xs := by
  have off : ∀ {o : HO}, H a = some o → (∀ ps, o ≠ .tbl ps) → noTab H a = some o := fun {o} e n => (if_neg fun z => by
    obtain ⟨p, hp, rfl⟩ := List.mem_map.mp z
    exact XT.no T e n p hp rfl).trans e
  rcases h with (h | ⟨o, h⟩) | h
  · exact .inl (.inl (off h fun _ z => by cases z))
  · exact .inl (.inr ⟨o, off h fun _ z => by cases z⟩)
  · exact .inr h
theorem tabs_start {H : Hp} {ms : List Mkr} (h : ∀ m ∈ ms, H m.P = some (.tbl #[])) : LamX.Tabs (tabsOf ms) H := fun p hp => by
  obtain ⟨m, hm, rfl⟩ := List.mem_map.mp hp
  exact LamX.TabS.nil (h m hm)
/-- the scope of the lambda by which a sorted(..) sorts -/
def lamOfE : Expr → Option Scope
  | .Call _ _ [⟨_, .Lambda _ _ sc _, _⟩] _ => some sc
  | .List [e] _ => lamOfE e
  | _ => none
def lamScope : List Stmt → Scope
  | [] => ⟨.function, [], false, false, []⟩
  | .Return (some e) _ :: r => (lamOfE e).getD (lamScope r)
  | .Assign _ e _ :: r => (lamOfE e).getD (lamScope r)
  | _ :: r => lamScope r
end EB
/-! EB71: the makers' codes and tables, read off the head. -/
namespace EB
open PySem PySem.Spec PyProof.Rows L2 Evl PySem.W
def tabC (K : PySem.W.Frag) (x : Str) : Addr := match PySem.W.tabIn K x with | some p => p.1 | none => 0
def tabP (K : PySem.W.Frag) (x : Str) : Addr := match PySem.W.tabIn K x with | some p => p.2 | none => 0
theorem code_at {K : PySem.W.Frag} {h : Heap} {mg : Str → Option Value} (X : K.In h) (G : h.Ns mainGlobals mg) {x : Str} {c P fa : Addr} {o : Obj} {fd : FuncData} (ht : PySem.W.tabIn K x = some (c, P)) (hm : mg x = some (.ref fa)) (l : K.lookup fa = some o) (hd : o.data = .func fd) : fd.code = .ref c := PySem.W.law_code X G ht hm (X _ _ l) hd
/-- what the head says of a maker -/
structure MkrIn (K : PySem.W.Frag) (x : Str) (m : Mkr) : Prop where
  tab : PySem.W.tabIn K x = some (m.c, m.P)
  off : K.lookup m.P = none
theorem MkrIn.at {p : Program} {loose : List Str} {mean : ExcName → Option Value} {mg mb : Str → Option Value} {h : Heap} {K : PySem.W.Frag} {x : Str} {m : Mkr} (I : MkrIn K x m) (T : Top p loose mean mg mb h) (X : K.In h) (hr : ((recsOf p).find? fun e => e.name == x).isSome = true) : MkrAt K h m := by
  obtain ⟨d, hd⟩ := Option.isSome_iff_exists.mp hr
  exact mkr_at T X hd I.tab I.off
theorem mkrs_cons {K : PySem.W.Frag} {h : Heap} {m : Mkr} {ms : List Mkr} (a : MkrAt K h m) (b : ∀ x ∈ ms, MkrAt K h x) : ∀ x ∈ m :: ms, MkrAt K h x := List.forall_mem_cons.mpr ⟨a, b⟩
/-- the tables are apart -/
theorem lk_of {mg : Str → Option Value} {base : Heap} {ms : List Mkr} (ap : ms.Pairwise fun a b => a.P ≠ b.P) (tb : ∀ m ∈ ms, LamX.TabB base mg m.c m.P) {m : Mkr} (h : m ∈ ms) : @LK ⟨tabsOf ms⟩ mg base m := by
  letI : LT := ⟨tabsOf ms⟩
  refine ⟨tb m h, List.mem_map.mpr ⟨m, h, rfl⟩, fun p hp e => ?_⟩
  obtain ⟨n, hn, rfl⟩ := List.mem_map.mp hp
  have one : n = m := by
    clear tb hp
    induction ms with
    | nil => cases h
    | cons a r ih =>
      obtain ⟨h1, h2⟩ := List.pairwise_cons.mp ap
      rcases List.mem_cons.mp h with rfl | hm
      · rcases List.mem_cons.mp hn with rfl | hn
        · rfl
        · exact absurd e.symm (h1 n hn)
      · rcases List.mem_cons.mp hn with rfl | hn
        · exact absurd e (h1 m hm)
        · exact ih h2 hm hn
  rw [one]
theorem law_atT {l : PySem.W.OpenLaw} {w : World} {K : PySem.W.Frag} {CX : CXT} {k n : Nat} {x : Str} {mg : Str → Option Value} {fa : Addr} {h : Heap} (ms : List Mkr) (sp : LT → Sp) {fd : FuncData} (mk : ∀ m ∈ ms, MkrAt K h m) (ap : ms.Pairwise fun a b => a.P ≠ b.P) (bd : ∀ (s : Shared) (u : Value), BindsTo s fd ⟨[u], []⟩ [(x, u)])
    (st : ∀ (L : LT) (H : Hp) (a : Addr) (ns : List Int), ns.length ≤ n → LamX.Tabs L.tabs H → SqL K H a (ns.map V.int) → sp L [.ref a] H (fun v _ => v = .bl true) fun _ _ _ => False)
    (F : ∀ base : Heap, (∀ m ∈ ms, @LK ⟨tabsOf ms⟩ mg base m) → FnOk l.prog w K mg base CX k fa fd [x] (sp ⟨tabsOf ms⟩)) : LawAtT l w K CX k n x mg fa h :=
  ⟨fd, ms, sp ⟨tabsOf ms⟩, mk, bd, fun H a ns hl ht hs => st _ H a ns hl (tabs_start ht) hs, fun base _ _ tb => F base fun m hm => lk_of ap tb hm⟩
end EB
namespace DC
section
variable {α β : Type}
/-- sums over a list -/
def S (xs : List α) (f : α → Nat) : Nat := (xs.map f).sum
variable [DecidableEq α]
variable {xs : List α} {g : α → α → α → Bool}
def lf (xs : List α) (g : α → α → α → Bool) (p q : α) : Nat := S xs fun r => if g p q r = true then 1 else 0
def T (xs : List α) (g : α → α → α → Bool) (j : Nat) : Nat := S xs fun p => S xs fun q => if p ≠ q ∧ lf xs g p q = j then 1 else 0
end
end DC
namespace K07
open PySem PySem.Spec PyProof.Rows L2 Evl EB
def topS (i : Nat) : Stmt := PySem.Challenge.pw_everybowl_k07_lefts_of_lines.main.body.getD i (.Pass ⟨0, 0, 0, 0⟩)
abbrev s_Repeated : Stmt := inClass (topS 6) 0
theorem sc_Repeated : FnScope ["self", "number"] ["self", "number"] (defScope s_Repeated) := ⟨rfl, rfl, rfl, by decide +kernel, rfl, by decide +kernel, by decide +kernel⟩
abbrev s_NoPoint : Stmt := inClass (topS 5) 0
theorem sc_NoPoint : FnScope ["self", "number"] ["self", "number"] (defScope s_NoPoint) := ⟨rfl, rfl, rfl, by decide +kernel, rfl, by decide +kernel, by decide +kernel⟩
abbrev s_OnLine : Stmt := inClass (topS 7) 0
theorem sc_OnLine : FnScope ["self", "numbers"] ["self", "numbers"] (defScope s_OnLine) := ⟨rfl, rfl, rfl, by decide +kernel, rfl, by decide +kernel, by decide +kernel⟩
abbrev s_TooFar : Stmt := inClass (topS 4) 0
theorem sc_TooFar : FnScope ["self", "value"] ["self", "value"] (defScope s_TooFar) := ⟨rfl, rfl, rfl, by decide +kernel, rfl, by decide +kernel, by decide +kernel⟩
abbrev s_WrongCount : Stmt := inClass (topS 3) 0
theorem sc_WrongCount : FnScope ["self", "count"] ["self", "count"] (defScope s_WrongCount) := ⟨rfl, rfl, rfl, by decide +kernel, rfl, by decide +kernel, by decide +kernel⟩
abbrev s__law_whole : Stmt := topS 33
abbrev N__law_whole : List Str := ["thing"]
theorem sc__law_whole : FnScope N__law_whole ["thing"] (defScope s__law_whole) := ⟨rfl, rfl, rfl, by decide +kernel, rfl, by decide +kernel, by decide +kernel⟩
abbrev s_bare_area : Stmt := topS 18
abbrev N_bare_area : List Str := ["p", "q", "r"]
theorem sc_bare_area : FnScope N_bare_area ["p", "q", "r"] (defScope s_bare_area) := ⟨rfl, rfl, rfl, by decide +kernel, rfl, by decide +kernel, by decide +kernel⟩
abbrev s_check_number : Stmt := topS 11
abbrev N_check_number : List Str := ["number", "n"]
theorem sc_check_number : FnScope N_check_number ["number", "n"] (defScope s_check_number) := ⟨rfl, rfl, rfl, by decide +kernel, rfl, by decide +kernel, by decide +kernel⟩
abbrev s_check_numbers : Stmt := topS 12
abbrev N_check_numbers : List Str := ["numbers", "n", "place", "number"]
theorem sc_check_numbers : FnScope N_check_numbers ["numbers", "n"] (defScope s_check_numbers) := ⟨rfl, rfl, rfl, by decide +kernel, rfl, by decide +kernel, by decide +kernel⟩
abbrev s_Floor_left_of : Stmt := inClass (topS 20) 12
abbrev N_Floor_left_of : List Str := ["self", "a", "b", "start", "end", "c", "point"]
theorem sc_Floor_left_of : FnScope N_Floor_left_of ["self", "a", "b"] (defScope s_Floor_left_of) := ⟨rfl, rfl, rfl, by decide +kernel, rfl, by decide +kernel, by decide +kernel⟩
abbrev s_in_order : Stmt := topS 26
abbrev N_in_order : List Str := ["floor", "number", "half", "c", "d"]
abbrev ls_in_order : Scope := lamScope (defBody s_in_order)
theorem sc_in_order : FnScope N_in_order ["floor", "number", "half"] (defScope s_in_order) := ⟨rfl, rfl, rfl, by decide +kernel, rfl, by decide +kernel, by decide +kernel⟩
abbrev s_others : Stmt := topS 23
abbrev N_others : List Str := ["n", "number", "k"]
theorem sc_others : FnScope N_others ["n", "number"] (defScope s_others) := ⟨rfl, rfl, rfl, by decide +kernel, rfl, by decide +kernel, by decide +kernel⟩
abbrev s_Floor___len__ : Stmt := inClass (topS 20) 5
abbrev N_Floor___len__ : List Str := ["self"]
theorem sc_Floor___len__ : FnScope N_Floor___len__ ["self"] (defScope s_Floor___len__) := ⟨rfl, rfl, rfl, by decide +kernel, rfl, by decide +kernel, by decide +kernel⟩
abbrev s_round_point : Stmt := topS 25
abbrev N_round_point : List Str := ["floor", "number", "n", "first", "left", "right"]
theorem sc_round_point : FnScope N_round_point ["floor", "number"] (defScope s_round_point) := ⟨rfl, rfl, rfl, by decide +kernel, rfl, by decide +kernel, by decide +kernel⟩
abbrev s__law_told : Stmt := topS 34
abbrev N__law_told : List Str := ["name", "floor", "one", "two", "got", "e", "alone", "kept", "number"]
theorem sc__law_told : FnScope N__law_told ["name", "floor", "one", "two"] (defScope s__law_told) := ⟨rfl, rfl, rfl, by decide +kernel, rfl, by decide +kernel, by decide +kernel⟩
abbrev s__law_area : Stmt := topS 30
abbrev N__law_area : List Str := ["p", "q", "r", "first", "second", "third"]
theorem sc__law_area : FnScope N__law_area ["p", "q", "r"] (defScope s__law_area) := ⟨rfl, rfl, rfl, by decide +kernel, rfl, by decide +kernel, by decide +kernel⟩
abbrev s__law_left_due : Stmt := topS 35
abbrev N__law_left_due : List Str := ["points", "one", "two", "number", "p", "q", "left", "k", "r"]
theorem sc__law_left_due : FnScope N__law_left_due ["points", "one", "two"] (defScope s__law_left_due) := ⟨rfl, rfl, rfl, by decide +kernel, rfl, by decide +kernel, by decide +kernel⟩
abbrev s__law_cell : Stmt := topS 28
abbrev N__law_cell : List Str := ["cells", "place"]
theorem sc__law_cell : FnScope N__law_cell ["cells", "place"] (defScope s__law_cell) := ⟨rfl, rfl, rfl, by decide +kernel, rfl, by decide +kernel, by decide +kernel⟩
abbrev s__law_between : Stmt := topS 37
abbrev N__law_between : List Str := ["p", "u", "v", "w"]
theorem sc__law_between : FnScope N__law_between ["p", "u", "v", "w"] (defScope s__law_between) := ⟨rfl, rfl, rfl, by decide +kernel, rfl, by decide +kernel, by decide +kernel⟩
abbrev s__law_round_holds : Stmt := topS 38
abbrev N__law_round_holds : List Str := ["floor", "points", "number", "others_v", "k", "answer", "order", "p", "u", "v", "other", "w"]
theorem sc__law_round_holds : FnScope N__law_round_holds ["floor", "points", "number"] (defScope s__law_round_holds) := ⟨rfl, rfl, rfl, by decide +kernel, rfl, by decide +kernel, by decide +kernel⟩
abbrev s__law_lefts_hold : Stmt := topS 36
abbrev N__law_lefts_hold : List Str := ["floor", "points", "a", "b", "due", "k", "back", "others_v"]
theorem sc__law_lefts_hold : FnScope N__law_lefts_hold ["floor", "points"] (defScope s__law_lefts_hold) := ⟨rfl, rfl, rfl, by decide +kernel, rfl, by decide +kernel, by decide +kernel⟩
abbrev s_first_behind : Stmt := topS 15
abbrev N_first_behind : List Str := ["part"]
theorem sc_first_behind : FnScope N_first_behind ["part"] (defScope s_first_behind) := ⟨rfl, rfl, rfl, by decide +kernel, rfl, by decide +kernel, by decide +kernel⟩
abbrev s_subset_list : Stmt := topS 14
abbrev N_subset_list : List Str := ["n", "size", "found", "_", "part", "k"]
theorem sc_subset_list : FnScope N_subset_list ["n", "size"] (defScope s_subset_list) := ⟨rfl, rfl, rfl, by decide +kernel, rfl, by decide +kernel, by decide +kernel⟩
abbrev s_check_turns : Stmt := topS 22
abbrev N_check_turns : List Str := ["points", "a", "b", "c"]
theorem sc_check_turns : FnScope N_check_turns ["points"] (defScope s_check_turns) := ⟨rfl, rfl, rfl, by decide +kernel, rfl, by decide +kernel, by decide +kernel⟩
abbrev s_check_range : Stmt := topS 10
abbrev N_check_range : List Str := ["value", "least", "most"]
theorem sc_check_range : FnScope N_check_range ["value", "least", "most"] (defScope s_check_range) := ⟨rfl, rfl, rfl, by decide +kernel, rfl, by decide +kernel, by decide +kernel⟩
abbrev s_check_point : Stmt := topS 21
abbrev N_check_point : List Str := ["point", "value"]
theorem sc_check_point : FnScope N_check_point ["point"] (defScope s_check_point) := ⟨rfl, rfl, rfl, by decide +kernel, rfl, by decide +kernel, by decide +kernel⟩
abbrev s_check_count : Stmt := topS 9
abbrev N_check_count : List Str := ["members", "least", "most"]
theorem sc_check_count : FnScope N_check_count ["members", "least", "most"] (defScope s_check_count) := ⟨rfl, rfl, rfl, by decide +kernel, rfl, by decide +kernel, by decide +kernel⟩
abbrev s_Floor___init__ : Stmt := inClass (topS 20) 3
abbrev N_Floor___init__ : List Str := ["self", "points", "point"]
theorem sc_Floor___init__ : FnScope N_Floor___init__ ["self", "points"] (defScope s_Floor___init__) := ⟨rfl, rfl, rfl, by decide +kernel, rfl, by decide +kernel, by decide +kernel⟩
abbrev s__law_made : Stmt := topS 32
abbrev N__law_made : List Str := ["points", "floor", "e", "alone"]
theorem sc__law_made : FnScope N__law_made ["points"] (defScope s__law_made) := ⟨rfl, rfl, rfl, by decide +kernel, rfl, by decide +kernel, by decide +kernel⟩
abbrev s__law_refusal : Stmt := topS 31
abbrev N__law_refusal : List Str := ["points", "p", "value", "a", "b", "c"]
theorem sc__law_refusal : FnScope N__law_refusal ["points"] (defScope s__law_refusal) := ⟨rfl, rfl, rfl, by decide +kernel, rfl, by decide +kernel, by decide +kernel⟩
abbrev s__law_drawn : Stmt := topS 29
abbrev N__law_drawn : List Str := ["cells", "many", "wide", "across", "up", "points", "k", "c", "x", "y"]
theorem sc__law_drawn : FnScope N__law_drawn ["cells", "many", "wide"] (defScope s__law_drawn) := ⟨rfl, rfl, rfl, by decide +kernel, rfl, by decide +kernel, by decide +kernel⟩
abbrev s_law : Stmt := topS 39
abbrev N_law : List Str := ["script", "cells", "c", "many", "points", "due", "floor", "number", "menu", "pairs", "size", "one", "two"]
theorem sc_law : FnScope N_law ["script"] (defScope s_law) := ⟨rfl, rfl, rfl, by decide +kernel, rfl, by decide +kernel, by decide +kernel⟩
/-- what the top has written -/
structure Tx (K : PySem.W.Frag) (mg : Str → Option Value) where
  a_Repeated : Addr
  i_Repeated : Addr
  fd_Repeated : FuncData
  g_Repeated : mg "Repeated" = some (.ref a_Repeated)
  X_Repeated : ErT K a_Repeated i_Repeated "number"
  F_Repeated : Fun K "__init__" "Repeated.__init__" s_Repeated i_Repeated fd_Repeated
  a_NoPoint : Addr
  i_NoPoint : Addr
  fd_NoPoint : FuncData
  g_NoPoint : mg "NoPoint" = some (.ref a_NoPoint)
  X_NoPoint : ErT K a_NoPoint i_NoPoint "number"
  F_NoPoint : Fun K "__init__" "NoPoint.__init__" s_NoPoint i_NoPoint fd_NoPoint
  a_OnLine : Addr
  i_OnLine : Addr
  fd_OnLine : FuncData
  g_OnLine : mg "OnLine" = some (.ref a_OnLine)
  X_OnLine : ErT K a_OnLine i_OnLine "numbers"
  F_OnLine : Fun K "__init__" "OnLine.__init__" s_OnLine i_OnLine fd_OnLine
  a_TooFar : Addr
  i_TooFar : Addr
  fd_TooFar : FuncData
  g_TooFar : mg "TooFar" = some (.ref a_TooFar)
  X_TooFar : ErT K a_TooFar i_TooFar "value"
  F_TooFar : Fun K "__init__" "TooFar.__init__" s_TooFar i_TooFar fd_TooFar
  a_WrongCount : Addr
  i_WrongCount : Addr
  fd_WrongCount : FuncData
  g_WrongCount : mg "WrongCount" = some (.ref a_WrongCount)
  X_WrongCount : ErT K a_WrongCount i_WrongCount "count"
  F_WrongCount : Fun K "__init__" "WrongCount.__init__" s_WrongCount i_WrongCount fd_WrongCount
  a_BowlError : Addr
  g_BowlError : mg "BowlError" = some (.ref a_BowlError)
  a_Floor : Addr
  mc_Floor : Value
  g_Floor : mg "Floor" = some (.ref a_Floor)
  C_Floor : Cls K a_Floor
  cr_Floor : ClX.CRead K a_Floor mc_Floor
  n_Floor_points : NoAttr K a_Floor "points"
  u_Floor_LEAST : Value
  cv_Floor_LEAST : ClX.CVal K a_Floor mc_Floor "LEAST" (.int 3) u_Floor_LEAST
  u_Floor_MOST : Value
  cv_Floor_MOST : ClX.CVal K a_Floor mc_Floor "MOST" (.int 10) u_Floor_MOST
  u_Floor_FAR : Value
  cv_Floor_FAR : ClX.CVal K a_Floor mc_Floor "FAR" (.int 1000000) u_Floor_FAR
  ca_Floor : PySem.W.findIn K (.ref a_Floor) "__class__" = some (some (.builtin "object.__class__"))
  mo_Floor : PySem.W.mroIn K a_Floor (.type "object") = some true
  ki_Floor : PySem.W.kitOne K (.ref a_Floor) (.ref a_Floor) = some true
  gn : PySem.W.specialIn K (.builtin "object.__class__") "__get__" = some (some (.builtin "getset_descriptor.__get__"))
  tkc : PySem.W.takesIn K (.builtin "object.__class__") = some true
  a__law_whole : Addr
  fd__law_whole : FuncData
  F__law_whole : Fun K "_law_whole" "_law_whole" s__law_whole a__law_whole fd__law_whole
  g__law_whole : mg "_law_whole" = some (.ref a__law_whole)
  a_bare_area : Addr
  fd_bare_area : FuncData
  F_bare_area : Fun K "bare_area" "bare_area" s_bare_area a_bare_area fd_bare_area
  g_bare_area : mg "bare_area" = some (.ref a_bare_area)
  a_check_number : Addr
  fd_check_number : FuncData
  F_check_number : Fun K "check_number" "check_number" s_check_number a_check_number fd_check_number
  g_check_number : mg "check_number" = some (.ref a_check_number)
  a_check_numbers : Addr
  fd_check_numbers : FuncData
  F_check_numbers : Fun K "check_numbers" "check_numbers" s_check_numbers a_check_numbers fd_check_numbers
  g_check_numbers : mg "check_numbers" = some (.ref a_check_numbers)
  a_Floor_left_of : Addr
  fd_Floor_left_of : FuncData
  F_Floor_left_of : Fun K "left_of" "Floor.left_of" s_Floor_left_of a_Floor_left_of fd_Floor_left_of
  m_Floor_left_of : Meth K a_Floor "left_of" a_Floor_left_of
  a_in_order : Addr
  fd_in_order : FuncData
  F_in_order : Fun K "in_order" "in_order" s_in_order a_in_order fd_in_order
  mk_in_order : Mkr
  ce_in_order : fd_in_order.code = .ref mk_in_order.c
  mq_in_order : mk_in_order.q = (("in_order" : Str) ++ ".<locals>.") ++ "<lambda>"
  g_in_order : mg "in_order" = some (.ref a_in_order)
  a_others : Addr
  fd_others : FuncData
  F_others : Fun K "others" "others" s_others a_others fd_others
  g_others : mg "others" = some (.ref a_others)
  a_Floor___len__ : Addr
  fd_Floor___len__ : FuncData
  F_Floor___len__ : Fun K "__len__" "Floor.__len__" s_Floor___len__ a_Floor___len__ fd_Floor___len__
  m_Floor___len__ : Meth K a_Floor "__len__" a_Floor___len__
  a_round_point : Addr
  fd_round_point : FuncData
  F_round_point : Fun K "round_point" "round_point" s_round_point a_round_point fd_round_point
  g_round_point : mg "round_point" = some (.ref a_round_point)
  a__law_told : Addr
  fd__law_told : FuncData
  F__law_told : Fun K "_law_told" "_law_told" s__law_told a__law_told fd__law_told
  g__law_told : mg "_law_told" = some (.ref a__law_told)
  a__law_area : Addr
  fd__law_area : FuncData
  F__law_area : Fun K "_law_area" "_law_area" s__law_area a__law_area fd__law_area
  g__law_area : mg "_law_area" = some (.ref a__law_area)
  a__law_left_due : Addr
  fd__law_left_due : FuncData
  F__law_left_due : Fun K "_law_left_due" "_law_left_due" s__law_left_due a__law_left_due fd__law_left_due
  g__law_left_due : mg "_law_left_due" = some (.ref a__law_left_due)
  a__law_cell : Addr
  fd__law_cell : FuncData
  F__law_cell : Fun K "_law_cell" "_law_cell" s__law_cell a__law_cell fd__law_cell
  g__law_cell : mg "_law_cell" = some (.ref a__law_cell)
  a__law_between : Addr
  fd__law_between : FuncData
  F__law_between : Fun K "_law_between" "_law_between" s__law_between a__law_between fd__law_between
  g__law_between : mg "_law_between" = some (.ref a__law_between)
  a__law_round_holds : Addr
  fd__law_round_holds : FuncData
  F__law_round_holds : Fun K "_law_round_holds" "_law_round_holds" s__law_round_holds a__law_round_holds fd__law_round_holds
  g__law_round_holds : mg "_law_round_holds" = some (.ref a__law_round_holds)
  a__law_lefts_hold : Addr
  fd__law_lefts_hold : FuncData
  F__law_lefts_hold : Fun K "_law_lefts_hold" "_law_lefts_hold" s__law_lefts_hold a__law_lefts_hold fd__law_lefts_hold
  g__law_lefts_hold : mg "_law_lefts_hold" = some (.ref a__law_lefts_hold)
  a_first_behind : Addr
  fd_first_behind : FuncData
  F_first_behind : Fun K "first_behind" "first_behind" s_first_behind a_first_behind fd_first_behind
  g_first_behind : mg "first_behind" = some (.ref a_first_behind)
  a_subset_list : Addr
  fd_subset_list : FuncData
  F_subset_list : Fun K "subset_list" "subset_list" s_subset_list a_subset_list fd_subset_list
  g_subset_list : mg "subset_list" = some (.ref a_subset_list)
  a_check_turns : Addr
  fd_check_turns : FuncData
  F_check_turns : Fun K "check_turns" "check_turns" s_check_turns a_check_turns fd_check_turns
  g_check_turns : mg "check_turns" = some (.ref a_check_turns)
  a_check_range : Addr
  fd_check_range : FuncData
  F_check_range : Fun K "check_range" "check_range" s_check_range a_check_range fd_check_range
  g_check_range : mg "check_range" = some (.ref a_check_range)
  a_check_point : Addr
  fd_check_point : FuncData
  F_check_point : Fun K "check_point" "check_point" s_check_point a_check_point fd_check_point
  g_check_point : mg "check_point" = some (.ref a_check_point)
  a_check_count : Addr
  fd_check_count : FuncData
  F_check_count : Fun K "check_count" "check_count" s_check_count a_check_count fd_check_count
  g_check_count : mg "check_count" = some (.ref a_check_count)
  a_Floor___init__ : Addr
  fd_Floor___init__ : FuncData
  F_Floor___init__ : Fun K "__init__" "Floor.__init__" s_Floor___init__ a_Floor___init__ fd_Floor___init__
  M_Floor : Mk K a_Floor a_Floor___init__
  a__law_made : Addr
  fd__law_made : FuncData
  F__law_made : Fun K "_law_made" "_law_made" s__law_made a__law_made fd__law_made
  g__law_made : mg "_law_made" = some (.ref a__law_made)
  a__law_refusal : Addr
  fd__law_refusal : FuncData
  F__law_refusal : Fun K "_law_refusal" "_law_refusal" s__law_refusal a__law_refusal fd__law_refusal
  g__law_refusal : mg "_law_refusal" = some (.ref a__law_refusal)
  a__law_drawn : Addr
  fd__law_drawn : FuncData
  F__law_drawn : Fun K "_law_drawn" "_law_drawn" s__law_drawn a__law_drawn fd__law_drawn
  g__law_drawn : mg "_law_drawn" = some (.ref a__law_drawn)
  a_law : Addr
  fd_law : FuncData
  F_law : Fun K "law" "law" s_law a_law fd_law
  g_law : mg "law" = some (.ref a_law)
  z_ValueError : mg "ValueError" = none
  z_abs : mg "abs" = none
  z_bool : mg "bool" = none
  z_enumerate : mg "enumerate" = none
  z_int : mg "int" = none
  z_isinstance : mg "isinstance" = none
  z_len : mg "len" = none
  z_list : mg "list" = none
  z_range : mg "range" = none
  z_sorted : mg "sorted" = none
  z_tuple : mg "tuple" = none
  k_WrongCount_BowlError : PySem.W.kitOne K (.ref a_WrongCount) (.ref a_BowlError) = some true
  k_WrongCount_ValueError : PySem.W.kitOne K (.ref a_WrongCount) (.type "ValueError") = some true
  k_TooFar_BowlError : PySem.W.kitOne K (.ref a_TooFar) (.ref a_BowlError) = some true
  k_TooFar_ValueError : PySem.W.kitOne K (.ref a_TooFar) (.type "ValueError") = some true
  k_OnLine_BowlError : PySem.W.kitOne K (.ref a_OnLine) (.ref a_BowlError) = some true
  k_OnLine_ValueError : PySem.W.kitOne K (.ref a_OnLine) (.type "ValueError") = some true
  k_NoPoint_BowlError : PySem.W.kitOne K (.ref a_NoPoint) (.ref a_BowlError) = some true
  k_NoPoint_ValueError : PySem.W.kitOne K (.ref a_NoPoint) (.type "ValueError") = some true
  k_Repeated_BowlError : PySem.W.kitOne K (.ref a_Repeated) (.ref a_BowlError) = some true
  k_Repeated_ValueError : PySem.W.kitOne K (.ref a_Repeated) (.type "ValueError") = some true
  k_WrongCount_OnLine_TooFar : PySem.W.kitAny K (.ref a_WrongCount) [.ref a_OnLine, .ref a_TooFar] = some false
  k_TooFar_OnLine_WrongCount : PySem.W.kitAny K (.ref a_TooFar) [.ref a_OnLine, .ref a_WrongCount] = some false
  k_OnLine_TooFar_WrongCount : PySem.W.kitAny K (.ref a_OnLine) [.ref a_TooFar, .ref a_WrongCount] = some false
  k_NoPoint_Repeated_TooFar : PySem.W.kitAny K (.ref a_NoPoint) [.ref a_Repeated, .ref a_TooFar] = some false
  k_Repeated_NoPoint_TooFar : PySem.W.kitAny K (.ref a_Repeated) [.ref a_NoPoint, .ref a_TooFar] = some false
  x_WrongCount_WrongCount : PySem.W.exmOne K (.ref a_WrongCount) (.ref a_WrongCount) = some true
  x_TooFar_WrongCount : PySem.W.exmOne K (.ref a_TooFar) (.ref a_WrongCount) = some false
  x_TooFar_TooFar : PySem.W.exmOne K (.ref a_TooFar) (.ref a_TooFar) = some true
  x_OnLine_WrongCount : PySem.W.exmOne K (.ref a_OnLine) (.ref a_WrongCount) = some false
  x_OnLine_TooFar : PySem.W.exmOne K (.ref a_OnLine) (.ref a_TooFar) = some false
  x_OnLine_OnLine : PySem.W.exmOne K (.ref a_OnLine) (.ref a_OnLine) = some true
  x_NoPoint_NoPoint : PySem.W.exmOne K (.ref a_NoPoint) (.ref a_NoPoint) = some true
  x_Repeated_NoPoint : PySem.W.exmOne K (.ref a_Repeated) (.ref a_NoPoint) = some false
  x_Repeated_Repeated : PySem.W.exmOne K (.ref a_Repeated) (.ref a_Repeated) = some true
def Tx.M {K : PySem.W.Frag} {mg : Str → Option Value} (T : Tx K mg) : EC → Addr
  | .Repeated => T.a_Repeated
  | .NoPoint => T.a_NoPoint
  | .OnLine => T.a_OnLine
  | .TooFar => T.a_TooFar
  | .WrongCount => T.a_WrongCount
  | _ => 0
structure LKs {K : PySem.W.Frag} {mg : Str → Option Value} [LT] (T : Tx K mg) (base : Heap) : Prop where
  in_order : LK mg base T.mk_in_order
theorem b_Repeated {K : PySem.W.Frag} {mg : Str → Option Value} (T : Tx K mg) : Binds K T.fd_Repeated ["self", "number"] [] := T.F_Repeated.binds (ps := ["self", "number"]) fun _ _ _ _ _ _ us hl => match us, hl with | [_, _], _ => rfl
theorem b_NoPoint {K : PySem.W.Frag} {mg : Str → Option Value} (T : Tx K mg) : Binds K T.fd_NoPoint ["self", "number"] [] := T.F_NoPoint.binds (ps := ["self", "number"]) fun _ _ _ _ _ _ us hl => match us, hl with | [_, _], _ => rfl
theorem b_OnLine {K : PySem.W.Frag} {mg : Str → Option Value} (T : Tx K mg) : Binds K T.fd_OnLine ["self", "numbers"] [] := T.F_OnLine.binds (ps := ["self", "numbers"]) fun _ _ _ _ _ _ us hl => match us, hl with | [_, _], _ => rfl
theorem b_TooFar {K : PySem.W.Frag} {mg : Str → Option Value} (T : Tx K mg) : Binds K T.fd_TooFar ["self", "value"] [] := T.F_TooFar.binds (ps := ["self", "value"]) fun _ _ _ _ _ _ us hl => match us, hl with | [_, _], _ => rfl
theorem b_WrongCount {K : PySem.W.Frag} {mg : Str → Option Value} (T : Tx K mg) : Binds K T.fd_WrongCount ["self", "count"] [] := T.F_WrongCount.binds (ps := ["self", "count"]) fun _ _ _ _ _ _ us hl => match us, hl with | [_, _], _ => rfl
theorem b__law_whole {K : PySem.W.Frag} {mg : Str → Option Value} (T : Tx K mg) : Binds K T.fd__law_whole ["thing"] [] := T.F__law_whole.binds (ps := ["thing"]) fun _ _ _ _ _ _ us hl => match us, hl with | [_], _ => rfl
theorem b_bare_area {K : PySem.W.Frag} {mg : Str → Option Value} (T : Tx K mg) : Binds K T.fd_bare_area ["p", "q", "r"] [] := T.F_bare_area.binds (ps := ["p", "q", "r"]) fun _ _ _ _ _ _ us hl => match us, hl with | [_, _, _], _ => rfl
theorem b_check_number {K : PySem.W.Frag} {mg : Str → Option Value} (T : Tx K mg) : Binds K T.fd_check_number ["number", "n"] [] := T.F_check_number.binds (ps := ["number", "n"]) fun _ _ _ _ _ _ us hl => match us, hl with | [_, _], _ => rfl
theorem b_check_numbers {K : PySem.W.Frag} {mg : Str → Option Value} (T : Tx K mg) : Binds K T.fd_check_numbers ["numbers", "n"] [] := T.F_check_numbers.binds (ps := ["numbers", "n"]) fun _ _ _ _ _ _ us hl => match us, hl with | [_, _], _ => rfl
theorem b_Floor_left_of {K : PySem.W.Frag} {mg : Str → Option Value} (T : Tx K mg) : Binds K T.fd_Floor_left_of ["self", "a", "b"] [] := T.F_Floor_left_of.binds (ps := ["self", "a", "b"]) fun _ _ _ _ _ _ us hl => match us, hl with | [_, _, _], _ => rfl
theorem b_in_order {K : PySem.W.Frag} {mg : Str → Option Value} (T : Tx K mg) : Binds K T.fd_in_order ["floor", "number", "half"] [] := T.F_in_order.binds (ps := ["floor", "number", "half"]) fun _ _ _ _ _ _ us hl => match us, hl with | [_, _, _], _ => rfl
theorem b_others {K : PySem.W.Frag} {mg : Str → Option Value} (T : Tx K mg) : Binds K T.fd_others ["n", "number"] [] := T.F_others.binds (ps := ["n", "number"]) fun _ _ _ _ _ _ us hl => match us, hl with | [_, _], _ => rfl
theorem b_Floor___len__ {K : PySem.W.Frag} {mg : Str → Option Value} (T : Tx K mg) : Binds K T.fd_Floor___len__ ["self"] [] := T.F_Floor___len__.binds (ps := ["self"]) fun _ _ _ _ _ _ us hl => match us, hl with | [_], _ => rfl
theorem b_round_point {K : PySem.W.Frag} {mg : Str → Option Value} (T : Tx K mg) : Binds K T.fd_round_point ["floor", "number"] [] := T.F_round_point.binds (ps := ["floor", "number"]) fun _ _ _ _ _ _ us hl => match us, hl with | [_, _], _ => rfl
theorem b__law_told {K : PySem.W.Frag} {mg : Str → Option Value} (T : Tx K mg) : Binds K T.fd__law_told ["name", "floor", "one", "two"] [] := T.F__law_told.binds (ps := ["name", "floor", "one", "two"]) fun _ _ _ _ _ _ us hl => match us, hl with | [_, _, _, _], _ => rfl
theorem b__law_area {K : PySem.W.Frag} {mg : Str → Option Value} (T : Tx K mg) : Binds K T.fd__law_area ["p", "q", "r"] [] := T.F__law_area.binds (ps := ["p", "q", "r"]) fun _ _ _ _ _ _ us hl => match us, hl with | [_, _, _], _ => rfl
theorem b__law_left_due {K : PySem.W.Frag} {mg : Str → Option Value} (T : Tx K mg) : Binds K T.fd__law_left_due ["points", "one", "two"] [] := T.F__law_left_due.binds (ps := ["points", "one", "two"]) fun _ _ _ _ _ _ us hl => match us, hl with | [_, _, _], _ => rfl
theorem b__law_cell {K : PySem.W.Frag} {mg : Str → Option Value} (T : Tx K mg) : Binds K T.fd__law_cell ["cells", "place"] [] := T.F__law_cell.binds (ps := ["cells", "place"]) fun _ _ _ _ _ _ us hl => match us, hl with | [_, _], _ => rfl
theorem b__law_between {K : PySem.W.Frag} {mg : Str → Option Value} (T : Tx K mg) : Binds K T.fd__law_between ["p", "u", "v", "w"] [] := T.F__law_between.binds (ps := ["p", "u", "v", "w"]) fun _ _ _ _ _ _ us hl => match us, hl with | [_, _, _, _], _ => rfl
theorem b__law_round_holds {K : PySem.W.Frag} {mg : Str → Option Value} (T : Tx K mg) : Binds K T.fd__law_round_holds ["floor", "points", "number"] [] := T.F__law_round_holds.binds (ps := ["floor", "points", "number"]) fun _ _ _ _ _ _ us hl => match us, hl with | [_, _, _], _ => rfl
theorem b__law_lefts_hold {K : PySem.W.Frag} {mg : Str → Option Value} (T : Tx K mg) : Binds K T.fd__law_lefts_hold ["floor", "points"] [] := T.F__law_lefts_hold.binds (ps := ["floor", "points"]) fun _ _ _ _ _ _ us hl => match us, hl with | [_, _], _ => rfl
theorem b_first_behind {K : PySem.W.Frag} {mg : Str → Option Value} (T : Tx K mg) : Binds K T.fd_first_behind ["part"] [] := T.F_first_behind.binds (ps := ["part"]) fun _ _ _ _ _ _ us hl => match us, hl with | [_], _ => rfl
theorem b_subset_list {K : PySem.W.Frag} {mg : Str → Option Value} (T : Tx K mg) : Binds K T.fd_subset_list ["n", "size"] [] := T.F_subset_list.binds (ps := ["n", "size"]) fun _ _ _ _ _ _ us hl => match us, hl with | [_, _], _ => rfl
theorem b_check_turns {K : PySem.W.Frag} {mg : Str → Option Value} (T : Tx K mg) : Binds K T.fd_check_turns ["points"] [] := T.F_check_turns.binds (ps := ["points"]) fun _ _ _ _ _ _ us hl => match us, hl with | [_], _ => rfl
theorem b_check_range {K : PySem.W.Frag} {mg : Str → Option Value} (T : Tx K mg) : Binds K T.fd_check_range ["value", "least", "most"] [] := T.F_check_range.binds (ps := ["value", "least", "most"]) fun _ _ _ _ _ _ us hl => match us, hl with | [_, _, _], _ => rfl
theorem b_check_point {K : PySem.W.Frag} {mg : Str → Option Value} (T : Tx K mg) : Binds K T.fd_check_point ["point"] [] := T.F_check_point.binds (ps := ["point"]) fun _ _ _ _ _ _ us hl => match us, hl with | [_], _ => rfl
theorem b_check_count {K : PySem.W.Frag} {mg : Str → Option Value} (T : Tx K mg) : Binds K T.fd_check_count ["members", "least", "most"] [] := T.F_check_count.binds (ps := ["members", "least", "most"]) fun _ _ _ _ _ _ us hl => match us, hl with | [_, _, _], _ => rfl
theorem b_Floor___init__ {K : PySem.W.Frag} {mg : Str → Option Value} (T : Tx K mg) : Binds K T.fd_Floor___init__ ["self", "points"] [] := T.F_Floor___init__.binds (ps := ["self", "points"]) fun _ _ _ _ _ _ us hl => match us, hl with | [_, _], _ => rfl
theorem b__law_made {K : PySem.W.Frag} {mg : Str → Option Value} (T : Tx K mg) : Binds K T.fd__law_made ["points"] [] := T.F__law_made.binds (ps := ["points"]) fun _ _ _ _ _ _ us hl => match us, hl with | [_], _ => rfl
theorem b__law_refusal {K : PySem.W.Frag} {mg : Str → Option Value} (T : Tx K mg) : Binds K T.fd__law_refusal ["points"] [] := T.F__law_refusal.binds (ps := ["points"]) fun _ _ _ _ _ _ us hl => match us, hl with | [_], _ => rfl
theorem b__law_drawn {K : PySem.W.Frag} {mg : Str → Option Value} (T : Tx K mg) : Binds K T.fd__law_drawn ["cells", "many", "wide"] [] := T.F__law_drawn.binds (ps := ["cells", "many", "wide"]) fun _ _ _ _ _ _ us hl => match us, hl with | [_, _, _], _ => rfl
theorem mk_tx {K : PySem.W.Frag} {h : Heap} {mg : Str → Option Value} {a_Repeated i_Repeated a_NoPoint i_NoPoint a_OnLine i_OnLine a_TooFar i_TooFar a_WrongCount i_WrongCount a_BowlError a_Floor a__law_whole a_bare_area a_check_number a_check_numbers a_Floor_left_of a_in_order a_others a_Floor___len__ a_round_point a__law_told a__law_area a__law_left_due a__law_cell a__law_between a__law_round_holds a__law_lefts_hold a_first_behind a_subset_list a_check_turns a_check_range a_check_point a_check_count a_Floor___init__ a__law_made a__law_refusal a__law_drawn a_law : Addr} (X : K.In h) (G : h.Ns mainGlobals mg)
    {nm_Repeated q_Repeated : Str} {N_Repeated : Addr} {bs_Repeated bm_Repeated : List Value} {sn_Repeated : List Str} {sub_Repeated : List Value} {ab_Repeated : Bool} {col_Repeated : Option Bool} {dd_Repeated : Option Addr} {m0_Repeated m1_Repeated m2_Repeated m3_Repeated m5_Repeated : Option Value}
    {od_Repeated an_Repeated : Option Addr} {sl_Repeated : Array (Option Value)} {oc_Repeated kV_Repeated dc_Repeated pm_Repeated cd_Repeated ct_Repeated : Value}
    {nm_NoPoint q_NoPoint : Str} {N_NoPoint : Addr} {bs_NoPoint bm_NoPoint : List Value} {sn_NoPoint : List Str} {sub_NoPoint : List Value} {ab_NoPoint : Bool} {col_NoPoint : Option Bool} {dd_NoPoint : Option Addr} {m0_NoPoint m1_NoPoint m2_NoPoint m3_NoPoint m5_NoPoint : Option Value}
    {od_NoPoint an_NoPoint : Option Addr} {sl_NoPoint : Array (Option Value)} {oc_NoPoint kV_NoPoint dc_NoPoint pm_NoPoint cd_NoPoint ct_NoPoint : Value}
    {nm_OnLine q_OnLine : Str} {N_OnLine : Addr} {bs_OnLine bm_OnLine : List Value} {sn_OnLine : List Str} {sub_OnLine : List Value} {ab_OnLine : Bool} {col_OnLine : Option Bool} {dd_OnLine : Option Addr} {m0_OnLine m1_OnLine m2_OnLine m3_OnLine m5_OnLine : Option Value}
    {od_OnLine an_OnLine : Option Addr} {sl_OnLine : Array (Option Value)} {oc_OnLine kV_OnLine dc_OnLine pm_OnLine cd_OnLine ct_OnLine : Value}
    {nm_TooFar q_TooFar : Str} {N_TooFar : Addr} {bs_TooFar bm_TooFar : List Value} {sn_TooFar : List Str} {sub_TooFar : List Value} {ab_TooFar : Bool} {col_TooFar : Option Bool} {dd_TooFar : Option Addr} {m0_TooFar m1_TooFar m2_TooFar m3_TooFar m5_TooFar : Option Value}
    {od_TooFar an_TooFar : Option Addr} {sl_TooFar : Array (Option Value)} {oc_TooFar kV_TooFar dc_TooFar pm_TooFar cd_TooFar ct_TooFar : Value}
    {nm_WrongCount q_WrongCount : Str} {N_WrongCount : Addr} {bs_WrongCount bm_WrongCount : List Value} {sn_WrongCount : List Str} {sub_WrongCount : List Value} {ab_WrongCount : Bool} {col_WrongCount : Option Bool} {dd_WrongCount : Option Addr} {m0_WrongCount m1_WrongCount m2_WrongCount m3_WrongCount m5_WrongCount : Option Value}
    {od_WrongCount an_WrongCount : Option Addr} {sl_WrongCount : Array (Option Value)} {oc_WrongCount kV_WrongCount dc_WrongCount pm_WrongCount cd_WrongCount ct_WrongCount : Value}
    {mc_Floor : Value}
    {tk_Floor_LEAST : Tok}
    {tk_Floor_MOST : Tok}
    {tk_Floor_FAR : Tok}
    {od__law_whole an__law_whole : Option Addr} {sl__law_whole : Array (Option Value)} {oc__law_whole kV__law_whole dc__law_whole pm__law_whole cd__law_whole ct__law_whole : Value}
    {od_bare_area an_bare_area : Option Addr} {sl_bare_area : Array (Option Value)} {oc_bare_area kV_bare_area dc_bare_area pm_bare_area cd_bare_area ct_bare_area : Value}
    {od_check_number an_check_number : Option Addr} {sl_check_number : Array (Option Value)} {oc_check_number kV_check_number dc_check_number pm_check_number cd_check_number ct_check_number : Value}
    {od_check_numbers an_check_numbers : Option Addr} {sl_check_numbers : Array (Option Value)} {oc_check_numbers kV_check_numbers dc_check_numbers pm_check_numbers cd_check_numbers ct_check_numbers : Value}
    {od_Floor_left_of an_Floor_left_of : Option Addr} {sl_Floor_left_of : Array (Option Value)} {oc_Floor_left_of kV_Floor_left_of dc_Floor_left_of pm_Floor_left_of cd_Floor_left_of ct_Floor_left_of : Value}
    {od_in_order an_in_order : Option Addr} {sl_in_order : Array (Option Value)} {oc_in_order kV_in_order dc_in_order pm_in_order cd_in_order ct_in_order : Value}
    {od_others an_others : Option Addr} {sl_others : Array (Option Value)} {oc_others kV_others dc_others pm_others cd_others ct_others : Value}
    {od_Floor___len__ an_Floor___len__ : Option Addr} {sl_Floor___len__ : Array (Option Value)} {oc_Floor___len__ kV_Floor___len__ dc_Floor___len__ pm_Floor___len__ cd_Floor___len__ ct_Floor___len__ : Value}
    {od_round_point an_round_point : Option Addr} {sl_round_point : Array (Option Value)} {oc_round_point kV_round_point dc_round_point pm_round_point cd_round_point ct_round_point : Value}
    {od__law_told an__law_told : Option Addr} {sl__law_told : Array (Option Value)} {oc__law_told kV__law_told dc__law_told pm__law_told cd__law_told ct__law_told : Value}
    {od__law_area an__law_area : Option Addr} {sl__law_area : Array (Option Value)} {oc__law_area kV__law_area dc__law_area pm__law_area cd__law_area ct__law_area : Value}
    {od__law_left_due an__law_left_due : Option Addr} {sl__law_left_due : Array (Option Value)} {oc__law_left_due kV__law_left_due dc__law_left_due pm__law_left_due cd__law_left_due ct__law_left_due : Value}
    {od__law_cell an__law_cell : Option Addr} {sl__law_cell : Array (Option Value)} {oc__law_cell kV__law_cell dc__law_cell pm__law_cell cd__law_cell ct__law_cell : Value}
    {od__law_between an__law_between : Option Addr} {sl__law_between : Array (Option Value)} {oc__law_between kV__law_between dc__law_between pm__law_between cd__law_between ct__law_between : Value}
    {od__law_round_holds an__law_round_holds : Option Addr} {sl__law_round_holds : Array (Option Value)} {oc__law_round_holds kV__law_round_holds dc__law_round_holds pm__law_round_holds cd__law_round_holds ct__law_round_holds : Value}
    {od__law_lefts_hold an__law_lefts_hold : Option Addr} {sl__law_lefts_hold : Array (Option Value)} {oc__law_lefts_hold kV__law_lefts_hold dc__law_lefts_hold pm__law_lefts_hold cd__law_lefts_hold ct__law_lefts_hold : Value}
    {od_first_behind an_first_behind : Option Addr} {sl_first_behind : Array (Option Value)} {oc_first_behind kV_first_behind dc_first_behind pm_first_behind cd_first_behind ct_first_behind : Value}
    {od_subset_list an_subset_list : Option Addr} {sl_subset_list : Array (Option Value)} {oc_subset_list kV_subset_list dc_subset_list pm_subset_list cd_subset_list ct_subset_list : Value}
    {od_check_turns an_check_turns : Option Addr} {sl_check_turns : Array (Option Value)} {oc_check_turns kV_check_turns dc_check_turns pm_check_turns cd_check_turns ct_check_turns : Value}
    {od_check_range an_check_range : Option Addr} {sl_check_range : Array (Option Value)} {oc_check_range kV_check_range dc_check_range pm_check_range cd_check_range ct_check_range : Value}
    {od_check_point an_check_point : Option Addr} {sl_check_point : Array (Option Value)} {oc_check_point kV_check_point dc_check_point pm_check_point cd_check_point ct_check_point : Value}
    {od_check_count an_check_count : Option Addr} {sl_check_count : Array (Option Value)} {oc_check_count kV_check_count dc_check_count pm_check_count cd_check_count ct_check_count : Value}
    {od_Floor___init__ an_Floor___init__ : Option Addr} {sl_Floor___init__ : Array (Option Value)} {oc_Floor___init__ kV_Floor___init__ dc_Floor___init__ pm_Floor___init__ cd_Floor___init__ ct_Floor___init__ : Value}
    {od__law_made an__law_made : Option Addr} {sl__law_made : Array (Option Value)} {oc__law_made kV__law_made dc__law_made pm__law_made cd__law_made ct__law_made : Value}
    {od__law_refusal an__law_refusal : Option Addr} {sl__law_refusal : Array (Option Value)} {oc__law_refusal kV__law_refusal dc__law_refusal pm__law_refusal cd__law_refusal ct__law_refusal : Value}
    {od__law_drawn an__law_drawn : Option Addr} {sl__law_drawn : Array (Option Value)} {oc__law_drawn kV__law_drawn dc__law_drawn pm__law_drawn cd__law_drawn ct__law_drawn : Value}
    {od_law an_law : Option Addr} {sl_law : Array (Option Value)} {oc_law kV_law dc_law pm_law cd_law ct_law : Value}
    
    (n_Repeated : PySem.W.nsIn K mainGlobals "Repeated" = some (some (.ref a_Repeated)))
    (o_Repeated : K.lookup a_Repeated = some (excClassObj nm_Repeated q_Repeated a_Repeated N_Repeated bs_Repeated bm_Repeated true sn_Repeated sub_Repeated ab_Repeated col_Repeated dd_Repeated m0_Repeated m1_Repeated m2_Repeated m3_Repeated m5_Repeated "ValueError.__new__"))
    (v_Repeated : PySem.HandSPX.refsVE bm_Repeated = true)
    (sa_Repeated : PySem.W.findIn K (.ref a_Repeated) "__setattr__" = some (some (.builtin "object.__setattr__")))
    (sb_Repeated : PySem.W.subIn K (.ref a_Repeated) (.type "BaseException") = some true)
    (ty_Repeated : PySem.W.typeIn K (.ref a_Repeated) = some (.type "type"))
    (kc_Repeated : PySem.W.keepIn K (.ref a_Repeated) = true)
    (ii_Repeated : PySem.W.findIn K (.ref a_Repeated) "__init__" = some (some (.ref i_Repeated)))
    (ti_Repeated : PySem.W.typeIn K (.ref i_Repeated) = some (.type "function"))
    (nf_Repeated : PySem.W.findIn K (.ref a_Repeated) "number" = some none)
    (ga_Repeated : PySem.W.findIn K (.ref a_Repeated) "__getattribute__" = some (some (.builtin "BaseException.__getattribute__")))
    (gt_Repeated : PySem.W.findIn K (.ref a_Repeated) "__getattr__" = some none)
    (hd_Repeated : PySem.W.hasDictIn K a_Repeated = true)
    (is_Repeated : PySem.W.isClsIn K a_Repeated = true)
    (ca_Repeated : PySem.W.findIn K (.ref a_Repeated) "__class__" = some (some (.builtin "object.__class__")))
    (mo_Repeated : PySem.W.mroIn K a_Repeated (.type "object") = some true)
    (l_Repeated : K.lookup i_Repeated = some ⟨oc_Repeated, od_Repeated, .func (PySem.W.fnOf "__init__" "Repeated.__init__" (defArgs s_Repeated) (defBody s_Repeated) (defScope s_Repeated) .none kV_Repeated dc_Repeated pm_Repeated an_Repeated cd_Repeated ct_Repeated), sl_Repeated⟩)
    (c_Repeated : PySem.W.codeIn K cd_Repeated "Repeated.__init__" = true)
    (kp_Repeated : PySem.W.keepIn K (.ref i_Repeated) = true)
    (n_NoPoint : PySem.W.nsIn K mainGlobals "NoPoint" = some (some (.ref a_NoPoint)))
    (o_NoPoint : K.lookup a_NoPoint = some (excClassObj nm_NoPoint q_NoPoint a_NoPoint N_NoPoint bs_NoPoint bm_NoPoint true sn_NoPoint sub_NoPoint ab_NoPoint col_NoPoint dd_NoPoint m0_NoPoint m1_NoPoint m2_NoPoint m3_NoPoint m5_NoPoint "ValueError.__new__"))
    (v_NoPoint : PySem.HandSPX.refsVE bm_NoPoint = true)
    (sa_NoPoint : PySem.W.findIn K (.ref a_NoPoint) "__setattr__" = some (some (.builtin "object.__setattr__")))
    (sb_NoPoint : PySem.W.subIn K (.ref a_NoPoint) (.type "BaseException") = some true)
    (ty_NoPoint : PySem.W.typeIn K (.ref a_NoPoint) = some (.type "type"))
    (kc_NoPoint : PySem.W.keepIn K (.ref a_NoPoint) = true)
    (ii_NoPoint : PySem.W.findIn K (.ref a_NoPoint) "__init__" = some (some (.ref i_NoPoint)))
    (ti_NoPoint : PySem.W.typeIn K (.ref i_NoPoint) = some (.type "function"))
    (nf_NoPoint : PySem.W.findIn K (.ref a_NoPoint) "number" = some none)
    (ga_NoPoint : PySem.W.findIn K (.ref a_NoPoint) "__getattribute__" = some (some (.builtin "BaseException.__getattribute__")))
    (gt_NoPoint : PySem.W.findIn K (.ref a_NoPoint) "__getattr__" = some none)
    (hd_NoPoint : PySem.W.hasDictIn K a_NoPoint = true)
    (is_NoPoint : PySem.W.isClsIn K a_NoPoint = true)
    (ca_NoPoint : PySem.W.findIn K (.ref a_NoPoint) "__class__" = some (some (.builtin "object.__class__")))
    (mo_NoPoint : PySem.W.mroIn K a_NoPoint (.type "object") = some true)
    (l_NoPoint : K.lookup i_NoPoint = some ⟨oc_NoPoint, od_NoPoint, .func (PySem.W.fnOf "__init__" "NoPoint.__init__" (defArgs s_NoPoint) (defBody s_NoPoint) (defScope s_NoPoint) .none kV_NoPoint dc_NoPoint pm_NoPoint an_NoPoint cd_NoPoint ct_NoPoint), sl_NoPoint⟩)
    (c_NoPoint : PySem.W.codeIn K cd_NoPoint "NoPoint.__init__" = true)
    (kp_NoPoint : PySem.W.keepIn K (.ref i_NoPoint) = true)
    (n_OnLine : PySem.W.nsIn K mainGlobals "OnLine" = some (some (.ref a_OnLine)))
    (o_OnLine : K.lookup a_OnLine = some (excClassObj nm_OnLine q_OnLine a_OnLine N_OnLine bs_OnLine bm_OnLine true sn_OnLine sub_OnLine ab_OnLine col_OnLine dd_OnLine m0_OnLine m1_OnLine m2_OnLine m3_OnLine m5_OnLine "ValueError.__new__"))
    (v_OnLine : PySem.HandSPX.refsVE bm_OnLine = true)
    (sa_OnLine : PySem.W.findIn K (.ref a_OnLine) "__setattr__" = some (some (.builtin "object.__setattr__")))
    (sb_OnLine : PySem.W.subIn K (.ref a_OnLine) (.type "BaseException") = some true)
    (ty_OnLine : PySem.W.typeIn K (.ref a_OnLine) = some (.type "type"))
    (kc_OnLine : PySem.W.keepIn K (.ref a_OnLine) = true)
    (ii_OnLine : PySem.W.findIn K (.ref a_OnLine) "__init__" = some (some (.ref i_OnLine)))
    (ti_OnLine : PySem.W.typeIn K (.ref i_OnLine) = some (.type "function"))
    (nf_OnLine : PySem.W.findIn K (.ref a_OnLine) "numbers" = some none)
    (ga_OnLine : PySem.W.findIn K (.ref a_OnLine) "__getattribute__" = some (some (.builtin "BaseException.__getattribute__")))
    (gt_OnLine : PySem.W.findIn K (.ref a_OnLine) "__getattr__" = some none)
    (hd_OnLine : PySem.W.hasDictIn K a_OnLine = true)
    (is_OnLine : PySem.W.isClsIn K a_OnLine = true)
    (ca_OnLine : PySem.W.findIn K (.ref a_OnLine) "__class__" = some (some (.builtin "object.__class__")))
    (mo_OnLine : PySem.W.mroIn K a_OnLine (.type "object") = some true)
    (l_OnLine : K.lookup i_OnLine = some ⟨oc_OnLine, od_OnLine, .func (PySem.W.fnOf "__init__" "OnLine.__init__" (defArgs s_OnLine) (defBody s_OnLine) (defScope s_OnLine) .none kV_OnLine dc_OnLine pm_OnLine an_OnLine cd_OnLine ct_OnLine), sl_OnLine⟩)
    (c_OnLine : PySem.W.codeIn K cd_OnLine "OnLine.__init__" = true)
    (kp_OnLine : PySem.W.keepIn K (.ref i_OnLine) = true)
    (n_TooFar : PySem.W.nsIn K mainGlobals "TooFar" = some (some (.ref a_TooFar)))
    (o_TooFar : K.lookup a_TooFar = some (excClassObj nm_TooFar q_TooFar a_TooFar N_TooFar bs_TooFar bm_TooFar true sn_TooFar sub_TooFar ab_TooFar col_TooFar dd_TooFar m0_TooFar m1_TooFar m2_TooFar m3_TooFar m5_TooFar "ValueError.__new__"))
    (v_TooFar : PySem.HandSPX.refsVE bm_TooFar = true)
    (sa_TooFar : PySem.W.findIn K (.ref a_TooFar) "__setattr__" = some (some (.builtin "object.__setattr__")))
    (sb_TooFar : PySem.W.subIn K (.ref a_TooFar) (.type "BaseException") = some true)
    (ty_TooFar : PySem.W.typeIn K (.ref a_TooFar) = some (.type "type"))
    (kc_TooFar : PySem.W.keepIn K (.ref a_TooFar) = true)
    (ii_TooFar : PySem.W.findIn K (.ref a_TooFar) "__init__" = some (some (.ref i_TooFar)))
    (ti_TooFar : PySem.W.typeIn K (.ref i_TooFar) = some (.type "function"))
    (nf_TooFar : PySem.W.findIn K (.ref a_TooFar) "value" = some none)
    (ga_TooFar : PySem.W.findIn K (.ref a_TooFar) "__getattribute__" = some (some (.builtin "BaseException.__getattribute__")))
    (gt_TooFar : PySem.W.findIn K (.ref a_TooFar) "__getattr__" = some none)
    (hd_TooFar : PySem.W.hasDictIn K a_TooFar = true)
    (is_TooFar : PySem.W.isClsIn K a_TooFar = true)
    (ca_TooFar : PySem.W.findIn K (.ref a_TooFar) "__class__" = some (some (.builtin "object.__class__")))
    (mo_TooFar : PySem.W.mroIn K a_TooFar (.type "object") = some true)
    (l_TooFar : K.lookup i_TooFar = some ⟨oc_TooFar, od_TooFar, .func (PySem.W.fnOf "__init__" "TooFar.__init__" (defArgs s_TooFar) (defBody s_TooFar) (defScope s_TooFar) .none kV_TooFar dc_TooFar pm_TooFar an_TooFar cd_TooFar ct_TooFar), sl_TooFar⟩)
    (c_TooFar : PySem.W.codeIn K cd_TooFar "TooFar.__init__" = true)
    (kp_TooFar : PySem.W.keepIn K (.ref i_TooFar) = true)
    (n_WrongCount : PySem.W.nsIn K mainGlobals "WrongCount" = some (some (.ref a_WrongCount)))
    (o_WrongCount : K.lookup a_WrongCount = some (excClassObj nm_WrongCount q_WrongCount a_WrongCount N_WrongCount bs_WrongCount bm_WrongCount true sn_WrongCount sub_WrongCount ab_WrongCount col_WrongCount dd_WrongCount m0_WrongCount m1_WrongCount m2_WrongCount m3_WrongCount m5_WrongCount "ValueError.__new__"))
    (v_WrongCount : PySem.HandSPX.refsVE bm_WrongCount = true)
    (sa_WrongCount : PySem.W.findIn K (.ref a_WrongCount) "__setattr__" = some (some (.builtin "object.__setattr__")))
    (sb_WrongCount : PySem.W.subIn K (.ref a_WrongCount) (.type "BaseException") = some true)
    (ty_WrongCount : PySem.W.typeIn K (.ref a_WrongCount) = some (.type "type"))
    (kc_WrongCount : PySem.W.keepIn K (.ref a_WrongCount) = true)
    (ii_WrongCount : PySem.W.findIn K (.ref a_WrongCount) "__init__" = some (some (.ref i_WrongCount)))
    (ti_WrongCount : PySem.W.typeIn K (.ref i_WrongCount) = some (.type "function"))
    (nf_WrongCount : PySem.W.findIn K (.ref a_WrongCount) "count" = some none)
    (ga_WrongCount : PySem.W.findIn K (.ref a_WrongCount) "__getattribute__" = some (some (.builtin "BaseException.__getattribute__")))
    (gt_WrongCount : PySem.W.findIn K (.ref a_WrongCount) "__getattr__" = some none)
    (hd_WrongCount : PySem.W.hasDictIn K a_WrongCount = true)
    (is_WrongCount : PySem.W.isClsIn K a_WrongCount = true)
    (ca_WrongCount : PySem.W.findIn K (.ref a_WrongCount) "__class__" = some (some (.builtin "object.__class__")))
    (mo_WrongCount : PySem.W.mroIn K a_WrongCount (.type "object") = some true)
    (l_WrongCount : K.lookup i_WrongCount = some ⟨oc_WrongCount, od_WrongCount, .func (PySem.W.fnOf "__init__" "WrongCount.__init__" (defArgs s_WrongCount) (defBody s_WrongCount) (defScope s_WrongCount) .none kV_WrongCount dc_WrongCount pm_WrongCount an_WrongCount cd_WrongCount ct_WrongCount), sl_WrongCount⟩)
    (c_WrongCount : PySem.W.codeIn K cd_WrongCount "WrongCount.__init__" = true)
    (kp_WrongCount : PySem.W.keepIn K (.ref i_WrongCount) = true)
    (n_BowlError : PySem.W.nsIn K mainGlobals "BowlError" = some (some (.ref a_BowlError)))
    (is_BowlError : PySem.W.isClsIn K a_BowlError = true)
    (ty_BowlError : PySem.W.typeIn K (.ref a_BowlError) = some (.type "type"))
    (gn : PySem.W.specialIn K (.builtin "object.__class__") "__get__" = some (some (.builtin "getset_descriptor.__get__")))
    (tkc : PySem.W.takesIn K (.builtin "object.__class__") = some true)
    (n_Floor : PySem.W.nsIn K mainGlobals "Floor" = some (some (.ref a_Floor)))
    (pg_Floor : PySem.W.plainGet K a_Floor Str.empty = true)
    (hd_Floor : PySem.W.hasDictIn K a_Floor = true)
    (po_Floor : PySem.W.plainOver K a_Floor = true)
    (sa_Floor : PySem.W.findIn K (.ref a_Floor) "__setattr__" = some (some (.builtin "object.__setattr__")))
    (tc_Floor : PySem.W.typeIn K (.ref a_Floor) = some mc_Floor)
    (rd_Floor : PySem.W.readsIn K a_Floor mc_Floor = true)
    (gc_Floor : PySem.W.specialIn K (.ref a_Floor) "__getattribute__" = some (some (.builtin "type.__getattribute__")))
    (na_Floor_points : PySem.W.findIn K (.ref a_Floor) "points" = some none)
    (cv_Floor_LEAST : PySem.W.findCls K (.ref a_Floor) mc_Floor "LEAST" = some (.val (.int 3 tk_Floor_LEAST)))
    (cv_Floor_MOST : PySem.W.findCls K (.ref a_Floor) mc_Floor "MOST" = some (.val (.int 10 tk_Floor_MOST)))
    (cv_Floor_FAR : PySem.W.findCls K (.ref a_Floor) mc_Floor "FAR" = some (.val (.int 1000000 tk_Floor_FAR)))
    (ca_Floor : PySem.W.findIn K (.ref a_Floor) "__class__" = some (some (.builtin "object.__class__")))
    (mo_Floor : PySem.W.mroIn K a_Floor (.type "object") = some true)
    (n__law_whole : PySem.W.nsIn K mainGlobals "_law_whole" = some (some (.ref a__law_whole)))
    (l__law_whole : K.lookup a__law_whole = some ⟨oc__law_whole, od__law_whole, .func (PySem.W.fnOf "_law_whole" "_law_whole" (defArgs s__law_whole) (defBody s__law_whole) (defScope s__law_whole) .none kV__law_whole dc__law_whole pm__law_whole an__law_whole cd__law_whole ct__law_whole), sl__law_whole⟩)
    (c__law_whole : PySem.W.codeIn K cd__law_whole "_law_whole" = true)
    (kp__law_whole : PySem.W.keepIn K (.ref a__law_whole) = true)
    (n_bare_area : PySem.W.nsIn K mainGlobals "bare_area" = some (some (.ref a_bare_area)))
    (l_bare_area : K.lookup a_bare_area = some ⟨oc_bare_area, od_bare_area, .func (PySem.W.fnOf "bare_area" "bare_area" (defArgs s_bare_area) (defBody s_bare_area) (defScope s_bare_area) .none kV_bare_area dc_bare_area pm_bare_area an_bare_area cd_bare_area ct_bare_area), sl_bare_area⟩)
    (c_bare_area : PySem.W.codeIn K cd_bare_area "bare_area" = true)
    (kp_bare_area : PySem.W.keepIn K (.ref a_bare_area) = true)
    (n_check_number : PySem.W.nsIn K mainGlobals "check_number" = some (some (.ref a_check_number)))
    (l_check_number : K.lookup a_check_number = some ⟨oc_check_number, od_check_number, .func (PySem.W.fnOf "check_number" "check_number" (defArgs s_check_number) (defBody s_check_number) (defScope s_check_number) .none kV_check_number dc_check_number pm_check_number an_check_number cd_check_number ct_check_number), sl_check_number⟩)
    (c_check_number : PySem.W.codeIn K cd_check_number "check_number" = true)
    (kp_check_number : PySem.W.keepIn K (.ref a_check_number) = true)
    (n_check_numbers : PySem.W.nsIn K mainGlobals "check_numbers" = some (some (.ref a_check_numbers)))
    (l_check_numbers : K.lookup a_check_numbers = some ⟨oc_check_numbers, od_check_numbers, .func (PySem.W.fnOf "check_numbers" "check_numbers" (defArgs s_check_numbers) (defBody s_check_numbers) (defScope s_check_numbers) .none kV_check_numbers dc_check_numbers pm_check_numbers an_check_numbers cd_check_numbers ct_check_numbers), sl_check_numbers⟩)
    (c_check_numbers : PySem.W.codeIn K cd_check_numbers "check_numbers" = true)
    (kp_check_numbers : PySem.W.keepIn K (.ref a_check_numbers) = true)
    (f_Floor_left_of : PySem.W.findIn K (.ref a_Floor) "left_of" = some (some (.ref a_Floor_left_of)))
    (fi_Floor_left_of : PySem.W.isFn K (.ref a_Floor_left_of) = true)
    (l_Floor_left_of : K.lookup a_Floor_left_of = some ⟨oc_Floor_left_of, od_Floor_left_of, .func (PySem.W.fnOf "left_of" "Floor.left_of" (defArgs s_Floor_left_of) (defBody s_Floor_left_of) (defScope s_Floor_left_of) .none kV_Floor_left_of dc_Floor_left_of pm_Floor_left_of an_Floor_left_of cd_Floor_left_of ct_Floor_left_of), sl_Floor_left_of⟩)
    (c_Floor_left_of : PySem.W.codeIn K cd_Floor_left_of "Floor.left_of" = true)
    (kp_Floor_left_of : PySem.W.keepIn K (.ref a_Floor_left_of) = true)
    (n_in_order : PySem.W.nsIn K mainGlobals "in_order" = some (some (.ref a_in_order)))
    (l_in_order : K.lookup a_in_order = some ⟨oc_in_order, od_in_order, .func (PySem.W.fnOf "in_order" "in_order" (defArgs s_in_order) (defBody s_in_order) (defScope s_in_order) .none kV_in_order dc_in_order pm_in_order an_in_order cd_in_order ct_in_order), sl_in_order⟩)
    (c_in_order : PySem.W.codeIn K cd_in_order "in_order" = true)
    (kp_in_order : PySem.W.keepIn K (.ref a_in_order) = true)
    (ht_in_order : PySem.W.tabIn K "in_order" = some (EB.tabC K "in_order", EB.tabP K "in_order"))
    (ho_in_order : K.lookup (EB.tabP K "in_order") = none)
    (n_others : PySem.W.nsIn K mainGlobals "others" = some (some (.ref a_others)))
    (l_others : K.lookup a_others = some ⟨oc_others, od_others, .func (PySem.W.fnOf "others" "others" (defArgs s_others) (defBody s_others) (defScope s_others) .none kV_others dc_others pm_others an_others cd_others ct_others), sl_others⟩)
    (c_others : PySem.W.codeIn K cd_others "others" = true)
    (kp_others : PySem.W.keepIn K (.ref a_others) = true)
    (f_Floor___len__ : PySem.W.findIn K (.ref a_Floor) "__len__" = some (some (.ref a_Floor___len__)))
    (fi_Floor___len__ : PySem.W.isFn K (.ref a_Floor___len__) = true)
    (l_Floor___len__ : K.lookup a_Floor___len__ = some ⟨oc_Floor___len__, od_Floor___len__, .func (PySem.W.fnOf "__len__" "Floor.__len__" (defArgs s_Floor___len__) (defBody s_Floor___len__) (defScope s_Floor___len__) .none kV_Floor___len__ dc_Floor___len__ pm_Floor___len__ an_Floor___len__ cd_Floor___len__ ct_Floor___len__), sl_Floor___len__⟩)
    (c_Floor___len__ : PySem.W.codeIn K cd_Floor___len__ "Floor.__len__" = true)
    (kp_Floor___len__ : PySem.W.keepIn K (.ref a_Floor___len__) = true)
    (n_round_point : PySem.W.nsIn K mainGlobals "round_point" = some (some (.ref a_round_point)))
    (l_round_point : K.lookup a_round_point = some ⟨oc_round_point, od_round_point, .func (PySem.W.fnOf "round_point" "round_point" (defArgs s_round_point) (defBody s_round_point) (defScope s_round_point) .none kV_round_point dc_round_point pm_round_point an_round_point cd_round_point ct_round_point), sl_round_point⟩)
    (c_round_point : PySem.W.codeIn K cd_round_point "round_point" = true)
    (kp_round_point : PySem.W.keepIn K (.ref a_round_point) = true)
    (n__law_told : PySem.W.nsIn K mainGlobals "_law_told" = some (some (.ref a__law_told)))
    (l__law_told : K.lookup a__law_told = some ⟨oc__law_told, od__law_told, .func (PySem.W.fnOf "_law_told" "_law_told" (defArgs s__law_told) (defBody s__law_told) (defScope s__law_told) .none kV__law_told dc__law_told pm__law_told an__law_told cd__law_told ct__law_told), sl__law_told⟩)
    (c__law_told : PySem.W.codeIn K cd__law_told "_law_told" = true)
    (kp__law_told : PySem.W.keepIn K (.ref a__law_told) = true)
    (n__law_area : PySem.W.nsIn K mainGlobals "_law_area" = some (some (.ref a__law_area)))
    (l__law_area : K.lookup a__law_area = some ⟨oc__law_area, od__law_area, .func (PySem.W.fnOf "_law_area" "_law_area" (defArgs s__law_area) (defBody s__law_area) (defScope s__law_area) .none kV__law_area dc__law_area pm__law_area an__law_area cd__law_area ct__law_area), sl__law_area⟩)
    (c__law_area : PySem.W.codeIn K cd__law_area "_law_area" = true)
    (kp__law_area : PySem.W.keepIn K (.ref a__law_area) = true)
    (n__law_left_due : PySem.W.nsIn K mainGlobals "_law_left_due" = some (some (.ref a__law_left_due)))
    (l__law_left_due : K.lookup a__law_left_due = some ⟨oc__law_left_due, od__law_left_due, .func (PySem.W.fnOf "_law_left_due" "_law_left_due" (defArgs s__law_left_due) (defBody s__law_left_due) (defScope s__law_left_due) .none kV__law_left_due dc__law_left_due pm__law_left_due an__law_left_due cd__law_left_due ct__law_left_due), sl__law_left_due⟩)
    (c__law_left_due : PySem.W.codeIn K cd__law_left_due "_law_left_due" = true)
    (kp__law_left_due : PySem.W.keepIn K (.ref a__law_left_due) = true)
    (n__law_cell : PySem.W.nsIn K mainGlobals "_law_cell" = some (some (.ref a__law_cell)))
    (l__law_cell : K.lookup a__law_cell = some ⟨oc__law_cell, od__law_cell, .func (PySem.W.fnOf "_law_cell" "_law_cell" (defArgs s__law_cell) (defBody s__law_cell) (defScope s__law_cell) .none kV__law_cell dc__law_cell pm__law_cell an__law_cell cd__law_cell ct__law_cell), sl__law_cell⟩)
    (c__law_cell : PySem.W.codeIn K cd__law_cell "_law_cell" = true)
    (kp__law_cell : PySem.W.keepIn K (.ref a__law_cell) = true)
    (n__law_between : PySem.W.nsIn K mainGlobals "_law_between" = some (some (.ref a__law_between)))
    (l__law_between : K.lookup a__law_between = some ⟨oc__law_between, od__law_between, .func (PySem.W.fnOf "_law_between" "_law_between" (defArgs s__law_between) (defBody s__law_between) (defScope s__law_between) .none kV__law_between dc__law_between pm__law_between an__law_between cd__law_between ct__law_between), sl__law_between⟩)
    (c__law_between : PySem.W.codeIn K cd__law_between "_law_between" = true)
    (kp__law_between : PySem.W.keepIn K (.ref a__law_between) = true)
    (n__law_round_holds : PySem.W.nsIn K mainGlobals "_law_round_holds" = some (some (.ref a__law_round_holds)))
    (l__law_round_holds : K.lookup a__law_round_holds = some ⟨oc__law_round_holds, od__law_round_holds, .func (PySem.W.fnOf "_law_round_holds" "_law_round_holds" (defArgs s__law_round_holds) (defBody s__law_round_holds) (defScope s__law_round_holds) .none kV__law_round_holds dc__law_round_holds pm__law_round_holds an__law_round_holds cd__law_round_holds ct__law_round_holds), sl__law_round_holds⟩)
    (c__law_round_holds : PySem.W.codeIn K cd__law_round_holds "_law_round_holds" = true)
    (kp__law_round_holds : PySem.W.keepIn K (.ref a__law_round_holds) = true)
    (n__law_lefts_hold : PySem.W.nsIn K mainGlobals "_law_lefts_hold" = some (some (.ref a__law_lefts_hold)))
    (l__law_lefts_hold : K.lookup a__law_lefts_hold = some ⟨oc__law_lefts_hold, od__law_lefts_hold, .func (PySem.W.fnOf "_law_lefts_hold" "_law_lefts_hold" (defArgs s__law_lefts_hold) (defBody s__law_lefts_hold) (defScope s__law_lefts_hold) .none kV__law_lefts_hold dc__law_lefts_hold pm__law_lefts_hold an__law_lefts_hold cd__law_lefts_hold ct__law_lefts_hold), sl__law_lefts_hold⟩)
    (c__law_lefts_hold : PySem.W.codeIn K cd__law_lefts_hold "_law_lefts_hold" = true)
    (kp__law_lefts_hold : PySem.W.keepIn K (.ref a__law_lefts_hold) = true)
    (n_first_behind : PySem.W.nsIn K mainGlobals "first_behind" = some (some (.ref a_first_behind)))
    (l_first_behind : K.lookup a_first_behind = some ⟨oc_first_behind, od_first_behind, .func (PySem.W.fnOf "first_behind" "first_behind" (defArgs s_first_behind) (defBody s_first_behind) (defScope s_first_behind) .none kV_first_behind dc_first_behind pm_first_behind an_first_behind cd_first_behind ct_first_behind), sl_first_behind⟩)
    (c_first_behind : PySem.W.codeIn K cd_first_behind "first_behind" = true)
    (kp_first_behind : PySem.W.keepIn K (.ref a_first_behind) = true)
    (n_subset_list : PySem.W.nsIn K mainGlobals "subset_list" = some (some (.ref a_subset_list)))
    (l_subset_list : K.lookup a_subset_list = some ⟨oc_subset_list, od_subset_list, .func (PySem.W.fnOf "subset_list" "subset_list" (defArgs s_subset_list) (defBody s_subset_list) (defScope s_subset_list) .none kV_subset_list dc_subset_list pm_subset_list an_subset_list cd_subset_list ct_subset_list), sl_subset_list⟩)
    (c_subset_list : PySem.W.codeIn K cd_subset_list "subset_list" = true)
    (kp_subset_list : PySem.W.keepIn K (.ref a_subset_list) = true)
    (n_check_turns : PySem.W.nsIn K mainGlobals "check_turns" = some (some (.ref a_check_turns)))
    (l_check_turns : K.lookup a_check_turns = some ⟨oc_check_turns, od_check_turns, .func (PySem.W.fnOf "check_turns" "check_turns" (defArgs s_check_turns) (defBody s_check_turns) (defScope s_check_turns) .none kV_check_turns dc_check_turns pm_check_turns an_check_turns cd_check_turns ct_check_turns), sl_check_turns⟩)
    (c_check_turns : PySem.W.codeIn K cd_check_turns "check_turns" = true)
    (kp_check_turns : PySem.W.keepIn K (.ref a_check_turns) = true)
    (n_check_range : PySem.W.nsIn K mainGlobals "check_range" = some (some (.ref a_check_range)))
    (l_check_range : K.lookup a_check_range = some ⟨oc_check_range, od_check_range, .func (PySem.W.fnOf "check_range" "check_range" (defArgs s_check_range) (defBody s_check_range) (defScope s_check_range) .none kV_check_range dc_check_range pm_check_range an_check_range cd_check_range ct_check_range), sl_check_range⟩)
    (c_check_range : PySem.W.codeIn K cd_check_range "check_range" = true)
    (kp_check_range : PySem.W.keepIn K (.ref a_check_range) = true)
    (n_check_point : PySem.W.nsIn K mainGlobals "check_point" = some (some (.ref a_check_point)))
    (l_check_point : K.lookup a_check_point = some ⟨oc_check_point, od_check_point, .func (PySem.W.fnOf "check_point" "check_point" (defArgs s_check_point) (defBody s_check_point) (defScope s_check_point) .none kV_check_point dc_check_point pm_check_point an_check_point cd_check_point ct_check_point), sl_check_point⟩)
    (c_check_point : PySem.W.codeIn K cd_check_point "check_point" = true)
    (kp_check_point : PySem.W.keepIn K (.ref a_check_point) = true)
    (n_check_count : PySem.W.nsIn K mainGlobals "check_count" = some (some (.ref a_check_count)))
    (l_check_count : K.lookup a_check_count = some ⟨oc_check_count, od_check_count, .func (PySem.W.fnOf "check_count" "check_count" (defArgs s_check_count) (defBody s_check_count) (defScope s_check_count) .none kV_check_count dc_check_count pm_check_count an_check_count cd_check_count ct_check_count), sl_check_count⟩)
    (c_check_count : PySem.W.codeIn K cd_check_count "check_count" = true)
    (kp_check_count : PySem.W.keepIn K (.ref a_check_count) = true)
    (f_Floor___init__ : PySem.W.findIn K (.ref a_Floor) "__init__" = some (some (.ref a_Floor___init__)))
    (fi_Floor___init__ : PySem.W.isFn K (.ref a_Floor___init__) = true)
    (l_Floor___init__ : K.lookup a_Floor___init__ = some ⟨oc_Floor___init__, od_Floor___init__, .func (PySem.W.fnOf "__init__" "Floor.__init__" (defArgs s_Floor___init__) (defBody s_Floor___init__) (defScope s_Floor___init__) .none kV_Floor___init__ dc_Floor___init__ pm_Floor___init__ an_Floor___init__ cd_Floor___init__ ct_Floor___init__), sl_Floor___init__⟩)
    (c_Floor___init__ : PySem.W.codeIn K cd_Floor___init__ "Floor.__init__" = true)
    (kp_Floor___init__ : PySem.W.keepIn K (.ref a_Floor___init__) = true)
    (mk_Floor : PySem.W.makesIn K a_Floor = true)
    (kc_Floor : PySem.W.keepIn K (.ref a_Floor) = true)
    (n__law_made : PySem.W.nsIn K mainGlobals "_law_made" = some (some (.ref a__law_made)))
    (l__law_made : K.lookup a__law_made = some ⟨oc__law_made, od__law_made, .func (PySem.W.fnOf "_law_made" "_law_made" (defArgs s__law_made) (defBody s__law_made) (defScope s__law_made) .none kV__law_made dc__law_made pm__law_made an__law_made cd__law_made ct__law_made), sl__law_made⟩)
    (c__law_made : PySem.W.codeIn K cd__law_made "_law_made" = true)
    (kp__law_made : PySem.W.keepIn K (.ref a__law_made) = true)
    (n__law_refusal : PySem.W.nsIn K mainGlobals "_law_refusal" = some (some (.ref a__law_refusal)))
    (l__law_refusal : K.lookup a__law_refusal = some ⟨oc__law_refusal, od__law_refusal, .func (PySem.W.fnOf "_law_refusal" "_law_refusal" (defArgs s__law_refusal) (defBody s__law_refusal) (defScope s__law_refusal) .none kV__law_refusal dc__law_refusal pm__law_refusal an__law_refusal cd__law_refusal ct__law_refusal), sl__law_refusal⟩)
    (c__law_refusal : PySem.W.codeIn K cd__law_refusal "_law_refusal" = true)
    (kp__law_refusal : PySem.W.keepIn K (.ref a__law_refusal) = true)
    (n__law_drawn : PySem.W.nsIn K mainGlobals "_law_drawn" = some (some (.ref a__law_drawn)))
    (l__law_drawn : K.lookup a__law_drawn = some ⟨oc__law_drawn, od__law_drawn, .func (PySem.W.fnOf "_law_drawn" "_law_drawn" (defArgs s__law_drawn) (defBody s__law_drawn) (defScope s__law_drawn) .none kV__law_drawn dc__law_drawn pm__law_drawn an__law_drawn cd__law_drawn ct__law_drawn), sl__law_drawn⟩)
    (c__law_drawn : PySem.W.codeIn K cd__law_drawn "_law_drawn" = true)
    (kp__law_drawn : PySem.W.keepIn K (.ref a__law_drawn) = true)
    (n_law : PySem.W.nsIn K mainGlobals "law" = some (some (.ref a_law)))
    (l_law : K.lookup a_law = some ⟨oc_law, od_law, .func (PySem.W.fnOf "law" "law" (defArgs s_law) (defBody s_law) (defScope s_law) .none kV_law dc_law pm_law an_law cd_law ct_law), sl_law⟩)
    (c_law : PySem.W.codeIn K cd_law "law" = true)
    (kp_law : PySem.W.keepIn K (.ref a_law) = true)
    (z_ValueError : PySem.W.nsIn K mainGlobals "ValueError" = some none)
    (z_abs : PySem.W.nsIn K mainGlobals "abs" = some none)
    (z_bool : PySem.W.nsIn K mainGlobals "bool" = some none)
    (z_enumerate : PySem.W.nsIn K mainGlobals "enumerate" = some none)
    (z_int : PySem.W.nsIn K mainGlobals "int" = some none)
    (z_isinstance : PySem.W.nsIn K mainGlobals "isinstance" = some none)
    (z_len : PySem.W.nsIn K mainGlobals "len" = some none)
    (z_list : PySem.W.nsIn K mainGlobals "list" = some none)
    (z_range : PySem.W.nsIn K mainGlobals "range" = some none)
    (z_sorted : PySem.W.nsIn K mainGlobals "sorted" = some none)
    (z_tuple : PySem.W.nsIn K mainGlobals "tuple" = some none)
    (s_WrongCount_BowlError : PySem.W.subIn K (.ref a_WrongCount) (.ref a_BowlError) = some true)
    (s_WrongCount_ValueError : PySem.W.subIn K (.ref a_WrongCount) (.type "ValueError") = some true)
    (s_TooFar_BowlError : PySem.W.subIn K (.ref a_TooFar) (.ref a_BowlError) = some true)
    (s_TooFar_ValueError : PySem.W.subIn K (.ref a_TooFar) (.type "ValueError") = some true)
    (s_OnLine_BowlError : PySem.W.subIn K (.ref a_OnLine) (.ref a_BowlError) = some true)
    (s_OnLine_ValueError : PySem.W.subIn K (.ref a_OnLine) (.type "ValueError") = some true)
    (s_NoPoint_BowlError : PySem.W.subIn K (.ref a_NoPoint) (.ref a_BowlError) = some true)
    (s_NoPoint_ValueError : PySem.W.subIn K (.ref a_NoPoint) (.type "ValueError") = some true)
    (s_Repeated_BowlError : PySem.W.subIn K (.ref a_Repeated) (.ref a_BowlError) = some true)
    (s_Repeated_ValueError : PySem.W.subIn K (.ref a_Repeated) (.type "ValueError") = some true)
    (s_WrongCount_WrongCount : PySem.W.subIn K (.ref a_WrongCount) (.ref a_WrongCount) = some true)
    (s_WrongCount_OnLine : PySem.W.subIn K (.ref a_WrongCount) (.ref a_OnLine) = some false)
    (s_WrongCount_TooFar : PySem.W.subIn K (.ref a_WrongCount) (.ref a_TooFar) = some false)
    (s_TooFar_TooFar : PySem.W.subIn K (.ref a_TooFar) (.ref a_TooFar) = some true)
    (s_TooFar_OnLine : PySem.W.subIn K (.ref a_TooFar) (.ref a_OnLine) = some false)
    (s_TooFar_WrongCount : PySem.W.subIn K (.ref a_TooFar) (.ref a_WrongCount) = some false)
    (s_OnLine_OnLine : PySem.W.subIn K (.ref a_OnLine) (.ref a_OnLine) = some true)
    (s_OnLine_TooFar : PySem.W.subIn K (.ref a_OnLine) (.ref a_TooFar) = some false)
    (s_OnLine_WrongCount : PySem.W.subIn K (.ref a_OnLine) (.ref a_WrongCount) = some false)
    (s_NoPoint_NoPoint : PySem.W.subIn K (.ref a_NoPoint) (.ref a_NoPoint) = some true)
    (s_NoPoint_Repeated : PySem.W.subIn K (.ref a_NoPoint) (.ref a_Repeated) = some false)
    (s_NoPoint_TooFar : PySem.W.subIn K (.ref a_NoPoint) (.ref a_TooFar) = some false)
    (s_Repeated_Repeated : PySem.W.subIn K (.ref a_Repeated) (.ref a_Repeated) = some true)
    (s_Repeated_NoPoint : PySem.W.subIn K (.ref a_Repeated) (.ref a_NoPoint) = some false)
    (s_Repeated_TooFar : PySem.W.subIn K (.ref a_Repeated) (.ref a_TooFar) = some false) :
    ∃ T : Tx K mg, mg "law" = some (.ref T.a_law) ∧ EB.MkrIn K "in_order" T.mk_in_order ∧ ([T.mk_in_order] : List Mkr).Pairwise (fun a b => a.P ≠ b.P) :=
  ⟨{ a_Repeated := a_Repeated,
     i_Repeated := i_Repeated,
     fd_Repeated := _,
     g_Repeated := PySem.W.mg_of X G n_Repeated,
     F_Repeated := fun_mk (st := s_Repeated) l_Repeated c_Repeated kp_Repeated,
     X_Repeated := ⟨⟨⟨_, _, _, _, _, _, _, _, _, _, _, _, _, _, _, o_Repeated, v_Repeated⟩, sa_Repeated, sb_Repeated, ty_Repeated, kc_Repeated⟩, ii_Repeated, ti_Repeated, nf_Repeated, ⟨ga_Repeated, gt_Repeated, sb_Repeated, hd_Repeated⟩, ⟨is_Repeated, ga_Repeated, gt_Repeated, sb_Repeated, ca_Repeated, gn, tkc, mo_Repeated⟩⟩,
     a_NoPoint := a_NoPoint,
     i_NoPoint := i_NoPoint,
     fd_NoPoint := _,
     g_NoPoint := PySem.W.mg_of X G n_NoPoint,
     F_NoPoint := fun_mk (st := s_NoPoint) l_NoPoint c_NoPoint kp_NoPoint,
     X_NoPoint := ⟨⟨⟨_, _, _, _, _, _, _, _, _, _, _, _, _, _, _, o_NoPoint, v_NoPoint⟩, sa_NoPoint, sb_NoPoint, ty_NoPoint, kc_NoPoint⟩, ii_NoPoint, ti_NoPoint, nf_NoPoint, ⟨ga_NoPoint, gt_NoPoint, sb_NoPoint, hd_NoPoint⟩, ⟨is_NoPoint, ga_NoPoint, gt_NoPoint, sb_NoPoint, ca_NoPoint, gn, tkc, mo_NoPoint⟩⟩,
     a_OnLine := a_OnLine,
     i_OnLine := i_OnLine,
     fd_OnLine := _,
     g_OnLine := PySem.W.mg_of X G n_OnLine,
     F_OnLine := fun_mk (st := s_OnLine) l_OnLine c_OnLine kp_OnLine,
     X_OnLine := ⟨⟨⟨_, _, _, _, _, _, _, _, _, _, _, _, _, _, _, o_OnLine, v_OnLine⟩, sa_OnLine, sb_OnLine, ty_OnLine, kc_OnLine⟩, ii_OnLine, ti_OnLine, nf_OnLine, ⟨ga_OnLine, gt_OnLine, sb_OnLine, hd_OnLine⟩, ⟨is_OnLine, ga_OnLine, gt_OnLine, sb_OnLine, ca_OnLine, gn, tkc, mo_OnLine⟩⟩,
     a_TooFar := a_TooFar,
     i_TooFar := i_TooFar,
     fd_TooFar := _,
     g_TooFar := PySem.W.mg_of X G n_TooFar,
     F_TooFar := fun_mk (st := s_TooFar) l_TooFar c_TooFar kp_TooFar,
     X_TooFar := ⟨⟨⟨_, _, _, _, _, _, _, _, _, _, _, _, _, _, _, o_TooFar, v_TooFar⟩, sa_TooFar, sb_TooFar, ty_TooFar, kc_TooFar⟩, ii_TooFar, ti_TooFar, nf_TooFar, ⟨ga_TooFar, gt_TooFar, sb_TooFar, hd_TooFar⟩, ⟨is_TooFar, ga_TooFar, gt_TooFar, sb_TooFar, ca_TooFar, gn, tkc, mo_TooFar⟩⟩,
     a_WrongCount := a_WrongCount,
     i_WrongCount := i_WrongCount,
     fd_WrongCount := _,
     g_WrongCount := PySem.W.mg_of X G n_WrongCount,
     F_WrongCount := fun_mk (st := s_WrongCount) l_WrongCount c_WrongCount kp_WrongCount,
     X_WrongCount := ⟨⟨⟨_, _, _, _, _, _, _, _, _, _, _, _, _, _, _, o_WrongCount, v_WrongCount⟩, sa_WrongCount, sb_WrongCount, ty_WrongCount, kc_WrongCount⟩, ii_WrongCount, ti_WrongCount, nf_WrongCount, ⟨ga_WrongCount, gt_WrongCount, sb_WrongCount, hd_WrongCount⟩, ⟨is_WrongCount, ga_WrongCount, gt_WrongCount, sb_WrongCount, ca_WrongCount, gn, tkc, mo_WrongCount⟩⟩,
     a_BowlError := a_BowlError,
     g_BowlError := PySem.W.mg_of X G n_BowlError,
     gn := gn,
     tkc := tkc,
     a_Floor := a_Floor,
     mc_Floor := mc_Floor,
     g_Floor := PySem.W.mg_of X G n_Floor,
     C_Floor := ⟨pg_Floor, hd_Floor, po_Floor, sa_Floor⟩,
     cr_Floor := ⟨rd_Floor, gc_Floor⟩,
     n_Floor_points := na_Floor_points,
     u_Floor_LEAST := _,
     cv_Floor_LEAST := ⟨cv_Floor_LEAST, ⟨_, rfl⟩⟩,
     u_Floor_MOST := _,
     cv_Floor_MOST := ⟨cv_Floor_MOST, ⟨_, rfl⟩⟩,
     u_Floor_FAR := _,
     cv_Floor_FAR := ⟨cv_Floor_FAR, ⟨_, rfl⟩⟩,
     ca_Floor := ca_Floor,
     mo_Floor := mo_Floor,
     ki_Floor := EB.kit_refl,
     fd__law_whole := _,
     F__law_whole := fun_mk (st := s__law_whole) l__law_whole c__law_whole kp__law_whole,
     g__law_whole := PySem.W.mg_of X G n__law_whole,
     a__law_whole := a__law_whole,
     fd_bare_area := _,
     F_bare_area := fun_mk (st := s_bare_area) l_bare_area c_bare_area kp_bare_area,
     g_bare_area := PySem.W.mg_of X G n_bare_area,
     a_bare_area := a_bare_area,
     fd_check_number := _,
     F_check_number := fun_mk (st := s_check_number) l_check_number c_check_number kp_check_number,
     g_check_number := PySem.W.mg_of X G n_check_number,
     a_check_number := a_check_number,
     fd_check_numbers := _,
     F_check_numbers := fun_mk (st := s_check_numbers) l_check_numbers c_check_numbers kp_check_numbers,
     g_check_numbers := PySem.W.mg_of X G n_check_numbers,
     a_check_numbers := a_check_numbers,
     fd_Floor_left_of := _,
     F_Floor_left_of := fun_mk (st := s_Floor_left_of) l_Floor_left_of c_Floor_left_of kp_Floor_left_of,
     m_Floor_left_of := ⟨f_Floor_left_of, fi_Floor_left_of, kp_Floor_left_of⟩,
     a_Floor_left_of := a_Floor_left_of,
     fd_in_order := _,
     F_in_order := fun_mk (st := s_in_order) l_in_order c_in_order kp_in_order,
     g_in_order := PySem.W.mg_of X G n_in_order,
     mk_in_order := ⟨EB.tabC K "in_order", EB.tabP K "in_order", _⟩,
     ce_in_order := EB.code_at X G ht_in_order (PySem.W.mg_of X G n_in_order) l_in_order rfl,
     mq_in_order := rfl,
     a_in_order := a_in_order,
     fd_others := _,
     F_others := fun_mk (st := s_others) l_others c_others kp_others,
     g_others := PySem.W.mg_of X G n_others,
     a_others := a_others,
     fd_Floor___len__ := _,
     F_Floor___len__ := fun_mk (st := s_Floor___len__) l_Floor___len__ c_Floor___len__ kp_Floor___len__,
     m_Floor___len__ := ⟨f_Floor___len__, fi_Floor___len__, kp_Floor___len__⟩,
     a_Floor___len__ := a_Floor___len__,
     fd_round_point := _,
     F_round_point := fun_mk (st := s_round_point) l_round_point c_round_point kp_round_point,
     g_round_point := PySem.W.mg_of X G n_round_point,
     a_round_point := a_round_point,
     fd__law_told := _,
     F__law_told := fun_mk (st := s__law_told) l__law_told c__law_told kp__law_told,
     g__law_told := PySem.W.mg_of X G n__law_told,
     a__law_told := a__law_told,
     fd__law_area := _,
     F__law_area := fun_mk (st := s__law_area) l__law_area c__law_area kp__law_area,
     g__law_area := PySem.W.mg_of X G n__law_area,
     a__law_area := a__law_area,
     fd__law_left_due := _,
     F__law_left_due := fun_mk (st := s__law_left_due) l__law_left_due c__law_left_due kp__law_left_due,
     g__law_left_due := PySem.W.mg_of X G n__law_left_due,
     a__law_left_due := a__law_left_due,
     fd__law_cell := _,
     F__law_cell := fun_mk (st := s__law_cell) l__law_cell c__law_cell kp__law_cell,
     g__law_cell := PySem.W.mg_of X G n__law_cell,
     a__law_cell := a__law_cell,
     fd__law_between := _,
     F__law_between := fun_mk (st := s__law_between) l__law_between c__law_between kp__law_between,
     g__law_between := PySem.W.mg_of X G n__law_between,
     a__law_between := a__law_between,
     fd__law_round_holds := _,
     F__law_round_holds := fun_mk (st := s__law_round_holds) l__law_round_holds c__law_round_holds kp__law_round_holds,
     g__law_round_holds := PySem.W.mg_of X G n__law_round_holds,
     a__law_round_holds := a__law_round_holds,
     fd__law_lefts_hold := _,
     F__law_lefts_hold := fun_mk (st := s__law_lefts_hold) l__law_lefts_hold c__law_lefts_hold kp__law_lefts_hold,
     g__law_lefts_hold := PySem.W.mg_of X G n__law_lefts_hold,
     a__law_lefts_hold := a__law_lefts_hold,
     fd_first_behind := _,
     F_first_behind := fun_mk (st := s_first_behind) l_first_behind c_first_behind kp_first_behind,
     g_first_behind := PySem.W.mg_of X G n_first_behind,
     a_first_behind := a_first_behind,
     fd_subset_list := _,
     F_subset_list := fun_mk (st := s_subset_list) l_subset_list c_subset_list kp_subset_list,
     g_subset_list := PySem.W.mg_of X G n_subset_list,
     a_subset_list := a_subset_list,
     fd_check_turns := _,
     F_check_turns := fun_mk (st := s_check_turns) l_check_turns c_check_turns kp_check_turns,
     g_check_turns := PySem.W.mg_of X G n_check_turns,
     a_check_turns := a_check_turns,
     fd_check_range := _,
     F_check_range := fun_mk (st := s_check_range) l_check_range c_check_range kp_check_range,
     g_check_range := PySem.W.mg_of X G n_check_range,
     a_check_range := a_check_range,
     fd_check_point := _,
     F_check_point := fun_mk (st := s_check_point) l_check_point c_check_point kp_check_point,
     g_check_point := PySem.W.mg_of X G n_check_point,
     a_check_point := a_check_point,
     fd_check_count := _,
     F_check_count := fun_mk (st := s_check_count) l_check_count c_check_count kp_check_count,
     g_check_count := PySem.W.mg_of X G n_check_count,
     a_check_count := a_check_count,
     fd_Floor___init__ := _,
     F_Floor___init__ := fun_mk (st := s_Floor___init__) l_Floor___init__ c_Floor___init__ kp_Floor___init__,
     M_Floor := ⟨mk_Floor, f_Floor___init__, fi_Floor___init__, kc_Floor⟩,
     a_Floor___init__ := a_Floor___init__,
     fd__law_made := _,
     F__law_made := fun_mk (st := s__law_made) l__law_made c__law_made kp__law_made,
     g__law_made := PySem.W.mg_of X G n__law_made,
     a__law_made := a__law_made,
     fd__law_refusal := _,
     F__law_refusal := fun_mk (st := s__law_refusal) l__law_refusal c__law_refusal kp__law_refusal,
     g__law_refusal := PySem.W.mg_of X G n__law_refusal,
     a__law_refusal := a__law_refusal,
     fd__law_drawn := _,
     F__law_drawn := fun_mk (st := s__law_drawn) l__law_drawn c__law_drawn kp__law_drawn,
     g__law_drawn := PySem.W.mg_of X G n__law_drawn,
     a__law_drawn := a__law_drawn,
     fd_law := _,
     F_law := fun_mk (st := s_law) l_law c_law kp_law,
     g_law := PySem.W.mg_of X G n_law,
     a_law := a_law,
     z_ValueError := PySem.W.mg_none_of X G z_ValueError,
     z_abs := PySem.W.mg_none_of X G z_abs,
     z_bool := PySem.W.mg_none_of X G z_bool,
     z_enumerate := PySem.W.mg_none_of X G z_enumerate,
     z_int := PySem.W.mg_none_of X G z_int,
     z_isinstance := PySem.W.mg_none_of X G z_isinstance,
     z_len := PySem.W.mg_none_of X G z_len,
     z_list := PySem.W.mg_none_of X G z_list,
     z_range := PySem.W.mg_none_of X G z_range,
     z_sorted := PySem.W.mg_none_of X G z_sorted,
     z_tuple := PySem.W.mg_none_of X G z_tuple,
     k_WrongCount_BowlError := EB.kit_sub is_BowlError ty_BowlError s_WrongCount_BowlError fun _ => rfl,
     k_WrongCount_ValueError := EB.kit_val s_WrongCount_ValueError,
     k_TooFar_BowlError := EB.kit_sub is_BowlError ty_BowlError s_TooFar_BowlError fun _ => rfl,
     k_TooFar_ValueError := EB.kit_val s_TooFar_ValueError,
     k_OnLine_BowlError := EB.kit_sub is_BowlError ty_BowlError s_OnLine_BowlError fun _ => rfl,
     k_OnLine_ValueError := EB.kit_val s_OnLine_ValueError,
     k_NoPoint_BowlError := EB.kit_sub is_BowlError ty_BowlError s_NoPoint_BowlError fun _ => rfl,
     k_NoPoint_ValueError := EB.kit_val s_NoPoint_ValueError,
     k_Repeated_BowlError := EB.kit_sub is_BowlError ty_BowlError s_Repeated_BowlError fun _ => rfl,
     k_Repeated_ValueError := EB.kit_val s_Repeated_ValueError,
     k_WrongCount_OnLine_TooFar := EB.kit_any2 (EB.kit_off is_OnLine ty_OnLine s_WrongCount_WrongCount s_WrongCount_OnLine) (EB.kit_off is_TooFar ty_TooFar s_WrongCount_WrongCount s_WrongCount_TooFar),
     k_TooFar_OnLine_WrongCount := EB.kit_any2 (EB.kit_off is_OnLine ty_OnLine s_TooFar_TooFar s_TooFar_OnLine) (EB.kit_off is_WrongCount ty_WrongCount s_TooFar_TooFar s_TooFar_WrongCount),
     k_OnLine_TooFar_WrongCount := EB.kit_any2 (EB.kit_off is_TooFar ty_TooFar s_OnLine_OnLine s_OnLine_TooFar) (EB.kit_off is_WrongCount ty_WrongCount s_OnLine_OnLine s_OnLine_WrongCount),
     k_NoPoint_Repeated_TooFar := EB.kit_any2 (EB.kit_off is_Repeated ty_Repeated s_NoPoint_NoPoint s_NoPoint_Repeated) (EB.kit_off is_TooFar ty_TooFar s_NoPoint_NoPoint s_NoPoint_TooFar),
     k_Repeated_NoPoint_TooFar := EB.kit_any2 (EB.kit_off is_NoPoint ty_NoPoint s_Repeated_Repeated s_Repeated_NoPoint) (EB.kit_off is_TooFar ty_TooFar s_Repeated_Repeated s_Repeated_TooFar),
     x_WrongCount_WrongCount := EB.exm_sub sb_WrongCount is_WrongCount ty_WrongCount s_WrongCount_WrongCount,
     x_TooFar_WrongCount := EB.exm_sub sb_WrongCount is_WrongCount ty_WrongCount s_TooFar_WrongCount,
     x_TooFar_TooFar := EB.exm_sub sb_TooFar is_TooFar ty_TooFar s_TooFar_TooFar,
     x_OnLine_WrongCount := EB.exm_sub sb_WrongCount is_WrongCount ty_WrongCount s_OnLine_WrongCount,
     x_OnLine_TooFar := EB.exm_sub sb_TooFar is_TooFar ty_TooFar s_OnLine_TooFar,
     x_OnLine_OnLine := EB.exm_sub sb_OnLine is_OnLine ty_OnLine s_OnLine_OnLine,
     x_NoPoint_NoPoint := EB.exm_sub sb_NoPoint is_NoPoint ty_NoPoint s_NoPoint_NoPoint,
     x_Repeated_NoPoint := EB.exm_sub sb_NoPoint is_NoPoint ty_NoPoint s_Repeated_NoPoint,
     x_Repeated_Repeated := EB.exm_sub sb_Repeated is_Repeated ty_Repeated s_Repeated_Repeated }, PySem.W.mg_of X G n_law, ⟨ht_in_order, ho_in_order⟩,  by simp only [List.pairwise_cons, List.mem_cons, List.not_mem_nil, or_false, forall_eq_or_imp, forall_eq, List.Pairwise.nil, and_true, false_implies, implies_true]⟩
end K07
namespace K07
open PySem PySem.Spec PyProof.Rows L2 Evl EB
theorem ok_WrongCount {P : Program} {w : World} {K : PySem.W.Frag} {mg : Str → Option Value} {base : Heap} (T : Tx K mg) : FnOk P w K mg base CX0 1 T.i_WrongCount T.fd_WrongCount ["self", "count"] (spErr T.a_WrongCount "count") := by
  refine T.F_WrongCount.ok sc_WrongCount (fun vs H Q E h => by obtain ⟨a, u, rfl, _⟩ := h; rfl) (fun cdv A outer s H vs Q E hr h => ?_)
  obtain ⟨a, u, rfl, ha, k⟩ := h
  refine ⟨_, pss_one (ps_ost (pv 0) (pv 1)), ?_⟩
  exact ⟨_, rfl, _, rfl, a, T.a_WrongCount, rfl, T.X_WrongCount.ox, T.X_WrongCount.nf, .inl ⟨ha, k⟩⟩
theorem ok_TooFar {P : Program} {w : World} {K : PySem.W.Frag} {mg : Str → Option Value} {base : Heap} (T : Tx K mg) : FnOk P w K mg base CX0 1 T.i_TooFar T.fd_TooFar ["self", "value"] (spErr T.a_TooFar "value") := by
  refine T.F_TooFar.ok sc_TooFar (fun vs H Q E h => by obtain ⟨a, u, rfl, _⟩ := h; rfl) (fun cdv A outer s H vs Q E hr h => ?_)
  obtain ⟨a, u, rfl, ha, k⟩ := h
  refine ⟨_, pss_one (ps_ost (pv 0) (pv 1)), ?_⟩
  exact ⟨_, rfl, _, rfl, a, T.a_TooFar, rfl, T.X_TooFar.ox, T.X_TooFar.nf, .inl ⟨ha, k⟩⟩
theorem ok_NoPoint {P : Program} {w : World} {K : PySem.W.Frag} {mg : Str → Option Value} {base : Heap} (T : Tx K mg) : FnOk P w K mg base CX0 1 T.i_NoPoint T.fd_NoPoint ["self", "number"] (spErr T.a_NoPoint "number") := by
  refine T.F_NoPoint.ok sc_NoPoint (fun vs H Q E h => by obtain ⟨a, u, rfl, _⟩ := h; rfl) (fun cdv A outer s H vs Q E hr h => ?_)
  obtain ⟨a, u, rfl, ha, k⟩ := h
  refine ⟨_, pss_one (ps_ost (pv 0) (pv 1)), ?_⟩
  exact ⟨_, rfl, _, rfl, a, T.a_NoPoint, rfl, T.X_NoPoint.ox, T.X_NoPoint.nf, .inl ⟨ha, k⟩⟩
theorem ok_Repeated {P : Program} {w : World} {K : PySem.W.Frag} {mg : Str → Option Value} {base : Heap} (T : Tx K mg) : FnOk P w K mg base CX0 1 T.i_Repeated T.fd_Repeated ["self", "number"] (spErr T.a_Repeated "number") := by
  refine T.F_Repeated.ok sc_Repeated (fun vs H Q E h => by obtain ⟨a, u, rfl, _⟩ := h; rfl) (fun cdv A outer s H vs Q E hr h => ?_)
  obtain ⟨a, u, rfl, ha, k⟩ := h
  refine ⟨_, pss_one (ps_ost (pv 0) (pv 1)), ?_⟩
  exact ⟨_, rfl, _, rfl, a, T.a_Repeated, rfl, T.X_Repeated.ox, T.X_Repeated.nf, .inl ⟨ha, k⟩⟩
theorem ok_OnLine {P : Program} {w : World} {K : PySem.W.Frag} {mg : Str → Option Value} {base : Heap} (T : Tx K mg) : FnOk P w K mg base CX0 1 T.i_OnLine T.fd_OnLine ["self", "numbers"] (spErr T.a_OnLine "numbers") := by
  refine T.F_OnLine.ok sc_OnLine (fun vs H Q E h => by obtain ⟨a, u, rfl, _⟩ := h; rfl) (fun cdv A outer s H vs Q E hr h => ?_)
  obtain ⟨a, u, rfl, ha, k⟩ := h
  refine ⟨_, pss_one (ps_ost (pv 0) (pv 1)), ?_⟩
  exact ⟨_, rfl, _, rfl, a, T.a_OnLine, rfl, T.X_OnLine.ox, T.X_OnLine.nf, .inl ⟨ha, k⟩⟩
def inR (lo v hi : Int) : Bool := decide (lo ≤ v) && decide (v ≤ hi)
def sq (b : Bool) (ds : List PyData) : PyData := if b then .list ds else .tuple ds
section
variable {K : PySem.W.Frag}
def args_check_range {K : PySem.W.Frag} {mg : Str → Option Value} (T : Tx K mg) : Int × Int × Int → List PV := fun a => [dv K (.int a.1), dv K (.int a.2.1), dv K (.int a.2.2)]
def dom_check_range : Int × Int × Int → Prop := fun _ => True
def out_check_range {K : PySem.W.Frag} {mg : Str → Option Value} (T : Tx K mg) : Int × Int × Int → Out := fun a => match inR a.2.1 a.1 a.2.2 with | true => .ok (dv K .none) | false => .er ⟨.TooFar, .int a.1⟩
end
theorem ok_check_range [LT] {P : Program} {w : World} {K : PySem.W.Frag} {mg : Str → Option Value} {base : Heap} (T : Tx K mg) : FnOk P w K mg base (L2N.CX P w) 3 T.a_check_range T.fd_check_range ["value", "least", "most"] (Prm K T.M (args_check_range T) dom_check_range (out_check_range T)) := by
  refine T.F_check_range.okXN sc_check_range (fun vs H Q E h => by obtain ⟨a, F, _, al, _⟩ := h; exact al.length) (fun cdv A outer s H vs Q E hr h => ?_)
  have tk : L2N.Takes (cxOf (L2N.CX P w) P w K mg base N_check_range "check_range" (defScope s_check_range) T.a_check_range cdv A outer s H E) (fun cls d _ H => E cls d H) := L2N.takes_of rfl rfl rfl rfl
  obtain ⟨a, F, fh, al, hd, th⟩ := h
  refine ⟨_, (pss_one (ps_if (pt_not (pt_chain op_le op_le (pv 1) (pv 0) (pv 2))) (pss_one (L2N.ps_raise rfl tk (pmk_oexN (T.X_TooFar).ox (T.X_TooFar).iC (T.X_TooFar).tI (ok_TooFar T) (hr.mono (by decide)) (b_TooFar T) .nil pass0 (by rfl) T.g_TooFar (pa_cons (pv 0) pa_nil)))) pss_nil)), ?_⟩
  cases hb : inR a.2.1 a.1 a.2.2 with
  | true =>
    refine fin_ok (r := .nx _) (js_if (b := false) (jt_is (jt_not (jt_test (je_chainI (je_var rfl) (je_var rfl) (je_var rfl)))) ?_) (fun z => Bool.noConfusion z) (fun _ => js_next)) ?_ fh al th
    · show (!inR a.2.1 a.1 a.2.2) = false
      rw [hb] <;> rfl
    · show Fin K _ (out_check_range T a)
      unfold out_check_range
      rw [hb] <;> rfl
  | false =>
    refine fin_ok (r := .er ⟨.TooFar, .int a.1⟩) (js_if (b := true) (jt_is (jt_not (jt_test (je_chainI (je_var rfl) (je_var rfl) (je_var rfl)))) ?_) (fun _ => js_raise (M := T.M) (c := .TooFar) (ja_cons (je_var rfl) ja_nil)) (fun z => Bool.noConfusion z)) ?_ fh al th
    · show (!inR a.2.1 a.1 a.2.2) = true
      rw [hb] <;> rfl
    · show Fin K _ (out_check_range T a)
      unfold out_check_range
      rw [hb] <;> rfl
end K07
namespace K07
open PySem PySem.Spec PyProof.Rows L2 Evl EB
/-! ### check_count -/
def args_check_count {K : PySem.W.Frag} {mg : Str → Option Value} (T : Tx K mg) : Bool × List PyData × Int × Int → List PV := fun a => [dv K (sq a.1 a.2.1), dv K (.int a.2.2.1), dv K (.int a.2.2.2)]
def dom_check_count : Bool × List PyData × Int × Int → Prop := fun _ => True
def out_check_count {K : PySem.W.Frag} {mg : Str → Option Value} (T : Tx K mg) : Bool × List PyData × Int × Int → Out := fun a => match inR a.2.2.1 a.2.1.length a.2.2.2 with | true => .ok (dv K .none) | false => .er ⟨.WrongCount, .int a.2.1.length⟩
theorem je_lenQ [LT] {K : PySem.W.Frag} {M : EC → Addr} {W : WX} {ps : Kn} {te : TE} {b : Bool} {ds : List PyData} (h : JD K M W te ps (sq b ds)) : JD K M W (tCB (rLenS K) (tCons te tNil)) ps (.int ds.length) := by
  cases b with
  | true => exact je_lenL h
  | false => exact je_lenT h
theorem ok_check_count [LT] {P : Program} {w : World} {K : PySem.W.Frag} {mg : Str → Option Value} {base : Heap} (T : Tx K mg) : FnOk P w K mg base (L2N.CX P w) 3 T.a_check_count T.fd_check_count ["members", "least", "most"] (Prm K T.M (args_check_count T) dom_check_count (out_check_count T)) := by
  refine T.F_check_count.okXN sc_check_count (fun vs H Q E h => by obtain ⟨a, F, _, al, _⟩ := h; exact al.length) (fun cdv A outer s H vs Q E hr h => ?_)
  have tk : L2N.Takes (cxOf (L2N.CX P w) P w K mg base N_check_count "check_count" (defScope s_check_count) T.a_check_count cdv A outer s H E) (fun cls d _ H => E cls d H) := L2N.takes_of rfl rfl rfl rfl
  obtain ⟨a, F, fh, al, hd, th⟩ := h
  refine ⟨_, (pss_one (ps_if (pt_not (pt_chain op_le op_le (pv 1) (pe_callB call_len_seq (by rfl) T.z_len PySem.boot_len (pa_cons (pv 0) pa_nil)) (pv 2))) (pss_one (L2N.ps_raise rfl tk (pmk_oexN (T.X_WrongCount).ox (T.X_WrongCount).iC (T.X_WrongCount).tI (ok_WrongCount T) (hr.mono (by decide)) (b_WrongCount T) .nil pass0 (by rfl) T.g_WrongCount (pa_cons (pe_callB call_len_seq (by rfl) T.z_len PySem.boot_len (pa_cons (pv 0) pa_nil)) pa_nil)))) pss_nil)), ?_⟩
  cases hb : inR a.2.2.1 a.2.1.length a.2.2.2 with
  | true =>
    refine fin_ok (r := .nx _) (js_if (b := false) (jt_is (jt_not (jt_test (je_chainI (je_var rfl) (je_lenQ (je_var rfl)) (je_var rfl)))) ?_) (fun z => Bool.noConfusion z) (fun _ => js_next)) ?_ fh al th
    · show (!inR a.2.2.1 a.2.1.length a.2.2.2) = false
      rw [hb] <;> rfl
    · show Fin K _ (out_check_count T a)
      unfold out_check_count
      rw [hb] <;> rfl
  | false =>
    refine fin_ok (r := .er ⟨.WrongCount, .int a.2.1.length⟩) (js_if (b := true) (jt_is (jt_not (jt_test (je_chainI (je_var rfl) (je_lenQ (je_var rfl)) (je_var rfl)))) ?_) (fun _ => js_raise (M := T.M) (c := .WrongCount) (ja_cons (je_lenQ (je_var rfl)) ja_nil)) (fun z => Bool.noConfusion z)) ?_ fh al th
    · show (!inR a.2.2.1 a.2.1.length a.2.2.2) = true
      rw [hb] <;> rfl
    · show Fin K _ (out_check_count T a)
      unfold out_check_count
      rw [hb] <;> rfl
/-! ### check_number -/
def isNo (k : Int) (n : Int) : Bool := decide (0 ≤ k) && decide (k < n)
def args_check_number {K : PySem.W.Frag} {mg : Str → Option Value} (T : Tx K mg) : Int × Int → List PV := fun a => [dv K (.int a.1), dv K (.int a.2)]
def dom_check_number : Int × Int → Prop := fun _ => True
def out_check_number {K : PySem.W.Frag} {mg : Str → Option Value} (T : Tx K mg) : Int × Int → Out := fun a => match isNo a.1 a.2 with | true => .ok (dv K .none) | false => .er ⟨.NoPoint, .int a.1⟩
theorem ok_check_number [LT] {P : Program} {w : World} {K : PySem.W.Frag} {mg : Str → Option Value} {base : Heap} (T : Tx K mg) : FnOk P w K mg base (L2N.CX P w) 3 T.a_check_number T.fd_check_number ["number", "n"] (Prm K T.M (args_check_number T) dom_check_number (out_check_number T)) := by
  refine T.F_check_number.okXN sc_check_number (fun vs H Q E h => by obtain ⟨a, F, _, al, _⟩ := h; exact al.length) (fun cdv A outer s H vs Q E hr h => ?_)
  have tk : L2N.Takes (cxOf (L2N.CX P w) P w K mg base N_check_number "check_number" (defScope s_check_number) T.a_check_number cdv A outer s H E) (fun cls d _ H => E cls d H) := L2N.takes_of rfl rfl rfl rfl
  obtain ⟨a, F, fh, al, hd, th⟩ := h
  refine ⟨_, (pss_one (ps_if (pt_not (pt_chain op_le op_lt pe_int (pv 0) (pv 1))) (pss_one (L2N.ps_raise rfl tk (pmk_oexN (T.X_NoPoint).ox (T.X_NoPoint).iC (T.X_NoPoint).tI (ok_NoPoint T) (hr.mono (by decide)) (b_NoPoint T) .nil pass0 (by rfl) T.g_NoPoint (pa_cons (pv 0) pa_nil)))) pss_nil)), ?_⟩
  cases hb : isNo a.1 a.2 with
  | true =>
    refine fin_ok (r := .nx _) (js_if (b := false) (jt_is (jt_not (jt_test (je_chainI je_int (je_var rfl) (je_var rfl)))) ?_) (fun z => Bool.noConfusion z) (fun _ => js_next)) ?_ fh al th
    · show (!isNo a.1 a.2) = false
      rw [hb] <;> rfl
    · show Fin K _ (out_check_number T a)
      unfold out_check_number
      rw [hb] <;> rfl
  | false =>
    refine fin_ok (r := .er ⟨.NoPoint, .int a.1⟩) (js_if (b := true) (jt_is (jt_not (jt_test (je_chainI je_int (je_var rfl) (je_var rfl)))) ?_) (fun _ => js_raise (M := T.M) (c := .NoPoint) (ja_cons (je_var rfl) ja_nil)) (fun z => Bool.noConfusion z)) ?_ fh al th
    · show (!isNo a.1 a.2) = true
      rw [hb] <;> rfl
    · show Fin K _ (out_check_number T a)
      unfold out_check_number
      rw [hb] <;> rfl
/-! ### sign_of, bare_area -/
def area (p q r : Int × Int) : Int := (q.1 - p.1) * (r.2 - p.2) - (q.2 - p.2) * (r.1 - p.1)
def near (p : Int × Int) : Prop := (-(2 ^ 62) ≤ p.1 ∧ p.1 ≤ 2 ^ 62) ∧ (-(2 ^ 62) ≤ p.2 ∧ p.2 ≤ 2 ^ 62)
def args_bare_area {K : PySem.W.Frag} {mg : Str → Option Value} (T : Tx K mg) : (Int × Int) × (Int × Int) × (Int × Int) → List PV := fun a => [dv K (pD a.1), dv K (pD a.2.1), dv K (pD a.2.2)]
def dom_bare_area : (Int × Int) × (Int × Int) × (Int × Int) → Prop := fun a => near a.1 ∧ near a.2.1 ∧ near a.2.2
def out_bare_area {K : PySem.W.Frag} {mg : Str → Option Value} (T : Tx K mg) : (Int × Int) × (Int × Int) × (Int × Int) → Out := fun a => .ok (dv K (.int (area a.1 a.2.1 a.2.2)))
theorem je_x0 [LT] {K : PySem.W.Frag} {M : EC → Addr} {W : WX} {ps : Kn} {te : TE} {p : Int × Int} (h : JD K M W te ps (pD p)) : JD K M W (tOp (rIxT K) te (tC (.int 0))) ps (.int p.1) := je_ixT h je_int rfl
theorem je_y1 [LT] {K : PySem.W.Frag} {M : EC → Addr} {W : WX} {ps : Kn} {te : TE} {p : Int × Int} (h : JD K M W te ps (pD p)) : JD K M W (tOp (rIxT K) te (tC (.int 1))) ps (.int p.2) := je_ixT h je_int rfl
theorem near_mul {a b : Int} (h : -(2 ^ 63) ≤ a ∧ a ≤ 2 ^ 63) : CMul a b := .inl ⟨by omega, by omega⟩
theorem ok_bare_area [LT] {P : Program} {w : World} {K : PySem.W.Frag} {mg : Str → Option Value} {base : Heap} (T : Tx K mg) : FnOk P w K mg base (L2N.CX P w) 1 T.a_bare_area T.fd_bare_area ["p", "q", "r"] (Prm K T.M (args_bare_area T) dom_bare_area (out_bare_area T)) := by
  refine T.F_bare_area.okXN sc_bare_area (fun vs H Q E h => by obtain ⟨a, F, _, al, _⟩ := h; exact al.length) (fun cdv A outer s H vs Q E hr h => ?_)
  have tk : L2N.Takes (cxOf (L2N.CX P w) P w K mg base N_bare_area "bare_area" (defScope s_bare_area) T.a_bare_area cdv A outer s H E) (fun cls d _ H => E cls d H) := L2N.takes_of rfl rfl rfl rfl
  obtain ⟨a, F, fh, al, hd, th⟩ := h
  refine ⟨_, (pss_one (ps_ret (pe_op op_sub (pe_op op_mul (pe_op op_sub (pe_ix ix_tup (pv 1) pe_int (fun _ _ => rfl)) (pe_ix ix_tup (pv 0) pe_int (fun _ _ => rfl))) (pe_op op_sub (pe_ix ix_tup (pv 2) pe_int (fun _ _ => rfl)) (pe_ix ix_tup (pv 0) pe_int (fun _ _ => rfl)))) (pe_op op_mul (pe_op op_sub (pe_ix ix_tup (pv 1) pe_int (fun _ _ => rfl)) (pe_ix ix_tup (pv 0) pe_int (fun _ _ => rfl))) (pe_op op_sub (pe_ix ix_tup (pv 2) pe_int (fun _ _ => rfl)) (pe_ix ix_tup (pv 0) pe_int (fun _ _ => rfl))))))), ?_⟩
  obtain ⟨p, q, r⟩ := a
  obtain ⟨⟨hp1, hp2⟩, ⟨hq1, hq2⟩, hr1, hr2⟩ := hd
  simp only at hp1 hp2 hq1 hq2 hr1 hr2
  exact fin_ok (r := .rt _) (js_ret (je_sub (je_mul (je_sub (je_x0 (je_var rfl)) (je_x0 (je_var rfl))) (je_sub (je_y1 (je_var rfl)) (je_y1 (je_var rfl))) (near_mul (by first | omega | (dsimp only; omega)))) (je_mul (je_sub (je_y1 (je_var rfl)) (je_y1 (je_var rfl))) (je_sub (je_x0 (je_var rfl)) (je_x0 (je_var rfl))) (near_mul (by first | omega | (dsimp only; omega)))))) (by exact rfl) fh al th
end K07
namespace K07
open PySem PySem.Spec PyProof.Rows L2 Evl EB
/-! ### subset_list -/
def fb (x : List Int) : Int := match x.getLast? with
  | some k => k + 1
  | none => 0
def subsL (n : Int) : Nat → List (List Int)
  | 0 => [[]]
  | s + 1 => (subsL n s).flatMap fun x => (rg (fb x) (n - fb x).toNat).map fun k => x ++ [k]
def tupI (x : List Int) : PyData := .tuple (x.map .int)
def args_first_behind {K : PySem.W.Frag} {mg : Str → Option Value} (T : Tx K mg) : List Int → List PV := fun x => [dv K (tupI x)]
def dom_first_behind : List Int → Prop := fun _ => True
def out_first_behind {K : PySem.W.Frag} {mg : Str → Option Value} (T : Tx K mg) : List Int → Out := fun x => .ok (dv K (.int (fb x)))
theorem last_at (x : List Int) (k : Int) (h : x.getLast? = some k) : atI (x.map PyData.int) (-1) = some (.int k) := by
  have hx : x = x.dropLast ++ [k] := by
    have hne : x ≠ [] := fun z => by subst z; cases h
    rw [List.getLast?_eq_some_getLast hne] at h
    have := List.dropLast_concat_getLast hne
    rw [Option.some.inj h] at this
    exact this.symm
  rw [hx, List.map_append]
  exact atI_last _ _
theorem ok_first_behind [LT] {P : Program} {w : World} {K : PySem.W.Frag} {mg : Str → Option Value} {base : Heap} (T : Tx K mg) : FnOk P w K mg base (L2N.CX P w) 1 T.a_first_behind T.fd_first_behind ["part"] (Prm K T.M (args_first_behind T) dom_first_behind (out_first_behind T)) := by
  refine T.F_first_behind.okXN sc_first_behind (fun vs H Q E h => by obtain ⟨a, F, _, al, _⟩ := h; exact al.length) (fun cdv A outer s H vs Q E hr h => ?_)
  have tk : L2N.Takes (cxOf (L2N.CX P w) P w K mg base N_first_behind "first_behind" (defScope s_first_behind) T.a_first_behind cdv A outer s H E) (fun cls d _ H => E cls d H) := L2N.takes_of rfl rfl rfl rfl
  obtain ⟨a, F, fh, al, hd, th⟩ := h
  refine ⟨_, (pss_one (ps_ret (pe_ifExp (pt_truth (pv 0) (by intro _; rfl)) (pe_op op_add (pe_ix ix_tup (pv 0) (pe_un un_neg pe_int) (fun _ _ => rfl)) pe_int) pe_int))), ?_⟩
  refine fin_ok (r := .rt (dv K (.int (fb a)))) (js_ret (je_if (jt_truT (ds := a.map .int) (je_var rfl)) (fun z => ?_) (fun z => ?_))) (by exact rfl) fh al th
  · cases hl : a.getLast? with
    | none =>
      rw [List.getLast?_eq_none_iff] at hl
      subst hl
      simp at z
    | some k =>
      rw [show fb a = k + 1 by unfold fb; rw [hl]]
      exact je_add (je_ixT (ds := a.map .int) (je_var rfl) (je_neg je_int) (last_at a k hl)) je_int
  · have e : a = [] := by
      cases a with
      | nil => rfl
      | cons x r => simp at z
    subst e
    exact je_int
def args_subset_list {K : PySem.W.Frag} {mg : Str → Option Value} (T : Tx K mg) : Nat × Nat → List PV := fun a => [dv K (.int a.1), dv K (.int a.2)]
def dom_subset_list : Nat × Nat → Prop := fun a => a.1 ≤ 10 ∧ a.2 ≤ 4
def out_subset_list {K : PySem.W.Frag} {mg : Str → Option Value} (T : Tx K mg) : Nat × Nat → Out := fun a => .ok (dv K (.list ((subsL a.1 a.2).map tupI)))
theorem subs_len {n : Int} : ∀ {s : Nat} {x : List Int}, x ∈ subsL n s → x.length = s
  | 0, x, h => by
    have e : x = [] := by simpa [subsL] using h
    subst e
    rfl
  | s + 1, x, h => by
    obtain ⟨y, hy, hx⟩ := List.mem_flatMap.mp h
    obtain ⟨k, _, e⟩ := List.mem_map.mp hx
    rw [← e, List.length_append, subs_len hy]
    rfl
theorem subs_small : ∀ n : Nat, n < 11 → ∀ s : Nat, s < 5 → ((subsL n s).length ≤ 300 ∧ (subsL n s).all (fun x => decide (0 ≤ fb x ∧ fb x ≤ n)) = true) := by decide +kernel
theorem subs_next (n : Int) (s : Nat) : ((subsL n s).flatMap fun x => ((rg (fb x) (n - fb x).toNat).filter fun _ => true).map fun k => tupI (x ++ [k])) = (subsL n (s + 1)).map tupI := by
  show _ = ((subsL n s).flatMap fun x => (rg (fb x) (n - fb x).toNat).map fun k => x ++ [k]).map tupI
  rw [List.map_flatMap]
  congr 1
  funext x
  rw [List.map_map, List.filter_eq_self.mpr (fun _ _ => rfl)]
  rfl
theorem ok_subset_list [LT] {P : Program} {w : World} {K : PySem.W.Frag} {mg : Str → Option Value} {base : Heap} (T : Tx K mg) : FnOk P w K mg base (L2N.CX P w) 2 T.a_subset_list T.fd_subset_list ["n", "size"] (Prm K T.M (args_subset_list T) dom_subset_list (out_subset_list T)) := by
  refine T.F_subset_list.okXN sc_subset_list (fun vs H Q E h => by obtain ⟨a, F, _, al, _⟩ := h; exact al.length) (fun cdv A outer s H vs Q E hr h => ?_)
  have tk : L2N.Takes (cxOf (L2N.CX P w) P w K mg base N_subset_list "subset_list" (defScope s_subset_list) T.a_subset_list cdv A outer s H E) (fun cls d _ H => E cls d H) := L2N.takes_of rfl rfl rfl rfl
  obtain ⟨a, F, fh, al, hd, th⟩ := h
  refine ⟨_, (pss_cons (ps_set (i := 2) sc_subset_list.nd rfl (by first | exact Or.inl rfl | exact Or.inr rfl) (pe_lst (pa_cons (pe_tup pa_nil) pa_nil)))
      (pss_cons (ps_for (passes_of rfl) rfl (pi_range1 (by rfl) T.z_range (pa_cons (pv 1) pa_nil)) (pg_name (i := 3) sc_subset_list.nd rfl (by first | exact Or.inl rfl | exact Or.inr rfl)) (pss_one (ps_setLc2 (i := 2) (own := [("part", 4), ("k", 5)]) (g := (gName 4)) (tt := tYes) (te := (tTup (StX.tStar K (tVar 4) (tCons (tVar 5) tNil)))) (wi1 := (iRng2 (tCons (tCallS (Prm K T.M (args_first_behind T) dom_first_behind (out_first_behind T)) (WE fun _ _ _ _ => False) (tCons (tVar 4) tNil)) (tCons (tVar 0) tNil)))) (g1 := (gName 5)) (tt1 := tYes) (vs1 := [5]) rfl sc_subset_list.nd rfl rfl (sw_true rfl rfl rfl (by decide +kernel)) (pi_list (pv 2)) (blkOk_by (N := N_subset_list) (sc := defScope s_subset_list) (own := [("part", 4), ("k", 5)]) (by decide +kernel)) (by decide) (fun _ _ _ _ _ => (pg_name (i := 4) sc_subset_list.nd rfl (by first | exact Or.inl rfl | exact Or.inr rfl))) (fun _ _ _ _ _ => by exact pts_nil) (fun _ _ _ _ _ => by exact (pi_range2 (by rfl) T.z_range (pa_cons (pe_callS (ok_first_behind T) (hr.mono (by decide)) (by rfl) T.g_first_behind T.F_first_behind.kp (b_first_behind T) (fun σ => L2N.passAt takes0N σ) (pa_cons (pv 4) pa_nil)) (pa_cons (pv 0) pa_nil)))) (fun _ _ _ _ _ => (pg_name (i := 5) sc_subset_list.nd rfl (by first | exact Or.inl rfl | exact Or.inr rfl))) (fun _ _ _ _ _ => pts_nil) (fun _ _ _ _ _ => by exact (pe_tup (StX.pa_star (pv 4) (pa_cons (pv 5) pa_nil)))))))
      (pss_one (ps_ret (pv 2))))), ?_⟩
  obtain ⟨n, size⟩ := a
  obtain ⟨hn, hs⟩ := hd
  simp only at hn hs
  refine fin_ok (r := .rt (dv K (.list ((subsL n size).map tupI)))) (js_seq (js_set (P := dv K (.list ((subsL n 0).map tupI))) (je_lst (ds := [tupI []]) (ja_cons (je_tup (ds := []) ja_nil) ja_nil))) (js_seq
    (js_for (vs := [3]) (fun i => [some (dv K (.int n)), some (dv K (.int size)), some (dv K (.list ((subsL n i).map tupI))), none, none, none]) size (ji_is (ji_rng1 (ja_cons (je_var rfl) ja_nil) ⟨by omega, by omega⟩) (es := (rg 0 size).map PyData.int) (by simp)) rfl (by rw [List.length_map, rg_length]; exact Nat.le_refl _) (fun i d hi hd => ?_) (.inl ⟨by rw [List.length_map, rg_length], rfl⟩))
    (js_ret (je_var rfl)))) (by exact rfl) fh al th
  have hb := subs_small n (by omega) i (by omega)
  have hb2 := subs_small n (by omega) (i + 1) (by omega)
  refine ⟨_, jg_name, .inl (js_weak (js_set (P := dv K (.list ((subsL n (i + 1)).map tupI))) ?_) ⟨.inr rfl, .inr rfl, .inr rfl, .inl rfl, .inr rfl, .inr rfl, trivial⟩)⟩
  rw [← subs_next]
  refine je_lc2 (W' := fun _ _ _ _ => False) (subsL n i) (fun x => rg (fb x) ((n : Int) - fb x).toNat) tupI .int (fun _ _ => true) (fun x k => tupI (x ++ [k])) (ji_list (je_var rfl)) ?_ fun x hx => ?_
  · rw [subs_next, List.length_map]
    omega
  · have hx2 := of_decide_eq_true (List.all_eq_true.mp hb.2 x hx)
    refine ⟨_, jg_name, jt_yes, ji_rng2 (ja_cons (je_call x (ja_cons (je_var rfl) ja_nil) trivial) (ja_cons (je_var rfl) ja_nil)) ⟨by omega, by omega, by omega, by omega⟩, fun k hk => ⟨_, jg_name, jt_yes, fun _ => ?_⟩⟩
    refine je_tup (ds := (x ++ [k]).map .int) (ja_is (ja_starT (ds := x.map .int) (je_var rfl) (ja_cons (je_var rfl) ja_nil)) ?_) ?_
    · simp
    · have hx3 : x.length = i := subs_len hx
      rw [List.length_map, List.length_append]
      simp
      omega
theorem ji_enumQ [LT] {K : PySem.W.Frag} {M : EC → Addr} {W : WX} {ps : Kn} {te : TE} {b : Bool} {ds : List PyData} (h : JD K M W te ps (sq b ds)) : JI K M W (iEnumQ K (tCons te tNil)) ps (nb ds) := by
  cases b with
  | true => exact fun σ F H R fh S k => .inl (ji_enum h σ F H R fh S k)
  | false => exact fun σ F H R fh S k => .inr (ji_enumT h σ F H R fh S k)
theorem je_inQ [LT] {K : PySem.W.Frag} {M : EC → Addr} {W : WX} {ps : Kn} {ta tb : TE} {b : Bool} {i : Int} {ns : List Int} (ha : JD K M W ta ps (.int i)) (hb : JD K M W tb ps (sq b (ns.map .int))) : JD K M W (tOp (rIn K false) ta tb) ps (.bool (ns.contains i)) := by
  cases b with
  | true => exact je_inL ha hb
  | false => exact je_inT ha hb
theorem je_slQ [LT] {K : PySem.W.Frag} {M : EC → Addr} {W : WX} {ps : Kn} {te : TE} {tl th : TO} {lo hi : Option Int} {b : Bool} {ds : List PyData} (h : JD K M W te ps (sq b ds)) (h1 : JO K M W tl ps lo) (h2 : JO K M W th ps hi) : JD K M W (tSl (rSlQ K) te tl th) ps (sq b (cutD ds lo hi)) := by
  cases b with
  | true => exact je_slQL h h1 h2
  | false => exact je_slQT h h1 h2
/-! ### check_numbers, check_point, check_turns -/
/-- what the check says of the k-th number -/
def badNo (n : Int) (ns : List Int) (k : Nat) : Option Er := match ns[k]? with
  | none => none
  | some i => match isNo i n with
    | false => some ⟨.NoPoint, .int i⟩
    | true => match (ns.take k).contains i with
      | true => some ⟨.Repeated, .int i⟩
      | false => none
def badNos (n : Int) (ns : List Int) : Option Er := (List.range ns.length).findSome? (badNo n ns)
def outE (K : PySem.W.Frag) : Option Er → Out
  | none => .ok (dv K .none)
  | some e => .er e
def args_check_numbers {K : PySem.W.Frag} {mg : Str → Option Value} (T : Tx K mg) : Bool × List Int × Int → List PV := fun a => [dv K (sq a.1 (a.2.1.map .int)), dv K (.int a.2.2)]
def dom_check_numbers : Bool × List Int × Int → Prop := fun a => a.2.1.length ≤ 1000
def out_check_numbers {K : PySem.W.Frag} {mg : Str → Option Value} (T : Tx K mg) : Bool × List Int × Int → Out := fun a => outE K (badNos a.2.2 a.2.1)
theorem first_er {n : Nat} {c : Nat → Option Er} : (List.range n).findSome? (fun i => (c i).map Out.er) = ((List.range n).findSome? c).map Out.er := by
  induction n with
  | zero => rfl
  | succ n ih =>
    rw [List.range_succ, List.findSome?_append, List.findSome?_append, ih]
    cases (List.range n).findSome? c with
    | some e => rfl
    | none =>
      simp only [Option.map_none, Option.none_or, List.findSome?_cons, List.findSome?_nil]
      cases c n <;> rfl
/-- the end of a def that only checks -/
theorem fin_chk {K : PySem.W.Frag} {ps : Kn} : ∀ o : Option Er, Fin K (ends ps (o.map Out.er)) (outE K o)
  | none => rfl
  | some _ => rfl
theorem ok_check_numbers [LT] {P : Program} {w : World} {K : PySem.W.Frag} {mg : Str → Option Value} {base : Heap} (T : Tx K mg) : FnOk P w K mg base (L2N.CX P w) 4 T.a_check_numbers T.fd_check_numbers ["numbers", "n"] (Prm K T.M (args_check_numbers T) dom_check_numbers (out_check_numbers T)) := by
  refine T.F_check_numbers.okXN sc_check_numbers (fun vs H Q E h => by obtain ⟨a, F, _, al, _⟩ := h; exact al.length) (fun cdv A outer s H vs Q E hr h => ?_)
  have tk : L2N.Takes (cxOf (L2N.CX P w) P w K mg base N_check_numbers "check_numbers" (defScope s_check_numbers) T.a_check_numbers cdv A outer s H E) (fun cls d _ H => E cls d H) := L2N.takes_of rfl rfl rfl rfl
  obtain ⟨a, F, fh, al, hd, th⟩ := h
  refine ⟨_, (pss_one (ps_for (passes_of rfl) rfl (pi_enumQ (by rfl) T.z_enumerate (pa_cons (pv 0) pa_nil)) (pg_tup rfl (pgs_cons (pg_name (i := 2) sc_check_numbers.nd rfl (by first | exact Or.inl rfl | exact Or.inr rfl)) (pgs_cons (pg_name (i := 3) sc_check_numbers.nd rfl (by first | exact Or.inl rfl | exact Or.inr rfl)) pgs_nil))) (pss_cons (ps_expr (pe_callS (ok_check_number T) (hr.mono (by decide)) (by rfl) T.g_check_number T.F_check_number.kp (b_check_number T) (fun σ => L2N.passAt tk σ) (pa_cons (pv 3) (pa_cons (pv 1) pa_nil))))
      (pss_one (ps_if (pt_cmpR op_in_seq (pv 3) (pe_slice (SlR.or sl_list sl_tupA) (pv 0) po_none (po_some (pv 2))) (by rfl)) (pss_one (L2N.ps_raise rfl tk (pmk_oexN (T.X_Repeated).ox (T.X_Repeated).iC (T.X_Repeated).tI (ok_Repeated T) (hr.mono (by decide)) (b_Repeated T) .nil pass0 (by rfl) T.g_Repeated (pa_cons (pv 3) pa_nil)))) pss_nil))))), ?_⟩
  obtain ⟨sb, ns, n⟩ := a
  refine fin_ok (r := ends (entry N_check_numbers (args_check_numbers T (sb, ns, n))) ((badNos n ns).map Out.er)) ?_ (fin_chk _) fh al th
  unfold badNos
  rw [← first_er, show ns.length = (nb (ns.map PyData.int)).length by rw [nb_length, List.length_map]]
  refine js_search (vs := [2, 3]) (fun i => (badNo n ns i).map Out.er) (ji_enumQ (b := sb) (ds := ns.map .int) (je_var rfl)) fun i d hi => ?_
  have hl : i < ns.length := by
    have := (List.getElem?_eq_some_iff.mp hi).1
    rw [nb_length, List.length_map] at this
    exact this
  have hg : ns[i]? = some ns[i] := List.getElem?_eq_getElem hl
  rw [nb_get (d := .int ns[i]) (by rw [List.getElem?_map, hg]; rfl)] at hi
  cases hi
  refine ⟨_, jg_tup (jgs_cons jg_name (jgs_cons jg_name jgs_nil)), .inl ?_⟩
  have w : ∀ ps : Kn, ps = [some (dv K (sq sb (ns.map .int))), some (dv K (.int n)), some (dv K (.int (i : Nat))), some (dv K (.int ns[i]))] → Weak ps [some (dv K (sq sb (ns.map .int))), some (dv K (.int n)), none, none] := fun ps e => by
    subst e
    exact ⟨.inr rfl, .inr rfl, .inl rfl, .inl rfl, trivial⟩
  have hc := je_call (K := K) (M := T.M) (W := fun cls d _ H => E cls d H) (ps := [some (dv K (sq sb (ns.map .int))), some (dv K (.int n)), some (dv K (.int (i : Nat))), some (dv K (.int ns[i]))]) (args := args_check_number T) (dom := dom_check_number) (out := out_check_number T) (ns[i], n) (ja_cons (je_var (i := 3) rfl) (ja_cons (je_var (i := 1) rfl) ja_nil)) trivial
  unfold badNo
  rw [hg]
  dsimp only
  cases h1 : isNo ns[i] n with
  | false =>
    have e : out_check_number T (ns[i], n) = .er ⟨.NoPoint, .int ns[i]⟩ := by
      unfold out_check_number
      dsimp only
      rw [h1]
    rw [e] at hc
    exact js_er (js_drop hc)
  | true =>
    have e : out_check_number T (ns[i], n) = .ok (dv K .none) := by
      unfold out_check_number
      dsimp only
      rw [h1]
    rw [e] at hc
    dsimp only
    have hin := je_inQ (b := sb) (K := K) (M := T.M) (W := fun cls d _ H => E cls d H) (ps := [some (dv K (sq sb (ns.map .int))), some (dv K (.int n)), some (dv K (.int (i : Nat))), some (dv K (.int ns[i]))]) (ns := ns.take i) (je_var (i := 3) rfl) (je_is (je_slQ (b := sb) (ds := ns.map .int) (je_var (i := 0) rfl) jo_none (jo_some (je_var (i := 2) rfl))) (by rw [cutD_map]))
    cases h2 : (ns.take i).contains ns[i] with
    | true =>
      rw [h2] at hin
      exact js_seq (js_drop hc) (js_if (jt_test hin) (fun _ => js_raise (M := T.M) (c := .Repeated) (ja_cons (je_var rfl) ja_nil)) (fun z => Bool.noConfusion z))
    | false =>
      rw [h2] at hin
      exact js_seq (js_drop hc) (js_if (jt_test hin) (fun z => Bool.noConfusion z) (fun _ => js_weak js_next (w _ rfl)))
/-! ### check_point -/
def FAR : Int := 1000000
def badXY (p : Int × Int) : Option Er := match inR (-FAR) p.1 FAR with
  | false => some ⟨.TooFar, .int p.1⟩
  | true => match inR (-FAR) p.2 FAR with
    | false => some ⟨.TooFar, .int p.2⟩
    | true => none
def args_check_point {K : PySem.W.Frag} {mg : Str → Option Value} (T : Tx K mg) : Int × Int → List PV := fun a => [dv K (pD a)]
def dom_check_point : Int × Int → Prop := fun _ => True
def out_check_point {K : PySem.W.Frag} {mg : Str → Option Value} (T : Tx K mg) : Int × Int → Out := fun a => outE K (badXY a)
theorem je_FAR [LT] {K : PySem.W.Frag} {mg : Str → Option Value} (T : Tx K mg) {M : EC → Addr} {W : WX} {ps : Kn} : JD K M W (ClX.tCVal K (tC (.ref T.a_Floor)) "FAR") ps (.int FAR) := je_cval je_x T.cr_Floor T.cv_Floor_FAR fun _ => .int _
def tf (v : Int) : Option Er := match inR (-FAR) v FAR with
  | false => some ⟨.TooFar, .int v⟩
  | true => none
theorem badXY_eq (p : Int × Int) : badXY p = (List.range 2).findSome? (fun i => match i with | 0 => tf p.1 | _ => tf p.2) := by
  show badXY p = [0, 1].findSome? _
  unfold badXY
  simp only [List.findSome?_cons, List.findSome?_nil]
  unfold tf
  cases inR (-FAR) p.1 FAR <;> cases inR (-FAR) p.2 FAR <;> rfl
theorem ok_check_point [LT] {P : Program} {w : World} {K : PySem.W.Frag} {mg : Str → Option Value} {base : Heap} (T : Tx K mg) : FnOk P w K mg base (L2N.CX P w) 4 T.a_check_point T.fd_check_point ["point"] (Prm K T.M (args_check_point T) dom_check_point (out_check_point T)) := by
  refine T.F_check_point.okXN sc_check_point (fun vs H Q E h => by obtain ⟨a, F, _, al, _⟩ := h; exact al.length) (fun cdv A outer s H vs Q E hr h => ?_)
  have tk : L2N.Takes (cxOf (L2N.CX P w) P w K mg base N_check_point "check_point" (defScope s_check_point) T.a_check_point cdv A outer s H E) (fun cls d _ H => E cls d H) := L2N.takes_of rfl rfl rfl rfl
  obtain ⟨a, F, fh, al, hd, th⟩ := h
  refine ⟨_, (pss_one (ps_for (passes_of rfl) rfl (pi_tup (pv 0)) (pg_name (i := 1) sc_check_point.nd rfl (by first | exact Or.inl rfl | exact Or.inr rfl)) (pss_one (ps_expr (pe_callS (ok_check_range T) (hr.mono (by decide)) (by rfl) T.g_check_range T.F_check_range.kp (b_check_range T) (fun σ => L2N.passAt tk σ) (pa_cons (pv 1) (pa_cons (pe_un un_neg (ClX.pe_cval (pe_glob (v := .ref T.a_Floor) (by rfl) T.g_Floor rfl))) (pa_cons (ClX.pe_cval (pe_glob (v := .ref T.a_Floor) (by rfl) T.g_Floor rfl)) pa_nil)))))))), ?_⟩
  refine fin_ok (r := ends (entry N_check_point (args_check_point T a)) ((badXY a).map Out.er)) ?_ (fin_chk _) fh al th
  rw [badXY_eq, ← first_er]
  refine js_search (vs := [1]) (ds := [.int a.1, .int a.2]) (fun i => ((match i with | 0 => tf a.1 | _ => tf a.2 : Option Er)).map Out.er) (ji_tup (je_var rfl)) fun i d hi => ?_
  have key : ∀ v : Int, JS K T.M (fun cls d _ H => E cls d H) (tDrop (tCallS (Prm K T.M (args_check_range T) dom_check_range (out_check_range T)) (WE fun cls d _ H => E cls d H) (tCons (tVar 1) (tCons (tUn (rU fun i => .int (-i)) (ClX.tCVal K (tC (.ref T.a_Floor)) "FAR")) (tCons (ClX.tCVal K (tC (.ref T.a_Floor)) "FAR") tNil))))) [some (dv K (pD a)), some (dv K (.int v))] (ends [some (dv K (pD a)), none] ((tf v).map Out.er)) := fun v => by
    have hc := je_call (K := K) (M := T.M) (W := fun cls d _ H => E cls d H) (ps := [some (dv K (pD a)), some (dv K (.int v))]) (args := args_check_range T) (dom := dom_check_range) (out := out_check_range T) (v, -FAR, FAR) (ja_cons (je_var (i := 1) rfl) (ja_cons (je_neg (je_FAR T)) (ja_cons (je_FAR T) ja_nil))) trivial
    cases h1 : inR (-FAR) v FAR with
    | false =>
      rw [show out_check_range T (v, -FAR, FAR) = .er ⟨.TooFar, .int v⟩ by unfold out_check_range; dsimp only; rw [h1]] at hc
      rw [show tf v = some ⟨.TooFar, .int v⟩ by unfold tf; rw [h1]]
      exact js_drop hc
    | true =>
      rw [show out_check_range T (v, -FAR, FAR) = .ok (dv K .none) by unfold out_check_range; dsimp only; rw [h1]] at hc
      rw [show tf v = none by unfold tf; rw [h1]]
      exact js_weak (js_drop hc) ⟨.inr rfl, .inl rfl, trivial⟩
  match i, hi with
  | 0, hi =>
    cases hi
    exact ⟨_, jg_name, .inl (key a.1)⟩
  | 1, hi =>
    cases hi
    exact ⟨_, jg_name, .inl (key a.2)⟩
end K07
namespace K07
open PySem PySem.Spec PyProof.Rows L2 Evl EB
/-! ### check_turns -/
def pt (pts : List (Int × Int)) (i : Int) : Int × Int := pts.getD i.toNat (0, 0)
def lineOf (pts : List (Int × Int)) (x : List Int) : Option Er := match x with
  | [a, b, c] => if area (pt pts a) (pt pts b) (pt pts c) = 0 then some ⟨.OnLine, tupI [a, b, c]⟩ else none
  | _ => none
def onLine (pts : List (Int × Int)) : Option Er := (subsL pts.length 3).findSome? (lineOf pts)
theorem subs3 : ∀ n : Nat, n < 11 → (subsL n 3).all (fun x => match x with
  | [a, b, c] => isNo a n && isNo b n && isNo c n
  | _ => false) = true := by decide +kernel
theorem first_ix {α β : Type} (f : α → Option β) (xs : List α) : (List.range xs.length).findSome? (fun i => xs[i]?.bind f) = xs.findSome? f := by
  induction xs with
  | nil => rfl
  | cons a r ih =>
    rw [List.length_cons, List.range_succ_eq_map, List.findSome?_cons, List.findSome?_map, List.findSome?_cons]
    have : ((fun i => (a :: r)[i]?.bind f) ∘ Nat.succ) = fun i => r[i]?.bind f := by
      funext i
      simp
    rw [this, ih]
    simp
theorem at_pt {pts : List (Int × Int)} {i : Int} (h : isNo i pts.length = true) : atI (pts.map pD) i = some (pD (pt pts i)) := by
  unfold isNo at h
  have h1 : 0 ≤ i := of_decide_eq_true (Bool.and_eq_true_iff.mp h).1
  have h2 : i < pts.length := of_decide_eq_true (Bool.and_eq_true_iff.mp h).2
  obtain ⟨j, rfl⟩ := Int.eq_ofNat_of_zero_le h1
  have h3 : j < pts.length := by omega
  refine atI_nat ?_
  rw [List.getElem?_map, List.getElem?_eq_getElem h3]
  unfold pt
  simp [h3]
theorem near_pt {pts : List (Int × Int)} (h : ∀ p ∈ pts, near p) (i : Int) : near (pt pts i) := by
  unfold pt
  by_cases hl : i.toNat < pts.length
  · rw [List.getD_eq_getElem?_getD, List.getElem?_eq_getElem hl]
    exact h _ (List.getElem_mem hl)
  · rw [List.getD_eq_getElem?_getD, List.getElem?_eq_none (by omega)]
    exact ⟨by decide, by decide⟩
theorem je_ixQ [LT] {K : PySem.W.Frag} {M : EC → Addr} {W : WX} {ps : Kn} {ta tb : TE} {b : Bool} {ds : List PyData} {i : Int} {d : PyData} (ha : JD K M W ta ps (sq b ds)) (hb : JD K M W tb ps (.int i)) (hi : atI ds i = some d) : JD K M W (tOp (rIx K) ta tb) ps d := by
  cases b with
  | true => exact je_ixQL ha hb hi
  | false => exact je_ixQT ha hb hi
def args_check_turns {K : PySem.W.Frag} {mg : Str → Option Value} (T : Tx K mg) : Bool × List (Int × Int) → List PV := fun a => [dv K (sq a.1 (a.2.map pD))]
def dom_check_turns : Bool × List (Int × Int) → Prop := fun a => a.2.length ≤ 10 ∧ ∀ p ∈ a.2, near p
def out_check_turns {K : PySem.W.Frag} {mg : Str → Option Value} (T : Tx K mg) : Bool × List (Int × Int) → Out := fun a => outE K (onLine a.2)
theorem ok_check_turns [LT] {P : Program} {w : World} {K : PySem.W.Frag} {mg : Str → Option Value} {base : Heap} (T : Tx K mg) : FnOk P w K mg base (L2N.CX P w) 3 T.a_check_turns T.fd_check_turns ["points"] (Prm K T.M (args_check_turns T) dom_check_turns (out_check_turns T)) := by
  refine T.F_check_turns.okXN sc_check_turns (fun vs H Q E h => by obtain ⟨a, F, _, al, _⟩ := h; exact al.length) (fun cdv A outer s H vs Q E hr h => ?_)
  have tk : L2N.Takes (cxOf (L2N.CX P w) P w K mg base N_check_turns "check_turns" (defScope s_check_turns) T.a_check_turns cdv A outer s H E) (fun cls d _ H => E cls d H) := L2N.takes_of rfl rfl rfl rfl
  obtain ⟨a, F, fh, al, hd, th⟩ := h
  refine ⟨_, (pss_one (ps_for (passes_of rfl) rfl (pi_list (pe_callS (ok_subset_list T) (hr.mono (by decide)) (by rfl) T.g_subset_list T.F_subset_list.kp (b_subset_list T) (fun σ => L2N.passAt tk σ) (pa_cons (pe_callB call_len_seq (by rfl) T.z_len PySem.boot_len (pa_cons (pv 0) pa_nil)) (pa_cons pe_int pa_nil)))) (pg_tup rfl (pgs_cons (pg_name (i := 1) sc_check_turns.nd rfl (by first | exact Or.inl rfl | exact Or.inr rfl)) (pgs_cons (pg_name (i := 2) sc_check_turns.nd rfl (by first | exact Or.inl rfl | exact Or.inr rfl)) (pgs_cons (pg_name (i := 3) sc_check_turns.nd rfl (by first | exact Or.inl rfl | exact Or.inr rfl)) pgs_nil)))) (pss_one (ps_if (pt_cmpR op_eq (pe_callS (ok_bare_area T) (hr.mono (by decide)) (by rfl) T.g_bare_area T.F_bare_area.kp (b_bare_area T) (fun σ => L2N.passAt tk σ) (pa_cons (pe_ix ix_seq (pv 0) (pv 1) (fun _ _ => rfl)) (pa_cons (pe_ix ix_seq (pv 0) (pv 2) (fun _ _ => rfl)) (pa_cons (pe_ix ix_seq (pv 0) (pv 3) (fun _ _ => rfl)) pa_nil)))) pe_int (nomark _)) (pss_one (L2N.ps_raise rfl tk (pmk_oexN (T.X_OnLine).ox (T.X_OnLine).iC (T.X_OnLine).tI (ok_OnLine T) (hr.mono (by decide)) (b_OnLine T) .nil pass0 (by rfl) T.g_OnLine (pa_cons (pe_tup (pa_cons (pv 1) (pa_cons (pv 2) (pa_cons (pv 3) pa_nil)))) pa_nil)))) pss_nil)))), ?_⟩
  obtain ⟨b, pts⟩ := a
  obtain ⟨hl, hnear⟩ := hd
  simp only at hl hnear
  refine fin_ok (r := ends (entry N_check_turns (args_check_turns T (b, pts))) ((onLine pts).map Out.er)) ?_ (fin_chk _) fh al th
  unfold onLine
  rw [← first_ix, ← first_er, show (subsL pts.length 3).length = ((subsL (pts.length : Nat) 3).map tupI).length by rw [List.length_map]]
  have hcall := je_call (K := K) (M := T.M) (W := fun cls d _ H => E cls d H) (ps := entry N_check_turns (args_check_turns T (b, pts))) (args := args_subset_list T) (dom := dom_subset_list) (out := out_subset_list T) (pts.length, 3) (ja_cons (je_is (je_lenQ (je_var (i := 0) rfl)) (by rw [List.length_map])) (ja_cons je_int ja_nil)) ⟨hl, (show (3:Nat) ≤ 4 by decide)⟩
  refine js_search (vs := [1, 2, 3]) (fun i => (((subsL pts.length 3)[i]?).bind (lineOf pts)).map Out.er) (ji_list hcall) fun i d hi => ?_
  have hlt : i < (subsL pts.length 3).length := by
    have := (List.getElem?_eq_some_iff.mp hi).1
    rw [List.length_map] at this
    exact this
  rw [List.getElem?_map, List.getElem?_eq_getElem hlt] at hi
  cases hi
  have hx := List.all_eq_true.mp (subs3 pts.length (by omega)) _ (List.getElem_mem hlt)
  rw [List.getElem?_eq_getElem hlt]
  generalize (subsL pts.length 3)[i] = x at hx
  match x, hx with
  | [u, v, z], hx =>
    simp only [Bool.and_eq_true] at hx
    obtain ⟨⟨h1, h2⟩, h3⟩ := hx
    refine ⟨_, jg_tup (ds := [.int u, .int v, .int z]) (jgs_cons jg_name (jgs_cons jg_name (jgs_cons jg_name jgs_nil))), .inl ?_⟩
    have hb := je_call (K := K) (M := T.M) (W := fun cls d _ H => E cls d H) (ps := [some (dv K (sq b (pts.map pD))), some (dv K (.int u)), some (dv K (.int v)), some (dv K (.int z))]) (args := args_bare_area T) (dom := dom_bare_area) (out := out_bare_area T) (pt pts u, pt pts v, pt pts z)
      (ja_cons (je_ixQ (je_var (i := 0) rfl) (je_var (i := 1) rfl) (at_pt h1)) (ja_cons (je_ixQ (je_var (i := 0) rfl) (je_var (i := 2) rfl) (at_pt h2)) (ja_cons (je_ixQ (je_var (i := 0) rfl) (je_var (i := 3) rfl) (at_pt h3)) ja_nil))) ⟨near_pt hnear _, near_pt hnear _, near_pt hnear _⟩
    show JS K T.M _ _ _ (ends _ ((lineOf pts [u, v, z]).map Out.er))
    by_cases h0 : area (pt pts u) (pt pts v) (pt pts z) = 0
    · rw [show lineOf pts [u, v, z] = some ⟨.OnLine, tupI [u, v, z]⟩ from if_pos h0]
      exact js_if (b := true) (jt_is (jt_test (je_eqI hb je_int)) (decide_eq_true h0)) (fun _ => js_raise (M := T.M) (c := .OnLine) (ja_cons (je_tup (ds := [.int u, .int v, .int z]) (ja_cons (je_var rfl) (ja_cons (je_var rfl) (ja_cons (je_var rfl) ja_nil)))) ja_nil)) (fun q => Bool.noConfusion q)
    · rw [show lineOf pts [u, v, z] = none from if_neg h0]
      exact js_if (b := false) (jt_is (jt_test (je_eqI hb je_int)) (decide_eq_false h0)) (fun q => Bool.noConfusion q) (fun _ => js_weak js_next ⟨.inr rfl, .inl rfl, .inl rfl, .inl rfl, trivial⟩)
/-! ### Floor(points) -/
def badPts (pts : List (Int × Int)) : Option Er := pts.findSome? badXY
def floorE (pts : List (Int × Int)) : Option Er := match inR 3 pts.length 10 with
  | false => some ⟨.WrongCount, .int pts.length⟩
  | true => match badPts pts with
    | some e => some e
    | none => onLine pts
def args_Floor___init__ {K : PySem.W.Frag} {mg : Str → Option Value} (T : Tx K mg) : Bool × List (Int × Int) → List PV := fun a => [dv K (sq a.1 (a.2.map pD))]
def dom_Floor___init__ : Bool × List (Int × Int) → Prop := fun a => a.1 = true
def out_Floor___init__ : Bool × List (Int × Int) → Except Er PyData := fun a => match floorE a.2 with
  | none => .ok (.tuple (a.2.map pD))
  | some e => .error e
theorem near_of {pts : List (Int × Int)} (h : badPts pts = none) : ∀ p ∈ pts, near p := fun p hp => by
  have := List.findSome?_eq_none_iff.mp h p hp
  unfold badXY at this
  cases h1 : inR (-FAR) p.1 FAR with
  | false => rw [h1] at this; cases this
  | true =>
    rw [h1] at this
    cases h2 : inR (-FAR) p.2 FAR with
    | false => rw [h2] at this; cases this
    | true =>
      unfold inR FAR at h1 h2
      simp only [Bool.and_eq_true, decide_eq_true_eq] at h1 h2
      exact ⟨by omega, by omega⟩
end K07
namespace K07
open PySem PySem.Spec PyProof.Rows L2 Evl EB
theorem js_pre3 [LT] {K : PySem.W.Frag} {M : EC → Addr} {W : WX} {A B C L : TS} {ps : Kn} {r : Res} {D : Ends} {σ : L2.St} {F H : Hp} (h : JS K M W (tSeq A (tSeq B C)) ps r) (fh : Fx F H) (S : Sl F σ ps) (k : Wsh K M W ps.length { D with nx := L D } F H r) : tSeq A (tSeq B (tSeq C L)) D σ H := h _ σ F H fh S k
theorem js_out [LT] {K : PySem.W.Frag} {M : EC → Addr} {W : WX} {ps : Kn} {te : TE} {o : Option Er} (h : JE K M W te ps (outE K o)) : JS K M W (tDrop te) ps (ends ps (o.map Out.er)) := by
  cases o with
  | none => exact js_drop h
  | some e => exact js_drop h
theorem js_seqE [LT] {K : PySem.W.Frag} {M : EC → Addr} {W : WX} {ps : Kn} {ts tu : TS} {o o2 : Option Er} (h : JS K M W ts ps (ends ps (o.map Out.er))) (h2 : o = none → JS K M W tu ps (ends ps (o2.map Out.er))) : JS K M W (tSeq ts tu) ps (ends ps ((o.or o2).map Out.er)) := by
  cases o with
  | none => exact js_seq h (h2 rfl)
  | some e => exact js_er h
theorem floorE_eq (pts : List (Int × Int)) : floorE pts = ((if inR 3 pts.length 10 then none else some ⟨.WrongCount, .int pts.length⟩ : Option Er).or ((badPts pts).or (onLine pts))) := by
  unfold floorE
  cases inR 3 pts.length 10 with
  | false => rfl
  | true => cases badPts pts <;> rfl
theorem ok_Floor___init__ [LT] {P : Program} {w : World} {K : PySem.W.Frag} {mg : Str → Option Value} {base : Heap} (T : Tx K mg) : FnOk P w K mg base (L2N.CX P w) 5 T.a_Floor___init__ T.fd_Floor___init__ ["self", "points"] (spMake K T.M T.a_Floor "points" (args_Floor___init__ T) dom_Floor___init__ out_Floor___init__) := by
  refine T.F_Floor___init__.okXN sc_Floor___init__ (fun vs H Q E h => by obtain ⟨a, F, x, dx, us, rfl, _, _, _, al, _⟩ := h; exact congrArg (· + 1) al.length) (fun cdv A outer s H vs Q E hr h => ?_)
  have tk : L2N.Takes (cxOf (L2N.CX P w) P w K mg base N_Floor___init__ "Floor.__init__" (defScope s_Floor___init__) T.a_Floor___init__ cdv A outer s H E) (fun cls d _ H => E cls d H) := L2N.takes_of rfl rfl rfl rfl
  obtain ⟨a, F, x, dx, us, rfl, fh, hx, fx, al, hd, th⟩ := h
  refine ⟨_, (pss_cons (ps_expr (pe_callS (ok_check_count T) (hr.mono (by decide)) (by rfl) T.g_check_count T.F_check_count.kp (b_check_count T) (fun σ => L2N.passAt tk σ) (pa_cons (pv 1) (pa_cons (ClX.pe_cval (pe_glob (v := .ref T.a_Floor) (by rfl) T.g_Floor rfl)) (pa_cons (ClX.pe_cval (pe_glob (v := .ref T.a_Floor) (by rfl) T.g_Floor rfl)) pa_nil)))))
      (pss_cons (ps_for (passes_of rfl) rfl (pi_list (pv 1)) (pg_name (i := 2) sc_Floor___init__.nd rfl (by first | exact Or.inl rfl | exact Or.inr rfl)) (pss_one (ps_expr (pe_callS (ok_check_point T) (hr.mono (by decide)) (by rfl) T.g_check_point T.F_check_point.kp (b_check_point T) (fun σ => L2N.passAt tk σ) (pa_cons (pv 2) pa_nil)))))
      (pss_cons (ps_expr (pe_callS (ok_check_turns T) (hr.mono (by decide)) (by rfl) T.g_check_turns T.F_check_turns.kp (b_check_turns T) (fun σ => L2N.passAt tk σ) (pa_cons (pv 1) pa_nil)))
      (pss_one (ps_fld (pv 0) (pe_callTy call_tuple_of (by rfl) T.z_tuple PyProof.Rows.boot_tuple (pa_cons (pv 1) pa_nil)) rfl))))), ?_⟩
  obtain ⟨b, pts⟩ := a
  simp only [dom_Floor___init__] at hd
  subst hd
  have S0 : Sl F (L2.start N_Floor___init__ (.ref x :: us)) (entry N_Floor___init__ (xv (.ref x) :: args_Floor___init__ T (true, pts))) := Sl.start (.cons rfl al)
  have c1 := je_call (K := K) (M := T.M) (W := fun cls d _ H => E cls d H) (ps := entry N_Floor___init__ (xv (.ref x) :: args_Floor___init__ T (true, pts))) (args := args_check_count T) (dom := dom_check_count) (out := out_check_count T) (true, pts.map pD, 3, 10) (ja_cons (je_var (i := 1) rfl) (ja_cons (je_cval je_x T.cr_Floor T.cv_Floor_LEAST fun _ => .int _) (ja_cons (je_cval je_x T.cr_Floor T.cv_Floor_MOST fun _ => .int _) ja_nil))) trivial
  have e1 : out_check_count T (true, pts.map pD, 3, 10) = outE K (if inR 3 pts.length 10 then none else some ⟨.WrongCount, .int pts.length⟩) := by
    unfold out_check_count
    dsimp only
    rw [List.length_map]
    cases inR 3 pts.length 10 <;> rfl
  rw [e1] at c1
  refine js_pre3 (K := K) (r := ends (entry N_Floor___init__ (xv (.ref x) :: args_Floor___init__ T (true, pts))) ((floorE pts).map Out.er)) (M := T.M) (W := fun cls d _ H => E cls d H) ?_ fh S0 ?_
  · rw [floorE_eq]
    refine js_seqE (js_out c1) fun h1 => js_seqE ?_ fun h2 => ?_
    · unfold badPts
      rw [← first_ix, ← first_er, show pts.length = (pts.map pD).length by rw [List.length_map]]
      refine js_search (vs := [2]) (fun i => ((pts[i]?).bind badXY).map Out.er) (ji_list (je_var (i := 1) rfl)) fun i d hi => ?_
      have hlt : i < pts.length := by
        have := (List.getElem?_eq_some_iff.mp hi).1
        rw [List.length_map] at this
        exact this
      rw [List.getElem?_map, List.getElem?_eq_getElem hlt] at hi
      cases hi
      rw [List.getElem?_eq_getElem hlt]
      refine ⟨_, jg_name, .inl ?_⟩
      have hc := je_call (K := K) (M := T.M) (W := fun cls d _ H => E cls d H) (ps := [some (xv (.ref x)), some (dv K (.list (pts.map pD))), some (dv K (pD pts[i]))]) (args := args_check_point T) (dom := dom_check_point) (out := out_check_point T) pts[i] (ja_cons (je_var (i := 2) rfl) ja_nil) trivial
      have hj := js_out hc
      show JS K T.M _ _ _ (ends _ ((badXY pts[i]).map Out.er))
      cases hb : badXY pts[i] with
      | none =>
        rw [hb] at hj
        exact js_weak hj ⟨.inr rfl, .inr rfl, .inl rfl, trivial⟩
      | some e =>
        rw [hb] at hj
        exact hj
    · have hl : inR 3 pts.length 10 = true := by
        cases q : inR 3 pts.length 10 with
        | true => rfl
        | false => rw [q] at h1; cases h1
      unfold inR at hl
      simp only [Bool.and_eq_true, decide_eq_true_eq] at hl
      exact js_out (je_call (args := args_check_turns T) (dom := dom_check_turns) (out := out_check_turns T) (true, pts) (ja_cons (je_var (i := 1) rfl) ja_nil) ⟨(by have := hl.2; show pts.length ≤ 10; omega), near_of h2⟩)
  · unfold out_Floor___init__ at th
    dsimp only at th
    cases hf : floorE pts with
    | some e =>
      rw [hf] at th
      exact fun dd σ' F' H' g y _ => th dd F' H' g y
    | none =>
      rw [hf] at th
      intro σ' F' H' g S'
      dsimp only
      unfold L2.sFld
      refine JE.go (K := K) (M := T.M) (W := fun cls d _ H => E cls d H) (je_tupL (je_var (i := 1) rfl)) g.fh S' fun y F1 H1 g1 p => ?_
      obtain ⟨v, hv, hxv⟩ := (S'.mono g1.ff).2 0 _ rfl
      cases hxv
      have hx1 : H1 x = some (.ins T.a_Floor dx []) := g1.hh.fn _ _ (g.hh.fn _ _ hx)
      have f0 : F' x = none := g.nw x (by rw [hx]; exact fun z => nomatch z) fx
      have f1 : F1 x = none := g1.nw x (by rw [g.hh.fn _ _ hx]; exact fun z => nomatch z) f0
      exact ⟨.ref x, hv, x, T.a_Floor, dx, [], rfl, hx1, T.C_Floor, T.n_Floor_points, by decide, th F1 H1 y (g.trans g1) p f1⟩
end K07
namespace K07
open PySem PySem.Spec PyProof.Rows L2 Evl EB
def outV (K : PySem.W.Frag) (o : Option Er) (d : PyData) : Out := match o with
  | none => .ok (dv K d)
  | some e => .er e
/-- a def that checks, then answers -/
theorem fin_then [LT] {K : PySem.W.Frag} {M : EC → Addr} {W : WX} {ts tu : TS} {ps : Kn} {o : Option Er} {d : PyData} (h : JS K M W ts ps (ends ps (o.map Out.er))) (h2 : o = none → JS K M W tu ps (.rt (dv K d))) : ∃ r, JS K M W (tSeq ts tu) ps r ∧ Fin K r (outV K o d) := by
  cases o with
  | none => exact ⟨_, js_seq h (h2 rfl), rfl⟩
  | some e => exact ⟨_, js_er h, rfl⟩
/-! ### area, turn -/
def ar (pts : List (Int × Int)) (a b c : Int) : Int := area (pt pts a) (pt pts b) (pt pts c)
end K07
namespace FV
open DC
def cons (s012 s013 s014 s023 s024 s034 s123 s124 s134 s234 : Bool) : Bool := !(((s123 && !s023 && s013 && !s012) || (!(s123) && !(!s023) && !(s013) && !(!s012)))) && !(((s124 && !s024 && s014 && !s012) || (!(s124) && !(!s024) && !(s014) && !(!s012)))) && !(((s134 && !s034 && s014 && !s013) || (!(s134) && !(!s034) && !(s014) && !(!s013)))) && !(((s234 && !s034 && s024 && !s023) || (!(s234) && !(!s034) && !(s024) && !(!s023)))) && !(((s234 && !s134 && s124 && !s123) || (!(s234) && !(!s134) && !(s124) && !(!s123)))) && !(((((s012) == (s034)) && !((s013) == (s024)) && ((s014) == (s023))) || (!(((s012) == (s034))) && !(!((s013) == (s024))) && !(((s014) == (s023)))))) && !(((((!s012) == (s134)) && !((!s013) == (s124)) && ((!s014) == (s123))) || (!(((!s012) == (s134))) && !(!((!s013) == (s124))) && !(((!s014) == (s123)))))) && !(((((s012) == (s234)) && !((!s023) == (!s124)) && ((!s024) == (!s123))) || (!(((s012) == (s234))) && !(!((!s023) == (!s124))) && !(((!s024) == (!s123)))))) && !(((((s013) == (!s234)) && !((s023) == (!s134)) && ((!s034) == (s123))) || (!(((s013) == (!s234))) && !(!((s023) == (!s134))) && !(((!s034) == (s123)))))) && !(((((s014) == (s234)) && !((s024) == (s134)) && ((s034) == (s124))) || (!(((s014) == (s234))) && !(!((s024) == (s134))) && !(((s034) == (s124))))))
end FV
namespace K07
open PySem PySem.Spec PyProof.Rows L2 Evl EB
theorem first_map {α β γ : Type} (f : β → γ) (c : α → Option β) : ∀ l : List α, l.findSome? (fun i => (c i).map f) = (l.findSome? c).map f
  | [] => rfl
  | x :: l => by
    rw [List.findSome?_cons, List.findSome?_cons, first_map f c l]
    cases c x <;> rfl
theorem js_endsO [LT] {K : PySem.W.Frag} {M : EC → Addr} {W : WX} {ts : TS} {ps rs qs : Kn} {o : Option Out} (h : JS K M W ts ps (ends rs o)) (w : Weak rs qs) : JS K M W ts ps (ends qs o) := by
  cases o with
  | none => exact js_weak h w
  | some e => exact h
/-- a loop over L that is left at the first x with f x -/
theorem js_first [LT] {K : PySem.W.Frag} {M : EC → Addr} {W : WX} {ps : Kn} {vs : List Nat} {wi : TI} {g : TG} {tb : TS} {α β : Type} (L : List α) (enc : α → PyData) (f : α → Option β) (h : β → Out) (hi : JI K M W wi ps (L.map enc))
    (hs : ∀ x ∈ L, ∃ qs, JG vs g ps (dv K (enc x)) qs ∧ JS K M W tb qs (ends ps ((f x).map h))) : JS K M W (tFor wi g tb) ps (ends ps ((L.findSome? f).map h)) := by
  have key := js_search (M := M) (W := W) (g := g) (tb := tb) (vs := vs) (fun i => (L[i]?.bind f).map h) hi fun (i : Nat) (d : PyData) (hd : (L.map enc)[i]? = some d) => by
    have hlt : i < L.length := by
      have := (List.getElem?_eq_some_iff.mp hd).1
      rw [List.length_map] at this
      exact this
    rw [List.getElem?_map, List.getElem?_eq_getElem hlt] at hd
    cases hd
    obtain ⟨qs, hg, hb⟩ := hs L[i] (List.getElem_mem hlt)
    refine ⟨qs, hg, .inl ?_⟩
    show JS K M W tb qs (ends ps ((L[i]?.bind f).map h))
    rw [List.getElem?_eq_getElem hlt]
    exact hb
  rw [List.length_map, first_map, first_ix] at key
  exact key
theorem rg_mem {lo x : Int} {m : Nat} (h : x ∈ rg lo m) : lo ≤ x ∧ x < lo + m := by
  unfold rg at h
  obtain ⟨i, hi, rfl⟩ := List.mem_map.mp h
  have := List.mem_range.mp hi
  omega
theorem first_flat {α β γ : Type} (g : α → List β) (f : β → Option γ) : ∀ L : List α, (L.flatMap g).findSome? f = L.findSome? fun x => (g x).findSome? f
  | [] => rfl
  | x :: r => by
    rw [List.flatMap_cons, List.findSome?_append, List.findSome?_cons, first_flat g f r]
    cases (g x).findSome? f <;> rfl
abbrev beh (a : Int) (n : Nat) : List Int := rg (a + 1) ((n : Int) - (a + 1)).toNat
theorem subs3_eq : ∀ n : Nat, n < 11 → subsL n 3 = (rg 0 n).flatMap fun a => (beh a n).flatMap fun b => (beh b n).map fun c => [a, b, c] := by decide +kernel
theorem onLine_eq {pts : List (Int × Int)} (hl : pts.length ≤ 10) : onLine pts = (rg 0 pts.length).findSome? fun a => (beh a pts.length).findSome? fun b => (beh b pts.length).findSome? fun c => lineOf pts [a, b, c] := by
  unfold onLine
  rw [subs3_eq _ (by omega), first_flat]
  congr 1
  funext a
  rw [first_flat]
  congr 1
  funext b
  rw [List.findSome?_map]
  rfl
theorem js_allL [LT] {K : PySem.W.Frag} {M : EC → Addr} {W : WX} {ps : Kn} {vs : List Nat} {wi : TI} {g : TG} {tb : TS} {α : Type} (L : List α) (enc : α → PyData) (hi : JI K M W wi ps (L.map enc))
    (hs : ∀ x ∈ L, ∃ qs, JG vs g ps (dv K (enc x)) qs ∧ JS K M W tb qs (.nx ps)) : JS K M W (tFor wi g tb) ps (.nx ps) := by
  have := js_first (K := K) (M := M) (W := W) (g := g) (tb := tb) (vs := vs) L enc (fun _ => (none : Option Er)) Out.er hi fun x hx => by
    obtain ⟨qs, hg, hb⟩ := hs x hx
    exact ⟨qs, hg, hb⟩
  rw [List.findSome?_eq_none_iff.mpr (fun _ _ => rfl)] at this
  exact this
def outO (K : PySem.W.Frag) (C : Addr) (o : Option Er) (d : PyData) : Out := match o with
  | none => .ok (ob1 K C "points" d)
  | some e => .er e
theorem mk_floor [LT] {K : PySem.W.Frag} {mg : Str → Option Value} (T : Tx K mg) {W : WX} {ps : Kn} {tr : TA} {pts : List (Int × Int)} (h : JA K T.M W tr ps [dv K (.list (pts.map pD))]) : JE K T.M W (tMakeS T.a_Floor (spMake K T.M T.a_Floor "points" (args_Floor___init__ T) dom_Floor___init__ out_Floor___init__) (WE W) tr) ps (outO K T.a_Floor (floorE pts) (.tuple (pts.map pD))) := by
  have := je_make (args := args_Floor___init__ T) (dom := dom_Floor___init__) (out := out_Floor___init__) (C := T.a_Floor) (f := "points") (true, pts) h rfl
  have e : mkOut K T.a_Floor "points" (out_Floor___init__ (true, pts)) = outO K T.a_Floor (floorE pts) (.tuple (pts.map pD)) := by
    unfold out_Floor___init__
    cases floorE pts <;> rfl
  rw [← e]
  exact this
theorem fin_go [LT] {K : PySem.W.Frag} {M : EC → Addr} {ts tu : TS} {N : List Str} {Ps : List PV} {vs : List V} {F H : Hp} {Q : VK} {E : XK} {o : Option Er} {d : PyData} (h : JS K M (fun cls d _ H => E cls d H) ts (entry N Ps) (ends (entry N Ps) (o.map Out.er))) (h2 : o = none → JS K M (fun cls d _ H => E cls d H) tu (entry N Ps) (.rt (dv K d))) (fh : Fx F H) (al : AllP F vs Ps) (th : Then K M F H Q E (outV K o d)) : tSeq ts tu { nx := fun _ H' => Q .non H', rt := Q } (start N vs) H := by
  obtain ⟨r, hz, hf⟩ := fin_then h h2
  exact fin_ok hz hf fh al th
theorem je_pts [LT] {K : PySem.W.Frag} {mg : Str → Option Value} (T : Tx K mg) {M : EC → Addr} {W : WX} {ps : Kn} {te : TE} {pts : List (Int × Int)} (h : JV K M W te ps (ob1 K T.a_Floor "points" (.tuple (pts.map pD)))) : JD K M W (tFld K te "points") ps (.tuple (pts.map pD)) := je_fld (C := T.a_Floor) h T.C_Floor T.n_Floor_points
theorem je_many [LT] {K : PySem.W.Frag} {mg : Str → Option Value} (T : Tx K mg) {M : EC → Addr} {W : WX} {ps : Kn} {te : TE} {pts : List (Int × Int)} (h : JV K M W te ps (ob1 K T.a_Floor "points" (.tuple (pts.map pD)))) : JD K M W (tCB (rLenS K) (tCons (tFld K te "points") tNil)) ps (.int pts.length) := je_is (je_lenT (je_pts T h)) (by rw [List.length_map])
def args_Floor___len__ {K : PySem.W.Frag} {mg : Str → Option Value} (T : Tx K mg) : List (Int × Int) → List PV := fun a => [ob1 K T.a_Floor "points" (.tuple (a.map pD))]
def dom_Floor___len__ : List (Int × Int) → Prop := fun _ => True
def out_Floor___len__ {K : PySem.W.Frag} {mg : Str → Option Value} (T : Tx K mg) : List (Int × Int) → Out := fun a => .ok (dv K (.int a.length))
theorem ok_Floor___len__ [LT] {P : Program} {w : World} {K : PySem.W.Frag} {mg : Str → Option Value} {base : Heap} (T : Tx K mg) : FnOk P w K mg base (L2N.CX P w) 1 T.a_Floor___len__ T.fd_Floor___len__ ["self"] (Prm K T.M (args_Floor___len__ T) dom_Floor___len__ (out_Floor___len__ T)) := by
  refine T.F_Floor___len__.okXN sc_Floor___len__ (fun vs H Q E h => by obtain ⟨a, F, _, al, _⟩ := h; exact al.length) (fun cdv A outer s H vs Q E hr h => ?_)
  have tk : L2N.Takes (cxOf (L2N.CX P w) P w K mg base N_Floor___len__ "Floor.__len__" (defScope s_Floor___len__) T.a_Floor___len__ cdv A outer s H E) (fun cls d _ H => E cls d H) := L2N.takes_of rfl rfl rfl rfl
  obtain ⟨a, F, fh, al, hd, th⟩ := h
  refine ⟨_, (pss_one (ps_ret (pe_callB call_len_seq (by rfl) T.z_len PySem.boot_len (pa_cons (pe_fld (pv 0) rfl) pa_nil)))), ?_⟩
  exact fin_ok (r := .rt (dv K (.int a.length))) (js_ret (je_many T (je_var (i := 0) rfl))) (by exact rfl) fh al th
theorem je_lenF [LT] {K : PySem.W.Frag} {mg : Str → Option Value} (T : Tx K mg) {W : WX} {ps : Kn} {te : TE} {pts : List (Int × Int)} (h : JV K T.M W te ps (ob1 K T.a_Floor "points" (.tuple (pts.map pD)))) (hl : pts.length ≤ 1000) : JD K T.M W (tCB (rLenO T.a_Floor (Prm K T.M (args_Floor___len__ T) dom_Floor___len__ (out_Floor___len__ T)) fun _ _ _ => False) (tCons te tNil)) ps (.int pts.length) :=
  je_lenO pts h rfl trivial rfl (by omega) (by omega)
def oth (n : Nat) (k : Int) : List Int := (rg 0 n).filter fun i => !decide (i = k)
def args_others {K : PySem.W.Frag} {mg : Str → Option Value} (T : Tx K mg) : Nat × Int → List PV := fun a => [dv K (.int a.1), dv K (.int a.2)]
def dom_others : Nat × Int → Prop := fun a => a.1 ≤ 1000
def out_others {K : PySem.W.Frag} {mg : Str → Option Value} (T : Tx K mg) : Nat × Int → Out := fun a => .ok (dv K (.list ((oth a.1 a.2).map .int)))
theorem ji_upto [LT] {K : PySem.W.Frag} {M : EC → Addr} {W : WX} {ps : Kn} {te : TE} {n : Nat} (h : JD K M W te ps (.int n)) (hn : n ≤ 1000) : JI K M W (iRng1 (tCons te tNil)) ps ((rg 0 n).map PyData.int) := by
  have := ji_rng1 (ja_cons h ja_nil) ⟨by omega, by omega⟩
  rw [Int.toNat_natCast] at this
  exact this
theorem ok_others [LT] {P : Program} {w : World} {K : PySem.W.Frag} {mg : Str → Option Value} {base : Heap} (T : Tx K mg) : FnOk P w K mg base (L2N.CX P w) 1 T.a_others T.fd_others ["n", "number"] (Prm K T.M (args_others T) dom_others (out_others T)) := by
  refine T.F_others.okXN sc_others (fun vs H Q E h => by obtain ⟨a, F, _, al, _⟩ := h; exact al.length) (fun cdv A outer s H vs Q E hr h => ?_)
  have tk : L2N.Takes (cxOf (L2N.CX P w) P w K mg base N_others "others" (defScope s_others) T.a_others cdv A outer s H E) (fun cls d _ H => E cls d H) := L2N.takes_of rfl rfl rfl rfl
  obtain ⟨a, F, fh, al, hd, th⟩ := h
  refine ⟨_, (pss_one (ps_ret (pe_lc (own := [("k", 2)]) (g := (gName 2)) (tt := (tTest (tOp rNe (tVar 2) (tVar 1)))) (te := (tVar 2)) rfl sc_others.nd (pi_range1 (by rfl) T.z_range (pa_cons (pv 0) pa_nil)) (blkOk_by (N := N_others) (sc := defScope s_others) (own := [("k", 2)]) (by decide +kernel)) (fun _ _ _ _ _ => (pg_name (i := 2) sc_others.nd rfl (by first | exact Or.inl rfl | exact Or.inr rfl))) (fun _ _ _ _ _ => by exact pts_one (pt_cmpR op_ne (pv 2) (pv 1) (nomark _))) (fun _ _ _ _ _ => by exact (pv 2))))), ?_⟩
  obtain ⟨n, k⟩ := a
  have hn : n ≤ 1000 := hd
  refine fin_ok (r := .rt (dv K (.list ((oth n k).map .int)))) (js_ret (je_lc (W' := fun _ _ _ _ => False) (rg 0 n) .int (fun i => !decide (i = k)) .int (ji_upto (je_var (i := 0) rfl) hn) (by rw [rg_length]; omega) fun x _ => ⟨_, jg_name, jt_test (je_neI (je_var (i := 2) rfl) (je_var (i := 1) rfl)), fun _ => je_var (i := 2) rfl⟩)) (by exact rfl) fh al th
/-! ### only, without -/
end K07
namespace K07
open PySem PySem.Spec PyProof.Rows L2 Evl EB PySem.W
def leftN (pts : List (Int × Int)) (a b : Int) : List Nat := (List.range pts.length).filter fun c => decide (0 < area (pt pts a) (pt pts b) (pt pts c))
def leftD (pts : List (Int × Int)) (a b : Int) : PyData := .list ((leftN pts a b).map fun c : Nat => .int (c : Int))
def args_Floor_left_of {K : PySem.W.Frag} {mg : Str → Option Value} (T : Tx K mg) : List (Int × Int) × Int × Int → List PV := fun a => [ob1 K T.a_Floor "points" (.tuple (a.1.map pD)), dv K (.int a.2.1), dv K (.int a.2.2)]
def dom_Floor_left_of : List (Int × Int) × Int × Int → Prop := fun a => a.1.length ≤ 10 ∧ ∀ p ∈ a.1, near p
def out_Floor_left_of {K : PySem.W.Frag} {mg : Str → Option Value} (T : Tx K mg) : List (Int × Int) × Int × Int → Out := fun a => outV K (badNos a.1.length [a.2.1, a.2.2]) (leftD a.1 a.2.1 a.2.2)
theorem no2 {n : Int} {a b : Int} (h : badNos n [a, b] = none) : isNo a n = true ∧ isNo b n = true := by
  have key : ∀ k i, k < 2 → [a, b][k]? = some i → isNo i n = true := fun k i hk hi => by
    have := List.findSome?_eq_none_iff.mp h k (List.mem_range.mpr hk)
    unfold badNo at this
    rw [hi] at this
    dsimp only at this
    cases h1 : isNo i n with
    | true => rfl
    | false => rw [h1] at this; cases this
  exact ⟨key 0 a (by decide) rfl, key 1 b (by decide) rfl⟩
theorem nb_pts (pts : List (Int × Int)) : nb (pts.map pD) = (List.range pts.length).map fun c : Nat => .tuple [.int (c : Int), pD (pt pts c)] := by
  apply List.ext_getElem?
  intro i
  by_cases h : i < pts.length
  · rw [nb_get (d := pD (pt pts i)) (by rw [List.getElem?_map, List.getElem?_eq_getElem h]; unfold pt; simp [h]), List.getElem?_map, List.getElem?_range h]
    rfl
  · rw [List.getElem?_eq_none (by rw [nb_length, List.length_map]; omega), List.getElem?_eq_none (by rw [List.length_map, List.length_range]; omega)]
theorem ok_Floor_left_of [LT] {P : Program} {w : World} {K : PySem.W.Frag} {mg : Str → Option Value} {base : Heap} (T : Tx K mg) : FnOk P w K mg base (L2N.CX P w) 5 T.a_Floor_left_of T.fd_Floor_left_of ["self", "a", "b"] (Prm K T.M (args_Floor_left_of T) dom_Floor_left_of (out_Floor_left_of T)) := by
  refine T.F_Floor_left_of.okXN sc_Floor_left_of (fun vs H Q E h => by obtain ⟨a, F, _, al, _⟩ := h; exact al.length) (fun cdv A outer s H vs Q E hr h => ?_)
  have tk : L2N.Takes (cxOf (L2N.CX P w) P w K mg base N_Floor_left_of "Floor.left_of" (defScope s_Floor_left_of) T.a_Floor_left_of cdv A outer s H E) (fun cls d _ H => E cls d H) := L2N.takes_of rfl rfl rfl rfl
  obtain ⟨a, F, fh, al, hd, th⟩ := h
  refine ⟨_, (pss_cons (ps_expr (pe_callS (ok_check_numbers T) (hr.mono (by decide)) (by rfl) T.g_check_numbers T.F_check_numbers.kp (b_check_numbers T) (fun σ => L2N.passAt tk σ) (pa_cons (pe_tup (pa_cons (pv 1) (pa_cons (pv 2) pa_nil))) (pa_cons (pe_callB call_len_seq (by rfl) T.z_len PySem.boot_len (pa_cons (pe_fld (pv 0) rfl) pa_nil)) pa_nil))))
      (pss_cons (ps_asg (pe_tup (pa_cons (pe_ix ix_tup (pe_fld (pv 0) rfl) (pv 1) (fun _ _ => rfl)) (pa_cons (pe_ix ix_tup (pe_fld (pv 0) rfl) (pv 2) (fun _ _ => rfl)) pa_nil))) (pg_tup rfl (pgs_cons (pg_name (i := 3) sc_Floor_left_of.nd rfl (by first | exact Or.inl rfl | exact Or.inr rfl)) (pgs_cons (pg_name (i := 4) sc_Floor_left_of.nd rfl (by first | exact Or.inl rfl | exact Or.inr rfl)) pgs_nil))))
      (pss_one (ps_ret (pe_lc (own := [("c", 5), ("point", 6)]) (g := (gTup K 2 (gCons (gName 5) (gCons (gName 6) gNil)))) (tt := (tTest (tOp (rI0 fun i j => .bl (decide (j < i))) (tCallS (Prm K T.M (args_bare_area T) dom_bare_area (out_bare_area T)) (WE fun _ _ _ _ => False) (tCons (tVar 3) (tCons (tVar 4) (tCons (tVar 6) tNil)))) (tC (.int 0))))) (te := (tVar 5)) rfl sc_Floor_left_of.nd (pi_enumT (by rfl) T.z_enumerate (pa_cons (pe_fld (pv 0) rfl) pa_nil)) (blkOk_by (N := N_Floor_left_of) (sc := defScope s_Floor_left_of) (own := [("c", 5), ("point", 6)]) (by decide +kernel)) (fun _ _ _ _ _ => (pg_tup rfl (pgs_cons (pg_name (i := 5) sc_Floor_left_of.nd rfl (by first | exact Or.inl rfl | exact Or.inr rfl)) (pgs_cons (pg_name (i := 6) sc_Floor_left_of.nd rfl (by first | exact Or.inl rfl | exact Or.inr rfl)) pgs_nil)))) (fun _ _ _ _ _ => by exact pts_one (pt_cmpR op_gt (pe_callS (ok_bare_area T) (hr.mono (by decide)) (by rfl) T.g_bare_area T.F_bare_area.kp (b_bare_area T) (fun σ => L2N.passAt takes0N σ) (pa_cons (pv 3) (pa_cons (pv 4) (pa_cons (pv 6) pa_nil)))) pe_int (nomark _))) (fun _ _ _ _ _ => by exact (pv 5))))))), ?_⟩
  obtain ⟨pts, u, v⟩ := a
  obtain ⟨hl, hnear⟩ := hd
  simp only at hl
  let W0 : WX := fun cls d _ H => E cls d H
  have pf : ∀ ps : Kn, ps[0]? = some (some (ob1 K T.a_Floor "points" (.tuple (pts.map pD)))) → JD K T.M W0 (tFld K (tVar 0) "points") ps (.tuple (pts.map pD)) := fun ps h => je_pts T (je_var (i := 0) h)
  have c1 := js_out (je_call (K := K) (M := T.M) (W := W0) (ps := entry N_Floor_left_of (args_Floor_left_of T (pts, u, v))) (args := args_check_numbers T) (dom := dom_check_numbers) (out := out_check_numbers T) (false, [u, v], pts.length) (ja_cons (je_tup (ds := [.int u, .int v]) (ja_cons (je_var (i := 1) rfl) (ja_cons (je_var (i := 2) rfl) ja_nil))) (ja_cons (je_many T (je_var (i := 0) rfl)) ja_nil)) (show 2 ≤ 1000 by decide))
  refine fin_go (o := badNos pts.length [u, v]) c1 (fun h => js_seq (js_asg (vs := [3, 4]) (je_tup (ds := [pD (pt pts u), pD (pt pts v)]) (ja_cons (je_ixT (pf _ rfl) (je_var (i := 1) rfl) (at_pt (no2 h).1)) (ja_cons (je_ixT (pf _ rfl) (je_var (i := 2) rfl) (at_pt (no2 h).2)) ja_nil))) (jg_tup (jgs_cons jg_name (jgs_cons jg_name jgs_nil))))
    (js_ret (je_lc (W' := fun _ _ _ _ => False) (List.range pts.length) (fun c : Nat => .tuple [.int (c : Int), pD (pt pts c)]) (fun c => decide (0 < area (pt pts u) (pt pts v) (pt pts c))) (fun c : Nat => .int (c : Int)) (ji_is (ji_enumT (pf _ rfl)) (nb_pts pts)) (by rw [List.length_range]; omega)
      fun c hc => ⟨_, jg_tup (ds := [.int (c : Int), pD (pt pts c)]) (jgs_cons jg_name (jgs_cons jg_name jgs_nil)), jt_test (je_gt (je_call (args := args_bare_area T) (dom := dom_bare_area) (out := out_bare_area T) (pt pts u, pt pts v, pt pts c) (ja_cons (je_var (i := 3) rfl) (ja_cons (je_var (i := 4) rfl) (ja_cons (je_var (i := 6) rfl) ja_nil))) ⟨near_pt hnear _, near_pt hnear _, near_pt hnear _⟩) je_int), fun _ => je_var (i := 5) rfl⟩))) fh al th
theorem oth_mem {n : Nat} {k x : Int} (h : x ∈ oth n k) : 0 ≤ x ∧ x < n ∧ x ≠ k := by
  obtain ⟨h1, h2⟩ := List.mem_filter.mp h
  have := rg_mem h1
  refine ⟨by omega, by omega, fun z => ?_⟩
  simp [z] at h2
theorem badNos_two {n : Nat} {a b : Int} (ha : 0 ≤ a ∧ a < n) (hb : 0 ≤ b ∧ b < n) (h : b ≠ a) : badNos n [a, b] = none := by
  have na : isNo a n = true := by unfold isNo; simp [ha.1, ha.2]
  have nb : isNo b n = true := by unfold isNo; simp [hb.1, hb.2]
  unfold badNos
  show [0, 1].findSome? _ = none
  simp only [List.findSome?_cons, List.findSome?_nil]
  unfold badNo
  simp [na, nb, h]
theorem je_left [LT] {K : PySem.W.Frag} {mg : Str → Option Value} (T : Tx K mg) {W : WX} {ps : Kn} {te t1 t2 : TE} {pts : List (Int × Int)} {a b : Int} (h : JV K T.M W te ps (ob1 K T.a_Floor "points" (.tuple (pts.map pD)))) (h1 : JD K T.M W t1 ps (.int a)) (h2 : JD K T.M W t2 ps (.int b)) (hl : pts.length ≤ 10) (hn : ∀ p ∈ pts, near p) (hb : badNos pts.length [a, b] = none) :
    JD K T.M W (tMethW T.a_Floor "left_of" (Prm K T.M (args_Floor_left_of T) dom_Floor_left_of (out_Floor_left_of T)) (WE W) te (tCons t1 (tCons t2 tNil))) ps (leftD pts a b) := by
  have := je_meth (args := args_Floor_left_of T) (dom := dom_Floor_left_of) (out := out_Floor_left_of T) (C := T.a_Floor) (m := "left_of") (f := "points") (pts, a, b) h (by decide) _ (ja_cons h1 (ja_cons h2 ja_nil)) rfl ⟨hl, hn⟩
  have e : out_Floor_left_of T (pts, a, b) = .ok (dv K (leftD pts a b)) := by
    unfold out_Floor_left_of
    dsimp only
    rw [hb]
    rfl
  rw [e] at this
  exact this
/-- how many of half lie on the left of the line from c to the number -/
def rkN (pts : List (Int × Int)) (v : Nat) (half : List Nat) (c : Nat) : Nat := ((leftN pts c v).filter fun d => decide (d ∈ half)).length
def turnS (pts : List (Int × Int)) (v : Nat) (half : List Nat) : List Nat := half.mergeSort fun x y => decide ((rkN pts v half x : Int) ≤ rkN pts v half y)
def nI (n : Nat) : PyData := .int (n : Int)
def args_in_order {K : PySem.W.Frag} {mg : Str → Option Value} (T : Tx K mg) : List (Int × Int) × Nat × List Nat → List PV := fun a => [ob1 K T.a_Floor "points" (.tuple (a.1.map pD)), dv K (nI a.2.1), dv K (.list (a.2.2.map nI))]
def dom_in_order : List (Int × Int) × Nat × List Nat → Prop := fun a => a.1.length ≤ 10 ∧ (∀ p ∈ a.1, near p) ∧ a.2.1 < a.1.length ∧ a.2.2.length ≤ 10 ∧ ∀ c ∈ a.2.2, c < a.1.length ∧ c ≠ a.2.1
def out_in_order {K : PySem.W.Frag} {mg : Str → Option Value} (T : Tx K mg) : List (Int × Int) × Nat × List Nat → Out := fun a => .ok (dv K (.list ((turnS a.1 a.2.1 a.2.2).map nI)))
theorem has_nI (d : Nat) (half : List Nat) : (half.map fun n : Nat => (n : Int)).contains (d : Int) = decide (d ∈ half) := by
  rw [List.contains_eq_mem]
  congr 1
  rw [List.mem_map, eq_iff_iff]
  exact ⟨fun ⟨x, h1, h2⟩ => Int.ofNat.inj h2 ▸ h1, fun h => ⟨d, h, rfl⟩⟩
theorem ok_in_order {P : Program} {w : World} {K : PySem.W.Frag} {mg : Str → Option Value} {base : Heap} (T : Tx K mg) [LT] (lk : LKs T base) : FnOk P w K mg base (L2N.CX P w) 9 T.a_in_order T.fd_in_order ["floor", "number", "half"] (Prm K T.M (args_in_order T) dom_in_order (out_in_order T)) := by
  refine T.F_in_order.okXL T.ce_in_order sc_in_order (fun vs H Q E h => by obtain ⟨a, F, _, al, _⟩ := h; exact al.length) (fun cdv hcd A outer s H vs Q E hr h => ?_)
  subst hcd
  have tk : L2N.Takes (cxOf (L2N.CX P w) P w K mg base N_in_order "in_order" (defScope s_in_order) T.a_in_order (.ref T.mk_in_order.c) A outer s H E) (fun cls d _ H => E cls d H) := L2N.takes_of rfl rfl rfl rfl
  obtain ⟨a, F, fh, al, hd, th⟩ := h
  refine ⟨_, (pss_one (ps_ret (pe_sortL (k := 5) (T := LT.tabs) (c := T.mk_in_order.c) (P := T.mk_in_order.P) (p := "c") (i := 3) (ws := [4]) (tb := (tCB (rLenS K) (tCons (tLc (iList K (tMethW T.a_Floor "left_of" (Prm K T.M (args_Floor_left_of T) dom_Floor_left_of (out_Floor_left_of T)) (WE fun _ _ _ _ => False) (tVar 0) (tCons (tVar 3) (tCons (tVar 1) tNil)))) (gName 4) (tTest (tOp (rIn K false) (tVar 4) (tVar 2))) (tVar 4) [4]) tNil))) (by rfl) T.z_sorted (pv 2) (lk_ok (m := T.mk_in_order) lk.in_order rfl T.mq_in_order) (show LamS1 N_in_order (defScope s_in_order) ls_in_order "c" 3 [4] from lamS1_by (by decide +kernel)) (by rfl) (fun _ _ _ _ _ _ _ => .of_eq (by rfl)) (hr.mono (by decide)) (fun A s H f c hr => by exact (pe_callB call_len_seq (by rfl) T.z_len PySem.boot_len (pa_cons (pe_lc (own := [("d", 4)]) (g := (gName 4)) (tt := (tTest (tOp (rIn K false) (tVar 4) (tVar 2)))) (te := (tVar 4)) rfl sc_in_order.nd (pi_list (pe_methW (pv 0) T.C_Floor T.m_Floor_left_of (ok_Floor_left_of T) (hr.mono (by decide)) (b_Floor_left_of T) (fun σ => L2N.passAt takes0N σ) (pa_cons (pv 3) (pa_cons (pv 1) pa_nil)))) (by exact (show BlkOk N_in_order ls_in_order _ [("d", 4)] from blkOk_by (by decide +kernel))) (fun _ _ _ _ _ => (pg_name (i := 4) sc_in_order.nd rfl (by first | exact Or.inl rfl | exact Or.inr rfl))) (fun _ _ _ _ _ => by exact pts_one (pt_cmpR op_in_seq (pv 4) (pv 2) (by rfl))) (fun _ _ _ _ _ => by exact (pv 4))) pa_nil)))))), ?_⟩
  obtain ⟨pts, v, half⟩ := a
  obtain ⟨hl, hn, hv, hh, hm⟩ := hd
  simp only at hl hn hv hh hm
  refine fin_ok (r := .rt (dv K (.list ((turnS pts v half).map nI)))) (js_ret (je_sortLI (W' := fun _ _ _ _ => False) half nI (fun c => (rkN pts v half c : Int)) (je_var (i := 2) rfl) fun c hc => ?_)) (by exact rfl) fh al th
  have lv := je_left T (W := fun _ _ _ _ => False) (ps := (wipeK (entry N_in_order (args_in_order T (pts, v, half))) [4]).set 3 (some (dv K (nI c)))) (te := tVar 0) (t1 := tVar 3) (t2 := tVar 1) (pts := pts) (a := (c : Int)) (b := (v : Int)) (je_var (i := 0) rfl) (je_var (i := 3) rfl) (je_var (i := 1) rfl) hl hn (badNos_two ⟨by omega, by have := (hm c hc).1; omega⟩ ⟨by omega, by omega⟩ (by have := (hm c hc).2; omega))
  refine je_is (je_lenL (je_lc (W' := fun _ _ _ _ => False) (leftN pts c v) (fun d : Nat => .int (d : Int)) (fun d => decide (d ∈ half)) (fun d : Nat => .int (d : Int)) (ji_list lv) ?_ fun d hd => ⟨_, jg_name, jt_test (je_is (je_inL (ns := half.map fun n : Nat => (n : Int)) (je_var (i := 4) rfl) (je_is (je_var (i := 2) rfl) (by rw [List.map_map]; rfl))) (by rw [has_nI])), fun _ => je_var (i := 4) rfl⟩)) ?_
  · unfold leftN
    have := List.length_filter_le (fun c' : Nat => decide (0 < area (pt pts c) (pt pts v) (pt pts c'))) (List.range pts.length)
    rw [List.length_range] at this
    omega
  · rw [List.length_map]
    rfl
end K07
namespace K07
open PySem PySem.Spec PyProof.Rows L2 Evl EB PySem.W
/-! ### round_point -/
def fstO (v : Nat) : Nat := if v = 0 then 1 else 0
theorem oth_fst {n v : Nat} (h : 2 ≤ n) : (oth n (v : Int))[0]? = some ((fstO v : Nat) : Int) := by
  obtain ⟨m, rfl⟩ : ∃ m, n = m + 2 := ⟨n - 2, by omega⟩
  have e : rg 0 (m + 2) = 0 :: 1 :: (List.range m).map fun i => (0 : Int) + ((i + 1 + 1 : Nat) : Int) := by
    unfold rg
    rw [List.range_succ_eq_map, List.range_succ_eq_map]
    simp [Function.comp_def]
  unfold oth fstO
  rw [e]
  by_cases z : v = 0
  · subst z
    simp
  · have : ¬ (0 : Int) = v := by omega
    simp [this, z]
def ring (pts : List (Int × Int)) (v : Nat) : List Nat := fstO v :: (turnS pts v (leftN pts v (fstO v)) ++ turnS pts v (leftN pts (fstO v) v))
def args_round_point {K : PySem.W.Frag} {mg : Str → Option Value} (T : Tx K mg) : List (Int × Int) × Int → List PV := fun a => [ob1 K T.a_Floor "points" (.tuple (a.1.map pD)), dv K (.int a.2)]
def dom_round_point : List (Int × Int) × Int → Prop := fun a => 3 ≤ a.1.length ∧ a.1.length ≤ 10 ∧ ∀ p ∈ a.1, near p
theorem leftN_mem {pts : List (Int × Int)} {a b c : Nat} (h : c ∈ leftN pts a b) : c < pts.length ∧ c ≠ a ∧ c ≠ b := by
  obtain ⟨h1, h2⟩ := List.mem_filter.mp h
  have h2 := of_decide_eq_true h2
  refine ⟨List.mem_range.mp h1, fun z => ?_, fun z => ?_⟩ <;> subst z <;> unfold area at h2 <;> simp only [Int.sub_self, Int.mul_zero, Int.zero_mul, Int.mul_comm] at h2 <;> omega
theorem turnS_len (pts : List (Int × Int)) (v : Nat) (h : List Nat) : (turnS pts v h).length = h.length := (List.mergeSort_perm _ _).length_eq
theorem leftN_len (pts : List (Int × Int)) (a b : Int) : (leftN pts a b).length ≤ pts.length := by
  unfold leftN
  have := List.length_filter_le (fun c' : Nat => decide (0 < area (pt pts a) (pt pts b) (pt pts c'))) (List.range pts.length)
  rwa [List.length_range] at this
end K07
namespace K07
open PySem PySem.Spec PyProof.Rows L2 Evl EB
/-! ### cell, area, whole -/
def cell (ns : List Int) (i : Nat) : Int := match ns[i]? with
  | some v => if v < 0 then -v else v
  | none => 0
def intsD (ns : List Int) : List PyData := ns.map .int
def args__law_cell {K : PySem.W.Frag} {mg : Str → Option Value} (T : Tx K mg) : List Int × Nat → List PV := fun a => [dv K (.list (intsD a.1)), dv K (.int a.2)]
def dom__law_cell : List Int × Nat → Prop := fun _ => True
def out__law_cell {K : PySem.W.Frag} {mg : Str → Option Value} (T : Tx K mg) : List Int × Nat → Out := fun a => .ok (dv K (.int (cell a.1 a.2)))
theorem ok__law_cell [LT] {P : Program} {w : World} {K : PySem.W.Frag} {mg : Str → Option Value} {base : Heap} (T : Tx K mg) : FnOk P w K mg base (L2N.CX P w) 1 T.a__law_cell T.fd__law_cell ["cells", "place"] (Prm K T.M (args__law_cell T) dom__law_cell (out__law_cell T)) := by
  refine T.F__law_cell.okXN sc__law_cell (fun vs H Q E h => by obtain ⟨a, F, _, al, _⟩ := h; exact al.length) (fun cdv A outer s H vs Q E hr h => ?_)
  have tk : L2N.Takes (cxOf (L2N.CX P w) P w K mg base N__law_cell "_law_cell" (defScope s__law_cell) T.a__law_cell cdv A outer s H E) (fun cls d _ H => E cls d H) := L2N.takes_of rfl rfl rfl rfl
  obtain ⟨a, F, fh, al, hd, th⟩ := h
  refine ⟨_, (pss_cons (ps_if (pt_cmpR op_lt (pv 1) (pe_callB call_len_seq (by rfl) T.z_len PySem.boot_len (pa_cons (pv 0) pa_nil)) (nomark _)) (pss_one (ps_ret (pe_callB call_abs (by rfl) T.z_abs (by decide +kernel) (pa_cons (pe_ix ix_list (pv 0) (pv 1) (fun _ _ => rfl)) pa_nil)))) pss_nil)
      (pss_one (ps_ret pe_int))), ?_⟩
  obtain ⟨ns, i⟩ := a
  by_cases h : i < ns.length
  · refine fin_ok (r := .rt (dv K (.int (cell ns i)))) (js_rt (js_if (b := true) (jt_is (jt_test (je_lt (je_var (i := 1) rfl) (je_lenL (je_var (i := 0) rfl)))) ?_) (fun _ => js_ret ?_) (fun z => Bool.noConfusion z))) (by exact rfl) fh al th
    · unfold intsD
      rw [List.length_map]
      exact decide_eq_true (by dsimp only; omega)
    · have e : cell ns i = if ns[i] < 0 then -ns[i] else ns[i] := by
        unfold cell
        rw [List.getElem?_eq_getElem h]
      rw [e]
      refine je_abs (je_ixL (je_var (i := 0) rfl) (je_var (i := 1) rfl) (atI_nat ?_))
      unfold intsD
      rw [List.getElem?_map, List.getElem?_eq_getElem h]
      rfl
  · refine fin_ok (r := .rt (dv K (.int (cell ns i)))) (js_seq (js_if (b := false) (jt_is (jt_test (je_lt (je_var (i := 1) rfl) (je_lenL (je_var (i := 0) rfl)))) ?_) (fun z => Bool.noConfusion z) (fun _ => js_next)) (js_ret ?_)) (by exact rfl) fh al th
    · unfold intsD
      rw [List.length_map]
      exact decide_eq_false (by dsimp only; omega)
    · rw [show cell ns i = 0 by unfold cell; rw [List.getElem?_eq_none (by omega)]]
      exact je_int
theorem area_eq (p q r : Int × Int) : p.1 * q.2 - q.1 * p.2 + (q.1 * r.2 - r.1 * q.2) + (r.1 * p.2 - p.1 * r.2) = area p q r := by
  unfold area
  grind
def args__law_area {K : PySem.W.Frag} {mg : Str → Option Value} (T : Tx K mg) : (Int × Int) × (Int × Int) × (Int × Int) → List PV := args_bare_area T
def dom__law_area : (Int × Int) × (Int × Int) × (Int × Int) → Prop := dom_bare_area
def out__law_area {K : PySem.W.Frag} {mg : Str → Option Value} (T : Tx K mg) : (Int × Int) × (Int × Int) × (Int × Int) → Out := out_bare_area T
theorem ok__law_area [LT] {P : Program} {w : World} {K : PySem.W.Frag} {mg : Str → Option Value} {base : Heap} (T : Tx K mg) : FnOk P w K mg base (L2N.CX P w) 1 T.a__law_area T.fd__law_area ["p", "q", "r"] (Prm K T.M (args__law_area T) dom__law_area (out__law_area T)) := by
  refine T.F__law_area.okXN sc__law_area (fun vs H Q E h => by obtain ⟨a, F, _, al, _⟩ := h; exact al.length) (fun cdv A outer s H vs Q E hr h => ?_)
  have tk : L2N.Takes (cxOf (L2N.CX P w) P w K mg base N__law_area "_law_area" (defScope s__law_area) T.a__law_area cdv A outer s H E) (fun cls d _ H => E cls d H) := L2N.takes_of rfl rfl rfl rfl
  obtain ⟨a, F, fh, al, hd, th⟩ := h
  refine ⟨_, (pss_cons (ps_set (i := 3) sc__law_area.nd rfl (by first | exact Or.inl rfl | exact Or.inr rfl) (pe_op op_sub (pe_op op_mul (pe_ix ix_tup (pv 0) pe_int (fun _ _ => rfl)) (pe_ix ix_tup (pv 1) pe_int (fun _ _ => rfl))) (pe_op op_mul (pe_ix ix_tup (pv 1) pe_int (fun _ _ => rfl)) (pe_ix ix_tup (pv 0) pe_int (fun _ _ => rfl)))))
      (pss_cons (ps_set (i := 4) sc__law_area.nd rfl (by first | exact Or.inl rfl | exact Or.inr rfl) (pe_op op_sub (pe_op op_mul (pe_ix ix_tup (pv 1) pe_int (fun _ _ => rfl)) (pe_ix ix_tup (pv 2) pe_int (fun _ _ => rfl))) (pe_op op_mul (pe_ix ix_tup (pv 2) pe_int (fun _ _ => rfl)) (pe_ix ix_tup (pv 1) pe_int (fun _ _ => rfl)))))
      (pss_cons (ps_set (i := 5) sc__law_area.nd rfl (by first | exact Or.inl rfl | exact Or.inr rfl) (pe_op op_sub (pe_op op_mul (pe_ix ix_tup (pv 2) pe_int (fun _ _ => rfl)) (pe_ix ix_tup (pv 0) pe_int (fun _ _ => rfl))) (pe_op op_mul (pe_ix ix_tup (pv 0) pe_int (fun _ _ => rfl)) (pe_ix ix_tup (pv 2) pe_int (fun _ _ => rfl)))))
      (pss_one (ps_ret (pe_op op_add (pe_op op_add (pv 3) (pv 4)) (pv 5))))))), ?_⟩
  obtain ⟨p, q, r⟩ := a
  obtain ⟨⟨hp1, hp2⟩, ⟨hq1, hq2⟩, hr1, hr2⟩ := hd
  simp only at hp1 hp2 hq1 hq2 hr1 hr2
  have e : out__law_area T (p, q, r) = .ok (dv K (.int (p.1 * q.2 - q.1 * p.2 + (q.1 * r.2 - r.1 * q.2) + (r.1 * p.2 - p.1 * r.2)))) := by
    rw [area_eq] <;> rfl
  rw [e] at th
  refine fin_ok (r := .rt (dv K (.int (p.1 * q.2 - q.1 * p.2 + (q.1 * r.2 - r.1 * q.2) + (r.1 * p.2 - p.1 * r.2))))) (js_seq (js_set (je_sub (je_mul (je_x0 (je_var (i := 0) rfl)) (je_y1 (je_var (i := 1) rfl)) (near_mul (by dsimp only; omega))) (je_mul (je_x0 (je_var (i := 1) rfl)) (je_y1 (je_var (i := 0) rfl)) (near_mul (by dsimp only; omega)))))
    (js_seq (js_set (je_sub (je_mul (je_x0 (je_var (i := 1) rfl)) (je_y1 (je_var (i := 2) rfl)) (near_mul (by dsimp only; omega))) (je_mul (je_x0 (je_var (i := 2) rfl)) (je_y1 (je_var (i := 1) rfl)) (near_mul (by dsimp only; omega)))))
    (js_seq (js_set (je_sub (je_mul (je_x0 (je_var (i := 2) rfl)) (je_y1 (je_var (i := 0) rfl)) (near_mul (by dsimp only; omega))) (je_mul (je_x0 (je_var (i := 0) rfl)) (je_y1 (je_var (i := 2) rfl)) (near_mul (by dsimp only; omega)))))
    (js_ret (je_add (je_add (je_var (i := 3) rfl) (je_var (i := 4) rfl)) (je_var (i := 5) rfl)))))) (by exact rfl) fh al th
def nmE : EC → Str
  | .WrongCount => "WrongCount"
  | .TooFar => "TooFar"
  | .NoPoint => "NoPoint"
  | .Repeated => "Repeated"
  | .OnLine => "OnLine"
  | .NoSize => "NoSize"
  | .WrongRow => "WrongRow"
  | .WrongLine => "WrongLine"
  | .OnPlane => "OnPlane"
  | .Within => "Within"
  | _ => ""
def raisedD (e : Er) : PyData := .tuple [.str "raised", .str (nmE e.c), e.val, .bool true]
def orE (o : Option Er) (d : PyData) : PyData := match o with
  | some e => raisedD e
  | none => d
theorem isNo_not (i n : Int) : (decide (i < 0) || decide (n ≤ i)) = !isNo i n := by
  unfold isNo
  by_cases h1 : i < 0
  · have h2 : ¬ 0 ≤ i := by omega
    simp [h1, h2]
  · have h2 : 0 ≤ i := by omega
    by_cases h3 : n ≤ i
    · have h4 : ¬ i < n := by omega
      simp [h1, h2, h3, h4]
    · have h4 : i < n := by omega
      simp [h1, h2, h3, h4]
/-- a clause's suite: it tells the error, and of which classes it is -/
abbrev suT (K : PySem.W.Frag) (B C C2 C3 : Addr) (nm f : Str) (i j : Nat) : Addr → Value → Option Addr → TS := fun a cls d =>
  tSeq (tAsg (tAndV (tCB (rIsEx K a cls d) (tCons (tVar i) (tCons (tC (.ref B)) tNil))) (tCB (rIsEx K a cls d) (tCons (tVar i) (tCons (tC (.ty "ValueError")) tNil)))) (gName j))
    (tRet (tTup (tCons (tC (.str "raised")) (tCons (tC (.str nm)) (tCons (tXf a cls d C f (tVar i)) (tCons (tAndV (tVar j) (tNotV (tCB (rIsExT K a cls d) (tCons (tVar i) (tCons (tTup (tCons (tC (.ref C2)) (tCons (tC (.ref C3)) tNil))) tNil))))) tNil))))))
theorem suite_std [LT] {K : PySem.W.Frag} {M : EC → Addr} {W : WX} {n i j : Nat} {c : EC} {d : PyData} {B C2 C3 : Addr} (hi : i < n) (hj : j < n) (hij : i ≠ j) (X : ExK K (M c)) (h1 : PySem.W.kitOne K (.ref (M c)) (.ref B) = some true) (h2 : PySem.W.kitOne K (.ref (M c)) (.type "ValueError") = some true) (h3 : PySem.W.kitAny K (.ref (M c)) [.ref C2, .ref C3] = some false) (hc : c.two = false := by rfl) :
    Suite K M W n i (suT K B (M c) C2 C3 (nmE c) c.fld i j) ⟨c, d⟩ (dv K (raisedD ⟨c, d⟩)) := suite_of (nof_of hc) fun a dd => by
  rw [exvE_one hc]
  have v1 : ((List.replicate n (none : Option PV)).set i (some (exv K a dd c.fld d)))[i]? = some (some (exv K a dd c.fld d)) := List.getElem?_set_self (by rw [List.length_replicate]; exact hi)
  have v2 : (((List.replicate n (none : Option PV)).set i (some (exv K a dd c.fld d))).set j (some (dv K (.bool true))))[i]? = some (some (exv K a dd c.fld d)) := by rw [List.getElem?_set_ne (fun z => hij z.symm)]; exact v1
  have v3 : (((List.replicate n (none : Option PV)).set i (some (exv K a dd c.fld d))).set j (some (dv K (.bool true))))[j]? = some (some (dv K (.bool true))) := List.getElem?_set_self (by rw [List.length_set, List.length_replicate]; exact hj)
  refine js_seq (js_set (P := dv K (.bool true)) (je_andV (a := true) (b := true) (je_isEx (je_var v1) X (.own B) h1) (fun _ => je_isEx (je_var v1) X (.ty "ValueError") h2)))
    (js_ret (je_tup (ds := [.str "raised", .str (nmE c), d, .bool true]) (ja_cons je_str (ja_cons je_str (ja_cons (je_xf (je_var v2)) (ja_cons (je_andV (a := true) (b := true) (je_var v3) (fun _ => je_notV (a := false) (je_isExT2 (je_var v2) X h3))) ja_nil))))))
def asgR (ps : Kn) (i : Nat) : Out → Res
  | .ok P => .nx (ps.set i (some P))
  | .er e => .er e
theorem js_setO [LT] {K : PySem.W.Frag} {M : EC → Addr} {W : WX} {ps : Kn} {te : TE} {i : Nat} {o : Out} (h : JE K M W te ps o) : JS K M W (tAsg te (gName i)) ps (asgR ps i o) := by
  cases o with
  | ok P => exact js_set h
  | er e => exact js_set_er h
theorem ok4 {n : Nat} {a b c d : PyData} (ha : Ok a n) (hb : Ok b n) (hc : Ok c n) (hd : Ok d n) : Ok (.tuple [a, b, c, d]) (n + 1) := ok_tup fun x hx => by
  simp only [List.mem_cons, List.not_mem_nil, or_false] at hx
  rcases hx with rfl | rfl | rfl | rfl
  · exact ha
  · exact hb
  · exact hc
  · exact hd
theorem ok_raised {e : Er} {n : Nat} (h : Ok e.val n) : Ok (raisedD e) (n + 1) := ok4 (ok_str (by decide +kernel)) (ok_str (by cases e.c <;> decide +kernel)) h ok_bl
end K07
namespace K07
open PySem PySem.Spec PyProof.Rows L2 Evl EB
theorem rg_int {n i : Nat} {d : PyData} (h : ((rg 0 n).map PyData.int)[i]? = some d) : i < n ∧ d = .int (i : Nat) := by
  have hl := (List.getElem?_eq_some_iff.mp h).1
  rw [List.length_map, rg_length] at hl
  rw [List.getElem?_map, rg_get hl] at h
  cases h
  exact ⟨hl, by simp⟩
/-! ### made, refusal -/
def flD (pts : List (Int × Int)) : PyData := .tuple [.str "floor", .str "", .tuple (pts.map pD), .bool true]
def refD (pts : List (Int × Int)) : PyData := orE (floorE pts) (flD pts)
theorem badXY_c {p : Int × Int} {e : Er} (h : badXY p = some e) : ∃ v, e = ⟨.TooFar, .int v⟩ := by
  unfold badXY at h
  cases h1 : inR (-FAR) p.1 FAR with
  | false => rw [h1] at h; cases h; exact ⟨_, rfl⟩
  | true =>
    rw [h1] at h
    cases h2 : inR (-FAR) p.2 FAR with
    | false => rw [h2] at h; cases h; exact ⟨_, rfl⟩
    | true => rw [h2] at h; cases h
theorem onLine_c {pts : List (Int × Int)} {e : Er} (h : onLine pts = some e) : ∃ xs, e = ⟨.OnLine, tupI xs⟩ := by
  obtain ⟨x, _, hx⟩ := List.exists_of_findSome?_eq_some h
  unfold lineOf at hx
  match x, hx with
  | [a, b, c], hx =>
    dsimp only at hx
    by_cases h0 : area (pt pts a) (pt pts b) (pt pts c) = 0
    · rw [if_pos h0] at hx
      cases hx
      exact ⟨_, rfl⟩
    · rw [if_neg h0] at hx
      cases hx
theorem floorE_c {pts : List (Int × Int)} {e : Er} (h : floorE pts = some e) : (∃ v, e = ⟨.WrongCount, .int v⟩) ∨ (∃ v, e = ⟨.TooFar, .int v⟩) ∨ ∃ xs, e = ⟨.OnLine, tupI xs⟩ := by
  unfold floorE at h
  cases h1 : inR 3 pts.length 10 with
  | false => rw [h1] at h; cases h; exact .inl ⟨_, rfl⟩
  | true =>
    rw [h1] at h
    cases h2 : badPts pts with
    | some e2 =>
      rw [h2] at h
      cases h
      obtain ⟨p, _, hp⟩ := List.exists_of_findSome?_eq_some h2
      exact .inr (.inl (badXY_c hp))
    | none =>
      rw [h2] at h
      exact .inr (.inr (onLine_c h))
theorem ok_pD {n : Nat} (p : Int × Int) : Ok (pD p) (n + 1) := ok_tup (ds := [p.1, p.2].map .int) (ok_ints _)
theorem ok_pts {n : Nat} (pts : List (Int × Int)) : ∀ d ∈ pts.map pD, Ok d (n + 1) := fun d hd => by
  obtain ⟨p, _, rfl⟩ := List.mem_map.mp hd
  exact ok_pD p
theorem ok_ref (pts : List (Int × Int)) : Ok (refD pts) 3 := by
  unfold refD
  cases h : floorE pts with
  | none => exact ok4 (ok_str (by decide +kernel)) (ok_str (by decide +kernel)) (ok_tup (n := 1) (ok_pts (n := 0) pts)) ok_bl
  | some e =>
    rcases floorE_c h with ⟨v, rfl⟩ | ⟨v, rfl⟩ | ⟨xs, rfl⟩
    · exact ok_raised (n := 2) ok_int
    · exact ok_raised (n := 2) ok_int
    · exact ok_raised (n := 2) (ok_tup (n := 1) (ok_ints xs))
def args__law_made {K : PySem.W.Frag} {mg : Str → Option Value} (T : Tx K mg) : List (Int × Int) → List PV := fun a => [dv K (.list (a.map pD))]
def dom__law_made : List (Int × Int) → Prop := fun _ => True
def out__law_made {K : PySem.W.Frag} {mg : Str → Option Value} (T : Tx K mg) : List (Int × Int) → Out := fun a => .ok (dv K (refD a))
abbrev tbMade [LT] {K : PySem.W.Frag} {mg : Str → Option Value} (T : Tx K mg) : WX → TS := fun W => tAsg (tMakeS T.a_Floor (spMake K T.M T.a_Floor "points" (args_Floor___init__ T) dom_Floor___init__ out_Floor___init__) (WE W) (tCons (tVar 0) tNil)) (gName 1)
theorem ok__law_made [LT] {P : Program} {w : World} {K : PySem.W.Frag} {mg : Str → Option Value} {base : Heap} (T : Tx K mg) : FnOk P w K mg base (L2N.CX P w) 7 T.a__law_made T.fd__law_made ["points"] (Prm K T.M (args__law_made T) dom__law_made (out__law_made T)) := by
  refine T.F__law_made.okXN sc__law_made (fun vs H Q E h => by obtain ⟨a, F, _, al, _⟩ := h; exact al.length) (fun cdv A outer s H vs Q E hr h => ?_)
  have tk : L2N.Takes (cxOf (L2N.CX P w) P w K mg base N__law_made "_law_made" (defScope s__law_made) T.a__law_made cdv A outer s H E) (fun cls d _ H => E cls d H) := L2N.takes_of rfl rfl rfl rfl
  obtain ⟨a, F, fh, al, hd, th⟩ := h
  refine ⟨_, (pss_cons (ps_try_named (tb := fun W => _) rfl rfl sc__law_made.nd tk (fun W pn xe tkb pob => (pss_one (ps_set (i := 1) sc__law_made.nd rfl (by first | exact Or.inl rfl | exact Or.inr rfl) (pe_makeS T.M_Floor (ok_Floor___init__ T) (hr.mono (by decide)) (by rfl) T.g_Floor (b_Floor___init__ T) (fun σ => L2N.passAt tkb σ) (pa_cons (pv 0) pa_nil))))) (Clauses.cons (c := .ref T.a_WrongCount) (i := 2) ⟨rfl, by decide, .inl T.g_WrongCount⟩ rfl rfl (fun a ob cls d pn hz hf hot => (pss_cons (ps_set (i := 3) sc__law_made.nd rfl (by first | exact Or.inl rfl | exact Or.inr rfl) (pe_and (pe_callB (call_isEx hz hf) (by rfl) T.z_isinstance PyProof.Rows.boot_isinstance (pa_cons (pv 2) (pa_cons (pe_glob (v := .ref T.a_BowlError) (by rfl) T.g_BowlError rfl) pa_nil))) (pe_one (pe_callB (call_isEx hz hf) (by rfl) T.z_isinstance PyProof.Rows.boot_isinstance (pa_cons (pv 2) (pa_cons (pe_bltn (v := .ty "ValueError") (by rfl) T.z_ValueError PyProof.Rows.Boot.«ValueError» rfl) pa_nil))))))
      (pss_one (ps_ret (pe_tup (pa_cons pe_str (pa_cons pe_str (pa_cons (pe_xf (T.X_WrongCount).xf (T.X_WrongCount).nf hz hf (pv 2)) (pa_cons (pe_and (pv 3) (pe_one (pe_not (pe_callB (call_isExT hz hf) (by rfl) T.z_isinstance PyProof.Rows.boot_isinstance (pa_cons (pv 2) (pa_cons (pe_tup (pa_cons (pe_glob (v := .ref T.a_OnLine) (by rfl) T.g_OnLine rfl) (pa_cons (pe_glob (v := .ref T.a_TooFar) (by rfl) T.g_TooFar rfl) pa_nil))) pa_nil)))))) pa_nil))))))))) (Clauses.cons (c := .ref T.a_TooFar) (i := 2) ⟨rfl, by decide, .inl T.g_TooFar⟩ rfl rfl (fun a ob cls d pn hz hf hot => (pss_cons (ps_set (i := 3) sc__law_made.nd rfl (by first | exact Or.inl rfl | exact Or.inr rfl) (pe_and (pe_callB (call_isEx hz hf) (by rfl) T.z_isinstance PyProof.Rows.boot_isinstance (pa_cons (pv 2) (pa_cons (pe_glob (v := .ref T.a_BowlError) (by rfl) T.g_BowlError rfl) pa_nil))) (pe_one (pe_callB (call_isEx hz hf) (by rfl) T.z_isinstance PyProof.Rows.boot_isinstance (pa_cons (pv 2) (pa_cons (pe_bltn (v := .ty "ValueError") (by rfl) T.z_ValueError PyProof.Rows.Boot.«ValueError» rfl) pa_nil))))))
      (pss_one (ps_ret (pe_tup (pa_cons pe_str (pa_cons pe_str (pa_cons (pe_xf (T.X_TooFar).xf (T.X_TooFar).nf hz hf (pv 2)) (pa_cons (pe_and (pv 3) (pe_one (pe_not (pe_callB (call_isExT hz hf) (by rfl) T.z_isinstance PyProof.Rows.boot_isinstance (pa_cons (pv 2) (pa_cons (pe_tup (pa_cons (pe_glob (v := .ref T.a_OnLine) (by rfl) T.g_OnLine rfl) (pa_cons (pe_glob (v := .ref T.a_WrongCount) (by rfl) T.g_WrongCount rfl) pa_nil))) pa_nil)))))) pa_nil))))))))) (Clauses.cons (c := .ref T.a_OnLine) (i := 2) ⟨rfl, by decide, .inl T.g_OnLine⟩ rfl rfl (fun a ob cls d pn hz hf hot => (pss_cons (ps_set (i := 3) sc__law_made.nd rfl (by first | exact Or.inl rfl | exact Or.inr rfl) (pe_and (pe_callB (call_isEx hz hf) (by rfl) T.z_isinstance PyProof.Rows.boot_isinstance (pa_cons (pv 2) (pa_cons (pe_glob (v := .ref T.a_BowlError) (by rfl) T.g_BowlError rfl) pa_nil))) (pe_one (pe_callB (call_isEx hz hf) (by rfl) T.z_isinstance PyProof.Rows.boot_isinstance (pa_cons (pv 2) (pa_cons (pe_bltn (v := .ty "ValueError") (by rfl) T.z_ValueError PyProof.Rows.Boot.«ValueError» rfl) pa_nil))))))
      (pss_one (ps_ret (pe_tup (pa_cons pe_str (pa_cons pe_str (pa_cons (pe_xf (T.X_OnLine).xf (T.X_OnLine).nf hz hf (pv 2)) (pa_cons (pe_and (pv 3) (pe_one (pe_not (pe_callB (call_isExT hz hf) (by rfl) T.z_isinstance PyProof.Rows.boot_isinstance (pa_cons (pv 2) (pa_cons (pe_tup (pa_cons (pe_glob (v := .ref T.a_TooFar) (by rfl) T.g_TooFar rfl) (pa_cons (pe_glob (v := .ref T.a_WrongCount) (by rfl) T.g_WrongCount rfl) pa_nil))) pa_nil)))))) pa_nil))))))))) Clauses.nil))))
      (pss_one (ps_ret (pe_tup (pa_cons pe_str (pa_cons pe_str (pa_cons (pe_fld (pv 1) rfl) (pa_cons (pe_callB call_isi (by rfl) T.z_isinstance PyProof.Rows.boot_isinstance (pa_cons (pv 1) (pa_cons (pe_glob (v := .ref T.a_Floor) (by rfl) T.g_Floor rfl) pa_nil))) pa_nil)))))))), ?_⟩
  have hb : ∀ W' : WX, JS K T.M W' (tbMade T W') (entry N__law_made (args__law_made T a)) (asgR (entry N__law_made (args__law_made T a)) 1 (outO K T.a_Floor (floorE a) (.tuple (a.map pD)))) := fun W' => js_setO (mk_floor T (ja_cons (je_var (i := 0) rfl) ja_nil))
  have ho : out__law_made T a = .ok (dv K (orE (floorE a) (flD a))) := rfl
  rw [ho] at th
  cases hq : floorE a with
  | some e =>
    rw [hq] at hb th
    refine fin_ok (r := .rt (dv K (raisedD e))) (js_rt (js_try_er (tb := tbMade T) hb ?_)) (by exact rfl) fh al th
    rcases floorE_c hq with ⟨v, rfl⟩ | ⟨v, rfl⟩ | ⟨xs, rfl⟩
    · exact .inl ⟨T.x_WrongCount_WrongCount, suite_std (c := .WrongCount) (show 2 < 4 by decide) (show 3 < 4 by decide) (by decide) T.X_WrongCount.ek T.k_WrongCount_BowlError T.k_WrongCount_ValueError T.k_WrongCount_OnLine_TooFar⟩
    · exact .inr ⟨T.x_TooFar_WrongCount, .inl ⟨T.x_TooFar_TooFar, suite_std (c := .TooFar) (show 2 < 4 by decide) (show 3 < 4 by decide) (by decide) T.X_TooFar.ek T.k_TooFar_BowlError T.k_TooFar_ValueError T.k_TooFar_OnLine_WrongCount⟩⟩
    · exact .inr ⟨T.x_OnLine_WrongCount, .inr ⟨T.x_OnLine_TooFar, .inl ⟨T.x_OnLine_OnLine, suite_std (c := .OnLine) (show 2 < 4 by decide) (show 3 < 4 by decide) (by decide) T.X_OnLine.ek T.k_OnLine_BowlError T.k_OnLine_ValueError T.k_OnLine_TooFar_WrongCount⟩⟩⟩
  | none =>
    rw [hq] at hb th
    exact fin_ok (r := .rt (dv K (flD a))) (js_seq (js_try_ok (tb := tbMade T) (r := .nx ((entry N__law_made (args__law_made T a)).set 1 (some (ob1 K T.a_Floor "points" (.tuple (a.map pD)))))) hb (fun _ q => nomatch q))
      (js_ret (je_tup (ds := [.str "floor", .str "", .tuple (a.map pD), .bool true]) (ja_cons je_str (ja_cons je_str (ja_cons (je_fld (C := T.a_Floor) (je_var (i := 1) rfl) T.C_Floor T.n_Floor_points) (ja_cons (je_isOb (je_var (i := 1) rfl) T.C_Floor T.ca_Floor T.gn T.tkc T.mo_Floor T.ki_Floor) ja_nil))))))) (by exact rfl) fh al th
def args__law_refusal {K : PySem.W.Frag} {mg : Str → Option Value} (T : Tx K mg) : List (Int × Int) → List PV := args__law_made T
def dom__law_refusal : List (Int × Int) → Prop := fun a => ∀ p ∈ a, near p
def out__law_refusal {K : PySem.W.Frag} {mg : Str → Option Value} (T : Tx K mg) : List (Int × Int) → Out := out__law_made T
/-- a loop over L that is left at the first x with f x -/
theorem badXY_two (p : Int × Int) : badXY p = [p.1, p.2].findSome? tf := by
  unfold badXY tf
  simp only [List.findSome?_cons, List.findSome?_nil]
  cases inR (-FAR) p.1 FAR <;> cases inR (-FAR) p.2 FAR <;> rfl
theorem far_not (v : Int) : decide (1000000 < if v < 0 then -v else v) = !inR (-FAR) v FAR := by
  unfold inR FAR
  by_cases h0 : v < 0
  · rw [if_pos h0]
    have h1 : v ≤ 1000000 := by omega
    by_cases h2 : -1000000 ≤ v
    · have h3 : ¬ 1000000 < -v := by omega
      simp [h1, h2, h3]
    · have h3 : 1000000 < -v := by omega
      simp [h2, h3]
  · rw [if_neg h0]
    have h1 : -1000000 ≤ v := by omega
    by_cases h2 : v ≤ 1000000
    · have h3 : ¬ 1000000 < v := by omega
      simp [h1, h2, h3]
    · have h3 : 1000000 < v := by omega
      simp [h2, h3]
theorem cnt_not (n : Nat) : (decide ((n : Int) < 3) || decide (10 < (n : Int))) = !inR 3 n 10 := by
  unfold inR
  by_cases h1 : (n : Int) < 3
  · have h2 : ¬ 3 ≤ (n : Int) := by omega
    simp [h1, h2]
  · have h2 : 3 ≤ (n : Int) := by omega
    by_cases h3 : 10 < (n : Int)
    · have h4 : ¬ (n : Int) ≤ 10 := by omega
      simp [h1, h2, h3, h4]
    · have h4 : (n : Int) ≤ 10 := by omega
      simp [h1, h2, h3, h4]
def tell (K : PySem.W.Frag) (e : Er) : Out := .ok (dv K (raisedD e))
theorem ok__law_refusal [LT] {P : Program} {w : World} {K : PySem.W.Frag} {mg : Str → Option Value} {base : Heap} (T : Tx K mg) : FnOk P w K mg base (L2N.CX P w) 2 T.a__law_refusal T.fd__law_refusal ["points"] (Prm K T.M (args__law_refusal T) dom__law_refusal (out__law_refusal T)) := by
  refine T.F__law_refusal.okXN sc__law_refusal (fun vs H Q E h => by obtain ⟨a, F, _, al, _⟩ := h; exact al.length) (fun cdv A outer s H vs Q E hr h => ?_)
  have tk : L2N.Takes (cxOf (L2N.CX P w) P w K mg base N__law_refusal "_law_refusal" (defScope s__law_refusal) T.a__law_refusal cdv A outer s H E) (fun cls d _ H => E cls d H) := L2N.takes_of rfl rfl rfl rfl
  obtain ⟨a, F, fh, al, hd, th⟩ := h
  refine ⟨_, (pss_cons (ps_if (PW.pt (pw_or (pt_cmpR op_lt (pe_callB call_len_seq (by rfl) T.z_len PySem.boot_len (pa_cons (pv 0) pa_nil)) pe_int (nomark _)) (pw_or1 (pt_cmpR op_gt (pe_callB call_len_seq (by rfl) T.z_len PySem.boot_len (pa_cons (pv 0) pa_nil)) pe_int (nomark _))))) (pss_one (ps_ret (pe_tup (pa_cons pe_str (pa_cons pe_str (pa_cons (pe_callB call_len_seq (by rfl) T.z_len PySem.boot_len (pa_cons (pv 0) pa_nil)) (pa_cons pe_bl pa_nil))))))) pss_nil)
      (pss_cons (ps_for (passes_of rfl) rfl (pi_list (pv 0)) (pg_name (i := 1) sc__law_refusal.nd rfl (by first | exact Or.inl rfl | exact Or.inr rfl)) (pss_one (ps_for (passes_of rfl) rfl (pi_tup (pv 1)) (pg_name (i := 2) sc__law_refusal.nd rfl (by first | exact Or.inl rfl | exact Or.inr rfl)) (pss_one (ps_if (pt_cmpR op_gt (pe_callB call_abs (by rfl) T.z_abs (by decide +kernel) (pa_cons (pv 2) pa_nil)) pe_int (nomark _)) (pss_one (ps_ret (pe_tup (pa_cons pe_str (pa_cons pe_str (pa_cons (pv 2) (pa_cons pe_bl pa_nil))))))) pss_nil)))))
      (pss_cons (ps_for (passes_of rfl) rfl (pi_range1 (by rfl) T.z_range (pa_cons (pe_callB call_len_seq (by rfl) T.z_len PySem.boot_len (pa_cons (pv 0) pa_nil)) pa_nil)) (pg_name (i := 3) sc__law_refusal.nd rfl (by first | exact Or.inl rfl | exact Or.inr rfl)) (pss_one (ps_for (passes_of rfl) rfl (pi_range2 (by rfl) T.z_range (pa_cons (pe_op op_add (pv 3) pe_int) (pa_cons (pe_callB call_len_seq (by rfl) T.z_len PySem.boot_len (pa_cons (pv 0) pa_nil)) pa_nil))) (pg_name (i := 4) sc__law_refusal.nd rfl (by first | exact Or.inl rfl | exact Or.inr rfl)) (pss_one (ps_for (passes_of rfl) rfl (pi_range2 (by rfl) T.z_range (pa_cons (pe_op op_add (pv 4) pe_int) (pa_cons (pe_callB call_len_seq (by rfl) T.z_len PySem.boot_len (pa_cons (pv 0) pa_nil)) pa_nil))) (pg_name (i := 5) sc__law_refusal.nd rfl (by first | exact Or.inl rfl | exact Or.inr rfl)) (pss_one (ps_if (pt_cmpR op_eq (pe_callS (ok__law_area T) (hr.mono (by decide)) (by rfl) T.g__law_area T.F__law_area.kp (b__law_area T) (fun σ => L2N.passAt tk σ) (pa_cons (pe_ix ix_list (pv 0) (pv 3) (fun _ _ => rfl)) (pa_cons (pe_ix ix_list (pv 0) (pv 4) (fun _ _ => rfl)) (pa_cons (pe_ix ix_list (pv 0) (pv 5) (fun _ _ => rfl)) pa_nil)))) pe_int (nomark _)) (pss_one (ps_ret (pe_tup (pa_cons pe_str (pa_cons pe_str (pa_cons (pe_tup (pa_cons (pv 3) (pa_cons (pv 4) (pa_cons (pv 5) pa_nil)))) (pa_cons pe_bl pa_nil))))))) pss_nil)))))))
      (pss_one (ps_ret (pe_tup (pa_cons pe_str (pa_cons pe_str (pa_cons (pe_callTy call_tuple_of (by rfl) T.z_tuple PyProof.Rows.boot_tuple (pa_cons (pv 0) pa_nil)) (pa_cons pe_bl pa_nil)))))))))), ?_⟩
  let W0 : WX := fun cls d _ H => E cls d H
  let ps0 : Kn := [some (dv K (.list (a.map pD))), none, none, none, none, none]
  have ho : out__law_refusal T a = .ok (dv K (orE (floorE a) (flD a))) := rfl
  rw [ho] at th
  have len : ∀ ps : Kn, ps[0]? = some (some (dv K (.list (a.map pD)))) → JD K T.M W0 (tCB (rLenS K) (tCons (tVar 0) tNil)) ps (.int a.length) := fun ps h => je_is (je_lenL (je_var (ps := ps) (i := 0) h)) (by rw [List.length_map])
  have t1 := jt_or (jt_test (je_lt (len ps0 rfl) (je_int (i := 3)))) (fun _ => jt_test (je_gt (len ps0 rfl) (je_int (i := 10))))
  rw [cnt_not] at t1
  cases h1 : inR 3 a.length 10 with
  | false =>
    rw [h1] at t1
    have e1 : floorE a = some ⟨.WrongCount, .int a.length⟩ := by
      unfold floorE
      rw [h1]
    rw [e1] at th
    exact fin_ok (r := .rt (dv K (raisedD ⟨.WrongCount, .int a.length⟩))) (js_rt (js_if t1 (fun _ => js_ret (je_tup (ds := [.str "raised", .str "WrongCount", .int a.length, .bool true]) (ja_cons je_str (ja_cons je_str (ja_cons (len ps0 rfl) (ja_cons je_bl ja_nil)))))) (fun z => Bool.noConfusion z))) (by exact rfl) fh al th
  | true =>
    rw [h1] at t1
    have hl : a.length ≤ 10 := by
      unfold inR at h1
      simp only [Bool.and_eq_true, decide_eq_true_eq] at h1
      omega
    have e1 : floorE a = (badPts a).or (onLine a) := by
      unfold floorE
      rw [h1]
      dsimp only
      cases badPts a <;> rfl
    have l1 : JS K T.M W0 (tFor (iList K (tVar 0)) (gName 1) (tFor (iTup K (tVar 1)) (gName 2) (tIfS (tTest (tOp (rI0 fun i j => .bl (decide (j < i))) (tCB rAbs (tCons (tVar 2) tNil)) (tC (.int 1000000)))) (tRet (tTup (tCons (tC (.str "raised")) (tCons (tC (.str "TooFar")) (tCons (tVar 2) (tCons (tC (.bl true)) tNil)))))) tNext))) ps0 (ends ps0 ((badPts a).map (tell K))) := js_first (vs := [1]) a pD badXY (tell K) (ji_list (je_var (i := 0) rfl)) fun p hp => ⟨_, jg_name, by
      rw [badXY_two]
      exact js_endsO (js_first (vs := [2]) [p.1, p.2] .int tf (tell K) (ji_tup (je_var (i := 1) rfl)) fun v hv => ⟨_, jg_name, by
        have t2 := jt_test (je_gt (je_abs (je_var (K := K) (M := T.M) (W := W0) (ps := [some (dv K (.list (a.map pD))), some (dv K (pD p)), some (dv K (.int v)), none, none, none]) (i := 2) rfl)) (je_int (i := 1000000)))
        rw [far_not] at t2
        cases h2 : inR (-FAR) v FAR with
        | false =>
          rw [h2] at t2
          rw [show tf v = some ⟨.TooFar, .int v⟩ by unfold tf; rw [h2]]
          exact js_if t2 (fun _ => js_ret (je_tup (ds := [.str "raised", .str "TooFar", .int v, .bool true]) (ja_cons je_str (ja_cons je_str (ja_cons (je_var (i := 2) rfl) (ja_cons je_bl ja_nil)))))) (fun z => Bool.noConfusion z)
        | true =>
          rw [h2] at t2
          rw [show tf v = none by unfold tf; rw [h2]]
          exact js_if t2 (fun z => Bool.noConfusion z) (fun _ => js_weak js_next ⟨.inr rfl, .inr rfl, .inl rfl, .inr rfl, .inr rfl, .inr rfl, trivial⟩)⟩) ⟨.inr rfl, .inl rfl, .inr rfl, .inr rfl, .inr rfl, .inr rfl, trivial⟩⟩
    cases h2 : badPts a with
    | some e =>
      rw [h2] at l1 e1
      rw [show floorE a = some e from e1] at th
      exact fin_ok (r := .rt (dv K (raisedD e))) (js_seq (js_if t1 (fun z => Bool.noConfusion z) (fun _ => js_next)) (js_rt l1)) (by exact rfl) fh al th
    | none =>
      rw [h2] at l1 e1
      rw [show floorE a = onLine a from e1] at th
      have rng1 : JI K T.M W0 (iRng1 (tCons (tCB (rLenS K) (tCons (tVar 0) tNil)) tNil)) ps0 ((rg 0 a.length).map .int) := by
        have := ji_rng1 (ja_cons (len ps0 rfl) ja_nil) ⟨by omega, by omega⟩
        rw [Int.toNat_natCast] at this
        exact this
      have l2 : JS K T.M W0 (tFor (iRng1 (tCons (tCB (rLenS K) (tCons (tVar 0) tNil)) tNil)) (gName 3) (tFor (iRng2 (tCons (tOp (rI0 fun i j => .int (i + j)) (tVar 3) (tC (.int 1))) (tCons (tCB (rLenS K) (tCons (tVar 0) tNil)) tNil))) (gName 4) (tFor (iRng2 (tCons (tOp (rI0 fun i j => .int (i + j)) (tVar 4) (tC (.int 1))) (tCons (tCB (rLenS K) (tCons (tVar 0) tNil)) tNil))) (gName 5) (tIfS (tTest (tOp rEq (tCallS (Prm K T.M (args__law_area T) dom__law_area (out__law_area T)) (WE W0) (tCons (tOp (rIxL K) (tVar 0) (tVar 3)) (tCons (tOp (rIxL K) (tVar 0) (tVar 4)) (tCons (tOp (rIxL K) (tVar 0) (tVar 5)) tNil)))) (tC (.int 0)))) (tRet (tTup (tCons (tC (.str "raised")) (tCons (tC (.str "OnLine")) (tCons (tTup (tCons (tVar 3) (tCons (tVar 4) (tCons (tVar 5) tNil)))) (tCons (tC (.bl true)) tNil)))))) tNext)))) ps0 (ends ps0 ((onLine a).map (tell K))) := by
        rw [onLine_eq hl]
        refine js_first (vs := [3]) (rg 0 a.length) .int _ (tell K) rng1 fun i hi => ⟨_, jg_name, ?_⟩
        have hi2 := rg_mem hi
        refine js_endsO (js_first (vs := [4]) (beh i a.length) .int _ (tell K) (ji_rng2 (lo := i + 1) (n := a.length) (ja_cons (je_add (je_var (i := 3) rfl) je_int) (ja_cons (len _ rfl) ja_nil)) ⟨by omega, by omega, by omega, by omega⟩) fun j hj => ⟨_, jg_name, ?_⟩) ⟨.inr rfl, .inr rfl, .inr rfl, .inl rfl, .inr rfl, .inr rfl, trivial⟩
        have hj2 := rg_mem hj
        refine js_endsO (js_first (vs := [5]) (beh j a.length) .int _ (tell K) (ji_rng2 (lo := j + 1) (n := a.length) (ja_cons (je_add (je_var (i := 4) rfl) je_int) (ja_cons (len _ rfl) ja_nil)) ⟨by omega, by omega, by omega, by omega⟩) fun k hk => ⟨_, jg_name, ?_⟩) ⟨.inr rfl, .inr rfl, .inr rfl, .inr rfl, .inl rfl, .inr rfl, trivial⟩
        have hk2 := rg_mem hk
        have no : ∀ x : Int, 0 ≤ x → x < a.length → isNo x a.length = true := fun x h3 h4 => by
          unfold isNo
          simp [h3, h4]
        have hc := je_eqI (je_call (K := K) (M := T.M) (W := W0) (ps := [some (dv K (.list (a.map pD))), none, none, some (dv K (.int i)), some (dv K (.int j)), some (dv K (.int k))]) (args := args__law_area T) (dom := dom__law_area) (out := out__law_area T) (pt a i, pt a j, pt a k)
          (ja_cons (je_ixL (je_var (i := 0) rfl) (je_var (i := 3) rfl) (at_pt (no i (by omega) (by omega)))) (ja_cons (je_ixL (je_var (i := 0) rfl) (je_var (i := 4) rfl) (at_pt (no j (by omega) (by omega)))) (ja_cons (je_ixL (je_var (i := 0) rfl) (je_var (i := 5) rfl) (at_pt (no k (by omega) (by omega)))) ja_nil))) ⟨near_pt hd _, near_pt hd _, near_pt hd _⟩) (je_int (i := 0))
        by_cases h0 : area (pt a i) (pt a j) (pt a k) = 0
        · rw [show lineOf a [i, j, k] = some ⟨.OnLine, tupI [i, j, k]⟩ from if_pos h0]
          exact js_if (b := true) (jt_is (jt_test hc) (decide_eq_true h0)) (fun _ => js_ret (je_tup (ds := [.str "raised", .str "OnLine", tupI [i, j, k], .bool true]) (ja_cons je_str (ja_cons je_str (ja_cons (je_tup (ds := [.int i, .int j, .int k]) (ja_cons (je_var (i := 3) rfl) (ja_cons (je_var (i := 4) rfl) (ja_cons (je_var (i := 5) rfl) ja_nil)))) (ja_cons je_bl ja_nil)))))) (fun z => Bool.noConfusion z)
        · rw [show lineOf a [i, j, k] = none from if_neg h0]
          exact js_if (b := false) (jt_is (jt_test hc) (decide_eq_false h0)) (fun z => Bool.noConfusion z) (fun _ => js_weak js_next ⟨.inr rfl, .inr rfl, .inr rfl, .inr rfl, .inr rfl, .inl rfl, trivial⟩)
      cases h3 : onLine a with
      | some e =>
        rw [h3] at l2 th
        exact fin_ok (r := .rt (dv K (raisedD e))) (js_seq (js_if t1 (fun z => Bool.noConfusion z) (fun _ => js_next)) (js_seq l1 (js_rt l2))) (by exact rfl) fh al th
      | none =>
        rw [h3] at l2 th
        exact fin_ok (r := .rt (dv K (flD a))) (js_seq (js_if t1 (fun z => Bool.noConfusion z) (fun _ => js_next)) (js_seq l1 (js_seq l2
          (js_ret (je_tup (ds := [.str "floor", .str "", .tuple (a.map pD), .bool true]) (ja_cons je_str (ja_cons je_str (ja_cons (je_tupL (je_var (i := 0) rfl)) (ja_cons je_bl ja_nil))))))))) (by exact rfl) fh al th
end K07
namespace K07
open PySem PySem.Spec PyProof.Rows L2 Evl EB
/-! ### points -/
def atN (xs : List Int) (k : Nat) : Int := xs.getD k 0
theorem at_N {xs : List Int} {k : Nat} (h : k < xs.length) : atI (xs.map PyData.int) (k : Int) = some (.int (atN xs k)) := by
  refine atI_nat ?_
  rw [List.getElem?_map, List.getElem?_eq_getElem h]
  unfold atN
  simp [h]
def acr : List Int := [0, 61, 17, 35, 52, 8, 44, 27, 70, 13]
def upr : List Int := [0, 7, 58, 23, 41, 31, 12, 66, 29, 47]
def px (ns : List Int) (w : Bool) (k : Nat) : Int := cond w ((cell ns (1 + k) + atN acr k * 10007) % 2000001 - 1000000) (atN acr k - 30 + cell ns (1 + k) % 97)
def py (ns : List Int) (w : Bool) (k : Nat) : Int := cond w ((cell ns (1 + k) / 2000001 + atN upr k * 20011) % 2000001 - 1000000) (atN upr k - 30 + cell ns (1 + k) / 97 % 97)
def ptsL (ns : List Int) (n : Nat) (w : Bool) : List (Int × Int) := (List.range n).map fun k => (px ns w k, py ns w k)
def small (p : Int × Int) : Prop := (-1000000 ≤ p.1 ∧ p.1 ≤ 1000000) ∧ (-1000000 ≤ p.2 ∧ p.2 ≤ 1000000)
theorem acr_b : ∀ k : Nat, k < 10 → (0 ≤ atN acr k ∧ atN acr k ≤ 100) ∧ (0 ≤ atN upr k ∧ atN upr k ≤ 100) := by decide
theorem small_pts {ns : List Int} {n : Nat} {w : Bool} (hn : n ≤ 10) : ∀ p ∈ ptsL ns n w, small p := fun p hp => by
  obtain ⟨k, hk, rfl⟩ := List.mem_map.mp hp
  have h := acr_b k (by have := List.mem_range.mp hk; omega)
  unfold small px py
  cases w <;> simp only [cond_true, cond_false] <;> omega
theorem ptsL_succ (ns : List Int) (n : Nat) (w : Bool) : (ptsL ns (n + 1) w).map pD = (ptsL ns n w).map pD ++ [pD (px ns w n, py ns w n)] := by
  unfold ptsL
  rw [List.range_succ, List.map_append, List.map_append]
  rfl
def args__law_drawn {K : PySem.W.Frag} {mg : Str → Option Value} (T : Tx K mg) : List Int × Nat × Bool → List PV := fun a => [dv K (.list (intsD a.1)), dv K (.int a.2.1), dv K (.bool a.2.2)]
def dom__law_drawn : List Int × Nat × Bool → Prop := fun a => a.2.1 ≤ 10
def out__law_drawn {K : PySem.W.Frag} {mg : Str → Option Value} (T : Tx K mg) : List Int × Nat × Bool → Out := fun a => .ok (dv K (.list ((ptsL a.1 a.2.1 a.2.2).map pD)))
theorem mul_c {a b : Int} (h : -2 ^ 64 < b ∧ b < 2 ^ 64) : CMul a b := .inr h
theorem ok__law_drawn [LT] {P : Program} {w : World} {K : PySem.W.Frag} {mg : Str → Option Value} {base : Heap} (T : Tx K mg) : FnOk P w K mg base (L2N.CX P w) 2 T.a__law_drawn T.fd__law_drawn ["cells", "many", "wide"] (Prm K T.M (args__law_drawn T) dom__law_drawn (out__law_drawn T)) := by
  refine T.F__law_drawn.okXN sc__law_drawn (fun vs H Q E h => by obtain ⟨a, F, _, al, _⟩ := h; exact al.length) (fun cdv A outer s H vs Q E hr h => ?_)
  have tk : L2N.Takes (cxOf (L2N.CX P w) P w K mg base N__law_drawn "_law_drawn" (defScope s__law_drawn) T.a__law_drawn cdv A outer s H E) (fun cls d _ H => E cls d H) := L2N.takes_of rfl rfl rfl rfl
  obtain ⟨a, F, fh, al, hd, th⟩ := h
  refine ⟨_, (pss_cons (ps_set (i := 3) sc__law_drawn.nd rfl (by first | exact Or.inl rfl | exact Or.inr rfl) (pe_tup (pa_cons pe_int (pa_cons pe_int (pa_cons pe_int (pa_cons pe_int (pa_cons pe_int (pa_cons pe_int (pa_cons pe_int (pa_cons pe_int (pa_cons pe_int (pa_cons pe_int pa_nil))))))))))))
      (pss_cons (ps_set (i := 4) sc__law_drawn.nd rfl (by first | exact Or.inl rfl | exact Or.inr rfl) (pe_tup (pa_cons pe_int (pa_cons pe_int (pa_cons pe_int (pa_cons pe_int (pa_cons pe_int (pa_cons pe_int (pa_cons pe_int (pa_cons pe_int (pa_cons pe_int (pa_cons pe_int pa_nil))))))))))))
      (pss_cons (ps_set (i := 5) sc__law_drawn.nd rfl (by first | exact Or.inl rfl | exact Or.inr rfl) (pe_lst pa_nil))
      (pss_cons (ps_for (passes_of rfl) rfl (pi_range1 (by rfl) T.z_range (pa_cons (pv 1) pa_nil)) (pg_name (i := 6) sc__law_drawn.nd rfl (by first | exact Or.inl rfl | exact Or.inr rfl)) (pss_cons (ps_set (i := 7) sc__law_drawn.nd rfl (by first | exact Or.inl rfl | exact Or.inr rfl) (pe_callS (ok__law_cell T) (hr.mono (by decide)) (by rfl) T.g__law_cell T.F__law_cell.kp (b__law_cell T) (fun σ => L2N.passAt tk σ) (pa_cons (pv 0) (pa_cons (pe_op op_add pe_int (pv 6)) pa_nil))))
      (pss_cons (ps_set (i := 8) sc__law_drawn.nd rfl (by first | exact Or.inl rfl | exact Or.inr rfl) (pe_op op_add (pe_op op_sub (pe_ix ix_tup (pv 3) (pv 6) (fun _ _ => rfl)) pe_int) (pe_op op_mod (pe_callTy call_int1 (by rfl) T.z_int PyProof.Rows.boot_int (pa_cons (pv 7) pa_nil)) pe_int)))
      (pss_cons (ps_set (i := 9) sc__law_drawn.nd rfl (by first | exact Or.inl rfl | exact Or.inr rfl) (pe_op op_add (pe_op op_sub (pe_ix ix_tup (pv 4) (pv 6) (fun _ _ => rfl)) pe_int) (pe_op op_mod (pe_callTy call_int1 (by rfl) T.z_int PyProof.Rows.boot_int (pa_cons (pe_op op_fdiv (pv 7) pe_int) pa_nil)) pe_int)))
      (pss_cons (ps_if (pt_val (pv 2)) (pss_cons (ps_set (i := 8) sc__law_drawn.nd rfl (by first | exact Or.inl rfl | exact Or.inr rfl) (pe_op op_sub (pe_op op_mod (pe_callTy call_int1 (by rfl) T.z_int PyProof.Rows.boot_int (pa_cons (pe_op op_add (pv 7) (pe_op op_mul (pe_ix ix_tup (pv 3) (pv 6) (fun _ _ => rfl)) pe_int)) pa_nil)) pe_int) pe_int))
      (pss_one (ps_set (i := 9) sc__law_drawn.nd rfl (by first | exact Or.inl rfl | exact Or.inr rfl) (pe_op op_sub (pe_op op_mod (pe_callTy call_int1 (by rfl) T.z_int PyProof.Rows.boot_int (pa_cons (pe_op op_add (pe_op op_fdiv (pv 7) pe_int) (pe_op op_mul (pe_ix ix_tup (pv 4) (pv 6) (fun _ _ => rfl)) pe_int)) pa_nil)) pe_int) pe_int)))) pss_nil)
      (pss_one (ps_expr (pe_bm PySem.F.plainAttrs_list PySem.F.slot_list_append PySem.F.type_list_append mt_append (pv 5) (pa_cons (pe_tup (pa_cons (pv 8) (pa_cons (pv 9) pa_nil))) pa_nil)))))))))
      (pss_one (ps_ret (pv 5))))))), ?_⟩
  obtain ⟨ns, n, w⟩ := a
  have hn : n ≤ 10 := hd
  let W0 : WX := fun cls d _ H => E cls d H
  refine fin_ok (r := .rt (dv K (.list ((ptsL ns n w).map pD)))) (js_seq (js_set (i := 3) (P := dv K (tupI acr)) (je_tup (ds := acr.map .int) (ja_cons je_int (ja_cons je_int (ja_cons je_int (ja_cons je_int (ja_cons je_int (ja_cons je_int (ja_cons je_int (ja_cons je_int (ja_cons je_int (ja_cons je_int ja_nil)))))))))) (by decide))) (js_seq (js_set (i := 4) (P := dv K (tupI upr)) (je_tup (ds := upr.map .int) (ja_cons je_int (ja_cons je_int (ja_cons je_int (ja_cons je_int (ja_cons je_int (ja_cons je_int (ja_cons je_int (ja_cons je_int (ja_cons je_int (ja_cons je_int ja_nil)))))))))) (by decide))) (jl_new fun D F1 H1 hD => ?_))) (by exact rfl) fh al th
  let psX : Kn := [some (dv K (.list (intsD ns))), some (dv K (.int n)), some (dv K (.bool w)), some (dv K (tupI acr)), some (dv K (tupI upr)), some (xv (.ref D)), none, none, none, none]
  refine jl_seq (qs := psX) (es := (ptsL ns n w).map pD) (jl_is (jl_for (vs := [6]) ((rg 0 n).map .int) (fun _ => psX) (fun j => (ptsL ns j w).map pD) (ji_is (ji_rng1 (n := n) (ja_cons (je_var (i := 1) rfl) ja_nil) ⟨by omega, by omega⟩) (by rw [Int.toNat_natCast])) rfl rfl fun j d hj => ?_) (by rw [List.length_map, rg_length])) (jl_ret rfl hD)
  obtain ⟨hj1, rfl⟩ := rg_int hj
  refine ⟨_, jg_name, ?_⟩
  have ha : JD K T.M W0 (tOp (rIxT K) (tVar 3) (tVar 6)) [some (dv K (.list (intsD ns))), some (dv K (.int n)), some (dv K (.bool w)), some (dv K (tupI acr)), some (dv K (tupI upr)), some (xv (.ref D)), some (dv K (.int j)), some (dv K (.int (cell ns (1 + j)))), none, none] (.int (atN acr j)) := je_ixT (ds := acr.map .int) (je_var (i := 3) rfl) (je_var (i := 6) rfl) (at_N (by show j < 10; omega))
  have hu : ∀ x y : Option PV, JD K T.M W0 (tOp (rIxT K) (tVar 4) (tVar 6)) [some (dv K (.list (intsD ns))), some (dv K (.int n)), some (dv K (.bool w)), some (dv K (tupI acr)), some (dv K (tupI upr)), some (xv (.ref D)), some (dv K (.int j)), some (dv K (.int (cell ns (1 + j)))), x, y] (.int (atN upr j)) := fun x y => je_ixT (ds := upr.map .int) (je_var (i := 4) rfl) (je_var (i := 6) rfl) (at_N (by show j < 10; omega))
  have ha2 : ∀ x y : Option PV, JD K T.M W0 (tOp (rIxT K) (tVar 3) (tVar 6)) [some (dv K (.list (intsD ns))), some (dv K (.int n)), some (dv K (.bool w)), some (dv K (tupI acr)), some (dv K (tupI upr)), some (xv (.ref D)), some (dv K (.int j)), some (dv K (.int (cell ns (1 + j)))), x, y] (.int (atN acr j)) := fun x y => je_ixT (ds := acr.map .int) (je_var (i := 3) rfl) (je_var (i := 6) rfl) (at_N (by show j < 10; omega))
  refine jl_seq (jl_js (js_set (P := dv K (.int (cell ns (1 + j)))) (je_call (args := args__law_cell T) (dom := dom__law_cell) (out := out__law_cell T) (ns, 1 + j) (ja_cons (je_var (i := 0) rfl) (ja_cons (je_is (je_add je_int (je_var (i := 6) rfl)) (show PyData.int _ = PyData.int _ by push_cast; rfl)) ja_nil)) trivial)))
    (jl_seq (jl_js (js_set (i := 8) (je_add (je_sub ha je_int) (je_mod (je_intI (je_var (i := 7) rfl)) je_int (by decide)))))
    (jl_seq (jl_js (js_set (i := 9) (je_add (je_sub (hu _ _) je_int) (je_mod (je_intI (je_div (je_var (i := 7) rfl) je_int ⟨by decide, by decide⟩)) je_int (by decide)))))
    (jl_seq (qs := [some (dv K (.list (intsD ns))), some (dv K (.int n)), some (dv K (.bool w)), some (dv K (tupI acr)), some (dv K (tupI upr)), some (xv (.ref D)), some (dv K (.int j)), some (dv K (.int (cell ns (1 + j)))), some (dv K (.int (px ns w j))), some (dv K (.int (py ns w j)))]) (jl_js (js_if (b := w) (jt_B (je_var (i := 2) rfl)) (fun h => ?_) (fun h => ?_)))
    (jl_weak (jl_is (jl_app rfl hD (ja_cons (je_tup (ds := [.int (px ns w j), .int (py ns w j)]) (ja_cons (je_var (i := 8) rfl) (ja_cons (je_var (i := 9) rfl) ja_nil))) ja_nil) ?_) (ptsL_succ ns j w).symm) ⟨.inr rfl, .inr rfl, .inr rfl, .inr rfl, .inr rfl, .inr rfl, .inl rfl, .inl rfl, .inl rfl, .inl rfl, trivial⟩))))
  · subst h
    exact js_seq (js_set (i := 8) (P := dv K (.int (px ns true j))) (je_sub (je_mod (je_intI (je_add (je_var (i := 7) rfl) (je_mul (ha2 _ _) je_int (mul_c (by decide))))) je_int (by decide)) je_int)) (js_set (i := 9) (P := dv K (.int (py ns true j))) (je_sub (je_mod (je_intI (je_add (je_div (je_var (i := 7) rfl) je_int ⟨by decide, by decide⟩) (je_mul (hu _ _) je_int (mul_c (by decide))))) je_int (by decide)) je_int))
  · subst h
    exact js_next
  · rw [List.length_map]
    unfold ptsL
    rw [List.length_map, List.length_range]
    omega
end K07
namespace K07
open PySem PySem.Spec PyProof.Rows L2 Evl EB PySem.W
/-! ### _law_left_due -/
def noO (n : Nat) (i : Int) : Option Er := if isNo i n then none else some ⟨.NoPoint, .int i⟩
theorem bad2 (n : Nat) (u v : Int) : badNos n [u, v] = ((noO n u).or (noO n v)).or (if u = v then some ⟨.Repeated, .int v⟩ else none) := by
  unfold badNos
  show [0, 1].findSome? _ = _
  simp only [List.findSome?_cons, List.findSome?_nil]
  unfold badNo noO
  by_cases h3 : u = v
  · subst h3
    cases h1 : isNo u n <;> simp [h1]
  · have h4 : ¬ v = u := fun z => h3 z.symm
    cases h1 : isNo u n <;> cases h2 : isNo v n <;> simp [h1, h2, h3, h4]
def leftT (pts : List (Int × Int)) (u v : Int) : PyData := .tuple [.str "list", .str "", .tuple ((leftN pts u v).map nI), .bool true]
def args__law_left_due {K : PySem.W.Frag} {mg : Str → Option Value} (T : Tx K mg) : List (Int × Int) × Int × Int → List PV := fun a => [dv K (.list (a.1.map pD)), dv K (.int a.2.1), dv K (.int a.2.2)]
def dom__law_left_due : List (Int × Int) × Int × Int → Prop := fun a => a.1.length ≤ 10 ∧ ∀ p ∈ a.1, near p
def out__law_left_due {K : PySem.W.Frag} {mg : Str → Option Value} (T : Tx K mg) : List (Int × Int) × Int × Int → Out := fun a => .ok (dv K (orE (badNos a.1.length [a.2.1, a.2.2]) (leftT a.1 a.2.1 a.2.2)))
theorem ok__law_left_due [LT] {P : Program} {w : World} {K : PySem.W.Frag} {mg : Str → Option Value} {base : Heap} (T : Tx K mg) : FnOk P w K mg base (L2N.CX P w) 2 T.a__law_left_due T.fd__law_left_due ["points", "one", "two"] (Prm K T.M (args__law_left_due T) dom__law_left_due (out__law_left_due T)) := by
  refine T.F__law_left_due.okXN sc__law_left_due (fun vs H Q E h => by obtain ⟨a, F, _, al, _⟩ := h; exact al.length) (fun cdv A outer s H vs Q E hr h => ?_)
  have tk : L2N.Takes (cxOf (L2N.CX P w) P w K mg base N__law_left_due "_law_left_due" (defScope s__law_left_due) T.a__law_left_due cdv A outer s H E) (fun cls d _ H => E cls d H) := L2N.takes_of rfl rfl rfl rfl
  obtain ⟨a, F, fh, al, hd, th⟩ := h
  refine ⟨_, (pss_cons (ps_for (passes_of rfl) rfl (pi_tup (pe_tup (pa_cons (pv 1) (pa_cons (pv 2) pa_nil)))) (pg_name (i := 3) sc__law_left_due.nd rfl (by first | exact Or.inl rfl | exact Or.inr rfl)) (pss_one (ps_if (PW.pt (pw_or (pt_cmpR op_lt (pv 3) pe_int (nomark _)) (pw_or1 (pt_cmpR op_ge (pv 3) (pe_callB call_len_seq (by rfl) T.z_len PySem.boot_len (pa_cons (pv 0) pa_nil)) (nomark _))))) (pss_one (ps_ret (pe_tup (pa_cons pe_str (pa_cons pe_str (pa_cons (pv 3) (pa_cons pe_bl pa_nil))))))) pss_nil)))
      (pss_cons (ps_if (pt_cmpR op_eq (pv 1) (pv 2) (nomark _)) (pss_one (ps_ret (pe_tup (pa_cons pe_str (pa_cons pe_str (pa_cons (pv 2) (pa_cons pe_bl pa_nil))))))) pss_nil)
      (pss_cons (ps_set (i := 4) sc__law_left_due.nd rfl (by first | exact Or.inl rfl | exact Or.inr rfl) (pe_ix ix_list (pv 0) (pv 1) (fun _ _ => rfl)))
      (pss_cons (ps_set (i := 5) sc__law_left_due.nd rfl (by first | exact Or.inl rfl | exact Or.inr rfl) (pe_ix ix_list (pv 0) (pv 2) (fun _ _ => rfl)))
      (pss_cons (ps_setLc (i := 6) (own := [("k", 7), ("r", 8)]) (g := (gTup K 2 (gCons (gName 7) (gCons (gName 8) gNil)))) (tt := (tTest (tOp (rI0 fun i j => .bl (decide (j < i))) (tCallS (Prm K T.M (args__law_area T) dom__law_area (out__law_area T)) (WE fun _ _ _ _ => False) (tCons (tVar 4) (tCons (tVar 5) (tCons (tVar 8) tNil)))) (tC (.int 0))))) (te := (tVar 7)) rfl sc__law_left_due.nd rfl rfl (sw_true rfl rfl rfl (by decide +kernel)) (pi_enum (by rfl) T.z_enumerate (pa_cons (pv 0) pa_nil)) (blkOk_by (N := N__law_left_due) (sc := defScope s__law_left_due) (own := [("k", 7), ("r", 8)]) (by decide +kernel)) (fun _ _ _ _ _ => (pg_tup rfl (pgs_cons (pg_name (i := 7) sc__law_left_due.nd rfl (by first | exact Or.inl rfl | exact Or.inr rfl)) (pgs_cons (pg_name (i := 8) sc__law_left_due.nd rfl (by first | exact Or.inl rfl | exact Or.inr rfl)) pgs_nil)))) (fun _ _ _ _ _ => by exact pts_one (pt_cmpR op_gt (pe_callS (ok__law_area T) (hr.mono (by decide)) (by rfl) T.g__law_area T.F__law_area.kp (b__law_area T) (fun σ => L2N.passAt takes0N σ) (pa_cons (pv 4) (pa_cons (pv 5) (pa_cons (pv 8) pa_nil)))) pe_int (nomark _))) (fun _ _ _ _ _ => by exact (pv 7)))
      (pss_one (ps_ret (pe_tup (pa_cons pe_str (pa_cons pe_str (pa_cons (pe_callTy call_tuple_of (by rfl) T.z_tuple PyProof.Rows.boot_tuple (pa_cons (pv 6) pa_nil)) (pa_cons pe_bl pa_nil)))))))))))), ?_⟩
  obtain ⟨pts, u, v⟩ := a
  obtain ⟨hl, hnear⟩ := hd
  simp only at hl hnear
  let W0 : WX := fun cls d _ H => E cls d H
  let ps0 : Kn := [some (dv K (.list (pts.map pD))), some (dv K (.int u)), some (dv K (.int v)), none, none, none, none, none, none]
  have lp : JS K T.M W0 (tFor (iTup K (tTup (tCons (tVar 1) (tCons (tVar 2) tNil)))) (gName 3) (tIfS (tOr (tTest (tOp (rI0 fun i j => .bl (decide (i < j))) (tVar 3) (tC (.int 0)))) (tTest (tOp (rI0 fun i j => .bl (decide (j ≤ i))) (tVar 3) (tCB (rLenS K) (tCons (tVar 0) tNil))))) (tRet (tTup (tCons (tC (.str "raised")) (tCons (tC (.str "NoPoint")) (tCons (tVar 3) (tCons (tC (.bl true)) tNil)))))) tNext)) ps0 (ends ps0 ([0, 1].findSome? fun k => (([u, v][k]?).bind (noO pts.length)).map fun e => Out.ok (dv K (raisedD e)))) := by
    refine js_search (vs := [3]) (ds := [.int u, .int v]) (fun k => (([u, v][k]?).bind (noO pts.length)).map fun e => Out.ok (dv K (raisedD e))) (ji_tup (je_tup (ds := [.int u, .int v]) (ja_cons (je_var (i := 1) rfl) (ja_cons (je_var (i := 2) rfl) ja_nil)))) fun i d hi => ?_
    obtain ⟨x, hx, rfl⟩ : ∃ x, [u, v][i]? = some x ∧ d = .int x := by
      match i, hi with
      | 0, hi => exact ⟨u, rfl, by cases hi; rfl⟩
      | 1, hi => exact ⟨v, rfl, by cases hi; rfl⟩
    refine ⟨_, jg_name, .inl ?_⟩
    have hn : JT K T.M W0 _ (ps0.set 3 (some (dv K (.int x)))) (!isNo x pts.length) := jt_is (jt_or (jt_test (je_lt (je_var (i := 3) rfl) je_int)) (fun _ => jt_test (je_ge (je_var (i := 3) rfl) (je_lenL (je_var (i := 0) rfl))))) (by rw [List.length_map]; exact isNo_not _ _)
    rw [hx]
    show JS K T.M W0 _ _ (ends _ (((noO pts.length x)).map fun e => Out.ok (dv K (raisedD e))))
    unfold noO
    cases h1 : isNo x pts.length with
    | false =>
      rw [h1] at hn
      exact js_if hn (fun _ => js_ret (je_tup (ds := [.str "raised", .str "NoPoint", .int x, .bool true]) (ja_cons je_str (ja_cons je_str (ja_cons (je_var (i := 3) rfl) (ja_cons je_bl ja_nil)))))) (fun q => Bool.noConfusion q)
    | true =>
      rw [h1] at hn
      exact js_if hn (fun q => Bool.noConfusion q) (fun _ => js_weak js_next ⟨.inr rfl, .inr rfl, .inr rfl, .inl rfl, .inr rfl, .inr rfl, .inr rfl, .inr rfl, .inr rfl, trivial⟩)
  have ho : out__law_left_due T (pts, u, v) = .ok (dv K (orE (badNos pts.length [u, v]) (leftT pts u v))) := rfl
  have el : ([0, 1].findSome? fun k => (([u, v][k]?).bind (noO pts.length)).map fun e => Out.ok (dv K (raisedD e))) = ((noO pts.length u).or (noO pts.length v)).map fun e => Out.ok (dv K (raisedD e)) := by
    cases h1 : noO pts.length u <;> cases h2 : noO pts.length v <;> simp [h1, h2]
  rw [el] at lp
  rw [ho, bad2] at th
  cases hb : (noO pts.length u).or (noO pts.length v) with
  | some e =>
    rw [hb] at lp th
    exact fin_ok (r := .rt (dv K (raisedD e))) (js_rt lp) (by exact rfl) fh al th
  | none =>
    rw [hb] at lp th
    have tq : JT K T.M W0 (tTest (tOp rEq (tVar 1) (tVar 2))) ps0 (decide (u = v)) := jt_test (je_eqI (je_var (i := 1) rfl) (je_var (i := 2) rfl))
    by_cases h3 : u = v
    · rw [if_pos h3] at th
      rw [decide_eq_true h3] at tq
      exact fin_ok (r := .rt (dv K (raisedD ⟨.Repeated, .int v⟩))) (js_seq lp (js_rt (js_if tq (fun _ => js_ret (je_tup (ds := [.str "raised", .str "Repeated", .int v, .bool true]) (ja_cons je_str (ja_cons je_str (ja_cons (je_var (i := 2) rfl) (ja_cons je_bl ja_nil)))))) (fun q => Bool.noConfusion q)))) (by exact rfl) fh al th
    · rw [if_neg h3] at th
      rw [decide_eq_false h3] at tq
      have hu : isNo u pts.length = true := by
        cases h1 : isNo u pts.length with
        | true => rfl
        | false => rw [noO, h1] at hb; cases hb
      have hv : isNo v pts.length = true := by
        cases h1 : isNo v pts.length with
        | true => rfl
        | false =>
          unfold noO at hb
          rw [h1, hu] at hb
          cases hb
      refine fin_ok (r := .rt (dv K (leftT pts u v))) (js_seq lp (js_seq (qs := ps0) (js_if tq (fun q => Bool.noConfusion q) (fun _ => js_next)) (js_seq (js_set (i := 4) (je_ixL (je_var (i := 0) rfl) (je_var (i := 1) rfl) (at_pt hu))) (js_seq (js_set (i := 5) (je_ixL (je_var (i := 0) rfl) (je_var (i := 2) rfl) (at_pt hv)))
        (js_seq (js_set (i := 6) (je_lc (W' := fun _ _ _ _ => False) (List.range pts.length) (fun c : Nat => .tuple [.int (c : Int), pD (pt pts c)]) (fun c => decide (0 < area (pt pts u) (pt pts v) (pt pts c))) (fun c : Nat => .int (c : Int)) (ji_is (ji_enum (je_var (i := 0) rfl)) (nb_pts pts)) (by rw [List.length_range]; omega)
          fun c hc => ⟨_, jg_tup (ds := [.int (c : Int), pD (pt pts c)]) (jgs_cons jg_name (jgs_cons jg_name jgs_nil)), jt_test (je_gt (je_call (args := args__law_area T) (dom := dom__law_area) (out := out__law_area T) (pt pts u, pt pts v, pt pts c) (ja_cons (je_var (i := 4) rfl) (ja_cons (je_var (i := 5) rfl) (ja_cons (je_var (i := 8) rfl) ja_nil))) ⟨near_pt hnear _, near_pt hnear _, near_pt hnear _⟩) je_int), fun _ => je_var (i := 7) rfl⟩))
        (js_ret (je_tup (ds := [.str "list", .str "", .tuple ((leftN pts u v).map nI), .bool true]) (ja_cons je_str (ja_cons je_str (ja_cons (je_tupL (je_var (i := 6) rfl)) (ja_cons je_bl ja_nil))))))))))) (by exact rfl) fh al th
end K07
namespace K07
open PySem PySem.Spec PyProof.Rows L2 Evl EB PySem.W
/-! ### _law_between -/
def btw (p u v w : Int × Int) : Bool := if 0 < area p u v then decide (0 < area p u w) && decide (0 < area p w v) else !(decide (0 < area p v w) && decide (0 < area p w u))
def args__law_between {K : PySem.W.Frag} {mg : Str → Option Value} (T : Tx K mg) : (Int × Int) × (Int × Int) × (Int × Int) × (Int × Int) → List PV := fun a => [dv K (pD a.1), dv K (pD a.2.1), dv K (pD a.2.2.1), dv K (pD a.2.2.2)]
def dom__law_between : (Int × Int) × (Int × Int) × (Int × Int) × (Int × Int) → Prop := fun a => near a.1 ∧ near a.2.1 ∧ near a.2.2.1 ∧ near a.2.2.2
def out__law_between {K : PySem.W.Frag} {mg : Str → Option Value} (T : Tx K mg) : (Int × Int) × (Int × Int) × (Int × Int) × (Int × Int) → Out := fun a => .ok (dv K (.bool (btw a.1 a.2.1 a.2.2.1 a.2.2.2)))
theorem ok__law_between [LT] {P : Program} {w : World} {K : PySem.W.Frag} {mg : Str → Option Value} {base : Heap} (T : Tx K mg) : FnOk P w K mg base (L2N.CX P w) 2 T.a__law_between T.fd__law_between ["p", "u", "v", "w"] (Prm K T.M (args__law_between T) dom__law_between (out__law_between T)) := by
  refine T.F__law_between.okXN sc__law_between (fun vs H Q E h => by obtain ⟨a, F, _, al, _⟩ := h; exact al.length) (fun cdv A outer s H vs Q E hr h => ?_)
  have tk : L2N.Takes (cxOf (L2N.CX P w) P w K mg base N__law_between "_law_between" (defScope s__law_between) T.a__law_between cdv A outer s H E) (fun cls d _ H => E cls d H) := L2N.takes_of rfl rfl rfl rfl
  obtain ⟨a, F, fh, al, hd, th⟩ := h
  refine ⟨_, (pss_cons (ps_if (pt_cmpR op_gt (pe_callS (ok__law_area T) (hr.mono (by decide)) (by rfl) T.g__law_area T.F__law_area.kp (b__law_area T) (fun σ => L2N.passAt tk σ) (pa_cons (pv 0) (pa_cons (pv 1) (pa_cons (pv 2) pa_nil)))) pe_int (nomark _)) (pss_one (ps_ret (pe_and (pe_cmpR op_gt (pe_callS (ok__law_area T) (hr.mono (by decide)) (by rfl) T.g__law_area T.F__law_area.kp (b__law_area T) (fun σ => L2N.passAt tk σ) (pa_cons (pv 0) (pa_cons (pv 1) (pa_cons (pv 3) pa_nil)))) pe_int (nomark _)) (pe_one (pe_cmpR op_gt (pe_callS (ok__law_area T) (hr.mono (by decide)) (by rfl) T.g__law_area T.F__law_area.kp (b__law_area T) (fun σ => L2N.passAt tk σ) (pa_cons (pv 0) (pa_cons (pv 3) (pa_cons (pv 2) pa_nil)))) pe_int (nomark _)))))) pss_nil)
      (pss_one (ps_ret (pe_not (pe_and (pe_cmpR op_gt (pe_callS (ok__law_area T) (hr.mono (by decide)) (by rfl) T.g__law_area T.F__law_area.kp (b__law_area T) (fun σ => L2N.passAt tk σ) (pa_cons (pv 0) (pa_cons (pv 2) (pa_cons (pv 3) pa_nil)))) pe_int (nomark _)) (pe_one (pe_cmpR op_gt (pe_callS (ok__law_area T) (hr.mono (by decide)) (by rfl) T.g__law_area T.F__law_area.kp (b__law_area T) (fun σ => L2N.passAt tk σ) (pa_cons (pv 0) (pa_cons (pv 3) (pa_cons (pv 1) pa_nil)))) pe_int (nomark _)))))))), ?_⟩
  obtain ⟨p, u, v, z⟩ := a
  obtain ⟨np, nu, nv, nz⟩ := hd
  simp only at np nu nv nz
  let W0 : WX := fun cls d _ H => E cls d H
  let ps0 : Kn := [some (dv K (pD p)), some (dv K (pD u)), some (dv K (pD v)), some (dv K (pD z))]
  have ar : ∀ (i j : Nat) (q r : Int × Int), ps0[i]? = some (some (dv K (pD q))) → ps0[j]? = some (some (dv K (pD r))) → near q → near r → JD K T.M W0 (tOp (rI0 fun i j => .bl (decide (j < i))) (tCallS (Prm K T.M (args__law_area T) dom__law_area (out__law_area T)) (WE W0) (tCons (tVar 0) (tCons (tVar i) (tCons (tVar j) tNil)))) (tC (.int 0))) ps0 (.bool (decide (0 < area p q r))) := fun i j q r hi hj hq hr => je_gt (je_call (args := args__law_area T) (dom := dom__law_area) (out := out__law_area T) (p, q, r) (ja_cons (je_var (i := 0) rfl) (ja_cons (je_var hi) (ja_cons (je_var hj) ja_nil))) ⟨np, hq, hr⟩) je_int
  have t0 := jt_test (ar 1 2 u v rfl rfl nu nv)
  by_cases h : 0 < area p u v
  · rw [decide_eq_true h] at t0
    exact fin_ok (r := .rt (dv K (.bool (btw p u v z)))) (js_rt (js_if t0 (fun _ => js_ret (je_is (je_andV (ar 1 3 u z rfl rfl nu nz) (fun _ => ar 3 2 z v rfl rfl nz nv)) (by unfold btw; rw [if_pos h]))) (fun q => Bool.noConfusion q))) (by exact rfl) fh al th
  · rw [decide_eq_false h] at t0
    exact fin_ok (r := .rt (dv K (.bool (btw p u v z)))) (js_seq (qs := ps0) (js_if t0 (fun q => Bool.noConfusion q) (fun _ => js_next)) (js_ret (je_is (je_notV (je_andV (ar 2 3 v z rfl rfl nv nz) (fun _ => ar 3 1 z u rfl rfl nz nu))) (by unfold btw; rw [if_neg h])))) (by exact rfl) fh al th
end K07
namespace K07
open PySem PySem.Spec PyProof.Rows L2 Evl EB PySem.W
/-! ### left_of, round_point: new lists, or errors -/
/-- a new list, or an error -/
def PrmNE [LT] (K : PySem.W.Frag) (M : EC → Addr) {α : Type} (args : α → List PV) (dom : α → Prop) (out : α → Except Er (List PyData)) : Sp := fun vs H Q E => ∃ a F, Fx F H ∧ AllP F vs (args a) ∧ dom a ∧ (match out a with
  | .ok ds => ∀ D F' H', Acc K D F H F' H' ds → H D = none → Q (.ref D) H'
  | .error e => ∀ dd F' H', Gr F H F' H' → XD K H F' H' e dd → E (.ref (M e.c)) dd H')
theorem jn_callE [LT] {K : PySem.W.Frag} {M : EC → Addr} {W : WX} {ps : Kn} {tr : TA} {α : Type} {args : α → List PV} {dom : α → Prop} {out : α → Except Er (List PyData)} {E : L2.St → XK} (a : α) {ds : List PyData} (h : JA K M W tr ps (args a)) (hd : dom a) (ho : out a = .ok ds) : JN K (tCallS (PrmNE K M args dom out) E tr) ps ds := fun σ F H Q fh S k =>
  h σ F H _ fh S fun vs F1 H1 e1 b => ⟨a, F1, e1.fh, b, hd, by rw [ho]; exact fun D F' H' A hD => k D F' H' (A.pre e1) (Xh.nn e1.hh _ hD)⟩
theorem je_callE [LT] {K : PySem.W.Frag} {M : EC → Addr} {W : WX} {ps : Kn} {tr : TA} {α : Type} {args : α → List PV} {dom : α → Prop} {out : α → Except Er (List PyData)} (a : α) {e : Er} (h : JA K M W tr ps (args a)) (hd : dom a) (ho : out a = .error e) : JE K M W (tCallS (PrmNE K M args dom out) (WE W) tr) ps (.er e) := fun σ F H Q fh S k =>
  h σ F H _ fh S fun vs F1 H1 e1 b => ⟨a, F1, e1.fh, b, hd, by rw [ho]; exact Then.step (o := .er e) e1 k⟩
theorem jn_methE [LT] {K : PySem.W.Frag} {M : EC → Addr} {W : WX} {ps : Kn} {te : TE} {tr : TA} {α : Type} {args : α → List PV} {dom : α → Prop} {out : α → Except Er (List PyData)} {C : Addr} {m f : Str} {d : PyData} {E : L2.St → XK} (a : α) {ds : List PyData} (hs : JV K M W te ps (ob1 K C f d)) (hm : ¬ m = f) (Ps : List PV) (h : JA K M W tr ps Ps) (ea : args a = ob1 K C f d :: Ps) (hd : dom a) (ho : out a = .ok ds) :
    JN K (tMethW C m (PrmNE K M args dom out) E te tr) ps ds := fun σ F H Q fh S k => hs.go fh S fun v F1 H1 e1 p => by
  obtain ⟨b, dx, u, rfl, hb, hdp⟩ := id p
  refine ⟨b, dx, [(f, u)], rfl, e1.fh _ _ hb, ?_, h σ F1 H1 _ e1.fh (S.mono e1.ff) fun vs F2 H2 e2 al => ⟨a, F2, e2.fh, ?_, hd, by rw [ho]; exact fun D F' H' A hD => k D F' H' (A.pre (e1.trans e2)) (Xh.nn (e1.trans e2).hh _ hD)⟩⟩
  · have : (m == f) = false := by simpa using hm
    simp [List.lookup, this]
  · rw [ea, List.append_nil]
    exact .cons (PV.mn _ e2.ff p) al
theorem je_methE [LT] {K : PySem.W.Frag} {M : EC → Addr} {W : WX} {ps : Kn} {te : TE} {tr : TA} {α : Type} {args : α → List PV} {dom : α → Prop} {out : α → Except Er (List PyData)} {C : Addr} {m f : Str} {d : PyData} (a : α) {e : Er} (hs : JV K M W te ps (ob1 K C f d)) (hm : ¬ m = f) (Ps : List PV) (h : JA K M W tr ps Ps) (ea : args a = ob1 K C f d :: Ps) (hd : dom a) (ho : out a = .error e) :
    JE K M W (tMethW C m (PrmNE K M args dom out) (WE W) te tr) ps (.er e) := fun σ F H Q fh S k => hs.go fh S fun v F1 H1 e1 p => by
  obtain ⟨b, dx, u, rfl, hb, hdp⟩ := id p
  refine ⟨b, dx, [(f, u)], rfl, e1.fh _ _ hb, ?_, h σ F1 H1 _ e1.fh (S.mono e1.ff) fun vs F2 H2 e2 al => ⟨a, F2, e2.fh, ?_, hd, by rw [ho]; exact Then.step (o := .er e) (e1.trans e2) k⟩⟩
  · have : (m == f) = false := by simpa using hm
    simp [List.lookup, this]
  · rw [ea, List.append_nil]
    exact .cons (PV.mn _ e2.ff p) al
def outF_Floor_left_of : List (Int × Int) × Int × Int → Except Er (List PyData) := fun a => match badNos a.1.length [a.2.1, a.2.2] with
  | some e => .error e
  | none => .ok ((leftN a.1 a.2.1 a.2.2).map nI)
theorem ok_Floor_left_ofF [LT] {P : Program} {w : World} {K : PySem.W.Frag} {mg : Str → Option Value} {base : Heap} (T : Tx K mg) : FnOk P w K mg base (L2N.CX P w) 5 T.a_Floor_left_of T.fd_Floor_left_of ["self", "a", "b"] (PrmNE K T.M (args_Floor_left_of T) dom_Floor_left_of outF_Floor_left_of) := by
  refine T.F_Floor_left_of.okXN sc_Floor_left_of (fun vs H Q E h => by obtain ⟨a, F, _, al, _⟩ := h; exact al.length) (fun cdv A outer s H vs Q E hr h => ?_)
  have tk : L2N.Takes (cxOf (L2N.CX P w) P w K mg base N_Floor_left_of "Floor.left_of" (defScope s_Floor_left_of) T.a_Floor_left_of cdv A outer s H E) (fun cls d _ H => E cls d H) := L2N.takes_of rfl rfl rfl rfl
  obtain ⟨a, F, fh, al, hd, th⟩ := h
  refine ⟨_, (pss_cons (ps_expr (pe_callS (ok_check_numbers T) (hr.mono (by decide)) (by rfl) T.g_check_numbers T.F_check_numbers.kp (b_check_numbers T) (fun σ => L2N.passAt tk σ) (pa_cons (pe_tup (pa_cons (pv 1) (pa_cons (pv 2) pa_nil))) (pa_cons (pe_callB call_len_seq (by rfl) T.z_len PySem.boot_len (pa_cons (pe_fld (pv 0) rfl) pa_nil)) pa_nil))))
      (pss_cons (ps_asg (pe_tup (pa_cons (pe_ix ix_tup (pe_fld (pv 0) rfl) (pv 1) (fun _ _ => rfl)) (pa_cons (pe_ix ix_tup (pe_fld (pv 0) rfl) (pv 2) (fun _ _ => rfl)) pa_nil))) (pg_tup rfl (pgs_cons (pg_name (i := 3) sc_Floor_left_of.nd rfl (by first | exact Or.inl rfl | exact Or.inr rfl)) (pgs_cons (pg_name (i := 4) sc_Floor_left_of.nd rfl (by first | exact Or.inl rfl | exact Or.inr rfl)) pgs_nil))))
      (pss_one (ps_ret (pe_lc (own := [("c", 5), ("point", 6)]) (g := (gTup K 2 (gCons (gName 5) (gCons (gName 6) gNil)))) (tt := (tTest (tOp (rI0 fun i j => .bl (decide (j < i))) (tCallS (Prm K T.M (args_bare_area T) dom_bare_area (out_bare_area T)) (WE fun _ _ _ _ => False) (tCons (tVar 3) (tCons (tVar 4) (tCons (tVar 6) tNil)))) (tC (.int 0))))) (te := (tVar 5)) rfl sc_Floor_left_of.nd (pi_enumT (by rfl) T.z_enumerate (pa_cons (pe_fld (pv 0) rfl) pa_nil)) (blkOk_by (N := N_Floor_left_of) (sc := defScope s_Floor_left_of) (own := [("c", 5), ("point", 6)]) (by decide +kernel)) (fun _ _ _ _ _ => (pg_tup rfl (pgs_cons (pg_name (i := 5) sc_Floor_left_of.nd rfl (by first | exact Or.inl rfl | exact Or.inr rfl)) (pgs_cons (pg_name (i := 6) sc_Floor_left_of.nd rfl (by first | exact Or.inl rfl | exact Or.inr rfl)) pgs_nil)))) (fun _ _ _ _ _ => by exact pts_one (pt_cmpR op_gt (pe_callS (ok_bare_area T) (hr.mono (by decide)) (by rfl) T.g_bare_area T.F_bare_area.kp (b_bare_area T) (fun σ => L2N.passAt takes0N σ) (pa_cons (pv 3) (pa_cons (pv 4) (pa_cons (pv 6) pa_nil)))) pe_int (nomark _))) (fun _ _ _ _ _ => by exact (pv 5))))))), ?_⟩
  obtain ⟨pts, u, v⟩ := a
  obtain ⟨hl, hnear⟩ := hd
  simp only at hl
  let W0 : WX := fun cls d _ H => E cls d H
  have pf : ∀ ps : Kn, ps[0]? = some (some (ob1 K T.a_Floor "points" (.tuple (pts.map pD)))) → JD K T.M W0 (tFld K (tVar 0) "points") ps (.tuple (pts.map pD)) := fun ps h => je_pts T (je_var (i := 0) h)
  have c0 := je_call (K := K) (M := T.M) (W := W0) (ps := entry N_Floor_left_of (args_Floor_left_of T (pts, u, v))) (args := args_check_numbers T) (dom := dom_check_numbers) (out := out_check_numbers T) (false, [u, v], pts.length) (ja_cons (je_tup (ds := [.int u, .int v]) (ja_cons (je_var (i := 1) rfl) (ja_cons (je_var (i := 2) rfl) ja_nil))) (ja_cons (je_many T (je_var (i := 0) rfl)) ja_nil)) (show 2 ≤ 1000 by decide)
  have eo : outF_Floor_left_of (pts, u, v) = match badNos pts.length [u, v] with | some e => .error e | none => .ok ((leftN pts u v).map nI) := rfl
  have ec : out_check_numbers T (false, [u, v], pts.length) = outE K (badNos pts.length [u, v]) := rfl
  cases h : badNos pts.length [u, v] with
  | some e =>
    rw [h] at eo ec
    rw [eo] at th
    rw [ec] at c0
    exact fin_neE (jsn_erS (js_drop c0)) fh al th
  | none =>
    rw [h] at eo ec
    rw [eo] at th
    rw [ec] at c0
    exact fin_neO (jsn_seq (js_drop c0) (jsn_seq (js_asg (vs := [3, 4]) (je_tup (ds := [pD (pt pts u), pD (pt pts v)]) (ja_cons (je_ixT (pf _ rfl) (je_var (i := 1) rfl) (at_pt (no2 h).1)) (ja_cons (je_ixT (pf _ rfl) (je_var (i := 2) rfl) (at_pt (no2 h).2)) ja_nil))) (jg_tup (jgs_cons jg_name (jgs_cons jg_name jgs_nil))))
      (jsn_ret (jn_lc (M := T.M) (W := W0) (W' := fun _ _ _ _ => False) (List.range pts.length) (fun c : Nat => .tuple [.int (c : Int), pD (pt pts c)]) (fun c => decide (0 < area (pt pts u) (pt pts v) (pt pts c))) nI (ji_is (ji_enumT (pf _ rfl)) (nb_pts pts)) (by rw [List.length_range]; omega)
      fun c hc => ⟨_, jg_tup (ds := [.int (c : Int), pD (pt pts c)]) (jgs_cons jg_name (jgs_cons jg_name jgs_nil)), jt_test (je_gt (je_call (args := args_bare_area T) (dom := dom_bare_area) (out := out_bare_area T) (pt pts u, pt pts v, pt pts c) (ja_cons (je_var (i := 3) rfl) (ja_cons (je_var (i := 4) rfl) (ja_cons (je_var (i := 6) rfl) ja_nil))) ⟨near_pt hnear _, near_pt hnear _, near_pt hnear _⟩) je_int), fun _ => je_var (i := 5) rfl⟩)))) fh al th
def outF_round_point : List (Int × Int) × Int → Except Er (List PyData) := fun a => match isNo a.2 a.1.length with
  | true => .ok ((ring a.1 a.2.toNat).map nI)
  | false => .error ⟨.NoPoint, .int a.2⟩
theorem ok_round_pointF {P : Program} {w : World} {K : PySem.W.Frag} {mg : Str → Option Value} {base : Heap} (T : Tx K mg) [LT] (lk : LKs T base) : FnOk P w K mg base (L2N.CX P w) 10 T.a_round_point T.fd_round_point ["floor", "number"] (PrmNE K T.M (args_round_point T) dom_round_point outF_round_point) := by
  refine T.F_round_point.okXN sc_round_point (fun vs H Q E h => by obtain ⟨a, F, _, al, _⟩ := h; exact al.length) (fun cdv A outer s H vs Q E hr h => ?_)
  have tk : L2N.Takes (cxOf (L2N.CX P w) P w K mg base N_round_point "round_point" (defScope s_round_point) T.a_round_point cdv A outer s H E) (fun cls d _ H => E cls d H) := L2N.takes_of rfl rfl rfl rfl
  obtain ⟨a, F, fh, al, hd, th⟩ := h
  refine ⟨_, (pss_cons (ps_set (i := 2) sc_round_point.nd rfl (by first | exact Or.inl rfl | exact Or.inr rfl) (pe_callB (call_lenOwn (ok_Floor___len__ T) (hr.mono (by decide)) T.m_Floor___len__.1 T.m_Floor___len__.2 (b_Floor___len__ T) passF) (by rfl) T.z_len PySem.boot_len (pa_cons (pv 0) pa_nil)))
      (pss_cons (ps_expr (pe_callS (ok_check_number T) (hr.mono (by decide)) (by rfl) T.g_check_number T.F_check_number.kp (b_check_number T) (fun σ => L2N.passAt tk σ) (pa_cons (pv 1) (pa_cons (pv 2) pa_nil))))
      (pss_cons (ps_set (i := 3) sc_round_point.nd rfl (by first | exact Or.inl rfl | exact Or.inr rfl) (pe_ix ix_list (pe_callS (ok_others T) (hr.mono (by decide)) (by rfl) T.g_others T.F_others.kp (b_others T) (fun σ => L2N.passAt tk σ) (pa_cons (pv 2) (pa_cons (pv 1) pa_nil))) pe_int (fun _ _ => rfl)))
      (pss_cons (ps_set (i := 4) sc_round_point.nd rfl (by first | exact Or.inl rfl | exact Or.inr rfl) (pe_methW (pv 0) T.C_Floor T.m_Floor_left_of (ok_Floor_left_of T) (hr.mono (by decide)) (b_Floor_left_of T) (fun σ => L2N.passAt tk σ) (pa_cons (pv 1) (pa_cons (pv 3) pa_nil))))
      (pss_cons (ps_set (i := 5) sc_round_point.nd rfl (by first | exact Or.inl rfl | exact Or.inr rfl) (pe_methW (pv 0) T.C_Floor T.m_Floor_left_of (ok_Floor_left_of T) (hr.mono (by decide)) (b_Floor_left_of T) (fun σ => L2N.passAt tk σ) (pa_cons (pv 3) (pa_cons (pv 1) pa_nil))))
      (pss_one (ps_ret (pe_lst (pa_cons (pv 3) (StX.pa_star (pe_callS (ok_in_order T lk) (hr.mono (by decide)) (by rfl) T.g_in_order T.F_in_order.kp (b_in_order T) (fun σ => L2N.passAt tk σ) (pa_cons (pv 0) (pa_cons (pv 1) (pa_cons (pv 4) pa_nil)))) (StX.pa_star (pe_callS (ok_in_order T lk) (hr.mono (by decide)) (by rfl) T.g_in_order T.F_in_order.kp (b_in_order T) (fun σ => L2N.passAt tk σ) (pa_cons (pv 0) (pa_cons (pv 1) (pa_cons (pv 5) pa_nil)))) pa_nil))))))))))), ?_⟩
  obtain ⟨pts, v⟩ := a
  obtain ⟨h3, hl, hn⟩ := hd
  simp only at h3 hl hn
  let W0 : WX := fun cls d _ H => E cls d H
  let ob : PV := ob1 K T.a_Floor "points" (.tuple (pts.map pD))
  have s1 : JS K T.M W0 _ (entry N_round_point (args_round_point T (pts, v))) (.nx [some ob, some (dv K (.int v)), some (dv K (.int pts.length)), none, none, none]) := js_set (i := 2) (je_lenF T (je_var (i := 0) rfl) (by omega))
  have c1 := je_call (K := K) (M := T.M) (W := W0) (ps := [some ob, some (dv K (.int v)), some (dv K (.int pts.length)), none, none, none]) (args := args_check_number T) (dom := dom_check_number) (out := out_check_number T) (v, pts.length) (ja_cons (je_var (i := 1) rfl) (ja_cons (je_var (i := 2) rfl) ja_nil)) trivial
  have eo : outF_round_point (pts, v) = match isNo v pts.length with | true => .ok ((ring pts v.toNat).map nI) | false => .error ⟨.NoPoint, .int v⟩ := rfl
  cases h1 : isNo v pts.length with
  | false =>
    have e : out_check_number T (v, pts.length) = .er ⟨.NoPoint, .int v⟩ := by
      unfold out_check_number
      dsimp only
      rw [h1]
    rw [e] at c1
    rw [h1] at eo
    rw [eo] at th
    exact fin_neE (jsn_er (js_seq s1 (js_er (js_drop c1)))) fh al th
  | true =>
    have e : out_check_number T (v, pts.length) = .ok (dv K .none) := by
      unfold out_check_number
      dsimp only
      rw [h1]
    rw [e] at c1
    rw [h1] at eo
    rw [eo] at th
    obtain ⟨u, rfl⟩ : ∃ u : Nat, v = u := ⟨v.toNat, by unfold isNo at h1; simp at h1; omega⟩
    have hu : u < pts.length := by unfold isNo at h1; simp at h1; omega
    have hf : fstO u < pts.length ∧ fstO u ≠ u := by unfold fstO; split <;> omega
    let ps1 : Kn := [some ob, some (dv K (.int u)), some (dv K (.int pts.length)), none, none, none]
    have c2 := je_call (K := K) (M := T.M) (W := W0) (ps := ps1) (args := args_others T) (dom := dom_others) (out := out_others T) (pts.length, (u : Int)) (ja_cons (je_var (i := 2) rfl) (ja_cons (je_var (i := 1) rfl) ja_nil)) (show pts.length ≤ 1000 by omega)
    have c3 : JD K T.M W0 _ ps1 (.int ((fstO u : Nat) : Int)) := je_ixL (ds := (oth pts.length u).map .int) c2 (je_int (i := 0)) (atI_nat (j := 0) (by rw [List.getElem?_map, oth_fst (by omega)]; rfl))
    let ps2 : Kn := [some ob, some (dv K (.int u)), some (dv K (.int pts.length)), some (dv K (.int ((fstO u : Nat) : Int))), none, none]
    have l1 := je_left T (W := W0) (ps := ps2) (te := tVar 0) (t1 := tVar 1) (t2 := tVar 3) (pts := pts) (a := (u : Int)) (b := ((fstO u : Nat) : Int)) (je_var (i := 0) rfl) (je_var (i := 1) rfl) (je_var (i := 3) rfl) hl hn (badNos_two ⟨by omega, by omega⟩ ⟨by omega, by omega⟩ (by omega))
    let ps3 : Kn := [some ob, some (dv K (.int u)), some (dv K (.int pts.length)), some (dv K (.int ((fstO u : Nat) : Int))), some (dv K (leftD pts u (fstO u : Nat))), none]
    have l2 := je_left T (W := W0) (ps := ps3) (te := tVar 0) (t1 := tVar 3) (t2 := tVar 1) (pts := pts) (a := ((fstO u : Nat) : Int)) (b := (u : Int)) (je_var (i := 0) rfl) (je_var (i := 3) rfl) (je_var (i := 1) rfl) hl hn (badNos_two ⟨by omega, by omega⟩ ⟨by omega, by omega⟩ (by omega))
    let ps4 : Kn := [some ob, some (dv K (.int u)), some (dv K (.int pts.length)), some (dv K (.int ((fstO u : Nat) : Int))), some (dv K (leftD pts u (fstO u : Nat))), some (dv K (leftD pts (fstO u : Nat) u))]
    have o1 := je_call (K := K) (M := T.M) (W := W0) (ps := ps4) (args := args_in_order T) (dom := dom_in_order) (out := out_in_order T) (pts, u, leftN pts u (fstO u : Nat)) (ja_cons (je_var (i := 0) rfl) (ja_cons (je_var (i := 1) rfl) (ja_cons (je_var (i := 4) rfl) ja_nil))) ⟨hl, hn, hu, by have := leftN_len pts u (fstO u : Nat); show (leftN pts u (fstO u : Nat)).length ≤ 10; omega, fun c hc => ⟨(leftN_mem hc).1, (leftN_mem hc).2.1⟩⟩
    have o2 := je_call (K := K) (M := T.M) (W := W0) (ps := ps4) (args := args_in_order T) (dom := dom_in_order) (out := out_in_order T) (pts, u, leftN pts (fstO u : Nat) u) (ja_cons (je_var (i := 0) rfl) (ja_cons (je_var (i := 1) rfl) (ja_cons (je_var (i := 5) rfl) ja_nil))) ⟨hl, hn, hu, by have := leftN_len pts (fstO u : Nat) u; show (leftN pts (fstO u : Nat) u).length ≤ 10; omega, fun c hc => ⟨(leftN_mem hc).1, (leftN_mem hc).2.2⟩⟩
    have ja := ja_cons (K := K) (M := T.M) (W := W0) (ps := ps4) (je_var (i := 3) rfl) (ja_starL o1 (ja_starL o2 ja_nil))
    have e2 : (dv K (.int ((fstO u : Nat) : Int)) :: (((turnS pts u (leftN pts u (fstO u : Nat))).map nI).map (dv K) ++ (((turnS pts u (leftN pts (fstO u : Nat) u)).map nI).map (dv K) ++ []))) = ((ring pts u).map nI).map (dv K) := by
      unfold ring
      simp [nI]
    rw [e2] at ja
    exact fin_neO (jsn_seq s1 (jsn_seq (js_drop c1) (jsn_seq (js_set (i := 3) c3) (jsn_seq (js_set (i := 4) l1) (jsn_seq (js_set (i := 5) l2) (jsn_ret (jn_lst (ds := (ring pts u).map nI) ja (by have a1 := leftN_len pts u (fstO u : Nat); have a2 := leftN_len pts (fstO u : Nat) u; unfold ring; simp only [List.length_map, List.length_cons, List.length_append, turnS_len]; omega)))))))) fh al th
/-! ### _law_told -/
theorem je_notInB [LT] {K : PySem.W.Frag} {M : EC → Addr} {W : WX} {ps : Kn} {ta tb : TE} {b : Bool} {bs : List Bool} (ha : JD K M W ta ps (.bool b)) (hb : JD K M W tb ps (.list (bs.map .bool))) : JD K M W (tOp (rIn K true) ta tb) ps (.bool (!bs.contains b)) := je_op ha hb fun x y F H fh p q Q k => by
  obtain ⟨a, xs, rfl, hs, hd⟩ := dp_lst q
  have e : ∀ {xs : List V} {bs : List Bool}, DpAll K F xs (bs.map PyData.bool) → xs = bs.map V.bl := by
    intro xs bs
    induction bs generalizing xs with
    | nil => intro h; cases h; rfl
    | cons c r ih =>
      intro h
      cases h with
      | cons h1 h2 => rw [dp_bl h1, ih h2] <;> rfl
  have e := e hd
  subst e
  rw [dp_bl p]
  have fl : ∀ bs : List Bool, (bs.map V.bl).all flatV = true := fun bs => by
    induction bs with
    | nil => rfl
    | cons c r ih =>
      rw [List.map_cons, List.all_cons, ih]
      rfl
  have iv : ∀ bs : List Bool, inV (.bl b) (bs.map V.bl) = bs.contains b := fun bs => by
    induction bs with
    | nil => rfl
    | cons c r ih =>
      unfold inV at ih ⊢
      rw [List.map_cons, List.any_cons, List.contains_cons, ih]
      congr 1
      cases b <;> cases c <;> rfl
  refine ⟨a, _, rfl, .inl (ex_l fh.ex hs), rfl, fl bs, ?_⟩
  rw [iv]
  exact k _ F H (Gr.refl fh) (.bl _)
theorem jl_ownTryIf [LT] {K : PySem.W.Frag} {M : EC → Addr} {W : WX} {ps : Kn} {t : WX → TT} {t1 t2 : WX → TE} {tu : TS} {i : Nat} {b : Bool} {Wo : WX} {l : List (Value × Nat × (Addr → Value → Option Addr → TS))} {ds : List PyData} {d : PyData} (ht : ∀ W', JT K M W' (t W') ps b) (h1 : b = true → ∀ W', JN K (t1 W') ps ds) (h2 : b = false → ∀ W', JN K (t2 W') ps ds) (h : ∀ D F1 H1, H1 D = none → JL K M W D F1 H1 tu (ps.set i (some (xv (.ref D)))) ds (.rt d)) : JS K M W (tSeq (fun D σ H => (fun W' => tIfS (t W') (tAsg (t1 W') (gName i)) (tAsg (t2 W') (gName i))) (wClauses K Wo D l) D σ H) tu) ps (.rt (dv K d)) := fun Dn σ F H fh S k =>
  ht _ σ F H _ fh S fun F1 H1 g => by
    have end_ : ∀ te : TE, JN K te ps ds → te σ H1 (fun v H' => tu Dn (σ.set i (some v)) H') := fun te j => j σ F1 H1 _ g.fh (S.mono g.ff) fun D F2 H2 A hD => h D F1 H1 hD Dn _ F2 H2 A (((S.mono g.ff).mono A.gr.ff).set i rfl) fun v F' H' g2 p => k v F' H' (g.trans g2) p
    cases b with
    | true => exact end_ _ (h1 rfl _)
    | false => exact end_ _ (h2 rfl _)
def args__law_whole {K : PySem.W.Frag} {mg : Str → Option Value} (T : Tx K mg) : Int → List PV := fun a => [dv K (.int a)]
def dom__law_whole : Int → Prop := fun _ => True
def out__law_whole {K : PySem.W.Frag} {mg : Str → Option Value} (T : Tx K mg) : Int → Out := fun _ => .ok (dv K (.bool true))
theorem ok__law_whole [LT] {P : Program} {w : World} {K : PySem.W.Frag} {mg : Str → Option Value} {base : Heap} (T : Tx K mg) : FnOk P w K mg base (L2N.CX P w) 1 T.a__law_whole T.fd__law_whole ["thing"] (Prm K T.M (args__law_whole T) dom__law_whole (out__law_whole T)) := by
  refine T.F__law_whole.okXN sc__law_whole (fun vs H Q E h => by obtain ⟨a, F, _, al, _⟩ := h; exact al.length) (fun cdv A outer s H vs Q E hr h => ?_)
  have tk : L2N.Takes (cxOf (L2N.CX P w) P w K mg base N__law_whole "_law_whole" (defScope s__law_whole) T.a__law_whole cdv A outer s H E) (fun cls d _ H => E cls d H) := L2N.takes_of rfl rfl rfl rfl
  obtain ⟨a, F, fh, al, hd, th⟩ := h
  refine ⟨_, (pss_one (ps_ret (pe_and (pe_callB call_isi (by rfl) T.z_isinstance PyProof.Rows.boot_isinstance (pa_cons (pv 0) (pa_cons (pe_bltn (v := .ty "int") (by rfl) T.z_int PyProof.Rows.boot_int rfl) pa_nil))) (pe_one (pe_not (pe_callB call_isi (by rfl) T.z_isinstance PyProof.Rows.boot_isinstance (pa_cons (pv 0) (pa_cons (pe_bltn (v := .ty "bool") (by rfl) T.z_bool PyProof.Rows.boot_bool rfl) pa_nil)))))))), ?_⟩
  exact fin_ok (r := .rt (dv K (.bool true))) (js_ret (je_andV (a := true) (b := true) (je_isTyI (je_var (i := 0) rfl) (by decide)) (fun _ => je_notV (a := false) (je_isTyI (je_var (i := 0) rfl) (by decide))))) (by exact rfl) fh al th
def leftO (pts : List (Int × Int)) (u v : Int) : PyData := orE (badNos pts.length [u, v]) (leftT pts u v)
def roundT (pts : List (Int × Int)) (v : Nat) : PyData := .tuple [.str "list", .str "", .tuple ((ring pts v).map nI), .bool true]
def roundO (pts : List (Int × Int)) (v : Int) : PyData := match isNo v pts.length with
  | true => roundT pts v.toNat
  | false => raisedD ⟨.NoPoint, .int v⟩
def toldO (b : Bool) (pts : List (Int × Int)) (u v : Int) : PyData := match b with | true => leftO pts u v | false => roundO pts u
def nmT (b : Bool) : Str := if b then "left" else "round"
theorem nmT_left (b : Bool) : decide (nmT b = "left") = b := by cases b <;> exact (by decide +kernel)
def args__law_told {K : PySem.W.Frag} {mg : Str → Option Value} (T : Tx K mg) : Bool × List (Int × Int) × Int × Int → List PV := fun a => [dv K (.str (nmT a.1)), ob1 K T.a_Floor "points" (.tuple (a.2.1.map pD)), dv K (.int a.2.2.1), dv K (.int a.2.2.2)]
def dom__law_told : Bool × List (Int × Int) × Int × Int → Prop := fun a => 3 ≤ a.2.1.length ∧ a.2.1.length ≤ 10 ∧ ∀ p ∈ a.2.1, near p
def out__law_told {K : PySem.W.Frag} {mg : Str → Option Value} (T : Tx K mg) : Bool × List (Int × Int) × Int × Int → Out := fun a => .ok (dv K (toldO a.1 a.2.1 a.2.2.1 a.2.2.2))
abbrev e1Told [LT] {K : PySem.W.Frag} {mg : Str → Option Value} (T : Tx K mg) : WX → TE := fun W => tMethW T.a_Floor "left_of" (PrmNE K T.M (args_Floor_left_of T) dom_Floor_left_of outF_Floor_left_of) (WE W) (tVar 1) (tCons (tVar 2) (tCons (tVar 3) tNil))
abbrev e2Told [LT] {K : PySem.W.Frag} {mg : Str → Option Value} (T : Tx K mg) : WX → TE := fun W => tCallS (PrmNE K T.M (args_round_point T) dom_round_point outF_round_point) (WE W) (tCons (tVar 1) (tCons (tVar 2) tNil))
abbrev tTold : TT := tTest (tOp rEq (tVar 0) (tC (.str "left")))
abbrev tbTold [LT] {K : PySem.W.Frag} {mg : Str → Option Value} (T : Tx K mg) : WX → TS := fun W => tIfS tTold (tAsg (e1Told T W) (gName 4)) (tAsg (e2Told T W) (gName 4))
theorem ok__law_told {P : Program} {w : World} {K : PySem.W.Frag} {mg : Str → Option Value} {base : Heap} (T : Tx K mg) [LT] (lk : LKs T base) : FnOk P w K mg base (L2N.CX P w) 11 T.a__law_told T.fd__law_told ["name", "floor", "one", "two"] (Prm K T.M (args__law_told T) dom__law_told (out__law_told T)) := by
  refine T.F__law_told.okXN sc__law_told (fun vs H Q E h => by obtain ⟨a, F, _, al, _⟩ := h; exact al.length) (fun cdv A outer s H vs Q E hr h => ?_)
  have tk : L2N.Takes (cxOf (L2N.CX P w) P w K mg base N__law_told "_law_told" (defScope s__law_told) T.a__law_told cdv A outer s H E) (fun cls d _ H => E cls d H) := L2N.takes_of rfl rfl rfl rfl
  obtain ⟨a, F, fh, al, hd, th⟩ := h
  refine ⟨_, (pss_cons (ps_try_named (tb := fun W => _) rfl rfl sc__law_told.nd tk (fun W pn xe tkb pob => (pss_one (ps_if (pt_cmpR op_eq (pv 0) pe_str (nomark _)) (pss_one (ps_set (i := 4) sc__law_told.nd rfl (by first | exact Or.inl rfl | exact Or.inr rfl) (pe_methW (pv 1) T.C_Floor T.m_Floor_left_of (ok_Floor_left_ofF T) (hr.mono (by decide)) (b_Floor_left_of T) (fun σ => L2N.passAt tkb σ) (pa_cons (pv 2) (pa_cons (pv 3) pa_nil))))) (pss_one (ps_set (i := 4) sc__law_told.nd rfl (by first | exact Or.inl rfl | exact Or.inr rfl) (pe_callS (ok_round_pointF T lk) (hr.mono (by decide)) (by rfl) T.g_round_point T.F_round_point.kp (b_round_point T) (fun σ => L2N.passAt tkb σ) (pa_cons (pv 1) (pa_cons (pv 2) pa_nil)))))))) (Clauses.cons (c := .ref T.a_NoPoint) (i := 5) ⟨rfl, by decide, .inl T.g_NoPoint⟩ rfl rfl (fun a ob cls d pn hz hf hot => (pss_cons (ps_set (i := 6) sc__law_told.nd rfl (by first | exact Or.inl rfl | exact Or.inr rfl) (pe_and (pe_callB (call_isEx hz hf) (by rfl) T.z_isinstance PyProof.Rows.boot_isinstance (pa_cons (pv 5) (pa_cons (pe_glob (v := .ref T.a_BowlError) (by rfl) T.g_BowlError rfl) pa_nil))) (pe_one (pe_callB (call_isEx hz hf) (by rfl) T.z_isinstance PyProof.Rows.boot_isinstance (pa_cons (pv 5) (pa_cons (pe_bltn (v := .ty "ValueError") (by rfl) T.z_ValueError PyProof.Rows.Boot.«ValueError» rfl) pa_nil))))))
      (pss_one (ps_ret (pe_tup (pa_cons pe_str (pa_cons pe_str (pa_cons (pe_xf (T.X_NoPoint).xf (T.X_NoPoint).nf hz hf (pv 5)) (pa_cons (pe_and (pv 6) (pe_one (pe_not (pe_callB (call_isExT hz hf) (by rfl) T.z_isinstance PyProof.Rows.boot_isinstance (pa_cons (pv 5) (pa_cons (pe_tup (pa_cons (pe_glob (v := .ref T.a_Repeated) (by rfl) T.g_Repeated rfl) (pa_cons (pe_glob (v := .ref T.a_TooFar) (by rfl) T.g_TooFar rfl) pa_nil))) pa_nil)))))) pa_nil))))))))) (Clauses.cons (c := .ref T.a_Repeated) (i := 5) ⟨rfl, by decide, .inl T.g_Repeated⟩ rfl rfl (fun a ob cls d pn hz hf hot => (pss_cons (ps_set (i := 6) sc__law_told.nd rfl (by first | exact Or.inl rfl | exact Or.inr rfl) (pe_and (pe_callB (call_isEx hz hf) (by rfl) T.z_isinstance PyProof.Rows.boot_isinstance (pa_cons (pv 5) (pa_cons (pe_glob (v := .ref T.a_BowlError) (by rfl) T.g_BowlError rfl) pa_nil))) (pe_one (pe_callB (call_isEx hz hf) (by rfl) T.z_isinstance PyProof.Rows.boot_isinstance (pa_cons (pv 5) (pa_cons (pe_bltn (v := .ty "ValueError") (by rfl) T.z_ValueError PyProof.Rows.Boot.«ValueError» rfl) pa_nil))))))
      (pss_one (ps_ret (pe_tup (pa_cons pe_str (pa_cons pe_str (pa_cons (pe_xf (T.X_Repeated).xf (T.X_Repeated).nf hz hf (pv 5)) (pa_cons (pe_and (pv 6) (pe_one (pe_not (pe_callB (call_isExT hz hf) (by rfl) T.z_isinstance PyProof.Rows.boot_isinstance (pa_cons (pv 5) (pa_cons (pe_tup (pa_cons (pe_glob (v := .ref T.a_NoPoint) (by rfl) T.g_NoPoint rfl) (pa_cons (pe_glob (v := .ref T.a_TooFar) (by rfl) T.g_TooFar rfl) pa_nil))) pa_nil)))))) pa_nil))))))))) Clauses.nil)))
      (pss_cons (ps_if (pt_not (pt_val (pe_callB call_isi (by rfl) T.z_isinstance PyProof.Rows.boot_isinstance (pa_cons (pv 4) (pa_cons (pe_bltn (v := .ty "list") (by rfl) T.z_list PyProof.Rows.boot_list rfl) pa_nil))))) (pss_one (ps_ret (pe_tup (pa_cons pe_str (pa_cons pe_str (pa_cons (pe_tup pa_nil) (pa_cons pe_bl pa_nil))))))) pss_nil)
      (pss_cons (ps_set (i := 7) sc__law_told.nd rfl (by first | exact Or.inl rfl | exact Or.inr rfl) (pe_callTy call_tuple_of (by rfl) T.z_tuple PyProof.Rows.boot_tuple (pa_cons (pv 4) pa_nil)))
      (pss_cons (ps_expr (pe_bm PySem.F.plainAttrs_list PySem.F.slot_list_append PySem.F.type_list_append mt_append (pv 4) (pa_cons pe_int pa_nil)))
      (pss_cons (ps_expr (pe_bm0 PySem.F.plainAttrs_list PySem.F.slot_list_reverse PySem.F.type_list_reverse mt_reverse (pv 4)))
      (pss_one (ps_ret (pe_tup (pa_cons pe_str (pa_cons pe_str (pa_cons (pv 7) (pa_cons (pe_cmpR op_notIn_seq pe_bl (pe_lc (own := [("number", 8)]) (g := (gName 8)) (tt := tYes) (te := (tCallS (Prm K T.M (args__law_whole T) dom__law_whole (out__law_whole T)) (WE fun _ _ _ _ => False) (tCons (tVar 8) tNil))) rfl sc__law_told.nd (pi_tup (pv 7)) (blkOk_by (N := N__law_told) (sc := defScope s__law_told) (own := [("number", 8)]) (by decide +kernel)) (fun _ _ _ _ _ => (pg_name (i := 8) sc__law_told.nd rfl (by first | exact Or.inl rfl | exact Or.inr rfl))) (fun _ _ _ _ _ => by exact pts_nil) (fun _ _ _ _ _ => by exact (pe_callS (ok__law_whole T) (hr.mono (by decide)) (by rfl) T.g__law_whole T.F__law_whole.kp (b__law_whole T) (fun σ => L2N.passAt takes0N σ) (pa_cons (pv 8) pa_nil)))) (by rfl)) pa_nil)))))))))))), ?_⟩
  obtain ⟨b, pts, u, v⟩ := a
  have hd2 : dom__law_told (b, pts, u, v) := hd
  obtain ⟨h3, hl, hn⟩ := hd2
  simp only at h3 hl
  let W0 : WX := fun cls d _ H => E cls d H
  let e0 := entry N__law_told (args__law_told T (b, pts, u, v))
  have ho : out__law_told T (b, pts, u, v) = .ok (dv K (toldO b pts u v)) := rfl
  rw [ho] at th
  have tq : ∀ W' : WX, JT K T.M W' tTold e0 b := fun W' => jt_is (jt_test (je_eqS (je_var (i := 0) rfl) je_str)) (nmT_left b)
  have j1 : ∀ W' : WX, JA K T.M W' (tCons (tVar 2) (tCons (tVar 3) tNil)) e0 [dv K (.int u), dv K (.int v)] := fun W' => ja_cons (je_var (i := 2) rfl) (ja_cons (je_var (i := 3) rfl) ja_nil)
  have j2 : ∀ W' : WX, JA K T.M W' (tCons (tVar 1) (tCons (tVar 2) tNil)) e0 (args_round_point T (pts, u)) := fun W' => ja_cons (je_var (i := 1) rfl) (ja_cons (je_var (i := 2) rfl) ja_nil)
  have key : (∃ e : Er, (∀ W' : WX, JS K T.M W' (tbTold T W') e0 (asgR e0 4 (.er e))) ∧ (e.c = .NoPoint ∨ e.c = .Repeated) ∧ toldO b pts u v = raisedD e) ∨ (∃ ns : List Nat, ns.length ≤ 100 ∧ (b = true → ∀ W' : WX, JN K (e1Told T W') e0 (ns.map nI)) ∧ (b = false → ∀ W' : WX, JN K (e2Told T W') e0 (ns.map nI)) ∧ toldO b pts u v = .tuple [.str "list", .str "", .tuple (ns.map nI), .bool true]) := by
    cases b with
    | true =>
      have eo : outF_Floor_left_of (pts, u, v) = match badNos pts.length [u, v] with | some e => .error e | none => .ok ((leftN pts u v).map nI) := rfl
      have el : leftO pts u v = orE (badNos pts.length [u, v]) (leftT pts u v) := rfl
      cases hb : badNos pts.length [u, v] with
      | some e =>
        rw [hb] at eo el
        have hc : e.c = .NoPoint ∨ e.c = .Repeated := by
          rw [bad2] at hb
          unfold noO at hb
          revert hb
          cases isNo u pts.length <;> cases isNo v pts.length <;> by_cases z : u = v <;> simp [z] <;> (intro hb; subst hb; simp)
        refine .inl ⟨e, (fun W' => js_if (b := true) (tq W') (fun _ => js_setO (je_methE (M := T.M) (pts, u, v) (je_var (i := 1) rfl) (by decide) _ (j1 W') rfl ⟨hl, hn⟩ eo)) (fun z => Bool.noConfusion z)), hc, by show leftO pts u v = _; rw [el]; rfl⟩
      | none =>
        rw [hb] at eo el
        refine .inr ⟨leftN pts u v, by have := leftN_len pts u v; omega, (fun _ W' => jn_methE (M := T.M) (W := W') (pts, u, v) (je_var (i := 1) rfl) (by decide) _ (j1 W') rfl ⟨hl, hn⟩ eo), (fun z => Bool.noConfusion z), by show leftO pts u v = _; rw [el]; rfl⟩
    | false =>
      have eo : outF_round_point (pts, u) = match isNo u pts.length with | true => .ok ((ring pts u.toNat).map nI) | false => .error ⟨.NoPoint, .int u⟩ := rfl
      have el : roundO pts u = match isNo u pts.length with | true => roundT pts u.toNat | false => raisedD ⟨.NoPoint, .int u⟩ := rfl
      cases hb : isNo u pts.length with
      | false =>
        rw [hb] at eo el
        refine .inl ⟨_, (fun W' => js_if (b := false) (tq W') (fun z => Bool.noConfusion z) (fun _ => js_setO (je_callE (M := T.M) (pts, u) (j2 W') ⟨h3, hl, hn⟩ eo))), .inl rfl, by show roundO pts u = _; rw [el]⟩
      | true =>
        rw [hb] at eo el
        refine .inr ⟨ring pts u.toNat, by unfold ring; have a1 := leftN_len pts u.toNat (fstO u.toNat : Nat); have a2 := leftN_len pts (fstO u.toNat : Nat) u.toNat; simp only [List.length_cons, List.length_append, turnS_len]; omega, (fun z => Bool.noConfusion z), (fun _ W' => jn_callE (M := T.M) (W := W') (pts, u) (j2 W') ⟨h3, hl, hn⟩ eo), by show roundO pts u = _; rw [el]; rfl⟩
  rcases key with ⟨e, hb, hc, heq⟩ | ⟨ns, hlen, h1, h2, heq⟩
  · rw [heq] at th
    refine fin_ok (r := .rt (dv K (raisedD e))) (js_rt (js_try_er (tb := tbTold T) hb ?_)) (by exact rfl) fh al th
    obtain ⟨c, x⟩ := e
    rcases hc with rfl | rfl
    · exact .inl ⟨T.x_NoPoint_NoPoint, suite_std (c := .NoPoint) (show 5 < 9 by decide) (show 6 < 9 by decide) (by decide) T.X_NoPoint.ek T.k_NoPoint_BowlError T.k_NoPoint_ValueError T.k_NoPoint_Repeated_TooFar⟩
    · exact .inr ⟨T.x_Repeated_NoPoint, .inl ⟨T.x_Repeated_Repeated, suite_std (c := .Repeated) (show 5 < 9 by decide) (show 6 < 9 by decide) (by decide) T.X_Repeated.ek T.k_Repeated_BowlError T.k_Repeated_ValueError T.k_Repeated_NoPoint_TooFar⟩⟩
  · rw [heq] at th
    let kept := ns.map nI
    refine fin_ok (r := .rt (dv K (.tuple [.str "list", .str "", .tuple kept, .bool true]))) (jl_ownTryIf (i := 4) (t := fun _ => tTold) (t1 := e1Told T) (t2 := e2Told T) (b := b) tq h1 h2 fun D F1 H1 hD => ?_) (by exact rfl) fh al th
    refine jl_seq (jl_ifR (b := false) (i := 4) rfl (jt_is (jt_not (jt_B (M := T.M) (W := W0) (je_isL (b := true) (je_var (i := 4) rfl) (by decide)))) rfl) (fun z => Bool.noConfusion z) (fun _ => jl_js (M := T.M) (W := W0) js_next))
      (jl_seq (jl_copyT (i := 4) (j := 7) rfl)
      (jl_seq (jl_app (i := 4) (d := .int 0) rfl hD (ja_cons je_int ja_nil) (by rw [List.length_map]; omega))
      (jl_seq (jl_rev (i := 4) rfl hD)
      (jl_rt (je_tup (ds := [.str "list", .str "", .tuple kept, .bool true]) (ja_cons je_str (ja_cons je_str (ja_cons (je_var (i := 7) rfl) (ja_cons (je_is (je_notInB (b := false) (bs := List.replicate ns.length true) je_bl (je_is (je_lc (vs := [8]) (W' := fun _ _ _ _ => False) ns nI (fun _ => true) (fun _ => .bool true) (ji_tup (je_var (i := 7) rfl)) (by omega) fun p _ => ⟨_, jg_name, jt_yes, fun _ => je_call (args := args__law_whole T) (dom := dom__law_whole) (out := out__law_whole T) (p : Int) (ja_cons (je_var (i := 8) rfl) ja_nil) trivial⟩) ?_)) ?_) ja_nil)))))))))
    · rw [List.filter_eq_self.mpr fun _ _ => rfl]
      show PyData.list _ = PyData.list _
      congr 1
      generalize ns = l
      induction l with
      | nil => rfl
      | cons x r ih => rw [List.map_cons, List.length_cons, List.replicate_succ, List.map_cons, ih]
    · generalize ns.length = n
      show PyData.bool _ = PyData.bool true
      congr 1
      induction n with
      | zero => rfl
      | succ n ih =>
        rw [List.replicate_succ, List.contains_cons]
        exact ih
end K07
namespace K07
open PySem PySem.Spec PyProof.Rows L2 Evl EB
/-! ### points in general position -/
theorem area_sw (p q r : Int × Int) : area q p r = -area p q r := by
  unfold area
  grind
theorem area_ro (p q r : Int × Int) : area q r p = area p q r := by
  unfold area
  grind
theorem mem_rg {lo x : Int} {m : Nat} (h1 : lo ≤ x) (h2 : x < lo + m) : x ∈ rg lo m := by
  unfold rg
  exact List.mem_map.mpr ⟨(x - lo).toNat, List.mem_range.mpr (by omega), by omega⟩
/-- what no line through three says of the numbers -/
theorem asc_of {pts : List (Int × Int)} (h : onLine pts = none) (hl : pts.length ≤ 10) : ∀ i j k : Nat, i < j → j < k → (hk : k < pts.length) → area (pt pts i) (pt pts j) (pt pts k) ≠ 0 := fun i j k h1 h2 h3 z => by
  rw [onLine_eq hl] at h
  have a1 := List.findSome?_eq_none_iff.mp h i (mem_rg (by omega) (by omega))
  have a2 := List.findSome?_eq_none_iff.mp a1 j (mem_rg (by omega) (by omega))
  have a3 := List.findSome?_eq_none_iff.mp a2 k (mem_rg (by omega) (by omega))
  unfold lineOf at a3
  dsimp only at a3
  rw [if_pos z] at a3
  cases a3
/-- any three numbers that are different -/
theorem any_of {pts : List (Int × Int)} (h : ∀ i j k : Nat, i < j → j < k → k < pts.length → area (pt pts i) (pt pts j) (pt pts k) ≠ 0) : ∀ i j k : Nat, i < pts.length → j < pts.length → k < pts.length → i ≠ j → k ≠ i → k ≠ j → area (pt pts i) (pt pts j) (pt pts k) ≠ 0 := fun i j k hi hj hk h1 h2 h3 => by
  have sw := area_sw
  have ro := area_ro
  rcases Nat.lt_or_gt_of_ne h1 with a | a <;> rcases Nat.lt_or_gt_of_ne h2 with b | b <;> rcases Nat.lt_or_gt_of_ne h3 with c | c
  · rw [← ro]; rw [← ro]; exact h k i j b a hj
  · omega
  · have := h i k j (by omega) (by omega) hj
    have e := sw (pt pts i) (pt pts k) (pt pts j)
    have e2 := ro (pt pts i) (pt pts j) (pt pts k)
    have e3 := ro (pt pts j) (pt pts k) (pt pts i)
    omega
  · exact h i j k a c hk
  · have := h k j i c a hi
    have e := sw (pt pts k) (pt pts j) (pt pts i)
    have e2 := ro (pt pts i) (pt pts j) (pt pts k)
    have e3 := ro (pt pts j) (pt pts k) (pt pts i)
    omega
  · have := h j k i (by omega) (by omega) hi
    have e2 := ro (pt pts i) (pt pts j) (pt pts k)
    omega
  · omega
  · have := h j i k a (by omega) hk
    have e := sw (pt pts j) (pt pts i) (pt pts k)
    omega
end K07
namespace K07
open PySem PySem.Spec PyProof.Rows L2 Evl EB PySem.W
/-! ### around a point -/
theorem plk (v f a b c : Int × Int) : area v f a * area v b c - area v f b * area v a c + area v f c * area v a b = 0 := by
  unfold area
  grind
theorem sw0 (v a b : Int × Int) : area v b a = -area v a b := by
  unfold area
  grind
/-- x before y before z, or z before x before y: z is not between -/
theorem turnA {fx fy fz xy xz yz : Int} (h : fx * yz - fy * xz + fz * xy = 0)
    (hx : (fx = 0 ∧ xy = fy ∧ xz = fz) ∨ 0 < fx ∨ fx < 0) (hz : (fz = 0 ∧ xz = -fx ∧ yz = -fy) ∨ 0 < fz ∨ fz < 0)
    (hy : 0 < fy ∨ fy < 0) (n1 : xy ≠ 0) (n2 : xz ≠ 0) (n3 : yz ≠ 0)
    (b : (fx = 0) ∨ (0 < fx ∧ fy < 0) ∨ ((0 < fx ∧ 0 < fy ∨ fx < 0 ∧ fy < 0) ∧ 0 < xy))
    (c : ((fz = 0 ∧ fx ≠ 0) ∨ (0 < fz ∧ fx < 0) ∨ ((0 < fz ∧ 0 < fx ∨ fz < 0 ∧ fx < 0) ∧ xz < 0)) ∨ ((0 < fy ∧ fz < 0) ∨ ((0 < fy ∧ 0 < fz ∨ fy < 0 ∧ fz < 0) ∧ 0 < yz))) :
    (0 < xy → ¬ (0 < xz ∧ yz < 0)) ∧ (¬ 0 < xy → 0 < yz ∧ xz < 0) := by
  have k1 : 0 < xy ∨ xy < 0 := by omega
  have k2 : 0 < xz ∨ xz < 0 := by omega
  have k3 : 0 < yz ∨ yz < 0 := by omega
  rcases hx with ⟨hx, hx1, hx2⟩ | hx | hx
  · clear h
    rcases k2 with k2 | k2 <;> rcases hy with hy | hy <;> omega
  all_goals
    rcases hz with ⟨hz, hz1, hz2⟩ | hz | hz
    · clear h
      rcases k1 with k1 | k1 <;> rcases hy with hy | hy <;> omega
    all_goals
      rcases hy with hy | hy <;> rcases k1 with k1 | k1 <;> try omega
      all_goals
        rcases k2 with k2 | k2 <;> rcases k3 with k3 | k3 <;> try omega
        all_goals
          first | have m1 := Int.mul_pos hx k3 | have m1 := Int.mul_neg_of_pos_of_neg hx k3 | have m1 := Int.mul_neg_of_neg_of_pos hx k3 | have m1 := Int.mul_pos_of_neg_of_neg hx k3
          first | have m2 := Int.mul_pos hy k2 | have m2 := Int.mul_neg_of_pos_of_neg hy k2 | have m2 := Int.mul_neg_of_neg_of_pos hy k2 | have m2 := Int.mul_pos_of_neg_of_neg hy k2
          first | have m3 := Int.mul_pos hz k1 | have m3 := Int.mul_neg_of_pos_of_neg hz k1 | have m3 := Int.mul_neg_of_neg_of_pos hz k1 | have m3 := Int.mul_pos_of_neg_of_neg hz k1
          generalize fx * yz = A at *
          generalize fy * xz = B at *
          generalize fz * xy = C at *
          clear b c
          omega
/-- within half a turn before is transitive -/
theorem turnT {fa fb fc ab bc ac : Int} (h : fa * bc - fb * ac + fc * ab = 0) (hs : (0 < fa ∧ 0 < fb ∧ 0 < fc) ∨ (fa < 0 ∧ fb < 0 ∧ fc < 0)) (h1 : 0 < ab) (h2 : 0 < bc) : 0 < ac := by
  rcases hs with ⟨p, q, r⟩ | ⟨p, q, r⟩
  · have m1 := Int.mul_pos p h2
    have m2 := Int.mul_pos r h1
    exact Int.pos_of_mul_pos_right (show 0 < fb * ac by omega) q
  · have m1 := Int.mul_neg_of_neg_of_pos p h2
    have m2 := Int.mul_neg_of_neg_of_pos r h1
    have m3 : fb * ac < 0 := by omega
    rcases Int.lt_trichotomy ac 0 with z | z | z
    · have := Int.mul_pos_of_neg_of_neg q z
      omega
    · subst z
      omega
    · exact z
theorem area_rot (p q r : Int × Int) : area p q r = area q r p := by
  unfold area
  grind
theorem cnt_lt {α : Type} {l : List α} {p q : α → Bool} (h : ∀ x ∈ l, p x = true → q x = true) {z : α} (hz : z ∈ l) (h1 : q z = true) (h2 : p z = false) : (l.filter p).length < (l.filter q).length := by
  have le : ∀ r : List α, (∀ x ∈ r, p x = true → q x = true) → (r.filter p).length ≤ (r.filter q).length := fun r => by
    induction r with
    | nil => exact fun _ => Nat.le_refl _
    | cons a r ih =>
      intro k
      have := ih fun x hx => k x (List.mem_cons_of_mem _ hx)
      have ka := k a List.mem_cons_self
      rw [List.filter_cons, List.filter_cons]
      cases hp : p a with
      | true => rw [ka hp]; simp only [if_true, List.length_cons]; omega
      | false => cases hq : q a <;> simp only [Bool.false_eq_true, if_false, if_true, List.length_cons] <;> omega
  induction l with
  | nil => cases hz
  | cons a r ih =>
    rw [List.filter_cons, List.filter_cons]
    rcases List.mem_cons.mp hz with rfl | hm
    · rw [h1, h2]
      have := le r fun x hx => h x (List.mem_cons_of_mem _ hx)
      simp only [Bool.false_eq_true, if_false, if_true, List.length_cons]
      omega
    · have i := ih (fun x hx => h x (List.mem_cons_of_mem _ hx)) hm
      have ka := h a List.mem_cons_self
      cases hp : p a with
      | true => rw [ka hp]; simp only [if_true, List.length_cons]; omega
      | false => cases hq : q a <;> simp only [Bool.false_eq_true, if_false, if_true, List.length_cons] <;> omega
def sg (P : List (Int × Int)) (v x y : Nat) : Int := area (pt P v) (pt P x) (pt P y)
def NoLn (P : List (Int × Int)) : Prop := ∀ i j k : Nat, i < P.length → j < P.length → k < P.length → i ≠ j → k ≠ i → k ≠ j → area (pt P i) (pt P j) (pt P k) ≠ 0
theorem sg_sw (P : List (Int × Int)) (v x y : Nat) : sg P v y x = -sg P v x y := sw0 _ _ _
theorem sg_ne {P : List (Int × Int)} (N : NoLn P) {v x y : Nat} (hv : v < P.length) (hx : x < P.length ∧ x ≠ v) (hy : y < P.length ∧ y ≠ v) (h : x ≠ y) : sg P v x y ≠ 0 := N v x y hv hx.1 hy.1 (fun z => hx.2 z.symm) hy.2 (fun z => h z.symm)
theorem sg_plk (P : List (Int × Int)) (v f x y z : Nat) : sg P v f x * sg P v y z - sg P v f y * sg P v x z + sg P v f z * sg P v x y = 0 := plk _ _ _ _ _
theorem rk_lt {P : List (Int × Int)} (N : NoLn P) {v f : Nat} {half : List Nat} (hv : v < P.length) (hh : ∀ c ∈ half, c < P.length ∧ c ≠ v) (hs : (∀ c ∈ half, 0 < sg P v f c) ∨ (∀ c ∈ half, sg P v f c < 0)) {x y : Nat} (hx : x ∈ half) (hy : y ∈ half) (h : 0 < sg P v x y) : rkN P v half x < rkN P v half y := by
  unfold rkN leftN
  rw [List.filter_filter, List.filter_filter]
  have ar : ∀ c d : Nat, area (pt P c) (pt P v) (pt P d) = sg P v d c := fun c d => area_rot _ _ _
  refine cnt_lt (z := x) (fun d hd hp => ?_) (List.mem_range.mpr (hh x hx).1) ?_ ?_
  · rw [Bool.and_eq_true, decide_eq_true_eq, decide_eq_true_eq, ar] at hp ⊢
    refine ⟨hp.1, ?_⟩
    refine turnT (sg_plk P v f d x y) ?_ hp.2 h
    rcases hs with hs | hs
    · exact .inl ⟨hs d hp.1, hs x hx, hs y hy⟩
    · exact .inr ⟨hs d hp.1, hs x hx, hs y hy⟩
  · rw [Bool.and_eq_true, decide_eq_true_eq, decide_eq_true_eq, ar]
    exact ⟨hx, h⟩
  · rw [Bool.and_eq_false_iff, decide_eq_false_iff_not, decide_eq_false_iff_not, ar]
    refine .inr fun z => ?_
    have : sg P v x x = 0 := by
      unfold sg area
      grind
    omega
theorem turnS_perm (P : List (Int × Int)) (v : Nat) (h : List Nat) : (turnS P v h).Perm h := List.mergeSort_perm _ _
theorem turnS_pw {P : List (Int × Int)} (N : NoLn P) {v f : Nat} {half : List Nat} (hv : v < P.length) (hh : ∀ c ∈ half, c < P.length ∧ c ≠ v) (hs : (∀ c ∈ half, 0 < sg P v f c) ∨ (∀ c ∈ half, sg P v f c < 0)) (nd : half.Nodup) : (turnS P v half).Pairwise fun x y => 0 < sg P v x y := by
  have h1 : (turnS P v half).Pairwise fun x y => decide ((rkN P v half x : Int) ≤ rkN P v half y) = true := List.pairwise_mergeSort (fun a b c h k => by rw [decide_eq_true_eq] at *; omega) (fun a b => by rw [Bool.or_eq_true, decide_eq_true_eq, decide_eq_true_eq]; omega) _
  have h2 : (turnS P v half).Pairwise fun x y => x ≠ y := List.nodup_iff_pairwise_ne.mp ((turnS_perm P v half).nodup_iff.mpr nd)
  refine (h1.and h2).imp_of_mem fun {a b} ha hb h => ?_
  have ha := (turnS_perm P v half).mem_iff.mp ha
  have hb := (turnS_perm P v half).mem_iff.mp hb
  have ne := sg_ne N hv (hh a ha) (hh b hb) h.2
  have le := of_decide_eq_true h.1
  rcases Int.lt_or_gt_of_ne ne with z | z
  · have := rk_lt N hv hh hs hb ha (by rw [sg_sw]; omega)
    omega
  · exact z
/-- x comes before y on the way around, from f -/
def bef (P : List (Int × Int)) (v f x y : Nat) : Prop := (x = f ∧ y ≠ f) ∨ (0 < sg P v f x ∧ sg P v f y < 0) ∨ ((0 < sg P v f x ∧ 0 < sg P v f y ∨ sg P v f x < 0 ∧ sg P v f y < 0) ∧ 0 < sg P v x y)
theorem fst_b {n v : Nat} (h : 3 ≤ n) (hv : v < n) : fstO v < n ∧ fstO v ≠ v := by unfold fstO; split <;> omega
theorem left_sg {P : List (Int × Int)} {v f c : Nat} (h : c ∈ leftN P v f) : 0 < sg P v f c := of_decide_eq_true (List.mem_filter.mp h).2
theorem left_gs {P : List (Int × Int)} {v f c : Nat} (h : c ∈ leftN P f v) : sg P v f c < 0 := by
  have := of_decide_eq_true (List.mem_filter.mp h).2
  have e : area (pt P f) (pt P v) (pt P c) = -sg P v f c := by
    unfold sg area
    grind
  omega
theorem leftN_nd (P : List (Int × Int)) (a b : Int) : (leftN P a b).Nodup := (List.nodup_range).filter _
theorem ring_pw {P : List (Int × Int)} (N : NoLn P) (h3 : 3 ≤ P.length) {v : Nat} (hv : v < P.length) : (ring P v).Pairwise (bef P v (fstO v)) := by
  have ht : ∀ {a b x : Nat}, x ∈ turnS P v (leftN P a b) → x ∈ leftN P a b := fun h => (turnS_perm P v _).mem_iff.mp h
  have m1 : ∀ c ∈ leftN P v (fstO v), c < P.length ∧ c ≠ v := fun c hc => ⟨(leftN_mem hc).1, (leftN_mem hc).2.1⟩
  have m2 : ∀ c ∈ leftN P (fstO v) v, c < P.length ∧ c ≠ v := fun c hc => ⟨(leftN_mem hc).1, (leftN_mem hc).2.2⟩
  unfold ring
  rw [List.pairwise_cons, List.pairwise_append]
  refine ⟨fun y hy => .inl ⟨rfl, ?_⟩, ?_, ?_, fun x hx y hy => ?_⟩
  · rcases List.mem_append.mp hy with h | h
    · exact (leftN_mem (ht h)).2.2
    · exact (leftN_mem (ht h)).2.1
  · refine (turnS_pw N hv m1 (.inl fun c hc => left_sg hc) (leftN_nd _ _ _)).imp_of_mem fun {a b} ha hb h => ?_
    exact .inr (.inr ⟨.inl ⟨left_sg (ht ha), left_sg (ht hb)⟩, h⟩)
  · refine (turnS_pw (f := fstO v) N hv m2 (.inr fun c hc => left_gs hc) (leftN_nd _ _ _)).imp_of_mem fun {a b} ha hb h => ?_
    exact .inr (.inr ⟨.inr ⟨left_gs (ht ha), left_gs (ht hb)⟩, h⟩)
  · exact .inr (.inl ⟨left_sg (ht hx), left_gs (ht hy)⟩)
theorem ring_mem {P : List (Int × Int)} (N : NoLn P) (h3 : 3 ≤ P.length) {v x : Nat} (hv : v < P.length) : x ∈ ring P v ↔ x < P.length ∧ x ≠ v := by
  have hf := fst_b h3 hv
  unfold ring
  rw [List.mem_cons, List.mem_append, (turnS_perm P v _).mem_iff, (turnS_perm P v _).mem_iff]
  refine ⟨fun h => ?_, fun h => ?_⟩
  · rcases h with rfl | h | h
    · exact hf
    · exact ⟨(leftN_mem h).1, (leftN_mem h).2.1⟩
    · exact ⟨(leftN_mem h).1, (leftN_mem h).2.2⟩
  · by_cases e : x = fstO v
    · exact .inl e
    · have ne := sg_ne N hv hf h (fun z => e z.symm)
      have e2 : area (pt P (fstO v : Nat)) (pt P v) (pt P x) = -sg P v (fstO v) x := by
        unfold sg area
        grind
      rcases Int.lt_or_gt_of_ne ne with z | z
      · exact .inr (.inr (List.mem_filter.mpr ⟨List.mem_range.mpr h.1, decide_eq_true (by rw [e2]; omega)⟩))
      · exact .inr (.inl (List.mem_filter.mpr ⟨List.mem_range.mpr h.1, decide_eq_true z⟩))
theorem bef_ne {P : List (Int × Int)} {v f x y : Nat} (h : bef P v f x y) : x ≠ y := fun z => by
  subst z
  have : sg P v x x = 0 := by
    unfold sg area
    grind
  unfold bef at h
  omega
theorem ring_nd {P : List (Int × Int)} (N : NoLn P) (h3 : 3 ≤ P.length) {v : Nat} (hv : v < P.length) : (ring P v).Nodup := List.nodup_iff_pairwise_ne.mpr ((ring_pw N h3 hv).imp bef_ne)
theorem side3 {P : List (Int × Int)} (N : NoLn P) {v f x : Nat} (hv : v < P.length) (hf : f < P.length ∧ f ≠ v) (hx : x < P.length ∧ x ≠ v) : x = f ∨ 0 < sg P v f x ∨ sg P v f x < 0 := by
  by_cases e : x = f
  · exact .inl e
  · have := sg_ne N hv hf hx (fun z => e z.symm)
    omega
theorem sg_self (P : List (Int × Int)) (v x : Nat) : sg P v x x = 0 := by
  unfold sg area
  grind
theorem btw_sg (P : List (Int × Int)) (v x y z : Nat) : btw (pt P v) (pt P x) (pt P y) (pt P z) = if 0 < sg P v x y then decide (0 < sg P v x z) && decide (sg P v y z < 0) else !(decide (0 < sg P v y z) && decide (sg P v x z < 0)) := by
  unfold btw
  have e1 : (0 < area (pt P v) (pt P z) (pt P y)) = (sg P v y z < 0) := by
    have := sg_sw P v y z
    exact propext ⟨fun h => by have : 0 < sg P v z y := h; omega, fun h => by show 0 < sg P v z y; omega⟩
  have e2 : (0 < area (pt P v) (pt P z) (pt P x)) = (sg P v x z < 0) := by
    have := sg_sw P v x z
    exact propext ⟨fun h => by have : 0 < sg P v z x := h; omega, fun h => by show 0 < sg P v z x; omega⟩
  simp only [e1, e2]
  rfl
/-- neighbours: nothing lies between -/
theorem btw_next {P : List (Int × Int)} (N : NoLn P) {v f x y z : Nat} (hv : v < P.length) (hf : f < P.length ∧ f ≠ v) (hx : x < P.length ∧ x ≠ v) (hy : y < P.length ∧ y ≠ v) (hz : z < P.length ∧ z ≠ v) (h : bef P v f x y) (k : bef P v f z x ∨ bef P v f y z) : btw (pt P v) (pt P x) (pt P y) (pt P z) = false := by
  have yf : y ≠ f := fun e => by
    subst e
    have := sg_self P v y
    unfold bef at h
    omega
  have zx : x ≠ z := fun e => by
    subst e
    rcases k with k | k
    · exact bef_ne k rfl
    · have s := sg_sw P v x y
      have t := sg_self P v f
      unfold bef at h k
      rcases h with ⟨a, b⟩ | h | h
      · subst a
        omega
      · omega
      · omega
  have zy : y ≠ z := fun e => by
    subst e
    rcases k with k | k
    · have s := sg_sw P v x y
      have t := sg_self P v f
      unfold bef at h k
      rcases h with ⟨a, b⟩ | h | h
      · subst a
        omega
      · omega
      · omega
    · exact bef_ne k rfl
  have n1 := sg_ne N hv hx hy (bef_ne h)
  have n2 := sg_ne N hv hx hz zx
  have n3 := sg_ne N hv hy hz zy
  have sx := side3 N hv hf hx
  have sy := side3 N hv hf hy
  have sz := side3 N hv hf hz
  have t := turnA (sg_plk P v f x y z) (by
    rcases sx with e | e | e
    · subst e
      exact .inl ⟨sg_self _ _ _, rfl, rfl⟩
    · exact .inr (.inl e)
    · exact .inr (.inr e)) (by
    rcases sz with e | e | e
    · subst e
      exact .inl ⟨sg_self _ _ _, sg_sw _ _ _ _, sg_sw _ _ _ _⟩
    · exact .inr (.inl e)
    · exact .inr (.inr e)) (by
    rcases sy with e | e | e
    · exact absurd e yf
    · exact .inl e
    · exact .inr e) n1 n2 n3 (by
    rcases h with ⟨e, _⟩ | h | h
    · subst e
      exact .inl (sg_self _ _ _)
    · exact .inr (.inl h)
    · exact .inr (.inr h)) (by
    rcases k with (⟨e, e2⟩ | k | k) | (⟨e, _⟩ | k | k)
    · subst e
      refine .inl (.inl ⟨sg_self _ _ _, ?_⟩)
      exact sg_ne N hv hf hx zx.symm
    · exact .inl (.inr (.inl k))
    · exact .inl (.inr (.inr ⟨k.1, by rw [sg_sw] at *; omega⟩))
    · exact absurd e yf
    · exact .inr (.inl k)
    · exact .inr (.inr k))
  rw [btw_sg]
  by_cases c : 0 < sg P v x y
  · rw [if_pos c, Bool.and_eq_false_iff, decide_eq_false_iff_not, decide_eq_false_iff_not]
    have := t.1 c
    omega
  · rw [if_neg c, Bool.not_eq_false', Bool.and_eq_true, decide_eq_true_eq, decide_eq_true_eq]
    exact t.2 c
/-- from the last one to the first one -/
theorem btw_last {P : List (Int × Int)} (N : NoLn P) {v f y z : Nat} (hv : v < P.length) (hf : f < P.length ∧ f ≠ v) (hy : y < P.length ∧ y ≠ v) (hz : z < P.length ∧ z ≠ v) (h1 : bef P v f f z) (h2 : bef P v f z y) : btw (pt P v) (pt P y) (pt P f) (pt P z) = false := by
  have zf : z ≠ f := (bef_ne h1).symm
  have s1 := sg_sw P v f y
  have s2 := sg_sw P v z y
  rw [btw_sg]
  unfold bef at h2
  by_cases c : 0 < sg P v y f
  · rw [if_pos c, Bool.and_eq_false_iff, decide_eq_false_iff_not, decide_eq_false_iff_not]
    omega
  · rw [if_neg c, Bool.not_eq_false', Bool.and_eq_true, decide_eq_true_eq, decide_eq_true_eq]
    have := side3 N hv hf hy
    have t := sg_self P v f
    rcases this with e | e | e
    · subst e
      omega
    · omega
    · omega
end K07
namespace K07
open PySem PySem.Spec PyProof.Rows L2 Evl EB PySem.W
theorem noln_of {P : List (Int × Int)} (h : onLine P = none) (hl : P.length ≤ 10) : NoLn P := any_of (asc_of h hl)
theorem rg_nat (n : Nat) : (rg 0 n).map PyData.int = (List.range n).map nI := by
  unfold rg
  rw [List.map_map]
  exact List.map_congr_left fun i _ => by show PyData.int (0 + (i : Int)) = _; rw [Int.zero_add]; rfl
theorem nI_int (l : List Nat) : (l.map fun i : Nat => (i : Int)).map PyData.int = l.map nI := by
  rw [List.map_map]
  rfl
theorem ok_nI {n : Nat} (l : List Nat) : ∀ d ∈ l.map nI, Ok d n := fun d hd => by
  obtain ⟨x, _, rfl⟩ := List.mem_map.mp hd
  exact ok_int
theorem ok_leftT (P : List (Int × Int)) (u v : Int) : Ok (leftT P u v) 2 := ok4 (n := 1) (ok_str (by decide +kernel)) (ok_str (by decide +kernel)) (ok_tup (n := 0) (ok_nI _)) ok_bl
theorem ok_roundT (P : List (Int × Int)) (v : Nat) : Ok (roundT P v) 2 := ok4 (n := 1) (ok_str (by decide +kernel)) (ok_str (by decide +kernel)) (ok_tup (n := 0) (ok_nI _)) ok_bl
theorem bad2_val {n : Nat} {u v : Int} {e : Er} (h : badNos n [u, v] = some e) : ∃ i, e.val = .int i := by
  rw [bad2] at h
  unfold noO at h
  revert h
  cases isNo u n <;> cases isNo v n <;> by_cases z : u = v <;> simp [z] <;> (intro hb; subst hb; exact ⟨_, rfl⟩)
theorem ok_leftO (P : List (Int × Int)) (u v : Int) : Ok (leftO P u v) 2 := by
  unfold leftO
  cases h : badNos P.length [u, v] with
  | none => exact ok_leftT P u v
  | some e =>
    obtain ⟨i, hi⟩ := bad2_val h
    exact ok_raised (n := 1) (by rw [hi]; exact ok_int)
theorem leftO_ne {P : List (Int × Int)} {a b : Nat} (ha : a < P.length) (hb : b < P.length) (h : a ≠ b) : leftO P a b = leftT P a b := by
  unfold leftO
  rw [badNos_two ⟨by omega, by omega⟩ ⟨by omega, by omega⟩ (by omega)]
  rfl
/-- the points on the left, those on the right and the two make up all -/
theorem lefts_perm {P : List (Int × Int)} (N : NoLn P) {a b : Nat} (ha : a < P.length) (hb : b < P.length) (h : a ≠ b) : (List.range P.length).Perm (leftN P a b ++ leftN P b a ++ [a, b]) := by
  have op : ∀ c : Nat, area (pt P b) (pt P a) (pt P c) = -area (pt P a) (pt P b) (pt P c) := fun c => area_sw _ _ _
  have nd : (leftN P a b ++ leftN P b a ++ [a, b]).Nodup := by
    refine List.nodup_append.mpr ⟨List.nodup_append.mpr ⟨leftN_nd _ _ _, leftN_nd _ _ _, fun x hx y hy z => ?_⟩, List.nodup_cons.mpr ⟨by simpa using h, List.nodup_cons.mpr ⟨by simp, List.nodup_nil⟩⟩, fun x hx y hy z => ?_⟩
    · subst z
      have h1 := of_decide_eq_true (List.mem_filter.mp hx).2
      have h2 := of_decide_eq_true (List.mem_filter.mp hy).2
      rw [op] at h2
      omega
    · subst z
      rcases List.mem_append.mp hx with k | k
      · have := leftN_mem k
        rcases List.mem_cons.mp hy with rfl | hy
        · exact this.2.1 rfl
        · exact this.2.2 (List.mem_singleton.mp hy)
      · have := leftN_mem k
        rcases List.mem_cons.mp hy with rfl | hy
        · exact this.2.2 rfl
        · exact this.2.1 (List.mem_singleton.mp hy)
  refine (List.perm_ext_iff_of_nodup List.nodup_range nd).mpr fun c => ?_
  rw [List.mem_range, List.mem_append, List.mem_append, List.mem_cons, List.mem_singleton]
  refine ⟨fun hc => ?_, fun k => ?_⟩
  · by_cases e1 : c = a
    · exact .inr (.inl e1)
    · by_cases e2 : c = b
      · exact .inr (.inr e2)
      · have ne := N a b c ha hb hc h e1 e2
        rcases Int.lt_or_gt_of_ne ne with z | z
        · exact .inl (.inr (List.mem_filter.mpr ⟨List.mem_range.mpr hc, decide_eq_true (by rw [op]; omega)⟩))
        · exact .inl (.inl (List.mem_filter.mpr ⟨List.mem_range.mpr hc, decide_eq_true z⟩))
  · rcases k with (k | k) | k | k
    · exact (leftN_mem k).1
    · exact (leftN_mem k).1
    · omega
    · omega
theorem range_pw (n : Nat) : ((List.range n).map fun i : Nat => (i : Int)).Pairwise (· ≤ ·) := List.pairwise_map.mpr (List.pairwise_lt_range.imp fun h => by omega)
def args__law_lefts_hold {K : PySem.W.Frag} {mg : Str → Option Value} (T : Tx K mg) : List (Int × Int) → List PV := fun P => [ob1 K T.a_Floor "points" (.tuple (P.map pD)), dv K (.list (P.map pD))]
def dom__law_lefts_hold : List (Int × Int) → Prop := fun P => 3 ≤ P.length ∧ P.length ≤ 10 ∧ (∀ p ∈ P, near p) ∧ onLine P = none
def out__law_lefts_hold {K : PySem.W.Frag} {mg : Str → Option Value} (T : Tx K mg) : List (Int × Int) → Out := fun _ => .ok (dv K (.bool true))
theorem ji_nats [LT] {K : PySem.W.Frag} {M : EC → Addr} {W : WX} {ps : Kn} {te : TE} {n : Nat} (h : JD K M W te ps (.int (n : Nat))) (hn : n ≤ 1000) : JI K M W (iRng1 (tCons te tNil)) ps ((List.range n).map nI) := by
  have := ji_upto (K := K) (M := M) (W := W) h (by omega)
  rw [rg_nat] at this
  exact this
theorem je_leftO [LT] {K : PySem.W.Frag} {mg : Str → Option Value} (T : Tx K mg) {W : WX} {ps : Kn} {tp t1 t2 : TE} {P : List (Int × Int)} {a b : Int} (h0 : JD K T.M W tp ps (.list (P.map pD))) (h1 : JD K T.M W t1 ps (.int a)) (h2 : JD K T.M W t2 ps (.int b)) (hl : P.length ≤ 10) (hn : ∀ p ∈ P, near p) : JD K T.M W (tCallS (Prm K T.M (args__law_left_due T) dom__law_left_due (out__law_left_due T)) (WE W) (tCons tp (tCons t1 (tCons t2 tNil)))) ps (leftO P a b) := je_call (args := args__law_left_due T) (dom := dom__law_left_due) (out := out__law_left_due T) (P, a, b) (ja_cons h0 (ja_cons h1 (ja_cons h2 ja_nil))) ⟨hl, hn⟩
theorem je_told [LT] {K : PySem.W.Frag} {mg : Str → Option Value} (T : Tx K mg) {W : WX} {ps : Kn} {tn tf t1 t2 : TE} {P : List (Int × Int)} {b : Bool} {u v : Int} (h0 : JD K T.M W tn ps (.str (nmT b))) (hf : JV K T.M W tf ps (ob1 K T.a_Floor "points" (.tuple (P.map pD)))) (h1 : JD K T.M W t1 ps (.int u)) (h2 : JD K T.M W t2 ps (.int v)) (h3 : 3 ≤ P.length) (hl : P.length ≤ 10) (hn : ∀ p ∈ P, near p) : JD K T.M W (tCallS (Prm K T.M (args__law_told T) dom__law_told (out__law_told T)) (WE W) (tCons tn (tCons tf (tCons t1 (tCons t2 tNil))))) ps (toldO b P u v) := je_call (args := args__law_told T) (dom := dom__law_told) (out := out__law_told T) (b, P, u, v) (ja_cons h0 (ja_cons hf (ja_cons h1 (ja_cons h2 ja_nil)))) ⟨h3, hl, hn⟩
theorem ok__law_lefts_hold {P : Program} {w : World} {K : PySem.W.Frag} {mg : Str → Option Value} {base : Heap} (T : Tx K mg) [LT] (lk : LKs T base) : FnOk P w K mg base (L2N.CX P w) 12 T.a__law_lefts_hold T.fd__law_lefts_hold ["floor", "points"] (Prm K T.M (args__law_lefts_hold T) dom__law_lefts_hold (out__law_lefts_hold T)) := by
  refine T.F__law_lefts_hold.okXN sc__law_lefts_hold (fun vs H Q E h => by obtain ⟨a, F, _, al, _⟩ := h; exact al.length) (fun cdv A outer s H vs Q E hr h => ?_)
  have tk : L2N.Takes (cxOf (L2N.CX P w) P w K mg base N__law_lefts_hold "_law_lefts_hold" (defScope s__law_lefts_hold) T.a__law_lefts_hold cdv A outer s H E) (fun cls d _ H => E cls d H) := L2N.takes_of rfl rfl rfl rfl
  obtain ⟨a, F, fh, al, hd, th⟩ := h
  refine ⟨_, (pss_cons (ps_for (passes_of rfl) rfl (pi_range1 (by rfl) T.z_range (pa_cons (pe_callB call_len_seq (by rfl) T.z_len PySem.boot_len (pa_cons (pv 1) pa_nil)) pa_nil)) (pg_name (i := 2) sc__law_lefts_hold.nd rfl (by first | exact Or.inl rfl | exact Or.inr rfl)) (pss_one (ps_for (passes_of rfl) rfl (pi_range1 (by rfl) T.z_range (pa_cons (pe_callB call_len_seq (by rfl) T.z_len PySem.boot_len (pa_cons (pv 1) pa_nil)) pa_nil)) (pg_name (i := 3) sc__law_lefts_hold.nd rfl (by first | exact Or.inl rfl | exact Or.inr rfl)) (pss_cons (ps_set (i := 4) sc__law_lefts_hold.nd rfl (by first | exact Or.inl rfl | exact Or.inr rfl) (pe_callS (ok__law_left_due T) (hr.mono (by decide)) (by rfl) T.g__law_left_due T.F__law_left_due.kp (b__law_left_due T) (fun σ => L2N.passAt tk σ) (pa_cons (pv 1) (pa_cons (pv 2) (pa_cons (pv 3) pa_nil)))))
      (pss_cons (ps_for (passes_of rfl) rfl (pi_range1 (by rfl) T.z_range (pa_cons pe_int pa_nil)) (pg_name (i := 5) sc__law_lefts_hold.nd rfl (by first | exact Or.inl rfl | exact Or.inr rfl)) (pss_one (ps_if (pt_cmpR (op_neD hr.units) (pe_callS (ok__law_told T lk) (hr.mono (by decide)) (by rfl) T.g__law_told T.F__law_told.kp (b__law_told T) (fun σ => L2N.passAt tk σ) (pa_cons pe_str (pa_cons (pv 0) (pa_cons (pv 2) (pa_cons (pv 3) pa_nil))))) (pv 4) (nomark _)) (pss_one (ps_ret pe_bl)) pss_nil)))
      (pss_one (ps_if (pt_cmpR op_lt (pv 2) (pv 3) (nomark _)) (pss_cons (ps_set (i := 6) sc__law_lefts_hold.nd rfl (by first | exact Or.inl rfl | exact Or.inr rfl) (pe_callS (ok__law_left_due T) (hr.mono (by decide)) (by rfl) T.g__law_left_due T.F__law_left_due.kp (b__law_left_due T) (fun σ => L2N.passAt tk σ) (pa_cons (pv 1) (pa_cons (pv 3) (pa_cons (pv 2) pa_nil)))))
      (pss_cons (ps_set (i := 7) sc__law_lefts_hold.nd rfl (by first | exact Or.inl rfl | exact Or.inr rfl) (pe_callB cr_sortedI (by rfl) T.z_sorted (by decide +kernel) (pa_cons (pe_op op_cat (pe_op op_cat (pe_callTy call_list_of (by rfl) T.z_list PyProof.Rows.boot_list (pa_cons (pe_ix ix_tup (pv 4) pe_int (fun _ _ => rfl)) pa_nil)) (pe_callTy call_list_of (by rfl) T.z_list PyProof.Rows.boot_list (pa_cons (pe_ix ix_tup (pv 6) pe_int (fun _ _ => rfl)) pa_nil))) (pe_lst (pa_cons (pv 2) (pa_cons (pv 3) pa_nil)))) pa_nil)))
      (pss_one (ps_if (pt_cmpR (op_neD hr.units) (pv 7) (pe_listRg rfl (by rfl) T.z_list (prg_1 (by rfl) T.z_range (pe_callB call_len_seq (by rfl) T.z_len PySem.boot_len (pa_cons (pv 1) pa_nil)))) (nomark _)) (pss_one (ps_ret pe_bl)) pss_nil)))) pss_nil)))))))
      (pss_one (ps_ret pe_bl))), ?_⟩
  obtain ⟨h3, hl, hn, hol⟩ := hd
  have N := noln_of hol hl
  let W0 : WX := fun cls d _ H => E cls d H
  let ob : PV := ob1 K T.a_Floor "points" (.tuple (a.map pD))
  let pl : PV := dv K (.list (a.map pD))
  let e0 : Kn := [some ob, some pl, none, none, none, none, none, none]
  have ho : out__law_lefts_hold T a = .ok (dv K (.bool true)) := rfl
  rw [ho] at th
  have lenJ : ∀ ps : Kn, ps[1]? = some (some pl) → JD K T.M W0 (tCB (rLenS K) (tCons (tVar 1) tNil)) ps (.int (a.length : Nat)) := fun ps h => je_is (je_lenL (je_var (i := 1) h)) (by rw [List.length_map])
  refine fin_ok (r := .rt (dv K (.bool true))) (js_seq (qs := e0) (js_allL (ps := e0) (vs := [2]) (List.range a.length) nI (ji_nats (lenJ _ rfl) (by omega)) fun x hx => ⟨_, jg_name, js_weak (js_allL (ps := e0.set 2 (some (dv K (nI x)))) (vs := [3]) (List.range a.length) nI (ji_nats (lenJ _ rfl) (by omega)) fun y hy => ⟨_, jg_name, ?_⟩) ⟨.inr rfl, .inr rfl, .inl rfl, .inr rfl, .inr rfl, .inr rfl, .inr rfl, .inr rfl, trivial⟩⟩) (js_ret je_bl)) (by exact rfl) fh al th
  have hx := List.mem_range.mp hx
  have hy := List.mem_range.mp hy
  let p2 : Kn := [some ob, some pl, some (dv K (nI x)), some (dv K (nI y)), some (dv K (leftO a x y)), none, none, none]
  refine js_weak (qs := p2) (js_seq (qs := p2) (js_set (i := 4) (je_leftO T (je_var (i := 1) rfl) (je_var (i := 2) rfl) (je_var (i := 3) rfl) hl hn)) (js_seq (qs := p2) (js_allL (ps := p2) (vs := [5]) (List.range 2) nI (ji_nats (je_int (i := ((2 : Nat) : Int))) (by omega)) fun k hk => ⟨_, jg_name (i := 5), js_weak (js_if (b := false) (jt_test (je_neR (je_told T (b := true) (u := x) (v := y) je_str (je_var (i := 0) rfl) (je_var (i := 2) rfl) (je_var (i := 3) rfl) h3 hl hn) (je_var (i := 4) rfl) (ok_leftO a x y))) (fun z => Bool.noConfusion z) (fun _ => js_next)) ⟨.inr rfl, .inr rfl, .inr rfl, .inr rfl, .inr rfl, .inl rfl, .inr rfl, .inr rfl, trivial⟩⟩) (js_if (b := decide ((x : Int) < y)) (jt_test (je_lt (je_var (i := 2) rfl) (je_var (i := 3) rfl))) (fun hb => ?_) (fun _ => js_next)))) ⟨.inr rfl, .inr rfl, .inr rfl, .inl rfl, .inl rfl, .inr rfl, .inr rfl, .inr rfl, trivial⟩
  have hlt := of_decide_eq_true hb
  have ne : x ≠ y := by omega
  let p3 : Kn := [some ob, some pl, some (dv K (nI x)), some (dv K (nI y)), some (dv K (leftO a x y)), none, some (dv K (leftO a y x)), none]
  let p4 : Kn := [some ob, some pl, some (dv K (nI x)), some (dv K (nI y)), some (dv K (leftO a x y)), none, some (dv K (leftO a y x)), some (dv K (.list ((List.range a.length).map nI)))]
  have l1 : JD K T.M W0 (tOp (rIxT K) (tVar 4) (tC (.int 2))) p3 (.tuple ((leftN a x y).map nI)) := je_ixT (ds := [.str "list", .str "", .tuple ((leftN a x y).map nI), .bool true]) (je_is (je_var (i := 4) rfl) (leftO_ne hx hy ne)) (je_int (i := ((2 : Nat) : Int))) (atI_nat rfl)
  have l2 : JD K T.M W0 (tOp (rIxT K) (tVar 6) (tC (.int 2))) p3 (.tuple ((leftN a y x).map nI)) := je_ixT (ds := [.str "list", .str "", .tuple ((leftN a y x).map nI), .bool true]) (je_is (je_var (i := 6) rfl) (leftO_ne hy hx (fun z => ne z.symm))) (je_int (i := ((2 : Nat) : Int))) (atI_nat rfl)
  have b1 := leftN_len a x y
  have b2 := leftN_len a y x
  have cat := je_lvd (M := T.M) (W := W0) (je_catV (je_catV (jn_lv (jn_listT l1)) (jn_lv (jn_listT l2)) (by simp only [List.length_map]; omega)) (je_lstV (ds := [nI x, nI y]) (ja_cons (je_var (i := 2) rfl) (ja_cons (je_var (i := 3) rfl) ja_nil))) (by simp only [List.length_map, List.length_append, List.length_cons, List.length_nil]; omega))
  have so := jn_told (M := T.M) (W := W0) (jn_sortI (ns := (leftN a x y ++ leftN a y x ++ [x, y]).map fun i : Nat => (i : Int)) (ms := (List.range a.length).map fun i : Nat => (i : Int)) (je_is cat (by rw [nI_int, List.map_append, List.map_append]; rfl)) ((lefts_perm N hx hy ne).map _) (range_pw _))
  refine js_weak (qs := p4) (js_seq (qs := p3) (js_set (i := 6) (je_leftO T (je_var (i := 1) rfl) (je_var (i := 3) rfl) (je_var (i := 2) rfl) hl hn)) (js_seq (qs := p4) (js_set (i := 7) (je_is so (by rw [nI_int]))) (js_if (b := false) (jt_test (je_neR (d := .list ((List.range a.length).map nI)) (je_var (i := 7) rfl) (je_is (je_lvd (je_listRg1 (n := (a.length : Int)) (lenJ _ rfl) ⟨by omega, by omega⟩)) (by rw [Int.toNat_natCast, rg_nat])) (ok_lst (n := 0) (ok_nI _)))) (fun z => Bool.noConfusion z) (fun _ => js_next)))) ⟨.inr rfl, .inr rfl, .inr rfl, .inr rfl, .inr rfl, .inr rfl, .inl rfl, .inl rfl, trivial⟩
end K07
namespace K07
open PySem PySem.Spec PyProof.Rows L2 Evl EB PySem.W
theorem eqv_pD (p q : Int × Int) : PyData.eqv (pD p) (pD q) = decide (p = q) := by
  obtain ⟨a, b⟩ := p
  obtain ⟨c, d⟩ := q
  unfold pD
  by_cases h : a = c
  · by_cases h2 : b = d
    · subst h
      subst h2
      rw [decide_eq_true rfl]
      exact SeqAt.eqv_refl _ (ok_pD (n := 0) (a, b)).c
    · simp [PyData.eqv, PyData.eqvAll, h, h2]
  · simp [PyData.eqv, PyData.eqvAll, h]
theorem sh_pD (p : Int × Int) : SeqAt.shaped (pD p) = true := (ok_pD (n := 0) p).sh (by decide)
theorem roundO_ok {P : List (Int × Int)} {v : Nat} (h : v < P.length) : roundO P v = roundT P v := by
  unfold roundO
  have : isNo (v : Int) P.length = true := by unfold isNo; simp; omega
  rw [this]
  rfl
theorem isNo_nat {n v : Nat} (h : v < n) : isNo (v : Int) n = true := by unfold isNo; simp; omega
theorem oth_memI {n v : Nat} {x : Int} : x ∈ oth n (v : Int) ↔ 0 ≤ x ∧ x < n ∧ x ≠ v := ⟨fun h => oth_mem h, fun h => by
  unfold oth
  exact List.mem_filter.mpr ⟨mem_rg h.1 (by omega), by simp; exact h.2.2⟩⟩
theorem oth_pw (n : Nat) (v : Int) : (oth n v).Pairwise (· < ·) := by
  unfold oth rg
  exact (List.pairwise_map.mpr (List.pairwise_lt_range.imp fun h => by omega)).filter _
theorem ring_perm {P : List (Int × Int)} (N : NoLn P) (h3 : 3 ≤ P.length) {v : Nat} (hv : v < P.length) : ((ring P v).map fun i : Nat => (i : Int)).Perm (oth P.length (v : Int)) := by
  have nd : ((ring P v).map fun i : Nat => (i : Int)).Nodup := List.nodup_iff_pairwise_ne.mpr (List.pairwise_map.mpr ((List.nodup_iff_pairwise_ne.mp (ring_nd N h3 hv)).imp fun h => by omega))
  refine (List.perm_ext_iff_of_nodup nd (List.nodup_iff_pairwise_ne.mpr ((oth_pw _ _).imp fun h => by omega))).mpr fun x => ?_
  rw [oth_memI, List.mem_map]
  refine ⟨fun ⟨y, hy, e⟩ => ?_, fun h => ?_⟩
  · have := (ring_mem N h3 hv).mp hy
    omega
  · exact ⟨x.toNat, (ring_mem N h3 hv).mpr ⟨by omega, by omega⟩, by omega⟩
/-- what the law asks of two neighbours and a third -/
theorem ring_good {P : List (Int × Int)} (N : NoLn P) (h3 : 3 ≤ P.length) {v k j : Nat} (hv : v < P.length) (hk : k < (ring P v).length) (hj : j < (ring P v).length) (hk2 : (k + 1) % (ring P v).length < (ring P v).length) :
    ((!decide (pt P ((ring P v)[j] : Nat) = pt P ((ring P v)[k] : Nat))) && ((!decide (pt P ((ring P v)[j] : Nat) = pt P ((ring P v)[(k + 1) % (ring P v).length] : Nat))) && btw (pt P v) (pt P ((ring P v)[k] : Nat)) (pt P ((ring P v)[(k + 1) % (ring P v).length] : Nat)) (pt P ((ring P v)[j] : Nat)))) = false := by
  have mem : ∀ i (h : i < (ring P v).length), (ring P v)[i] < P.length ∧ (ring P v)[i] ≠ v := fun i h => (ring_mem N h3 hv).mp (List.getElem_mem h)
  have pw := List.pairwise_iff_getElem.mp (ring_pw N h3 hv)
  have hf := fst_b h3 hv
  by_cases jk : j = k
  · subst jk
    simp
  by_cases jk2 : j = (k + 1) % (ring P v).length
  · subst jk2
    simp
  have key : btw (pt P v) (pt P ((ring P v)[k] : Nat)) (pt P ((ring P v)[(k + 1) % (ring P v).length] : Nat)) (pt P ((ring P v)[j] : Nat)) = false := by
    by_cases h : k + 1 < (ring P v).length
    · have e : (k + 1) % (ring P v).length = k + 1 := Nat.mod_eq_of_lt h
      simp only [e] at jk2 ⊢
      refine btw_next N hv hf (mem _ _) (mem _ _) (mem _ _) (pw k (k + 1) hk h (by omega)) ?_
      rcases Nat.lt_or_gt_of_ne jk with z | z
      · exact .inl (pw j k hj hk z)
      · exact .inr (pw (k + 1) j h hj (by omega))
    · have e : (k + 1) % (ring P v).length = 0 := by rw [show k + 1 = (ring P v).length by omega, Nat.mod_self]
      simp only [e] at jk2 ⊢
      have e0 : (ring P v)[0]'(by omega) = fstO v := rfl
      have b1 := pw 0 j (by omega) hj (by omega)
      rw [e0] at b1 ⊢
      exact btw_last N hv hf (mem _ _) (mem _ _) b1 (pw j k hj hk (by omega))
  rw [key]
  simp
def args__law_round_holds {K : PySem.W.Frag} {mg : Str → Option Value} (T : Tx K mg) : List (Int × Int) × Nat → List PV := fun a => [ob1 K T.a_Floor "points" (.tuple (a.1.map pD)), dv K (.list (a.1.map pD)), dv K (nI a.2)]
def dom__law_round_holds : List (Int × Int) × Nat → Prop := fun a => 3 ≤ a.1.length ∧ a.1.length ≤ 10 ∧ (∀ p ∈ a.1, near p) ∧ onLine a.1 = none ∧ a.2 < a.1.length
def out__law_round_holds {K : PySem.W.Frag} {mg : Str → Option Value} (T : Tx K mg) : List (Int × Int) × Nat → Out := fun _ => .ok (dv K (.bool true))
theorem ok__law_round_holds {P : Program} {w : World} {K : PySem.W.Frag} {mg : Str → Option Value} {base : Heap} (T : Tx K mg) [LT] (lk : LKs T base) : FnOk P w K mg base (L2N.CX P w) 12 T.a__law_round_holds T.fd__law_round_holds ["floor", "points", "number"] (Prm K T.M (args__law_round_holds T) dom__law_round_holds (out__law_round_holds T)) := by
  refine T.F__law_round_holds.okXN sc__law_round_holds (fun vs H Q E h => by obtain ⟨a, F, _, al, _⟩ := h; exact al.length) (fun cdv A outer s H vs Q E hr h => ?_)
  have tk : L2N.Takes (cxOf (L2N.CX P w) P w K mg base N__law_round_holds "_law_round_holds" (defScope s__law_round_holds) T.a__law_round_holds cdv A outer s H E) (fun cls d _ H => E cls d H) := L2N.takes_of rfl rfl rfl rfl
  obtain ⟨a, F, fh, al, hd, th⟩ := h
  refine ⟨_, (pss_cons (ps_setLc (i := 3) (own := [("k", 4)]) (g := (gName 4)) (tt := (tTest (tOp rNe (tVar 4) (tVar 2)))) (te := (tVar 4)) rfl sc__law_round_holds.nd rfl rfl (sw_true rfl rfl rfl (by decide +kernel)) (pi_range1 (by rfl) T.z_range (pa_cons (pe_callB call_len_seq (by rfl) T.z_len PySem.boot_len (pa_cons (pv 1) pa_nil)) pa_nil)) (blkOk_by (N := N__law_round_holds) (sc := defScope s__law_round_holds) (own := [("k", 4)]) (by decide +kernel)) (fun _ _ _ _ _ => (pg_name (i := 4) sc__law_round_holds.nd rfl (by first | exact Or.inl rfl | exact Or.inr rfl))) (fun _ _ _ _ _ => by exact pts_one (pt_cmpR op_ne (pv 4) (pv 2) (nomark _))) (fun _ _ _ _ _ => by exact (pv 4)))
      (pss_cons (ps_set (i := 5) sc__law_round_holds.nd rfl (by first | exact Or.inl rfl | exact Or.inr rfl) (pe_callS (ok__law_told T lk) (hr.mono (by decide)) (by rfl) T.g__law_told T.F__law_told.kp (b__law_told T) (fun σ => L2N.passAt tk σ) (pa_cons pe_str (pa_cons (pv 0) (pa_cons (pv 2) (pa_cons pe_int pa_nil))))))
      (pss_cons (ps_if (PW.pt (pw_or (pt_cmpR op_ne (pe_ix ix_tup (pv 5) pe_int (fun _ _ => rfl)) pe_str (nomark _)) (pw_or1 (pt_not (pt_val (pe_ix ix_tup (pv 5) pe_int (fun _ _ => rfl))))))) (pss_one (ps_ret pe_bl)) pss_nil)
      (pss_cons (ps_if (pt_cmpR (op_neD hr.units) (pe_callS (ok__law_told T lk) (hr.mono (by decide)) (by rfl) T.g__law_told T.F__law_told.kp (b__law_told T) (fun σ => L2N.passAt tk σ) (pa_cons pe_str (pa_cons (pv 0) (pa_cons (pv 2) (pa_cons pe_int pa_nil))))) (pv 5) (nomark _)) (pss_one (ps_ret pe_bl)) pss_nil)
      (pss_cons (ps_set (i := 6) sc__law_round_holds.nd rfl (by first | exact Or.inl rfl | exact Or.inr rfl) (pe_callTy call_list_of (by rfl) T.z_list PyProof.Rows.boot_list (pa_cons (pe_ix ix_tup (pv 5) pe_int (fun _ _ => rfl)) pa_nil)))
      (pss_cons (ps_if (PW.pt (pw_or (pt_cmpR (op_neD hr.units) (pe_callB cr_sortedI (by rfl) T.z_sorted (by decide +kernel) (pa_cons (pv 6) pa_nil)) (pv 3) (nomark _)) (pw_or1 (pt_cmpR op_ne (pe_ix ix_list (pv 6) pe_int (fun _ _ => rfl)) (pe_ix ix_list (pv 3) pe_int (fun _ _ => rfl)) (nomark _))))) (pss_one (ps_ret pe_bl)) pss_nil)
      (pss_cons (ps_set (i := 7) sc__law_round_holds.nd rfl (by first | exact Or.inl rfl | exact Or.inr rfl) (pe_ix ix_list (pv 1) (pv 2) (fun _ _ => rfl)))
      (pss_cons (ps_for (passes_of rfl) rfl (pi_range1 (by rfl) T.z_range (pa_cons (pe_callB call_len_seq (by rfl) T.z_len PySem.boot_len (pa_cons (pv 6) pa_nil)) pa_nil)) (pg_name (i := 4) sc__law_round_holds.nd rfl (by first | exact Or.inl rfl | exact Or.inr rfl)) (pss_cons (ps_set (i := 8) sc__law_round_holds.nd rfl (by first | exact Or.inl rfl | exact Or.inr rfl) (pe_ix ix_list (pv 1) (pe_ix ix_list (pv 6) (pv 4) (fun _ _ => rfl)) (fun _ _ => rfl)))
      (pss_cons (ps_set (i := 9) sc__law_round_holds.nd rfl (by first | exact Or.inl rfl | exact Or.inr rfl) (pe_ix ix_list (pv 1) (pe_ix ix_list (pv 6) (pe_op op_mod (pe_callTy call_int1 (by rfl) T.z_int PyProof.Rows.boot_int (pa_cons (pe_op op_add (pv 4) pe_int) pa_nil)) (pe_callB call_len_seq (by rfl) T.z_len PySem.boot_len (pa_cons (pv 6) pa_nil))) (fun _ _ => rfl)) (fun _ _ => rfl)))
      (pss_one (ps_for (passes_of rfl) rfl (pi_list (pv 6)) (pg_name (i := 10) sc__law_round_holds.nd rfl (by first | exact Or.inl rfl | exact Or.inr rfl)) (pss_cons (ps_set (i := 11) sc__law_round_holds.nd rfl (by first | exact Or.inl rfl | exact Or.inr rfl) (pe_ix ix_list (pv 1) (pv 10) (fun _ _ => rfl)))
      (pss_one (ps_if (PW.pt (pw_and (pt_cmpR (op_neD hr.units) (pv 11) (pv 8) (nomark _)) (pw_and (pt_cmpR (op_neD hr.units) (pv 11) (pv 9) (nomark _)) (pw_and1 (pt_val (pe_callS (ok__law_between T) (hr.mono (by decide)) (by rfl) T.g__law_between T.F__law_between.kp (b__law_between T) (fun σ => L2N.passAt tk σ) (pa_cons (pv 7) (pa_cons (pv 8) (pa_cons (pv 9) (pa_cons (pv 11) pa_nil)))))))))) (pss_one (ps_ret pe_bl)) pss_nil))))))))
      (pss_one (ps_ret pe_bl)))))))))), ?_⟩
  obtain ⟨P, v⟩ := a
  obtain ⟨h3, hl, hn, hol, hv⟩ := hd
  simp only at h3 hl hn hol hv
  have N := noln_of hol hl
  let W0 : WX := fun cls d _ H => E cls d H
  let ob : PV := ob1 K T.a_Floor "points" (.tuple (P.map pD))
  let pl : PV := dv K (.list (P.map pD))
  let ot : PV := dv K (.list ((oth P.length v).map .int))
  let an : PV := dv K (roundT P v)
  let od : PV := dv K (.list ((ring P v).map nI))
  have ho : out__law_round_holds T (P, v) = .ok (dv K (.bool true)) := rfl
  rw [ho] at th
  have rl : (ring P v).length ≤ 100 := by
    have a1 := leftN_len P v (fstO v : Nat)
    have a2 := leftN_len P (fstO v : Nat) v
    unfold ring
    simp only [List.length_cons, List.length_append, turnS_len]
    omega
  have r0 : 0 < (ring P v).length := by unfold ring; simp
  have lenJ : ∀ ps : Kn, ps[1]? = some (some pl) → JD K T.M W0 (tCB (rLenS K) (tCons (tVar 1) tNil)) ps (.int (P.length : Nat)) := fun ps h => je_is (je_lenL (je_var (i := 1) h)) (by rw [List.length_map])
  have toldJ : ∀ ps : Kn, ps[0]? = some (some ob) → ps[2]? = some (some (dv K (nI v))) → JD K T.M W0 (tCallS (Prm K T.M (args__law_told T) dom__law_told (out__law_told T)) (WE W0) (tCons (tC (.str "round")) (tCons (tVar 0) (tCons (tVar 2) (tCons (tC (.int 0)) tNil))))) ps (roundT P v) := fun ps h0 h2 => je_is (je_told T (b := false) (u := v) (v := 0) je_str (je_var (i := 0) h0) (je_var (i := 2) h2) je_int h3 hl hn) (roundO_ok hv)
  let p1 : Kn := [some ob, some pl, some (dv K (nI v)), some ot, none, none, none, none, none, none, none, none]
  let p2 : Kn := [some ob, some pl, some (dv K (nI v)), some ot, none, some an, none, none, none, none, none, none]
  let p3 : Kn := [some ob, some pl, some (dv K (nI v)), some ot, none, some an, some od, none, none, none, none, none]
  let p4 : Kn := [some ob, some pl, some (dv K (nI v)), some ot, none, some an, some od, some (dv K (pD (pt P v))), none, none, none, none]
  have aix : ∀ (ps : Kn) (i : Nat) (d : PyData), ps[5]? = some (some an) → [PyData.str "list", .str "", .tuple ((ring P v).map nI), .bool true][i]? = some d → JD K T.M W0 (tOp (rIxT K) (tVar 5) (tC (.int (i : Nat)))) ps d := fun ps i d h hi => je_ixT (ds := [.str "list", .str "", .tuple ((ring P v).map nI), .bool true]) (je_var (i := 5) h) je_int (atI_nat hi)
  have s1 : JS K T.M W0 _ (entry N__law_round_holds (args__law_round_holds T (P, v))) (.nx p1) := js_set (i := 3) (P := ot) (je_lc (vs := [4]) (g := gName 4) (W' := fun _ _ _ _ => False) (rg 0 P.length) .int (fun x => !decide (x = (v : Int))) .int (ji_upto (lenJ _ rfl) (by omega)) (by rw [rg_length]; omega) fun x _ => ⟨_, jg_name (i := 4), jt_test (je_neI (je_var (i := 4) rfl) (je_var (i := 2) rfl)), fun _ => je_var (i := 4) rfl⟩)
  have so := jn_told (M := T.M) (W := W0) (jn_sortI (ns := (ring P v).map fun i : Nat => (i : Int)) (ms := oth P.length (v : Int)) (je_is (je_var (K := K) (M := T.M) (W := W0) (ps := p3) (i := 6) rfl) (by rw [nI_int])) (ring_perm N h3 hv).symm ((oth_pw _ _).imp fun h => by omega))
  have fs : JD K T.M W0 (tOp (rIxL K) (tVar 6) (tC (.int 0))) p3 (.int ((fstO v : Nat) : Int)) := je_ixL (ds := (ring P v).map nI) (je_var (i := 6) rfl) (je_int (i := ((0 : Nat) : Int))) (atI_nat rfl)
  have ft : JD K T.M W0 (tOp (rIxL K) (tVar 3) (tC (.int 0))) p3 (.int ((fstO v : Nat) : Int)) := je_ixL (ds := (oth P.length v).map .int) (je_var (i := 3) rfl) (je_int (i := ((0 : Nat) : Int))) (atI_nat (by rw [List.getElem?_map, oth_fst (by omega)]; rfl))
  refine fin_ok (r := .rt (dv K (.bool true))) (js_seq (qs := p1) s1
    (js_seq (qs := p2) (js_set (i := 5) (toldJ _ rfl rfl))
    (js_seq (qs := p2) (js_if (b := false) (jt_is (jt_or (jt_test (je_neS (aix p2 0 _ rfl rfl) je_str)) (fun _ => jt_not (jt_B (b := true) (aix p2 3 _ rfl rfl)))) (by decide)) (fun z => Bool.noConfusion z) (fun _ => js_next))
    (js_seq (qs := p2) (js_if (b := false) (jt_test (je_neR (toldJ _ rfl rfl) (je_var (i := 5) rfl) (ok_roundT P v))) (fun z => Bool.noConfusion z) (fun _ => js_next))
    (js_seq (qs := p3) (js_set (i := 6) (je_listT (aix p2 2 _ rfl rfl)))
    (js_seq (qs := p3) (js_if (b := false) (jt_is (jt_or (jt_test (je_neR so (je_var (i := 3) rfl) (ok_lst (n := 0) (ok_ints _)))) (fun _ => jt_test (je_neI fs ft))) (by simp)) (fun z => Bool.noConfusion z) (fun _ => js_next))
    (js_seq (qs := p4) (js_set (i := 7) (je_ixL (je_var (i := 1) rfl) (je_var (i := 2) rfl) (at_pt (isNo_nat hv))))
    (js_seq (qs := p4) (js_allL (ps := p4) (vs := [4]) (List.range (ring P v).length) nI (ji_nats (je_is (je_lenL (ds := (ring P v).map nI) (je_var (i := 6) rfl)) (by rw [List.length_map])) (by omega)) fun k hk => ⟨_, jg_name (i := 4), ?_⟩)
      (js_ret je_bl))))))))) (by exact rfl) fh al th
  have hk := List.mem_range.mp hk
  have hk2 : (k + 1) % (ring P v).length < (ring P v).length := Nat.mod_lt _ r0
  have mem : ∀ i (h : i < (ring P v).length), (ring P v)[i] < P.length := fun i h => ((ring_mem N h3 hv).mp (List.getElem_mem h)).1
  have ixR : ∀ (ps : Kn) (te : TE) (i : Nat) (h : i < (ring P v).length), ps[6]? = some (some od) → JD K T.M W0 te ps (.int (i : Nat)) → JD K T.M W0 (tOp (rIxL K) (tVar 6) te) ps (.int (((ring P v)[i] : Nat) : Int)) := fun ps te i h h6 ht => je_ixL (ds := (ring P v).map nI) (je_var (i := 6) h6) ht (atI_nat (by rw [List.getElem?_map, List.getElem?_eq_getElem h]; rfl))
  have ixP : ∀ (ps : Kn) (te : TE) (i : Nat), i < P.length → ps[1]? = some (some pl) → JD K T.M W0 te ps (.int (i : Nat)) → JD K T.M W0 (tOp (rIxL K) (tVar 1) te) ps (pD (pt P i)) := fun ps te i h h1 ht => je_ixL (ds := P.map pD) (je_var (i := 1) h1) ht (at_pt (isNo_nat h))
  let X := pt P ((ring P v)[k] : Nat)
  let Y := pt P ((ring P v)[(k + 1) % (ring P v).length] : Nat)
  let q1 : Kn := [some ob, some pl, some (dv K (nI v)), some ot, some (dv K (nI k)), some an, some od, some (dv K (pD (pt P v))), none, none, none, none]
  let q2 : Kn := [some ob, some pl, some (dv K (nI v)), some ot, some (dv K (nI k)), some an, some od, some (dv K (pD (pt P v))), some (dv K (pD X)), none, none, none]
  let q3 : Kn := [some ob, some pl, some (dv K (nI v)), some ot, some (dv K (nI k)), some an, some od, some (dv K (pD (pt P v))), some (dv K (pD X)), some (dv K (pD Y)), none, none]
  refine js_weak (qs := q3) (js_seq (qs := q2) (js_set (i := 8) (ixP q1 _ _ (mem k hk) rfl (ixR q1 _ k hk rfl (je_var (i := 4) rfl))))
    (js_seq (qs := q3) (js_set (i := 9) (ixP q2 _ _ (mem _ hk2) rfl (ixR q2 _ _ hk2 rfl (je_is (je_mod (je_intI (je_add (je_var (i := 4) rfl) je_int)) (je_lenL (ds := (ring P v).map nI) (je_var (i := 6) rfl)) (by rw [List.length_map]; omega)) (by rw [List.length_map]; show PyData.int _ = PyData.int _; congr 1)))))
    (js_allL (ps := q3) (vs := [10]) (List.range (ring P v).length) (fun j => nI ((ring P v).getD j 0)) (ji_is (ji_list (je_var (i := 6) rfl)) ?lst) fun j hj => ⟨_, jg_name (i := 10), ?_⟩))) ⟨.inr rfl, .inr rfl, .inr rfl, .inr rfl, .inl rfl, .inr rfl, .inr rfl, .inr rfl, .inl rfl, .inl rfl, .inr rfl, .inr rfl, trivial⟩
  case lst =>
    apply List.ext_getElem?
    intro i
    rw [List.getElem?_map, List.getElem?_map]
    by_cases h : i < (ring P v).length
    · rw [List.getElem?_eq_getElem h, List.getElem?_range h]
      simp [List.getD_eq_getElem?_getD, List.getElem?_eq_getElem h]
    · rw [List.getElem?_eq_none (by omega), List.getElem?_eq_none (by rw [List.length_range]; omega)]
      rfl
  have hj := List.mem_range.mp hj
  have ej : (ring P v).getD j 0 = (ring P v)[j] := by simp [List.getD_eq_getElem?_getD, List.getElem?_eq_getElem hj]
  rw [ej]
  let Z := pt P ((ring P v)[j] : Nat)
  let q5 : Kn := [some ob, some pl, some (dv K (nI v)), some ot, some (dv K (nI k)), some an, some od, some (dv K (pD (pt P v))), some (dv K (pD X)), some (dv K (pD Y)), some (dv K (nI (ring P v)[j])), some (dv K (pD Z))]
  have np := near_pt hn
  refine js_weak (qs := q5) (js_seq (qs := q5) (js_set (i := 11) (ixP _ _ _ (mem j hj) rfl (je_var (i := 10) rfl))) (js_if (b := false) (jt_is (jt_and (jt_test (je_is (je_neD (je_var (i := 11) rfl) (je_var (i := 8) rfl) (sh_pD _) (sh_pD _)) (by rw [eqv_pD]))) fun _ => jt_and (jt_test (je_is (je_neD (je_var (i := 11) rfl) (je_var (i := 9) rfl) (sh_pD _) (sh_pD _)) (by rw [eqv_pD]))) fun _ => jt_B (je_call (args := args__law_between T) (dom := dom__law_between) (out := out__law_between T) (pt P v, X, Y, Z) (ja_cons (je_var (i := 7) rfl) (ja_cons (je_var (i := 8) rfl) (ja_cons (je_var (i := 9) rfl) (ja_cons (je_var (i := 11) rfl) ja_nil)))) ⟨np _, np _, np _, np _⟩)) (ring_good N h3 hv hk hj hk2)) (fun z => Bool.noConfusion z) (fun _ => js_next))) ⟨.inr rfl, .inr rfl, .inr rfl, .inr rfl, .inr rfl, .inr rfl, .inr rfl, .inr rfl, .inr rfl, .inr rfl, .inl rfl, .inl rfl, trivial⟩
end K07
namespace K07
open PySem PySem.Spec PyProof.Rows L2 Evl EB PySem.W
/-! ### the law -/
def sp_law [LT] (K : PySem.W.Frag) : Sp := fun vs H Q _ => ∃ (a : Addr) (ns : List Int), vs = [.ref a] ∧ LamX.Tabs LT.tabs H ∧ SqL K H a (ns.map V.int) ∧ ns.length ≤ 63 ∧ ∀ H', Q (.bl true) H'
theorem sp_start [LT] {K : PySem.W.Frag} {H : Hp} {a : Addr} {ns : List Int} (hl : ns.length ≤ 63) (hT : LamX.Tabs LT.tabs H) (hS : SqL K H a (ns.map V.int)) : sp_law K [.ref a] H (fun v _ => v = .bl true) fun _ _ _ => False := ⟨a, ns, rfl, hT, hS, hl, fun _ => rfl⟩
def mAt (menu : List Int) (i : Int) : Int := menu.getD i.toNat 0
theorem at_mod {menu : List Int} (h : 0 < menu.length) (c : Int) : atI (menu.map PyData.int) (c % menu.length) = some (.int (mAt menu (c % menu.length))) := by
  have h1 : 0 ≤ c % (menu.length : Int) := Int.emod_nonneg _ (by omega)
  have h2 : c % (menu.length : Int) < menu.length := Int.emod_lt_of_pos _ (by omega)
  generalize c % (menu.length : Int) = i at h1 h2
  obtain ⟨j, rfl⟩ := Int.eq_ofNat_of_zero_le h1
  refine atI_nat ?_
  have hj : j < menu.length := by omega
  unfold mAt
  rw [List.getElem?_map, List.getElem?_eq_getElem hj]
  simp [List.getD_eq_getElem?_getD, List.getElem?_eq_getElem hj]
def sizesC (c : Int) : List Int := [5, 4, 6, 7, 3, 5, 6, 8 + c / 40 % 3]
def mny (c : Int) : Nat := (mAt (sizesC c) (c % 8)).toNat
theorem mny_b (c : Int) : (3 ≤ mny c ∧ mny c ≤ 10) ∧ (mny c : Int) = mAt (sizesC c) (c % 8) := by
  have h1 : 0 ≤ c % 8 := by omega
  have h2 : c % 8 < 8 := by omega
  have h3 : 0 ≤ c / 40 % 3 ∧ c / 40 % 3 < 3 := by omega
  have key : 3 ≤ mAt (sizesC c) (c % 8) ∧ mAt (sizesC c) (c % 8) ≤ 10 := by
    unfold sizesC
    generalize c % 8 = i at h1 h2
    generalize c / 40 % 3 = d at h3
    obtain ⟨j, rfl⟩ := Int.eq_ofNat_of_zero_le h1
    unfold mAt
    match j, h2 with
    | 0, _ => simp
    | 1, _ => simp
    | 2, _ => simp
    | 3, _ => simp
    | 4, _ => simp
    | 5, _ => simp
    | 6, _ => simp
    | 7, _ => simp; omega
    | j + 8, h => omega
  unfold mny
  generalize mAt (sizesC c) (c % 8) = x at key
  omega
def PP (ns : List Int) : List (Int × Int) := ptsL ns (mny (cell ns 0)) (decide (2 < cell ns 0 / 8 % 5))
theorem PP_len (ns : List Int) : (PP ns).length = mny (cell ns 0) := by
  unfold PP ptsL
  rw [List.length_map, List.length_range]
theorem PP_small (ns : List Int) : ∀ p ∈ PP ns, small p := small_pts (mny_b _).1.2
theorem small_near {p : Int × Int} (h : small p) : near p := by
  obtain ⟨⟨h1, h2⟩, h3, h4⟩ := h
  exact ⟨⟨by omega, by omega⟩, by omega, by omega⟩
theorem js_run [LT] {K : PySem.W.Frag} {M : EC → Addr} {W : WX} {ts : TS} {ps : Kn} {r : Res} {D : Ends} {σ : L2.St} {F H : Hp} (h : JS K M W ts ps r) (fh : Fx F H) (S : Sl F σ ps) (k : Wsh K M W ps.length D F H r) : ts D σ H := h D σ F H fh S k
theorem floorE_parts {P : List (Int × Int)} (h : floorE P = none) : badPts P = none ∧ onLine P = none := by
  unfold floorE at h
  cases h1 : inR 3 P.length 10 with
  | false => rw [h1] at h; cases h
  | true =>
    rw [h1] at h
    cases h2 : badPts P with
    | some e => rw [h2] at h; cases h
    | none =>
      rw [h2] at h
      exact ⟨rfl, h⟩
def menuL (n : Nat) : List Int := [0, n, (n : Int) - 1, 1, -1, (n : Int) + 10 ^ (30 : Int).toNat]
theorem ok_law {P : Program} {w : World} {K : PySem.W.Frag} {mg : Str → Option Value} {base : Heap} (T : Tx K mg) [LT] (lk : LKs T base) : FnOk P w K mg base CX0 13 T.a_law T.fd_law ["script"] (sp_law K) := by
  refine T.F_law.ok sc_law (fun vs H Q E h => by obtain ⟨a, ns, rfl, _⟩ := h; rfl) (fun cdv A outer s H vs Q E hr h => ?_)
  refine ⟨_, (pss_cons (ps_set (i := 1) sc_law.nd rfl (by first | exact Or.inl rfl | exact Or.inr rfl) (pe_slice sl_list (pv 0) po_none (po_some pe_int)))
      (pss_cons (ps_set (i := 2) sc_law.nd rfl (by first | exact Or.inl rfl | exact Or.inr rfl) (pe_callS (ok__law_cell T) (hr.mono (by decide)) (by rfl) T.g__law_cell T.F__law_cell.kp (b__law_cell T) (fun σ => L2N.passAt takes0N σ) (pa_cons (pv 1) (pa_cons pe_int pa_nil))))
      (pss_cons (ps_set (i := 3) sc_law.nd rfl (by first | exact Or.inl rfl | exact Or.inr rfl) (pe_ix ix_tup (pe_tup (pa_cons pe_int (pa_cons pe_int (pa_cons pe_int (pa_cons pe_int (pa_cons pe_int (pa_cons pe_int (pa_cons pe_int (pa_cons (pe_op op_add pe_int (pe_op op_mod (pe_callTy call_int1 (by rfl) T.z_int PyProof.Rows.boot_int (pa_cons (pe_op op_fdiv (pv 2) pe_int) pa_nil)) pe_int)) pa_nil))))))))) (pe_op op_mod (pe_callTy call_int1 (by rfl) T.z_int PyProof.Rows.boot_int (pa_cons (pv 2) pa_nil)) pe_int) (fun _ _ => rfl)))
      (pss_cons (ps_set (i := 4) sc_law.nd rfl (by first | exact Or.inl rfl | exact Or.inr rfl) (pe_callS (ok__law_drawn T) (hr.mono (by decide)) (by rfl) T.g__law_drawn T.F__law_drawn.kp (b__law_drawn T) (fun σ => L2N.passAt takes0N σ) (pa_cons (pv 1) (pa_cons (pv 3) (pa_cons (pe_cmpR op_gt (pe_op op_mod (pe_callTy call_int1 (by rfl) T.z_int PyProof.Rows.boot_int (pa_cons (pe_op op_fdiv (pv 2) pe_int) pa_nil)) pe_int) pe_int (nomark _)) pa_nil)))))
      (pss_cons (ps_set (i := 5) sc_law.nd rfl (by first | exact Or.inl rfl | exact Or.inr rfl) (pe_callS (ok__law_refusal T) (hr.mono (by decide)) (by rfl) T.g__law_refusal T.F__law_refusal.kp (b__law_refusal T) (fun σ => L2N.passAt takes0N σ) (pa_cons (pv 4) pa_nil)))
      (pss_cons (ps_if (pt_cmpR (op_neD hr.units) (pe_callS (ok__law_made T) (hr.mono (by decide)) (by rfl) T.g__law_made T.F__law_made.kp (b__law_made T) (fun σ => L2N.passAt takes0N σ) (pa_cons (pe_callTy call_list_of (by rfl) T.z_list PyProof.Rows.boot_list (pa_cons (pv 4) pa_nil)) pa_nil)) (pv 5) (nomark _)) (pss_one (ps_ret pe_bl)) pss_nil)
      (pss_cons (ps_if (pt_cmpR op_eq (pe_ix ix_tup (pv 5) pe_int (fun _ _ => rfl)) pe_str (nomark _)) (pss_one (ps_ret pe_bl)) pss_nil)
      (pss_cons (ps_set (i := 6) sc_law.nd rfl (by first | exact Or.inl rfl | exact Or.inr rfl) (pe_makeS T.M_Floor (ok_Floor___init__ T) (hr.mono (by decide)) (by rfl) T.g_Floor (b_Floor___init__ T) (fun σ => L2N.passAt takes0N σ) (pa_cons (pv 4) pa_nil)))
      (pss_cons (ps_if (pt_not (pt_val (pe_callS (ok__law_lefts_hold T lk) (hr.mono (by decide)) (by rfl) T.g__law_lefts_hold T.F__law_lefts_hold.kp (b__law_lefts_hold T) (fun σ => L2N.passAt takes0N σ) (pa_cons (pv 6) (pa_cons (pv 4) pa_nil))))) (pss_one (ps_ret pe_bl)) pss_nil)
      (pss_cons (ps_for PassesOwn.never rfl (pi_range1 (by rfl) T.z_range (pa_cons (pv 3) pa_nil)) (pg_name (i := 7) sc_law.nd rfl (by first | exact Or.inl rfl | exact Or.inr rfl)) (pss_one (ps_if (pt_not (pt_val (pe_callS (ok__law_round_holds T lk) (hr.mono (by decide)) (by rfl) T.g__law_round_holds T.F__law_round_holds.kp (b__law_round_holds T) (fun σ => L2N.passAt takes0N σ) (pa_cons (pv 6) (pa_cons (pv 4) (pa_cons (pv 7) pa_nil)))))) (pss_one (ps_ret pe_bl)) pss_nil)))
      (pss_cons (ps_for PassesOwn.never rfl (pi_tup (pe_tup (pa_cons (pe_un un_neg pe_int) (pa_cons (pv 3) (pa_cons (pe_op op_sub pe_int (pv 3)) (pa_cons (pe_op op_add (pv 3) (pe_op op_pow pe_int pe_int)) pa_nil)))))) (pg_name (i := 7) sc_law.nd rfl (by first | exact Or.inl rfl | exact Or.inr rfl)) (pss_one (ps_if (pt_cmpR (op_neD hr.units) (pe_callS (ok__law_told T lk) (hr.mono (by decide)) (by rfl) T.g__law_told T.F__law_told.kp (b__law_told T) (fun σ => L2N.passAt takes0N σ) (pa_cons pe_str (pa_cons (pv 6) (pa_cons (pv 7) (pa_cons pe_int pa_nil))))) (pe_tup (pa_cons pe_str (pa_cons pe_str (pa_cons (pv 7) (pa_cons pe_bl pa_nil))))) (nomark _)) (pss_one (ps_ret pe_bl)) pss_nil)))
      (pss_cons (ps_set (i := 2) sc_law.nd rfl (by first | exact Or.inl rfl | exact Or.inr rfl) (pe_callS (ok__law_cell T) (hr.mono (by decide)) (by rfl) T.g__law_cell T.F__law_cell.kp (b__law_cell T) (fun σ => L2N.passAt takes0N σ) (pa_cons (pv 1) (pa_cons pe_int pa_nil))))
      (pss_cons (ps_set (i := 8) sc_law.nd rfl (by first | exact Or.inl rfl | exact Or.inr rfl) (pe_tup (pa_cons pe_int (pa_cons (pv 3) (pa_cons (pe_op op_sub (pv 3) pe_int) (pa_cons pe_int (pa_cons (pe_un un_neg pe_int) (pa_cons (pe_op op_add (pv 3) (pe_op op_pow pe_int pe_int)) pa_nil))))))))
      (pss_cons (ps_set (i := 9) sc_law.nd rfl (by first | exact Or.inl rfl | exact Or.inr rfl) (pe_lst (pa_cons (pe_tup (pa_cons (pe_ix ix_tup (pv 8) (pe_op op_mod (pe_callTy call_int1 (by rfl) T.z_int PyProof.Rows.boot_int (pa_cons (pv 2) pa_nil)) pe_int) (fun _ _ => rfl)) (pa_cons (pe_ix ix_tup (pv 8) (pe_op op_mod (pe_callTy call_int1 (by rfl) T.z_int PyProof.Rows.boot_int (pa_cons (pe_op op_fdiv (pv 2) pe_int) pa_nil)) pe_int) (fun _ _ => rfl)) pa_nil))) pa_nil)))
      (pss_cons (ps_set (i := 2) sc_law.nd rfl (by first | exact Or.inl rfl | exact Or.inr rfl) (pe_callS (ok__law_cell T) (hr.mono (by decide)) (by rfl) T.g__law_cell T.F__law_cell.kp (b__law_cell T) (fun σ => L2N.passAt takes0N σ) (pa_cons (pv 1) (pa_cons pe_int pa_nil))))
      (pss_cons (ps_set (i := 10) sc_law.nd rfl (by first | exact Or.inl rfl | exact Or.inr rfl) (pe_op op_add (pv 3) pe_int))
      (pss_cons (ps_expr (pe_bm PySem.F.plainAttrs_list PySem.F.slot_list_append PySem.F.type_list_append mt_append (pv 9) (pa_cons (pe_tup (pa_cons (pe_op op_sub (pe_op op_mod (pe_callTy call_int1 (by rfl) T.z_int PyProof.Rows.boot_int (pa_cons (pe_op op_fdiv (pv 2) (pv 10)) pa_nil)) (pv 10)) pe_int) (pa_cons (pe_op op_sub (pe_op op_mod (pe_callTy call_int1 (by rfl) T.z_int PyProof.Rows.boot_int (pa_cons (pv 2) pa_nil)) (pv 10)) pe_int) pa_nil))) pa_nil)))
      (pss_cons (ps_for PassesOwn.never rfl (pi_list (pv 9)) (pg_tup rfl (pgs_cons (pg_name (i := 11) sc_law.nd rfl (by first | exact Or.inl rfl | exact Or.inr rfl)) (pgs_cons (pg_name (i := 12) sc_law.nd rfl (by first | exact Or.inl rfl | exact Or.inr rfl)) pgs_nil))) (pss_cons (ps_set (i := 5) sc_law.nd rfl (by first | exact Or.inl rfl | exact Or.inr rfl) (pe_callS (ok__law_left_due T) (hr.mono (by decide)) (by rfl) T.g__law_left_due T.F__law_left_due.kp (b__law_left_due T) (fun σ => L2N.passAt takes0N σ) (pa_cons (pv 4) (pa_cons (pv 11) (pa_cons (pv 12) pa_nil)))))
      (pss_one (ps_if (pt_cmpR (op_neD hr.units) (pe_callS (ok__law_told T lk) (hr.mono (by decide)) (by rfl) T.g__law_told T.F__law_told.kp (b__law_told T) (fun σ => L2N.passAt takes0N σ) (pa_cons pe_str (pa_cons (pv 6) (pa_cons (pv 11) (pa_cons (pv 12) pa_nil))))) (pv 5) (nomark _)) (pss_one (ps_ret pe_bl)) pss_nil))))
      (pss_one (ps_ret (pe_cmpR (op_eqD hr.units) (pe_fld (pv 6) rfl) (pe_callTy call_tuple_of (by rfl) T.z_tuple PyProof.Rows.boot_tuple (pa_cons (pv 4) pa_nil)) (nomark _)))))))))))))))))))))), ?_⟩
  obtain ⟨a0, ns0, rfl, hT, hS, hlen, hQ⟩ := h
  let W0 : WX := fun _ _ _ _ => False
  let ns := ns0.take 63
  let c := cell ns 0
  let n := mny c
  let P := PP ns
  have hn := mny_b c
  have hPl : P.length = n := PP_len ns
  have hPn : ∀ p ∈ P, near p := fun p hp => small_near (PP_small ns p hp)
  have S0 : Sl (noTab H) (L2.start N_law [.ref a0]) (entry N_law [dv K (.list (intsD ns0))]) := Sl.start (.cons (.lst (sqL_start hT hS) (dpAll_ints ns0)) .nil)
  let pre5 : Kn → Kn := fun r => some (dv K (.list (intsD ns0))) :: some (dv K (.list (intsD ns))) :: some (dv K (.int c)) :: some (dv K (.int n)) :: some (dv K (.list (P.map pD))) :: some (dv K (refD P)) :: r
  have cellc := fun (ps : Kn) (h1 : ps[1]? = some (some (dv K (.list (intsD ns))))) (k : Nat) => je_call (K := K) (M := T.M) (W := W0) (args := args__law_cell T) (dom := dom__law_cell) (out := out__law_cell T) (ns, k) (ja_cons (je_var (ps := ps) (i := 1) h1) (ja_cons (je_int (i := (k : Nat))) ja_nil)) trivial
  refine js_run (K := K) (M := T.M) (W := W0) (r := .rt (dv K (.bool true))) ?_ (fx_start hT) S0 (fun v F' H' g p => by rw [dp_bl p]; exact hQ H')
  refine js_seq (js_set (i := 1) (P := dv K (.list (intsD ns))) (je_is (je_slL (ds := intsD ns0) (je_var (i := 0) rfl) jo_none (jo_some (je_int (i := ((63 : Nat) : Int))))) (congrArg PyData.list (cutD_map _ _ _))))
    (js_seq (js_set (i := 2) (P := dv K (.int c)) (cellc _ rfl 0))
    (js_seq (js_set (i := 3) (P := dv K (.int n)) (je_is (je_ixT (ds := (sizesC c).map .int) (je_tup (ds := (sizesC c).map .int) (ja_cons je_int (ja_cons je_int (ja_cons je_int (ja_cons je_int (ja_cons je_int (ja_cons je_int (ja_cons je_int (ja_cons (je_add je_int (je_mod (je_intI (je_div (je_var (i := 2) rfl) je_int ⟨by decide, by decide⟩)) je_int (by decide))) ja_nil)))))))) (by show 8 ≤ 100000; decide)) (je_mod (je_intI (je_var (i := 2) rfl)) je_int (by decide)) (at_mod (menu := sizesC c) (by show 0 < 8; decide) c)) (congrArg PyData.int hn.2.symm)))
    (js_seq (js_set (i := 4) (P := dv K (.list (P.map pD))) (je_call (args := args__law_drawn T) (dom := dom__law_drawn) (out := out__law_drawn T) (ns, n, decide (2 < c / 8 % 5)) (ja_cons (je_var (i := 1) rfl) (ja_cons (je_var (i := 3) rfl) (ja_cons (je_gt (je_mod (je_intI (je_div (je_var (i := 2) rfl) je_int ⟨by decide, by decide⟩)) je_int (by decide)) je_int) ja_nil))) hn.1.2))
    (js_seq (js_set (i := 5) (P := dv K (refD P)) (je_call (args := args__law_refusal T) (dom := dom__law_refusal) (out := out__law_refusal T) P (ja_cons (je_var (i := 4) rfl) ja_nil) hPn))
    (js_seq (js_if (b := false) (jt_test (je_neR (je_call (args := args__law_made T) (dom := dom__law_made) (out := out__law_made T) P (ja_cons (je_listL (je_var (i := 4) rfl)) ja_nil) trivial) (je_var (i := 5) rfl) (ok_ref P))) (fun z => Bool.noConfusion z) (fun _ => js_next))
    ?rest)))))
  case rest =>
    let ps4 : Kn := pre5 [none, none, none, none, none, none, none]
    show JS K T.M W0 _ ps4 _
    cases hf : floorE P with
    | some e =>
      have er : refD P = .tuple [.str "raised", .str (nmE e.c), e.val, .bool true] := by
        unfold refD
        rw [hf]
        rfl
      exact js_rt (js_if (b := true) (jt_is (jt_test (je_eqS (je_ixT (je_is (je_var (ps := ps4) (i := 5) rfl) er) (je_int (i := 0)) (by exact atI_nat (j := 0) rfl)) je_str)) (by decide)) (fun _ => js_ret je_bl) (fun z => Bool.noConfusion z))
    | none =>
      have er : refD P = .tuple [.str "floor", .str "", .tuple (P.map pD), .bool true] := by
        unfold refD
        rw [hf]
        rfl
      have mf := mk_floor T (W := W0) (ps := ps4) (pts := P) (ja_cons (je_var (i := 4) rfl) ja_nil)
      rw [hf] at mf
      obtain ⟨hb, ho⟩ := floorE_parts hf
      have h10 : P.length ≤ 10 := by rw [hPl]; exact hn.1.2
      have h3 : 3 ≤ P.length := by rw [hPl]; exact hn.1.1
      let fl := ob1 K T.a_Floor "points" (.tuple (P.map pD))
      let psF : Kn := pre5 [some fl, none, none, none, none, none, none]
      have manyV : ∀ ps : Kn, ps[3]? = some (some (dv K (.int n))) → JD K T.M W0 (tVar 3) ps (.int (P.length : Nat)) := fun ps h => je_is (je_var (i := 3) h) (by rw [hPl])
      refine js_seq (qs := ps4) (js_if (b := false) (jt_is (jt_test (je_eqS (je_ixT (je_is (je_var (ps := ps4) (i := 5) rfl) er) (je_int (i := 0)) (by exact atI_nat (j := 0) rfl)) je_str)) (by decide)) (fun z => Bool.noConfusion z) (fun _ => js_next))
        (js_seq (qs := psF) (js_set (i := 6) mf)
        (js_seq (qs := psF) (js_if (b := false) (jt_is (jt_not (jt_B (b := true) (je_call (args := args__law_lefts_hold T) (dom := dom__law_lefts_hold) (out := out__law_lefts_hold T) P (ja_cons (je_var (i := 6) rfl) (ja_cons (je_var (i := 4) rfl) ja_nil)) ⟨h3, h10, hPn, ho⟩))) rfl) (fun z => Bool.noConfusion z) (fun _ => js_next))
        (js_seq (qs := psF) (js_allL (ps := psF) (vs := [7]) (List.range P.length) nI (ji_nats (manyV _ rfl) (by omega)) fun x hx => ⟨_, jg_name (i := 7), js_weak (js_if (b := false) (jt_is (jt_not (jt_B (b := true) (je_call (args := args__law_round_holds T) (dom := dom__law_round_holds) (out := out__law_round_holds T) (P, x) (ja_cons (je_var (i := 6) rfl) (ja_cons (je_var (i := 4) rfl) (ja_cons (je_var (i := 7) rfl) ja_nil))) ⟨h3, h10, hPn, ho, List.mem_range.mp hx⟩))) rfl) (fun z => Bool.noConfusion z) (fun _ => js_next)) ⟨.inr rfl, .inr rfl, .inr rfl, .inr rfl, .inr rfl, .inr rfl, .inr rfl, .inl rfl, .inr rfl, .inr rfl, .inr rfl, .inr rfl, .inr rfl, trivial⟩⟩)
        (js_seq (qs := psF) ?refused ?rest2))))
      case refused =>
        refine js_allL (ps := psF) (vs := [7]) [-1, (P.length : Int), 0 - (P.length : Int), (P.length : Int) + 10 ^ (30 : Int).toNat] .int (ji_tup (je_tup (ds := [.int (-1), .int (P.length : Int), .int (0 - (P.length : Int)), .int ((P.length : Int) + 10 ^ (30 : Int).toNat)]) (ja_cons (je_neg je_int) (ja_cons (manyV _ rfl) (ja_cons (je_sub je_int (manyV _ rfl)) (ja_cons (je_add (manyV _ rfl) (je_pow (i := 10) (j := 30) je_int je_int ⟨by decide, by decide, by decide⟩)) ja_nil)))))) fun v hv => ?_
        have no : isNo v P.length = false := by
          have big : (10 : Int) ^ (30 : Int).toNat = 1000000000000000000000000000000 := by decide +kernel
          rw [big] at hv
          unfold isNo
          rw [Bool.and_eq_false_iff, decide_eq_false_iff_not, decide_eq_false_iff_not]
          simp only [List.mem_cons, List.not_mem_nil, or_false] at hv
          omega
        have et : toldO false P v 0 = raisedD ⟨.NoPoint, .int v⟩ := by
          show roundO P v = _
          unfold roundO
          rw [no]
        exact ⟨_, jg_name (i := 7), js_weak (js_if (b := false) (jt_test (je_neR (je_is (je_told T (b := false) (u := v) (v := 0) je_str (je_var (i := 6) rfl) (je_var (i := 7) rfl) je_int h3 h10 hPn) et) (je_tup (ds := [.str "raised", .str "NoPoint", .int v, .bool true]) (ja_cons je_str (ja_cons je_str (ja_cons (je_var (i := 7) rfl) (ja_cons je_bl ja_nil))))) (ok_raised (n := 2) ok_int))) (fun z => Bool.noConfusion z) (fun _ => js_next)) ⟨.inr rfl, .inr rfl, .inr rfl, .inr rfl, .inr rfl, .inr rfl, .inr rfl, .inl rfl, .inr rfl, .inr rfl, .inr rfl, .inr rfl, .inr rfl, trivial⟩⟩
      let c2 := cell ns 11
      let c3 := cell ns 12
      let me := menuL P.length
      let z := (P.length : Int) + 4
      let u1 := mAt me (c2 % 6)
      let v1 := mAt me (c2 / 6 % 6)
      let u2 := c3 / z % z - 2
      let v2 := c3 % z - 2
      have zp : 0 < z := by show 0 < (P.length : Int) + 4; omega
      have zb : z ≤ 14 := by show (P.length : Int) + 4 ≤ 14; omega
      have ei : ∀ i : Int, atI (me.map PyData.int) (i % 6) = some (.int (mAt me (i % 6))) := fun i => at_mod (menu := me) (by show 0 < 6; decide) i
      let p8 : Int → Kn := fun c => some (dv K (.list (intsD ns0))) :: some (dv K (.list (intsD ns))) :: some (dv K (.int c)) :: some (dv K (.int n)) :: some (dv K (.list (P.map pD))) :: some (dv K (refD P)) :: [some fl, none, some (dv K (.tuple (me.map .int))), none, none, none, none]
      refine js_seq (js_set (i := 2) (P := dv K (.int c2)) (cellc _ rfl 11))
        (js_seq (qs := p8 c2) (js_set (i := 8) (P := dv K (.tuple (me.map .int))) (je_tup (ds := me.map .int) (ja_cons je_int (ja_cons (manyV _ rfl) (ja_cons (je_sub (manyV _ rfl) je_int) (ja_cons je_int (ja_cons (je_neg je_int) (ja_cons (je_add (manyV _ rfl) (je_pow (i := 10) (j := 30) je_int je_int ⟨by decide, by decide, by decide⟩)) ja_nil)))))) (by show 6 ≤ 100000; decide)))
        (jl_own (i := 9) (jn_lst (M := T.M) (W := W0) (ds := [pD (u1, v1)]) (ja_cons (je_tup (ds := [.int u1, .int v1]) (ja_cons (je_ixT (je_var (i := 8) rfl) (je_mod (je_intI (je_var (i := 2) rfl)) je_int (by decide)) (ei _)) (ja_cons (je_ixT (je_var (i := 8) rfl) (je_mod (je_intI (je_div (je_var (i := 2) rfl) je_int ⟨by decide, by decide⟩)) je_int (by decide)) (ei _)) ja_nil))) ja_nil)) fun D F1 H1 hD =>
        jl_seq (jl_js (js_set (i := 2) (P := dv K (.int c3)) (cellc _ rfl 12)))
        (jl_seq (jl_js (js_set (i := 10) (P := dv K (.int z)) (je_add (manyV _ rfl) je_int)))
        (jl_seq (jl_app (i := 9) (d := pD (u2, v2)) rfl hD (ja_cons (je_tup (ds := [.int u2, .int v2]) (ja_cons (je_sub (je_mod (je_intI (je_div (je_var (i := 2) rfl) (je_var (i := 10) rfl) ⟨by omega, by omega⟩)) (je_var (i := 10) rfl) zp) je_int) (ja_cons (je_sub (je_mod (je_intI (je_var (i := 2) rfl)) (je_var (i := 10) rfl) zp) je_int) ja_nil))) ja_nil) (by show 1 < 90000; decide))
        (jl_tell (i := 9) rfl hD ?_)))))
      let p9 : Kn := some (dv K (.list (intsD ns0))) :: some (dv K (.list (intsD ns))) :: some (dv K (.int c3)) :: some (dv K (.int n)) :: some (dv K (.list (P.map pD))) :: none :: [some fl, none, some (dv K (.tuple (me.map .int))), some (lv K ([pD (u1, v1)] ++ [pD (u2, v2)])), some (dv K (.int z)), none, none]
      refine js_seq (qs := p9) (js_pre (qs := p9) (js_allL (ps := p9) (vs := [11, 12]) [(u1, v1), (u2, v2)] pD (ji_list (je_lvd (je_var (i := 9) rfl))) fun p hp => ⟨_, jg_tup (ds := [.int p.1, .int p.2]) (jgs_cons (jg_name (i := 11)) (jgs_cons (jg_name (i := 12)) jgs_nil)), js_weak (js_seq (js_set (i := 5) (P := dv K (leftO P p.1 p.2)) (je_leftO T (je_var (i := 4) rfl) (je_var (i := 11) rfl) (je_var (i := 12) rfl) h10 hPn)) (js_if (b := false) (jt_test (je_neR (je_told T (b := true) (u := p.1) (v := p.2) je_str (je_var (i := 6) rfl) (je_var (i := 11) rfl) (je_var (i := 12) rfl) h3 h10 hPn) (je_var (i := 5) rfl) (ok_leftO P p.1 p.2))) (fun z => Bool.noConfusion z) (fun _ => js_next))) ⟨.inr rfl, .inr rfl, .inr rfl, .inr rfl, .inr rfl, .inl rfl, .inr rfl, .inr rfl, .inr rfl, .inr rfl, .inr rfl, .inl rfl, .inl rfl, trivial⟩⟩) ⟨.inr rfl, .inr rfl, .inr rfl, .inr rfl, .inr rfl, .inl rfl, .inr rfl, .inr rfl, .inr rfl, .inr rfl, .inr rfl, .inr rfl, .inr rfl, trivial⟩)
        (js_ret (je_eqR (je_fld (C := T.a_Floor) (je_var (i := 6) rfl) T.C_Floor T.n_Floor_points) (je_tupL (je_var (i := 4) rfl)) (ok_tup (n := 1) (ok_pts (n := 0) P))))
theorem bt {K : PySem.W.Frag} {mg : Str → Option Value} (T : Tx K mg) (s : Shared) (v : Value) : BindsTo s T.fd_law ⟨[v], []⟩ [("script", v)] := by
  obtain ⟨oc, od, kV, doc, pm, an, cdv, ct, osl, e, _⟩ := T.F_law.ex
  rw [e]
  exact BindsTo.of_eq rfl
end K07
namespace K07
open PySem PySem.Spec PyProof.Rows L2 Evl EB PySem.W
theorem close {l : PySem.W.OpenLaw} {w : World} {K : PySem.W.Frag} {q : Program} {loose : List Str} {mean : ExcName → Option Value} {mg mb : Str → Option Value} {h : Heap} {fa : Addr} (hT : ∃ T : Tx K mg, mg "law" = some (.ref T.a_law) ∧ EB.MkrIn K "in_order" T.mk_in_order ∧ ([T.mk_in_order] : List Mkr).Pairwise (fun a b => a.P ≠ b.P)) (X : K.In h) (TT : PyProof.Rows.Top q loose mean mg mb h) (hr_in_order : ((recsOf q).find? fun e => e.name == ("in_order" : Str)).isSome = true) (hm : mg "law" = some (.ref fa)) : EB.LawAtT l w K L2.CX0 13 63 "script" mg fa h := by
  obtain ⟨T, hl, hi_in_order, ap⟩ := hT
  rw [hm] at hl
  cases hl
  exact EB.law_atT [T.mk_in_order] (fun L => @sp_law L K) (EB.mkrs_cons (hi_in_order.at TT X hr_in_order) <| fun _ z => nomatch z) ap (bt T) (fun L H a ns hlen hT hS => @sp_start L K H a ns hlen hT hS) (fun base lk => by
    letI : LT := ⟨EB.tabsOf [T.mk_in_order]⟩
    exact ok_law T ⟨lk _ (by simp)⟩)
end K07
open PySem PySem.W PyProof.Rows
set_option maxRecDepth 100000 in
set_option maxHeartbeats 0 in
theorem PySem.Challenge.cw_everybowl_k07_lefts_of_lines_holds : PySem.Challenge.rw_everybowl_k07_lefts_of_lines.Holds := by
  w_on; o_law; k_headL; (case hw => w_witness2)
  k_fill
  refine EB.walk_ofT (l := PySem.Challenge.rw_everybowl_k07_lefts_of_lines) (n := 63) (k := 13) (x := "script") (CX := fun _ => L2.CX0) rfl (by decide) rfl ⟨rfl, by decide, by decide⟩ (fun w h Y => PySem.W.kIn_of Y) ?F (fun _ _ _ _ _ z => z)
  case F =>
    intro w mean mg mb fa h KX TT LX hmg
    have G := TT.g
    refine K07.close ?mk KX TT (by kernel_rfl) hmg
    case mk =>
      refine' K07.mk_tx KX G  ?n_Repeated ?o_Repeated ?v_Repeated ?sa_Repeated ?sb_Repeated ?ty_Repeated ?kc_Repeated ?ii_Repeated ?ti_Repeated ?nf_Repeated ?ga_Repeated ?gt_Repeated ?hd_Repeated ?is_Repeated ?ca_Repeated ?mo_Repeated ?l_Repeated ?c_Repeated ?kp_Repeated ?n_NoPoint ?o_NoPoint ?v_NoPoint ?sa_NoPoint ?sb_NoPoint ?ty_NoPoint ?kc_NoPoint ?ii_NoPoint ?ti_NoPoint ?nf_NoPoint ?ga_NoPoint ?gt_NoPoint ?hd_NoPoint ?is_NoPoint ?ca_NoPoint ?mo_NoPoint ?l_NoPoint ?c_NoPoint ?kp_NoPoint ?n_OnLine ?o_OnLine ?v_OnLine ?sa_OnLine ?sb_OnLine ?ty_OnLine ?kc_OnLine ?ii_OnLine ?ti_OnLine ?nf_OnLine ?ga_OnLine ?gt_OnLine ?hd_OnLine ?is_OnLine ?ca_OnLine ?mo_OnLine ?l_OnLine ?c_OnLine ?kp_OnLine ?n_TooFar ?o_TooFar ?v_TooFar ?sa_TooFar ?sb_TooFar ?ty_TooFar ?kc_TooFar ?ii_TooFar ?ti_TooFar ?nf_TooFar ?ga_TooFar ?gt_TooFar ?hd_TooFar ?is_TooFar ?ca_TooFar ?mo_TooFar ?l_TooFar ?c_TooFar ?kp_TooFar ?n_WrongCount ?o_WrongCount ?v_WrongCount ?sa_WrongCount ?sb_WrongCount ?ty_WrongCount ?kc_WrongCount ?ii_WrongCount ?ti_WrongCount ?nf_WrongCount ?ga_WrongCount ?gt_WrongCount ?hd_WrongCount ?is_WrongCount ?ca_WrongCount ?mo_WrongCount ?l_WrongCount ?c_WrongCount ?kp_WrongCount ?n_BowlError ?is_BowlError ?ty_BowlError ?gn ?tkc ?n_Floor ?pg_Floor ?hd_Floor ?po_Floor ?sa_Floor ?tc_Floor ?rd_Floor ?gc_Floor ?na_Floor_points ?cv_Floor_LEAST ?cv_Floor_MOST ?cv_Floor_FAR ?ca_Floor ?mo_Floor ?n__law_whole ?l__law_whole ?c__law_whole ?kp__law_whole ?n_bare_area ?l_bare_area ?c_bare_area ?kp_bare_area ?n_check_number ?l_check_number ?c_check_number ?kp_check_number ?n_check_numbers ?l_check_numbers ?c_check_numbers ?kp_check_numbers ?f_Floor_left_of ?fi_Floor_left_of ?l_Floor_left_of ?c_Floor_left_of ?kp_Floor_left_of ?n_in_order ?l_in_order ?c_in_order ?kp_in_order ?ht_in_order ?ho_in_order ?n_others ?l_others ?c_others ?kp_others ?f_Floor___len__ ?fi_Floor___len__ ?l_Floor___len__ ?c_Floor___len__ ?kp_Floor___len__ ?n_round_point ?l_round_point ?c_round_point ?kp_round_point ?n__law_told ?l__law_told ?c__law_told ?kp__law_told ?n__law_area ?l__law_area ?c__law_area ?kp__law_area ?n__law_left_due ?l__law_left_due ?c__law_left_due ?kp__law_left_due ?n__law_cell ?l__law_cell ?c__law_cell ?kp__law_cell ?n__law_between ?l__law_between ?c__law_between ?kp__law_between ?n__law_round_holds ?l__law_round_holds ?c__law_round_holds ?kp__law_round_holds ?n__law_lefts_hold ?l__law_lefts_hold ?c__law_lefts_hold ?kp__law_lefts_hold ?n_first_behind ?l_first_behind ?c_first_behind ?kp_first_behind ?n_subset_list ?l_subset_list ?c_subset_list ?kp_subset_list ?n_check_turns ?l_check_turns ?c_check_turns ?kp_check_turns ?n_check_range ?l_check_range ?c_check_range ?kp_check_range ?n_check_point ?l_check_point ?c_check_point ?kp_check_point ?n_check_count ?l_check_count ?c_check_count ?kp_check_count ?f_Floor___init__ ?fi_Floor___init__ ?l_Floor___init__ ?c_Floor___init__ ?kp_Floor___init__ ?mk_Floor ?kc_Floor ?n__law_made ?l__law_made ?c__law_made ?kp__law_made ?n__law_refusal ?l__law_refusal ?c__law_refusal ?kp__law_refusal ?n__law_drawn ?l__law_drawn ?c__law_drawn ?kp__law_drawn ?n_law ?l_law ?c_law ?kp_law ?z_ValueError ?z_abs ?z_bool ?z_enumerate ?z_int ?z_isinstance ?z_len ?z_list ?z_range ?z_sorted ?z_tuple ?s_WrongCount_BowlError ?s_WrongCount_ValueError ?s_TooFar_BowlError ?s_TooFar_ValueError ?s_OnLine_BowlError ?s_OnLine_ValueError ?s_NoPoint_BowlError ?s_NoPoint_ValueError ?s_Repeated_BowlError ?s_Repeated_ValueError ?s_WrongCount_WrongCount ?s_WrongCount_OnLine ?s_WrongCount_TooFar ?s_TooFar_TooFar ?s_TooFar_OnLine ?s_TooFar_WrongCount ?s_OnLine_OnLine ?s_OnLine_TooFar ?s_OnLine_WrongCount ?s_NoPoint_NoPoint ?s_NoPoint_Repeated ?s_NoPoint_TooFar ?s_Repeated_Repeated ?s_Repeated_NoPoint ?s_Repeated_TooFar
      (case n_Repeated => k_is)
      (case o_Repeated => k_is)
      (case v_Repeated => exact (by decide +kernel))
      (case sa_Repeated => k_is)
      (case sb_Repeated => k_is)
      (case ty_Repeated => k_is)
      (case kc_Repeated => k_is)
      (case ii_Repeated => k_is)
      (case ti_Repeated => k_is)
      (case nf_Repeated => k_is)
      (case ga_Repeated => k_is)
      (case gt_Repeated => k_is)
      (case hd_Repeated => k_is)
      (case is_Repeated => k_is)
      (case ca_Repeated => k_is)
      (case mo_Repeated => k_is)
      (case l_Repeated => k_is)
      (case c_Repeated => k_is)
      (case kp_Repeated => k_is)
      (case n_NoPoint => k_is)
      (case o_NoPoint => k_is)
      (case v_NoPoint => exact (by decide +kernel))
      (case sa_NoPoint => k_is)
      (case sb_NoPoint => k_is)
      (case ty_NoPoint => k_is)
      (case kc_NoPoint => k_is)
      (case ii_NoPoint => k_is)
      (case ti_NoPoint => k_is)
      (case nf_NoPoint => k_is)
      (case ga_NoPoint => k_is)
      (case gt_NoPoint => k_is)
      (case hd_NoPoint => k_is)
      (case is_NoPoint => k_is)
      (case ca_NoPoint => k_is)
      (case mo_NoPoint => k_is)
      (case l_NoPoint => k_is)
      (case c_NoPoint => k_is)
      (case kp_NoPoint => k_is)
      (case n_OnLine => k_is)
      (case o_OnLine => k_is)
      (case v_OnLine => exact (by decide +kernel))
      (case sa_OnLine => k_is)
      (case sb_OnLine => k_is)
      (case ty_OnLine => k_is)
      (case kc_OnLine => k_is)
      (case ii_OnLine => k_is)
      (case ti_OnLine => k_is)
      (case nf_OnLine => k_is)
      (case ga_OnLine => k_is)
      (case gt_OnLine => k_is)
      (case hd_OnLine => k_is)
      (case is_OnLine => k_is)
      (case ca_OnLine => k_is)
      (case mo_OnLine => k_is)
      (case l_OnLine => k_is)
      (case c_OnLine => k_is)
      (case kp_OnLine => k_is)
      (case n_TooFar => k_is)
      (case o_TooFar => k_is)
      (case v_TooFar => exact (by decide +kernel))
      (case sa_TooFar => k_is)
      (case sb_TooFar => k_is)
      (case ty_TooFar => k_is)
      (case kc_TooFar => k_is)
      (case ii_TooFar => k_is)
      (case ti_TooFar => k_is)
      (case nf_TooFar => k_is)
      (case ga_TooFar => k_is)
      (case gt_TooFar => k_is)
      (case hd_TooFar => k_is)
      (case is_TooFar => k_is)
      (case ca_TooFar => k_is)
      (case mo_TooFar => k_is)
      (case l_TooFar => k_is)
      (case c_TooFar => k_is)
      (case kp_TooFar => k_is)
      (case n_WrongCount => k_is)
      (case o_WrongCount => k_is)
      (case v_WrongCount => exact (by decide +kernel))
      (case sa_WrongCount => k_is)
      (case sb_WrongCount => k_is)
      (case ty_WrongCount => k_is)
      (case kc_WrongCount => k_is)
      (case ii_WrongCount => k_is)
      (case ti_WrongCount => k_is)
      (case nf_WrongCount => k_is)
      (case ga_WrongCount => k_is)
      (case gt_WrongCount => k_is)
      (case hd_WrongCount => k_is)
      (case is_WrongCount => k_is)
      (case ca_WrongCount => k_is)
      (case mo_WrongCount => k_is)
      (case l_WrongCount => k_is)
      (case c_WrongCount => k_is)
      (case kp_WrongCount => k_is)
      (case n_BowlError => k_is)
      (case is_BowlError => k_is)
      (case ty_BowlError => k_is)
      (case gn => k_is)
      (case tkc => k_is)
      (case n_Floor => k_is)
      (case pg_Floor => k_is)
      (case hd_Floor => k_is)
      (case po_Floor => k_is)
      (case sa_Floor => k_is)
      (case tc_Floor => k_is)
      (case rd_Floor => k_is)
      (case gc_Floor => k_is)
      (case na_Floor_points => k_is)
      (case cv_Floor_LEAST => k_is)
      (case cv_Floor_MOST => k_is)
      (case cv_Floor_FAR => k_is)
      (case ca_Floor => k_is)
      (case mo_Floor => k_is)
      (case n__law_whole => k_is)
      (case l__law_whole => k_is)
      (case c__law_whole => k_is)
      (case kp__law_whole => k_is)
      (case n_bare_area => k_is)
      (case l_bare_area => k_is)
      (case c_bare_area => k_is)
      (case kp_bare_area => k_is)
      (case n_check_number => k_is)
      (case l_check_number => k_is)
      (case c_check_number => k_is)
      (case kp_check_number => k_is)
      (case n_check_numbers => k_is)
      (case l_check_numbers => k_is)
      (case c_check_numbers => k_is)
      (case kp_check_numbers => k_is)
      (case f_Floor_left_of => k_is)
      (case fi_Floor_left_of => k_is)
      (case l_Floor_left_of => k_is)
      (case c_Floor_left_of => k_is)
      (case kp_Floor_left_of => k_is)
      (case n_in_order => k_is)
      (case l_in_order => k_is)
      (case c_in_order => k_is)
      (case kp_in_order => k_is)
      (case ht_in_order => kernel_rfl)
      (case ho_in_order => kernel_rfl)
      (case n_others => k_is)
      (case l_others => k_is)
      (case c_others => k_is)
      (case kp_others => k_is)
      (case f_Floor___len__ => k_is)
      (case fi_Floor___len__ => k_is)
      (case l_Floor___len__ => k_is)
      (case c_Floor___len__ => k_is)
      (case kp_Floor___len__ => k_is)
      (case n_round_point => k_is)
      (case l_round_point => k_is)
      (case c_round_point => k_is)
      (case kp_round_point => k_is)
      (case n__law_told => k_is)
      (case l__law_told => k_is)
      (case c__law_told => k_is)
      (case kp__law_told => k_is)
      (case n__law_area => k_is)
      (case l__law_area => k_is)
      (case c__law_area => k_is)
      (case kp__law_area => k_is)
      (case n__law_left_due => k_is)
      (case l__law_left_due => k_is)
      (case c__law_left_due => k_is)
      (case kp__law_left_due => k_is)
      (case n__law_cell => k_is)
      (case l__law_cell => k_is)
      (case c__law_cell => k_is)
      (case kp__law_cell => k_is)
      (case n__law_between => k_is)
      (case l__law_between => k_is)
      (case c__law_between => k_is)
      (case kp__law_between => k_is)
      (case n__law_round_holds => k_is)
      (case l__law_round_holds => k_is)
      (case c__law_round_holds => k_is)
      (case kp__law_round_holds => k_is)
      (case n__law_lefts_hold => k_is)
      (case l__law_lefts_hold => k_is)
      (case c__law_lefts_hold => k_is)
      (case kp__law_lefts_hold => k_is)
      (case n_first_behind => k_is)
      (case l_first_behind => k_is)
      (case c_first_behind => k_is)
      (case kp_first_behind => k_is)
      (case n_subset_list => k_is)
      (case l_subset_list => k_is)
      (case c_subset_list => k_is)
      (case kp_subset_list => k_is)
      (case n_check_turns => k_is)
      (case l_check_turns => k_is)
      (case c_check_turns => k_is)
      (case kp_check_turns => k_is)
      (case n_check_range => k_is)
      (case l_check_range => k_is)
      (case c_check_range => k_is)
      (case kp_check_range => k_is)
      (case n_check_point => k_is)
      (case l_check_point => k_is)
      (case c_check_point => k_is)
      (case kp_check_point => k_is)
      (case n_check_count => k_is)
      (case l_check_count => k_is)
      (case c_check_count => k_is)
      (case kp_check_count => k_is)
      (case f_Floor___init__ => k_is)
      (case fi_Floor___init__ => k_is)
      (case l_Floor___init__ => k_is)
      (case c_Floor___init__ => k_is)
      (case kp_Floor___init__ => k_is)
      (case mk_Floor => k_is)
      (case kc_Floor => k_is)
      (case n__law_made => k_is)
      (case l__law_made => k_is)
      (case c__law_made => k_is)
      (case kp__law_made => k_is)
      (case n__law_refusal => k_is)
      (case l__law_refusal => k_is)
      (case c__law_refusal => k_is)
      (case kp__law_refusal => k_is)
      (case n__law_drawn => k_is)
      (case l__law_drawn => k_is)
      (case c__law_drawn => k_is)
      (case kp__law_drawn => k_is)
      (case n_law => k_is)
      (case l_law => k_is)
      (case c_law => k_is)
      (case kp_law => k_is)
      (case z_ValueError => k_is)
      (case z_abs => k_is)
      (case z_bool => k_is)
      (case z_enumerate => k_is)
      (case z_int => k_is)
      (case z_isinstance => k_is)
      (case z_len => k_is)
      (case z_list => k_is)
      (case z_range => k_is)
      (case z_sorted => k_is)
      (case z_tuple => k_is)
      (case s_WrongCount_BowlError => k_is)
      (case s_WrongCount_ValueError => k_is)
      (case s_TooFar_BowlError => k_is)
      (case s_TooFar_ValueError => k_is)
      (case s_OnLine_BowlError => k_is)
      (case s_OnLine_ValueError => k_is)
      (case s_NoPoint_BowlError => k_is)
      (case s_NoPoint_ValueError => k_is)
      (case s_Repeated_BowlError => k_is)
      (case s_Repeated_ValueError => k_is)
      (case s_WrongCount_WrongCount => k_is)
      (case s_WrongCount_OnLine => k_is)
      (case s_WrongCount_TooFar => k_is)
      (case s_TooFar_TooFar => k_is)
      (case s_TooFar_OnLine => k_is)
      (case s_TooFar_WrongCount => k_is)
      (case s_OnLine_OnLine => k_is)
      (case s_OnLine_TooFar => k_is)
      (case s_OnLine_WrongCount => k_is)
      (case s_NoPoint_NoPoint => k_is)
      (case s_NoPoint_Repeated => k_is)
      (case s_NoPoint_TooFar => k_is)
      (case s_Repeated_Repeated => k_is)
      (case s_Repeated_NoPoint => k_is)
      (case s_Repeated_TooFar => k_is)
