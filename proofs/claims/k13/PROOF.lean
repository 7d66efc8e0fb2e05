import PyProof.Rows.All
import Wide.All
import OpenK.AllK
import Wide.FinOn
import HandS.ForMost
import HandS.ForExc
import HandS.Evl
import HandS.Star
import HandS.ExcInit
import HandS.ExcField
import HandS.IsInst
import HandS.Conv
import HandS.Flow
import HandS.ClsMeth
import HandS.CallSlots
import HandS.TryMany
import KE.KExcIs
import KE.GoesMore
import HandS.Wide
import HandS.OwnEq
import HandS.Style
import HandS.SetFor
import HandS.TupAny
import HandS.NoneIn
import KE.KMathGC
import HandS.SortRule
import HandS.GenList
import HandS.GenCall
import HandS.IterNext
import PyProof.ReprRoads
import HandS.DictComp
import HandS.SortInts
import HandS.WordsDict
import HandS.Steps
import PyProof.Rows.StrJoinMade
import PyProof.Rows.StrDigitsNeg
import PyProof.Rows.RegFStrParts
import HandS.Gcd
import PySem.Challenge.RW_everybowl_k13_corner_or_within
set_option Elab.async false
set_option linter.all false
set_option maxRecDepth 100000
set_option maxHeartbeats 4000000
/-! EB: own layer: values as data (PV), what gives them (EvP), promises that may raise (SpX), several named except clauses. -/
namespace EB
open PySem PySem.Spec PyProof.Rows L2 Evl
/-! ### several clauses, each with a name of its own -/
/-- what the clauses want of an exception out of the body: class, slot of the name, suite -/
def wClauses (K : PySem.W.Frag) (Wo : WX) (D : Ends) : List (Value × Nat × (Addr → Value → Option Addr → TS)) → WX
  | [] => Wo
  | (c, i, ts) :: r => fun cls d σ H => ∃ b, PySem.W.exmOne K cls c = some b ∧
      (b = true → ∀ a, H a = none → ts a cls d { nx := fun σ' H' => D.nx (σ'.set i none) H', rt := D.rt, bk := fun σ' H' => D.bk (σ'.set i none) H', ct := fun σ' H' => D.ct (σ'.set i none) H' } (σ.set i (some (.ref a))) H) ∧
      (b = false → wClauses K Wo D r cls d σ H)
inductive Clauses (X : Cx) : List ExceptHandler → List (Value × Nat × (Addr → Value → Option Addr → TS)) → Prop
  | nil : Clauses X [] []
  | cons {x n : Str} {c : Value} {i : Nat} {ts : Addr → Value → Option Addr → TS} {st0 : Stmt} {more : List Stmt} {p1 p2 : Pos} {hl : List ExceptHandler} {l : List (Value × Nat × (Addr → Value → Option Addr → TS))}
      (nm : Names X x c) (at_ : X.N[i]? = some n) (lc : X.env.kindOf n = some .local)
      (body : ∀ (a : Addr) (ob : Obj) (cls : Value) (d : Option Addr) (pn : List (Addr × Obj)), Zc cls d ob → (∃ vs, ob.data = .fields vs) → PSs (X.suite a ((a, ob) :: pn)) (st0 :: more) (ts a cls d))
      (rest : Clauses X hl l) : Clauses X (.ExceptHandler (some (.Name x p1)) (some n) (st0 :: more) p2 :: hl) ((c, i, ts) :: l)
section
variable {X : Cx} {body : List Stmt} {h0 : ExceptHandler} {hl : List ExceptHandler} {l : List (Value × Nat × (Addr → Value → Option Addr → TS))} {pos : Pos} {tb : WX → TS} {Wo : WX}
theorem ps_try_named (eS : X.stack = X.env :: X.outer) (eF : X.env.frame = some X.env.locals) (nd : X.N.Nodup) (tk : Takes X Wo)
    (hb : ∀ (W : WX) (pn : List (Addr × Obj)) (xe : Value → Shared → Prop), Takes (X.tr pn xe) W → PassesOwn (model X.prog X.w) X.A X.env xe → PSs (X.tr pn xe) body (tb W))
    (hh : Clauses X (h0 :: hl) l) : PS X (.Try body (h0 :: hl) [] [] pos) (fun D σ H => tb (wClauses X.K Wo D l) D σ H) := by
  refine ⟨fun pins s σ H D I hyp => ?_⟩
  have okX := I.ok
  have eFr : X.A.frames = some (X.env :: X.outer) := by rw [okX.frames, eS]
  refine wpAny_Try_except ?_
  refine wpAny_mono ((hb (wClauses X.K Wo D l) (X.pn ++ pins) (fun ev t1 => wpAny (model X.prog X.w) X.A (noteFrame ev X.env) (fun _ t2 => wpAny (model X.prog X.w) X.A (setFlight ev none) (fun _ t3 =>
    wpAny (model X.prog X.w) X.A (handleBy ev X.env (h0 :: hl)) (SP X pins D) X.xe t3) X.xe t2) X.xe t1) (fun u t xx => ?_) PassesOwn.looking).run [] s σ H D (I.toTry _) hyp) (fun fl t hsp => ?_) (fun _ _ z => z)
  · obtain ⟨a, B, tI, pins1, σ1, H1, cls, d, rfl, J0, keepB, upS, sky0, freeA, osE, bareE, wish⟩ := xx
    have J : Inv X pins σ1 H1 tI := J0.ofTry okX
    have sky1 : Sky B (X.env :: X.outer) a (Zc cls d) X.env.locals t.heap := by rw [← eS] <;> exact sky0
    show wpAny (model X.prog X.w) X.A (noteFrame (.ref a) X.env) _ _ _
    refine Sky.land Zc.steady eFr eF sky1 fun g3 f3 u3 => ?_
    have K3 : Inv X pins σ1 H1 { t with heap := g3 } := J.landed keepB f3.1 (upS.trans u3) osE bareE
    obtain ⟨ob3, fv3, at3, zc3, dat3⟩ := f3.there
    have off : a ∉ frs (X.env :: X.outer) := fun hm => by
      obtain ⟨_, o', e', hnf⟩ := f3.2.2.1.mem hm
      rw [at3] at e'
      cases e'
      exact hnf _ dat3
    have offL : a ≠ X.env.locals := fun z => off (List.mem_filterMap.mpr ⟨X.env, List.mem_cons_self, by rw [eF, z]⟩)
    have offF : a ∉ X.fs := fun hm => by
      obtain ⟨ee, he, q⟩ := List.mem_filterMap.mp hm
      exact off (List.mem_filterMap.mpr ⟨ee, List.mem_cons_of_mem _ he, q⟩)
    have S3 := K3.suite at3 dat3 freeA offL offF
    have run : ∀ {hl' : List ExceptHandler} {l' : List (Value × Nat × (Addr → Value → Option Addr → TS))}, Clauses X hl' l' → wClauses X.K Wo D l' cls d σ1 H1 →
        wpAny (model X.prog X.w) X.A (handleBy (.ref a) X.env hl') (SP X pins D) X.xe { t with heap := g3 } := by
      intro hl' l' hk
      induction hk with
      | nil =>
        intro wsh
        refine wpAny_handleBy_nil ?_
        obtain ⟨q1, q2, q3, ob, fv, T, oT, tsl, hat, hzc, hdat, hone, hr⟩ := id f3
        unfold PySem.passOn
        refine wpAny_bind (wpAny_field hat hdat hone ?_)
        rw [if_neg (show ¬ ((Value.ref T == Value.none) = true) by simp)]
        have last : wpAny (model X.prog X.w) X.A (setFlight (.ref a) X.env.frame) (fun _ t4 => wpAny (model X.prog X.w) X.A (throw (.ref a) : Sem Flow) (SP X pins D) X.xe t4) X.xe { t with heap := g3 } := by
          rw [eF]
          refine HandSPX.setFlight_upZ f3 fun g4 hh4 u4 => wpAny_throw (tk _ _ ⟨a, B, tI, pins, σ1, H1, cls, d, rfl, J, keepB, (upS.trans u3).trans u4, .inr (.inr (by rw [eS] <;> exact hh4)), freeA, osE, bareE, wsh⟩)
        first
          | exact wpAny_bind (wpAny_pure (wpAny_bind last))
          | exact wpAny_bind last
      | @cons x n c i ts st0 more p1 p2 hl2 l2 nm at_ lc bod rest ih =>
        intro wsh
        obtain ⟨b, isB, yes, no⟩ := wsh
        refine wpAny_handleBy_cons (codeAny_handlers_test ?_) (by intro q; cases q)
        have lookT : PySem.W.Looks (model X.prog X.w) g3 (typeOf (.ref a)) cls := fun _ _ _ _ k q => wpAny_typeOf_ref (k _ _ at3) (by rw [zc3.1] <;> exact q)
        have lookM := PySem.W.exm_one (M := model X.prog X.w) K3.kIn lookT isB
        have ask : ∀ {Q : Value → Shared → Prop} {E : Value → Shared → Prop}, Q c { t with heap := g3 } → wpAny (model X.prog X.w) (X.A.mark (some (.ref a))) (eval (.Name x p1) X.env) Q E { t with heap := g3 } := fun {Q E} q => by
          obtain ⟨gl, dbg, hm | ⟨hm, hv, hnn⟩⟩ := nm
          · exact ld_glob (X := X.suite a ((a, ob3) :: (X.pn ++ pins))) S3 gl hm q dbg
          · exact ld_blt (X := X.suite a ((a, ob3) :: (X.pn ++ pins))) S3 gl hm hv q hnn dbg
        refine ask (lookM.here ?_)
        cases b with
        | true =>
          refine codeAny_handlers_suite_as (HandSPX.lands_againZ f3 fun g4 f4 u4 => ?_)
          have K4 : Inv X pins σ1 H1 { t with heap := g4 } := J.landed keepB f4.1 ((upS.trans u3).trans u4) osE bareE
          obtain ⟨ob4, fv4, at4, zc4, dat4⟩ := f4.there
          have S4 := K4.suite at4 dat4 freeA offL offF
          refine store_ok (X := X.suite a ((a, ob4) :: (X.pn ++ pins))) (v := .ref a) S4 nd at_ (.inl lc) rfl (fun t5 S5 => ?_) (.inr lc)
          refine wpAny_mono ((bod a ob4 cls d (X.pn ++ pins) zc4 ⟨_, dat4⟩).run [] t5 _ H1 _ S5 (yes rfl a freeA)) (fun fl t6 hsp => ?_) (fun _ _ z => False.elim z)
          have fin6 : ∀ {σ6 : L2.St} {H6 : Hp} {Q : Shared → Prop}, Inv (X.suite a ((a, ob4) :: (X.pn ++ pins))) [] σ6 H6 t6 → (∀ t7, Inv X pins (σ6.set i none) H6 t7 → Q t7) →
              wpAny (model X.prog X.w) X.A (do bindName X.env n .none; unbindBehindTheSuite X.env n p2) (fun _ t7 => Q t7) X.xe t6 := fun S6 hq => gone_ok (S6.unsuite okX) nd at_ lc hq
          cases fl with
          | next =>
            obtain ⟨σ6, H6, S6, q6⟩ := hsp
            exact fin6 S6 fun t7 J7 => ⟨_, _, J7, q6⟩
          | brk =>
            obtain ⟨σ6, H6, S6, q6⟩ := hsp
            exact fin6 S6 fun t7 J7 => ⟨_, _, J7, q6⟩
          | cont =>
            obtain ⟨σ6, H6, S6, q6⟩ := hsp
            exact fin6 S6 fun t7 J7 => ⟨_, _, J7, q6⟩
          | ret u6 =>
            obtain ⟨v6, σ6, H6, S6, r6, q6⟩ := hsp
            exact fin6 S6 fun t7 J7 => ⟨_, _, _, J7, r6, q6⟩
        | false =>
          show wpAny _ X.A (handleBy (.ref a) X.env hl2) _ _ _
          exact ih (no rfl)
    exact run hh wish
  · cases fl with
    | next =>
      obtain ⟨σ1, H1, J, q⟩ := hsp
      exact wpAny_execs_nil ⟨σ1, H1, J.ofTry okX, q⟩
    | brk =>
      obtain ⟨σ1, H1, J, q⟩ := hsp
      exact ⟨σ1, H1, J.ofTry okX, q⟩
    | cont =>
      obtain ⟨σ1, H1, J, q⟩ := hsp
      exact ⟨σ1, H1, J.ofTry okX, q⟩
    | ret u1 =>
      obtain ⟨v1, σ1, H1, J, rv, q⟩ := hsp
      exact ⟨v1, σ1, H1, J.ofTry okX, rv, q⟩
end
/-! ### isinstance of an exception that a suite holds (it may have a dict of its own) -/
structure ExK (K : PySem.W.Frag) (C : Addr) : Prop where
  cl : (PySem.W.clsIn K C).isSome = true
  ga : PySem.W.findIn K (.ref C) "__getattribute__" = some (some (.builtin "BaseException.__getattribute__"))
  gt : PySem.W.findIn K (.ref C) "__getattr__" = some none
  sb : PySem.W.subIn K (.ref C) (.type "BaseException") = some true
  ca : PySem.W.findIn K (.ref C) "__class__" = some (some (.builtin "object.__class__"))
  gn : PySem.W.specialIn K (.builtin "object.__class__") "__get__" = some (some (.builtin "getset_descriptor.__get__"))
  tk : PySem.W.takesIn K (.builtin "object.__class__") = some true
  mo : PySem.W.mroIn K C (.type "object") = some true
/-- isinstance(e, c): a the exception, cls its class, d its dict -/
def rIsEx (K : PySem.W.Frag) (a : Addr) (cls : Value) (d : Option Addr) : List V → Hp → VK → Prop := fun xs H Q => ∃ (C : Addr) (c : V) (cv : Value) (b : Bool) (dd : Addr) (fs : List (Str × V)), cls = .ref C ∧ ExK K C ∧ xs = [.ref a, c] ∧ d = some dd ∧ H dd = some (.xd fs) ∧ ClsV c cv ∧ PySem.W.kitOne K (.ref C) cv = some b ∧ Q (.bl b) H
/-- isinstance(e, (c1, c2, ..)) -/
def rIsExT (K : PySem.W.Frag) (a : Addr) (cls : Value) (d : Option Addr) : List V → Hp → VK → Prop := fun xs H Q => ∃ (C : Addr) (tp : Addr) (cs : List V) (us : List Value) (b : Bool) (dd : Addr) (fs : List (Str × V)), cls = .ref C ∧ ExK K C ∧ xs = [.ref a, .ref tp] ∧ d = some dd ∧ H dd = some (.xd fs) ∧ H tp = some (.tup cs) ∧ Paired ClsV cs us ∧ PySem.W.kitAny K (.ref C) us = some b ∧ Q (.bl b) H
section
variable {X : Cx} {a C : Addr} {cls : Value} {d : Option Addr} {ob : Obj} {pn : List (Addr × Obj)}
theorem inst_here {pins : List (Addr × Obj)} {σ : L2.St} {H : Hp} {s : Shared} {dd : Addr} {fs : List (Str × V)} (hz : Zc (.ref C) d ob) (hf : ∃ vs, ob.data = .fields vs) (I : Inv (X.suite a ((a, ob) :: pn)) pins σ H s) (ed : d = some dd) (hd : H dd = some (.xd fs)) : ∃ od, PySem.W.InstAt s.heap a ob C (some od) := by
  subst ed
  obtain ⟨vs, hv⟩ := hf
  obtain ⟨got, _⟩ := I.pin (a, ob) (List.mem_append_left _ List.mem_cons_self)
  obtain ⟨mA, hns, _⟩ := (show ObjOk X.prog X.w H s.heap dd (.xd fs) from I.hok dd _ hd)
  obtain ⟨od, ho, _⟩ := lookIn_ns hns
  exact ⟨od, got, hz.1, by unfold PySem.W.notCls; rw [hv] <;> rfl, by rw [hz.2] <;> exact ho⟩
theorem call_isEx (hz : Zc cls d ob) (hf : ∃ vs, ob.data = .fields vs) : CallR (X.suite a ((a, ob) :: pn)) (.builtin "isinstance") (rIsEx X.K a cls d) := by
  intro pins s σ H xs us Q I r h
  obtain ⟨C, c, cv, b, dd, fs, rfl, T, rfl, ed, hd, hc, e, q⟩ := h
  obtain ⟨u1, u2, rfl, r1, r2⟩ := vals2 r
  cases (show u1 = Value.ref a from r1)
  have e2 := hc.eq r2
  subst e2
  obtain ⟨od, J⟩ := inst_here hz hf I ed hd
  exact PySem.W.kia_one (PySem.W.kitx_exc T.cl T.ga T.gt T.sb T.ca T.gn T.tk T.mo) I.kIn J e (fun z => nomatch z) fun tk => ⟨.bl b, H, I.tok tk, rfl, q⟩
theorem call_isExT (hz : Zc cls d ob) (hf : ∃ vs, ob.data = .fields vs) : CallR (X.suite a ((a, ob) :: pn)) (.builtin "isinstance") (rIsExT X.K a cls d) := by
  intro pins s σ H xs us Q I r h
  obtain ⟨C, tp, cs, ws, b, dd, fs, rfl, T, rfl, ed, hd, hT, hc, e, q⟩ := h
  obtain ⟨u1, u2, rfl, r1, r2⟩ := vals2 r
  cases (show u1 = Value.ref a from r1)
  cases (show u2 = Value.ref tp from r2)
  obtain ⟨od, J⟩ := inst_here hz hf I ed hd
  obtain ⟨_, its, rv, ot, g1, g2, n, g3⟩ := (show ObjOk X.prog X.w H s.heap tp (.tup cs) from I.hok tp _ hT)
  have e3 := ClsV.all hc rv
  subst e3
  obtain ⟨oc, odd, dt, sl⟩ := ot
  simp only at g2 g3
  subst g2 g3
  exact PySem.W.kia_tup (PySem.W.kitx_exc T.cl T.ga T.gt T.sb T.ca T.gn T.tk T.mo) I.kIn J g1 e (fun z => nomatch z) fun tk => ⟨.bl b, H, I.tok tk, rfl, q⟩
end
end EB

/-! EB2: enumerate over a tuple. -/
namespace EB
open PySem PySem.Spec PyProof.Rows L2 Evl
open AutoSeq1 (wpAny_loadPart')
theorem enumT_new (t : Addr) (ob : Obj) (xs : Array Value) (k : Nat) (hc : ob.cls = .type "tuple") (hd : ob.data = .seq xs k) :
    Meets (Builtin.«enumerate.__new__» ⟨[.type "enumerate", .ref t], []⟩) (fun _ R s => s.heap.get? t = some ob ∧
      R (.ok (.ret (.ref (s.heap.push { cls := .type "tuple_iterator", data := .fields #[.ref t, .int 0 0] }).objs.size)))
        { s with heap := (s.heap.push { cls := .type "tuple_iterator", data := .fields #[.ref t, .int 0 0] }).push { cls := .type "enumerate", data := .fields #[.none, .bool false, .ref s.heap.objs.size, rawInt 0, .none, .none] } }) :=
  .of_wp fun prog w A R s h => by
    obtain ⟨hp, g, d, tk, os⟩ := s
    obtain ⟨ht, h⟩ := h
    have sub_ := sub_enumerate
    have hT : Heap.IsTuple (Shared.heap ⟨hp, g, d, tk, os⟩) t xs := ⟨_, ht, hc, k, hd⟩
    wp_walk using wpAny_loadPart' ht
    refine wpAny_stack_any fun st => wpAny_pure ?_
    split
    · rename_i c _ _ _ _ _
      cases (c == Value.type "enumerate")
      · wp_walk using wpAny_loadPart' ht, wpAny_pyIter_tuple hT
        exact ⟨_, rfl, h⟩
      · wp_walk using wpAny_loadPart' ht, wpAny_pyIter_tuple hT
        exact ⟨_, rfl, h⟩
    · wp_walk using wpAny_loadPart' ht, wpAny_pyIter_tuple hT
      exact ⟨_, rfl, h⟩
section
variable {prog : Program} {w : World} {A : Around} {E : Value → Shared → Prop} {s : Shared}
theorem enumT_call {t : Addr} {xs : Array Value} {Q : Value → Shared → Prop} (hT : s.heap.IsTuple t xs)
    (fin : ∀ g, IsEnum g (s.heap.objs.size + 1) s.heap.objs.size 0 .none → g.IsTupleIter s.heap.objs.size t 0 → g.objs.size = s.heap.objs.size + 2 →
      (∀ b o, s.heap.get? b = some o → g.get? b = some o) → Q (.ref (s.heap.objs.size + 1)) { s with heap := g }) :
    wpAny (model prog w) A (call (.type "enumerate") [.ref t]) Q E s := by
  obtain ⟨ob, ht, hc, k, hd⟩ := hT
  refine callType_new F.called_enumerate (by decide) (F.typeCall_enumerate_1 _) (F.newCall_enumerate_1 _) (fun z => F.args_object_init_2 z _) F.entry_enumerate_new (enumT_new t ob xs k hc hd) ⟨ht, ?_⟩
  have sz : (s.heap.push { cls := .type "tuple_iterator", data := .fields #[.ref t, .int 0 0] }).objs.size = s.heap.objs.size + 1 := Heap.size_push ..
  show _ ∧ _
  rw [sz]
  have en : IsEnum ((s.heap.push { cls := .type "tuple_iterator", data := .fields #[.ref t, .int 0 0] }).push
      { cls := .type "enumerate", data := .fields #[.none, .bool false, .ref s.heap.objs.size, rawInt 0, .none, .none] }) (s.heap.objs.size + 1) s.heap.objs.size 0 .none := by
    have z := Heap.get?_push_size (s.heap.push { cls := .type "tuple_iterator", data := .fields #[.ref t, .int 0 0] })
      (o := { cls := .type "enumerate", data := .fields #[.none, .bool false, .ref s.heap.objs.size, rawInt 0, .none, .none] }) rfl
    rw [sz] at z
    exact z
  refine ⟨⟨_, en, rfl⟩, fin _ en ⟨_, Heap.get?_push_of_some _ (Heap.get?_push_size _ rfl), rfl, rfl⟩ (by rw [Heap.size_push, sz]) fun b o x => Heap.get?_push_of_some _ (Heap.get?_push_of_some _ x)⟩
end
/-- the tuple at a, each item in a new pair -/
def IteT (K : PySem.W.Frag) (a : Addr) : It :=
  ⟨fun i H => ∃ (xs : List V) (x : V), SqT K H a xs ∧ xs[i]? = some x, fun i H v H' => ∃ T x, v = .ref T ∧ H T = none ∧ H' = upd H T (.tup [.int (i : Nat), x]) ∧ ∀ xs, SqT K H a xs → xs[i]? = some x, fun i H => ∃ xs : List V, SqT K H a xs ∧ xs.length ≤ i⟩
theorem tup_inj {X : Cx} {pins : List (Addr × Obj)} {σ : L2.St} {H : Hp} {s : Shared} {a : Addr} {xs ys : List V} (I : Inv X pins σ H s) (h : SqT X.K H a xs) (h2 : SqT X.K H a ys) : xs = ys := by
  first
    | exact I.tuple_inj h h2
    | exact I.tup_inj h h2
theorem turn_enumT {P : Program} {w : World} {K : PySem.W.Frag} {elts : List Expr} {kk : Nat} {tpos : Pos} (a e it : Addr) :
    Turn P w K (.Tuple elts kk tpos) (IteT K a) [e, it] e (fun i h => (∃ old, IsEnum h e it ((i : Nat) : Int) old) ∧ h.IsTupleIter it a i ∧ e ≠ it) where
  mem := by simp
  obj := fun i h st b hb => by
    obtain ⟨⟨old, he⟩, ⟨o, ho, hc, hd⟩, _⟩ := st
    have z : b = e ∨ b = it := by simpa using hb
    rcases z with z | z
    · rw [z]
      exact ⟨_, he, fun v q => nomatch q⟩
    · rw [z]
      exact ⟨o, ho, fun v q => by rw [hd] at q <;> cases q⟩
  keep := fun i h g st k => let ⟨⟨old, he⟩, hi, hne⟩ := st; ⟨⟨old, k e (by simp) _ he⟩, hi.at fun o q => k it (by simp) o q, hne⟩
  item := by
    intro X hP hw hK hcalm i pins s σ H E I hf st hg
    subst hP hw hK
    obtain ⟨⟨old, he⟩, hit, hne⟩ := st
    obtain ⟨xs, x, hq, hx⟩ := hg
    obtain ⟨its, rv, p, hz⟩ := I.tuple hq
    obtain ⟨u, hu, ru⟩ := rv.get hx
    have eLt : e < s.heap.objs.size := Heap.lt_size he
    have iLt : it < s.heap.objs.size := by
      obtain ⟨_, q, _⟩ := hit
      exact Heap.lt_size q
    have hT : s.heap.IsTuple a its.toArray := p
    have nea : a ≠ it := by
      intro z
      obtain ⟨o1, h1, c1, _⟩ := hit
      obtain ⟨o2, h2, c2, _⟩ := hT
      rw [z, h1] at h2
      cases h2
      rw [c1] at c2
      exact absurd c2 (by decide)
    have nef : e ∉ [it, a] := by
      intro z
      rcases List.mem_cons.mp z with z | z
      · exact hne z
      · have z' : e = a := by simpa using z
        obtain ⟨o2, h2, c2, _⟩ := hT
        rw [← z', he] at h2
        cases h2
        exact absurd (show Value.type "enumerate" = Value.type "tuple" from c2) (by decide)
    have ilt : i < its.toArray.size := by
      have := (List.getElem?_eq_some_iff.mp hu).1
      simpa using this
    refine wpAny_pyNext_enum_itemD (PySem.Draws.tuple (A := X.A.in1) (I.ok.hd hcalm) it a nea its.toArray) he ⟨hit, hT⟩ ilt hne nef fun y g tk hy ho hst hTT hsz hk => ?_
    have ey : y = u := by
      have z : its.toArray[i]? = some u := by simpa using hu
      have hy' : its.toArray[i]? = some y := hy
      rw [z] at hy'
      exact (Option.some.inj hy').symm
    subst ey
    refine ⟨_, rfl, wpAny_letOwnedTupleGo_enum (s := { s with heap := g, toks := tk + 1 }) ho fun g2 he2 sb => ?_⟩
    have hT2 : g2.get? s.heap.objs.size = some { cls := .type "tuple", data := .seq #[.int i tk, y] } := (sb.2 _ (Nat.ne_of_gt eLt)).trans hTT
    have new : ObjOk X.prog X.w (upd H s.heap.objs.size (.tup [.int (i : Nat), x])) g2 s.heap.objs.size (.tup [.int (i : Nat), x]) :=
      ⟨by show 2 ≤ sizeLine; decide, [.int i tk, y], .cons ⟨_, rfl⟩ (.cons ru .nil), ⟨_, hT2, rfl, _, rfl⟩⟩
    have I1 : Inv X pins σ (upd H s.heap.objs.size (.tup [.int (i : Nat), x])) { s with heap := g2, toks := tk + 1 } :=
      I.turnedNew (ch := [e, it]) (fun b ob hb q => (sb.2 b (fun z => hb (by simp [z]))).trans (hk b ob (fun z => hb (by simp [z])) (fun z => hb (by simp [z])) q)) hf (Nat.le_refl _) new
    refine ⟨.ref s.heap.objs.size, _, I1, rfl, ⟨_, x, rfl, I.hok.fresh (Nat.le_refl _), rfl, fun ys hy => by rw [tup_inj I hy hq] <;> exact hx⟩, ⟨⟨y, ?_⟩, hst.1.at fun o q => (sb.2 it (Ne.symm hne)).trans q, hne⟩, fun b hb => ?_⟩
    · have e1 : ((i + 1 : Nat) : Int) = (i : Int) + 1 := by omega
      rw [e1]
      exact he2
    · have hb2 : b < s.heap.objs.size := by
        have z : b = e ∨ b = it := by simpa using hb
        rcases z with z | z
        · rw [z]; exact eLt
        · rw [z]; exact iLt
      rw [upd_ne (Nat.ne_of_lt hb2)]
      exact (hf b hb).1
  done := by
    intro X hP hw hK hcalm i pins s σ H E I hf st hg
    subst hP hw hK
    obtain ⟨⟨old, he⟩, hit, hne⟩ := st
    obtain ⟨xs, hq, hx⟩ := hg
    obtain ⟨its, rv, p, hz⟩ := I.tuple hq
    obtain ⟨f0, f1, f2, f3, f4, f5⟩ := hf it (by simp)
    have hl := rv.length
    have hT : s.heap.IsTuple a its.toArray := p
    have nea : a ≠ it := by
      intro z
      obtain ⟨o1, h1, c1, _⟩ := hit
      obtain ⟨o2, h2, c2, _⟩ := hT
      rw [z, h1] at h2
      cases h2
      rw [c1] at c2
      exact absurd c2 (by decide)
    unfold pyNext
    have hTy : s.TypeIs (.ref e) "enumerate" := ⟨_, he, rfl⟩
    refine wpAny_bind (wpAny_attempt (wpAny_callSpecial?_slot (name := Str.ofString "__next__") hTy F.slot_enumerate_next
      (wpAny_call_entry F.slot_enumerate_next hTy F.entry_enumerate_next ?_ (F.args_enumerate_next_1 _))))
    show wpAny _ _ (field (.ref e) 2 >>= _) _ _ _
    refine wpAny_bind (wpAny_field he rfl (x := .ref it) rfl ?_)
    refine wpAny_bind (wpAny_nextOf_tuple_end (I.ok.hd hcalm) hit hT (by simp; omega) fun g x he' hx' => ?_)
    obtain ⟨o, ho, hc⟩ := hx'
    refine wpAny_bind (wpAny_isInstance (T := "StopIteration") (b := true) ⟨o, ho, hc⟩ isSubtype_stop ?_)
    exact wpAny_pure ⟨rfl, I.turned (t' := s.toks) (fun b o hb q => he' b o hb q) f0 f1 f3 f4 f5⟩
  self := fun A i s Q E st h => let ⟨⟨_, he⟩, _⟩ := st; wpAny_pyIter_enum he h
def iEnumT (K : PySem.W.Frag) (ta : TA) : TI := fun σ H R => ta σ H fun vs H1 => ∃ a xs, vs = [.ref a] ∧ SqT K H1 a xs ∧ R (IteT K a) H1
theorem pi_enumT {X : Cx} {e : Expr} {ta : TA} {p pos tpos : Pos} {elts : List Expr} {kk : Nat} (hg : Gl X "enumerate") (hm : X.mg "enumerate" = none) (ha : PA X [e] ta) (hs : starEach [e] X.env = [(false, eval e X.env)] := by rfl) :
    PI X (.Tuple elts kk tpos) (.Call (.Name "enumerate" p) [e] [] pos) (iEnumT X.K ta) := by
  refine ⟨fun pins s σ H R I h => ?_⟩
  refine Call_ (ld_blt I hg hm boot_enumerate (PyProof.Rows.callWith_type1 (thn (ha.run pos pins s σ H _ I h) fun us s1 ⟨vs, H1, I1, r1, a, xs, ex, hq, q⟩ => ?_) hs rfl))
  subst ex
  cases r1 with
  | cons r rr =>
    cases rr
    cases r
    obtain ⟨its, rv, p', hz⟩ := I1.tuple hq
    have hT : s1.heap.IsTuple a its.toArray := p'
    refine enumT_call hT fun g he hit hsz hk => wpAny_pyIter_enum he ?_
    have I2 : Inv X pins σ H1 { s1 with heap := g } := I1.kept (t' := s1.toks) hk
    refine ⟨s1.heap.objs.size + 1, [s1.heap.objs.size + 1, s1.heap.objs.size], _, _, H1, rfl, I2, turn_enumT a (s1.heap.objs.size + 1) s1.heap.objs.size, ⟨⟨.none, he⟩, hit, Nat.succ_ne_self _⟩, fun b hb => ?_, q⟩
    have hle : s1.heap.objs.size ≤ b := by
      have z : b = s1.heap.objs.size + 1 ∨ b = s1.heap.objs.size := by simpa using hb
      rcases z with z | z
      · rw [z]
        exact Nat.le_add_right _ _
      · rw [z]
        exact Nat.le_refl _
    exact I1.fpOk hle (I1.hok.fresh hle)
end EB

/-! EB3: what is known of the slots (Kn), what an expression comes to (JE), a test (JT), arguments (JA), a statement (JS). -/
namespace EB
open PySem PySem.Spec PyProof.Rows L2 Evl
/-- what is known of a value; it stays known while the heap grows -/
structure PV where
  p : Hp → V → Prop
  mn : ∀ {H H' : Hp} {v : V}, Ex H H' → p H v → p H' v
abbrev Kn := List (Option PV)
mutual
theorem dp_mono {K : PySem.W.Frag} {H H' : Hp} (e : Ex H H') : ∀ {v : V} {d : PyData}, Dp K H v d → Dp K H' v d
  | _, _, .non => .non
  | _, _, .bl b => .bl b
  | _, _, .int i => .int i
  | _, _, .str x => .str x
  | _, _, .lst h a => .lst (ex_l e h) (dpAll_mono e a)
  | _, _, .tup h a => .tup (ex_t e h) (dpAll_mono e a)
theorem dpAll_mono {K : PySem.W.Frag} {H H' : Hp} (e : Ex H H') : ∀ {vs : List V} {ds : List PyData}, DpAll K H vs ds → DpAll K H' vs ds
  | _, _, .nil => .nil
  | _, _, .cons h t => .cons (dp_mono e h) (dpAll_mono e t)
end
def dv (K : PySem.W.Frag) (d : PyData) : PV := ⟨fun H v => Dp K H v d, fun e h => dp_mono e h⟩
/-- exactly this value -/
def xv (v : V) : PV := ⟨fun _ u => u = v, fun _ h => h⟩
theorem dp_int {K : PySem.W.Frag} {H : Hp} {v : V} {i : Int} (h : Dp K H v (.int i)) : v = .int i := by cases h; rfl
theorem dp_bl {K : PySem.W.Frag} {H : Hp} {v : V} {b : Bool} (h : Dp K H v (.bool b)) : v = .bl b := by cases h; rfl
theorem dp_str {K : PySem.W.Frag} {H : Hp} {v : V} {x : Str} (h : Dp K H v (.str x)) : v = .str x := by cases h; rfl
theorem dp_tup {K : PySem.W.Frag} {H : Hp} {v : V} {ds : List PyData} (h : Dp K H v (.tuple ds)) : ∃ a xs, v = .ref a ∧ SqT K H a xs ∧ DpAll K H xs ds := by
  cases h with
  | tup h a => exact ⟨_, _, rfl, h, a⟩
theorem dp_lst {K : PySem.W.Frag} {H : Hp} {v : V} {ds : List PyData} (h : Dp K H v (.list ds)) : ∃ a xs, v = .ref a ∧ SqL K H a xs ∧ DpAll K H xs ds := by
  cases h with
  | lst h a => exact ⟨_, _, rfl, h, a⟩
theorem dpLength {K : PySem.W.Frag} {H : Hp} : ∀ {vs : List V} {ds : List PyData}, DpAll K H vs ds → vs.length = ds.length
  | _, _, .nil => rfl
  | _, _, .cons _ t => congrArg (· + 1) (dpLength t)
theorem dpGet {K : PySem.W.Frag} {H : Hp} : ∀ {vs : List V} {ds : List PyData} {i : Nat} {d : PyData}, DpAll K H vs ds → ds[i]? = some d → ∃ v, vs[i]? = some v ∧ Dp K H v d
  | _, _, _, _, .nil, h => by simp at h
  | _, _, 0, _, .cons h _, e => by
    simp at e
    subst e
    exact ⟨_, rfl, h⟩
  | _, _, i + 1, _, .cons _ t, e => by
    obtain ⟨v, h1, h2⟩ := dpGet (i := i) t (by simpa using e)
    exact ⟨v, by simpa using h1, h2⟩
theorem dpApp {K : PySem.W.Frag} {H : Hp} : ∀ {vs us : List V} {ds es : List PyData}, DpAll K H vs ds → DpAll K H us es → DpAll K H (vs ++ us) (ds ++ es)
  | _, _, _, _, .nil, s => s
  | _, _, _, _, .cons h t, s => .cons h (dpApp t s)
theorem dpTake {K : PySem.W.Frag} {H : Hp} : ∀ {vs : List V} {ds : List PyData} (n : Nat), DpAll K H vs ds → DpAll K H (vs.take n) (ds.take n)
  | _, _, 0, _ => .nil
  | _, _, _ + 1, .nil => .nil
  | _, _, n + 1, .cons h t => .cons h (dpTake n t)
theorem dpDrop {K : PySem.W.Frag} {H : Hp} : ∀ {vs : List V} {ds : List PyData} (n : Nat), DpAll K H vs ds → DpAll K H (vs.drop n) (ds.drop n)
  | _, _, 0, h => h
  | _, _, _ + 1, .nil => .nil
  | _, _, n + 1, .cons _ t => dpDrop n t
theorem dpAll_ints {K : PySem.W.Frag} {H : Hp} : ∀ (ns : List Int), DpAll K H (ns.map V.int) (ns.map PyData.int)
  | [] => .nil
  | n :: r => .cons (.int n) (dpAll_ints r)
theorem dpAll_ints_eq {K : PySem.W.Frag} {H : Hp} : ∀ {vs : List V} {ns : List Int}, DpAll K H vs (ns.map PyData.int) → vs = ns.map V.int
  | _, [], h => by cases h; rfl
  | _, n :: r, h => by
    cases h with
    | cons h1 h2 => rw [dp_int h1, dpAll_ints_eq h2] <;> rfl
/-! ### the slots -/
def Sl (H : Hp) (σ : L2.St) (ps : Kn) : Prop := σ.length = ps.length ∧ ∀ (i : Nat) (P : PV), ps[i]? = some (some P) → ∃ v, σ[i]? = some (some v) ∧ P.p H v
theorem Sl.mono {H H' : Hp} {σ : L2.St} {ps : Kn} (S : Sl H σ ps) (e : Ex H H') : Sl H' σ ps := ⟨S.1, fun i P h => by
  obtain ⟨v, h1, h2⟩ := S.2 i P h
  exact ⟨v, h1, P.mn e h2⟩⟩
theorem Sl.set {H : Hp} {σ : L2.St} {ps : Kn} {P : PV} {v : V} (S : Sl H σ ps) (i : Nat) (h : P.p H v) : Sl H (σ.set i (some v)) (ps.set i (some P)) := by
  refine ⟨by rw [List.length_set, List.length_set, S.1], fun j R hj => ?_⟩
  by_cases e : i = j
  · subst e
    have hl : i < ps.length := by
      have := (List.getElem?_eq_some_iff.mp hj).1
      simpa using this
    rw [List.getElem?_set_self hl] at hj
    cases hj
    exact ⟨v, List.getElem?_set_self (by rw [S.1]; exact hl), h⟩
  · rw [List.getElem?_set_ne e] at hj
    obtain ⟨u, h1, h2⟩ := S.2 j R hj
    exact ⟨u, by rw [List.getElem?_set_ne e]; exact h1, h2⟩
theorem Sl.forget {H : Hp} {σ : L2.St} {ps : Kn} (S : Sl H σ ps) (i : Nat) (x : Option V) : Sl H (σ.set i x) (ps.set i none) := by
  refine ⟨by rw [List.length_set, List.length_set, S.1], fun j R hj => ?_⟩
  by_cases e : i = j
  · subst e
    have hl : i < ps.length := by
      have := (List.getElem?_eq_some_iff.mp hj).1
      simpa using this
    rw [List.getElem?_set_self hl] at hj
    cases hj
  · rw [List.getElem?_set_ne e] at hj
    obtain ⟨u, h1, h2⟩ := S.2 j R hj
    exact ⟨u, by rw [List.getElem?_set_ne e]; exact h1, h2⟩
/-- less is known -/
def Weak : Kn → Kn → Prop
  | [], [] => True
  | p :: ps, q :: qs => (q = none ∨ q = p) ∧ Weak ps qs
  | _, _ => False
theorem Weak.rfl_ : ∀ ps : Kn, Weak ps ps
  | [] => trivial
  | _ :: r => ⟨.inr rfl, Weak.rfl_ r⟩
theorem Weak.len : ∀ {ps qs : Kn}, Weak ps qs → ps.length = qs.length
  | [], [], _ => rfl
  | _ :: _, _ :: _, h => congrArg (· + 1) (Weak.len h.2)
theorem Weak.get : ∀ {ps qs : Kn} {i : Nat} {P : PV}, Weak ps qs → qs[i]? = some (some P) → ps[i]? = some (some P)
  | [], [], _, _, _, e => by simp at e
  | p :: ps, q :: qs, 0, P, h, e => by
    simp at e ⊢
    rcases h.1 with z | z
    · rw [z] at e; cases e
    · rw [← z]; exact e
  | p :: ps, q :: qs, i + 1, P, h, e => by
    simp at e ⊢
    exact Weak.get h.2 e
theorem Sl.weak {H : Hp} {σ : L2.St} {ps qs : Kn} (S : Sl H σ ps) (w : Weak ps qs) : Sl H σ qs := ⟨by rw [S.1, w.len], fun i P h => S.2 i P (w.get h)⟩
/-- known of several values, one after the other -/
inductive AllP (H : Hp) : List V → List PV → Prop
  | nil : AllP H [] []
  | cons {v : V} {vs : List V} {P : PV} {Ps : List PV} : P.p H v → AllP H vs Ps → AllP H (v :: vs) (P :: Ps)
theorem AllP.mono {H H' : Hp} (e : Ex H H') : ∀ {vs : List V} {Ps : List PV}, AllP H vs Ps → AllP H' vs Ps
  | _, _, .nil => .nil
  | _, _, .cons h t => .cons (PV.mn _ e h) (AllP.mono e t)
theorem AllP.length {H : Hp} : ∀ {vs : List V} {Ps : List PV}, AllP H vs Ps → vs.length = Ps.length
  | _, _, .nil => rfl
  | _, _, .cons _ t => congrArg (· + 1) (AllP.length t)
theorem AllP.dv {K : PySem.W.Frag} {H : Hp} : ∀ {vs : List V} {ds : List PyData}, AllP H vs (ds.map (dv K)) → DpAll K H vs ds
  | _, [], h => by cases h; exact .nil
  | _, d :: r, h => by
    cases h with
    | cons h1 h2 => exact .cons h1 (AllP.dv h2)
theorem AllP.of_dv {K : PySem.W.Frag} {H : Hp} : ∀ {vs : List V} {ds : List PyData}, DpAll K H vs ds → AllP H vs (ds.map (EB.dv K))
  | _, _, .nil => .nil
  | _, _, .cons h t => .cons h (AllP.of_dv t)
theorem AllP.get {H : Hp} : ∀ {vs : List V} {Ps : List PV} {i : Nat} {P : PV}, AllP H vs Ps → Ps[i]? = some P → ∃ v, vs[i]? = some v ∧ P.p H v
  | _, _, _, _, .nil, e => by simp at e
  | _, _, 0, _, .cons h _, e => by
    simp at e
    subst e
    exact ⟨_, rfl, h⟩
  | _, _, i + 1, _, .cons _ t, e => by
    obtain ⟨v, h1, h2⟩ := AllP.get (i := i) t (by simpa using e)
    exact ⟨v, by simpa using h1, h2⟩
theorem AllP.app {H : Hp} : ∀ {vs us : List V} {Ps Qs : List PV}, AllP H vs Ps → AllP H us Qs → AllP H (vs ++ us) (Ps ++ Qs)
  | _, _, _, _, .nil, s => s
  | _, _, _, _, .cons h t, s => .cons h (AllP.app t s)
def entry (N : List Str) (Ps : List PV) : Kn := Ps.map some ++ List.replicate (N.length - Ps.length) none
theorem Sl.start {H : Hp} {N : List Str} {vs : List V} {Ps : List PV} (h : AllP H vs Ps) : Sl H (L2.start N vs) (entry N Ps) := by
  refine ⟨by unfold L2.start entry; simp [h.length], fun i P e => ?_⟩
  unfold entry at e
  by_cases hi : i < Ps.length
  · rw [List.getElem?_append_left (by simpa using hi)] at e
    rw [List.getElem?_map] at e
    cases q : Ps[i]? with
    | none => rw [q] at e; simp at e
    | some R =>
      rw [q] at e
      have : R = P := by simpa using e
      subst this
      obtain ⟨v, h1, h2⟩ := h.get q
      refine ⟨v, ?_, h2⟩
      unfold L2.start
      rw [List.getElem?_append_left (by simp [h.length]; exact hi), List.getElem?_map, h1]
      rfl
  · rw [List.getElem?_append_right (by simpa using hi)] at e
    have := List.mem_of_getElem? e
    have := List.eq_of_mem_replicate this
    cases this
/-! ### growing: F, where the facts are told; H, the heap -/
structure Gr (F H F' H' : Hp) : Prop where
  ff : Ex F F'
  hh : Ex H H'
  fh : Ex F' H'
  nw : ∀ a, H a ≠ none → F a = none → F' a = none
theorem Gr.refl {F H : Hp} (fh : Ex F H) : Gr F H F H := ⟨Ex.refl _, Ex.refl _, fh, fun _ _ h => h⟩
theorem Gr.trans {F H F1 H1 F2 H2 : Hp} (a : Gr F H F1 H1) (b : Gr F1 H1 F2 H2) : Gr F H F2 H2 := ⟨a.ff.trans b.ff, a.hh.trans b.hh, b.fh, fun x hx hf => b.nw x (fun z => by
  have := fresh_back a.hh z
  exact hx this) (a.nw x hx hf)⟩
theorem ex_upd {F H : Hp} {p : Addr} {o : HO} (fh : Ex F H) (hp : H p = none) : Ex (upd F p o) (upd H p o) := fun a u e => by
  by_cases z : a = p
  · subst z
    rw [upd_same] at e ⊢
    exact e
  · rw [upd_ne z] at e ⊢
    exact fh a u e
theorem Gr.new {F H : Hp} {p : Addr} {o : HO} (fh : Ex F H) (hp : H p = none) : Gr F H (upd F p o) (upd H p o) := ⟨Ex.new (fresh_back fh hp), Ex.new hp, ex_upd fh hp, fun a ha hf => by
  have : a ≠ p := fun z => by
    subst z
    exact ha hp
  rw [upd_ne this]
  exact hf⟩
/-- the heap alone grows -/
theorem Gr.heap {F H H' : Hp} (fh : Ex F H) (e : Ex H H') : Gr F H F H' := ⟨Ex.refl _, e, fh.trans e, fun _ _ h => h⟩
/-! ### errors and outcomes -/
inductive EC | WrongCount | TooFar | NoPoint | Repeated | OnLine | NoSize | WrongRow | WrongLine | OnPlane | Within | NotTouched | NotBowl
  deriving DecidableEq
def EC.fld : EC → Str
  | .WrongCount => "count"
  | .TooFar => "value"
  | .NoPoint => "number"
  | .Repeated => "number"
  | .OnLine => "numbers"
  | .NoSize => "size"
  | .WrongRow => "form"
  | .WrongLine => "line"
  | .OnPlane => "numbers"
  | .Within => "triangle"
  | .NotTouched => "triangle"
  | .NotBowl => "triangle"
structure Er where
  c : EC
  val : PyData
inductive Out
  | ok (P : PV)
  | er (e : Er)
/-- what is wanted of a call that ends in o; M: where the classes stand -/
def Then (K : PySem.W.Frag) (M : EC → Addr) (F H : Hp) (Q : VK) (E : XK) : Out → Prop
  | .ok P => ∀ v F' H', Gr F H F' H' → P.p F' v → Q v H'
  | .er e => ∀ d u F' H', Gr F H F' H' → H d = none → H' d = some (.xd [(e.c.fld, u)]) → Dp K F' u e.val → E (.ref (M e.c)) (some d) H'
theorem Then.step {K : PySem.W.Frag} {M : EC → Addr} {F H F1 H1 : Hp} {Q : VK} {E : XK} {o : Out} (e : Gr F H F1 H1) (h : Then K M F H Q E o) : Then K M F1 H1 Q E o := by
  cases o with
  | ok P => exact fun v F' H' e2 p => h v F' H' (e.trans e2) p
  | er x => exact fun d u F' H' e2 n a b => h d u F' H' (e.trans e2) (fresh_back e.hh n) a b
/-- a def's promise: the arguments' kinds, the domain, the outcome -/
def Prm (K : PySem.W.Frag) (M : EC → Addr) {α : Type} (args : α → List PV) (dom : α → Prop) (out : α → Out) : Sp :=
  fun vs H Q E => ∃ a F, Ex F H ∧ AllP F vs (args a) ∧ dom a ∧ Then K M F H Q E (out a)
section
variable {K : PySem.W.Frag} {M : EC → Addr} {W : WX} {ps : Kn}
def JE (K : PySem.W.Frag) (M : EC → Addr) (W : WX) (te : TE) (ps : Kn) (o : Out) : Prop := ∀ σ F H Q, Ex F H → Sl F σ ps → Then K M F H Q (WE W σ) o → te σ H Q
abbrev JV (K : PySem.W.Frag) (M : EC → Addr) (W : WX) (te : TE) (ps : Kn) (P : PV) : Prop := JE K M W te ps (.ok P)
abbrev JD (K : PySem.W.Frag) (M : EC → Addr) (W : WX) (te : TE) (ps : Kn) (d : PyData) : Prop := JE K M W te ps (.ok (dv K d))
def JT (K : PySem.W.Frag) (M : EC → Addr) (W : WX) (tt : TT) (ps : Kn) (b : Bool) : Prop := ∀ σ F H (Q : Bool → Hp → Prop), Ex F H → Sl F σ ps → (∀ F' H', Gr F H F' H' → Q b H') → tt σ H Q
def JA (K : PySem.W.Frag) (M : EC → Addr) (W : WX) (ta : TA) (ps : Kn) (Ps : List PV) : Prop := ∀ σ F H (Q : List V → Hp → Prop), Ex F H → Sl F σ ps → (∀ vs F' H', Gr F H F' H' → AllP F' vs Ps → Q vs H') → ta σ H Q
variable {ta tb tc te : TE} {t u : TT}
theorem JE.go {P : PV} (h : JV K M W te ps P) {σ : L2.St} {F H : Hp} {Q : VK} (fh : Ex F H) (S : Sl F σ ps) (k : ∀ v F' H', Gr F H F' H' → P.p F' v → Q v H') : te σ H Q := h σ F H Q fh S k
theorem je_var {i : Nat} {P : PV} (h : ps[i]? = some (some P)) : JV K M W (tVar i) ps P := fun σ F H Q fh S k => by
  obtain ⟨v, h1, h2⟩ := S.2 i P h
  exact ⟨v, h1, k v F H (Gr.refl fh) h2⟩
theorem je_int {i : Int} : JD K M W (tC (.int i)) ps (.int i) := fun σ F H Q fh S k => k _ F H (Gr.refl fh) (.int i)
theorem je_str {x : Str} : JD K M W (tC (.str x)) ps (.str x) := fun σ F H Q fh S k => k _ F H (Gr.refl fh) (.str x)
theorem je_bl {b : Bool} : JD K M W (tC (.bl b)) ps (.bool b) := fun σ F H Q fh S k => k _ F H (Gr.refl fh) (.bl b)
theorem je_non : JD K M W (tC .non) ps .none := fun σ F H Q fh S k => k _ F H (Gr.refl fh) .non
theorem je_x {v : V} : JV K M W (tC v) ps (xv v) := fun σ F H Q fh S k => k _ F H (Gr.refl fh) rfl
theorem je_weak {P R : PV} (h : JV K M W te ps P) (i : ∀ H v, P.p H v → R.p H v) : JV K M W te ps R := fun σ F H Q fh S k => h.go fh S fun v F' H' e p => k v F' H' e (i F' v p)
/-- two operands that are known, an operation on values -/
theorem je_op {r : R2} {P R S' : PV} (ha : JV K M W ta ps P) (hb : JV K M W tb ps R) (hr : ∀ x y F H, Ex F H → P.p F x → R.p F y → ∀ Q : VK, (∀ v F' H', Gr F H F' H' → S'.p F' v → Q v H') → r x y H Q) : JV K M W (tOp r ta tb) ps S' := fun σ F H Q fh S k =>
  ha.go fh S fun x F1 H1 e1 p => hb.go e1.fh (S.mono e1.ff) fun y F2 H2 e2 q => hr x y F2 H2 e2.fh (P.mn e2.ff p) q Q fun v F3 H3 e3 s => k v F3 H3 ((e1.trans e2).trans e3) s
theorem je_un {r : V → Hp → VK → Prop} {P R : PV} (ha : JV K M W ta ps P) (hr : ∀ x F H, Ex F H → P.p F x → ∀ Q : VK, (∀ v F' H', Gr F H F' H' → R.p F' v → Q v H') → r x H Q) : JV K M W (tUn r ta) ps R := fun σ F H Q fh S k =>
  ha.go fh S fun x F1 H1 e1 p => hr x F1 H1 e1.fh p Q fun v F2 H2 e2 s => k v F2 H2 (e1.trans e2) s
/-- two ints -/
theorem je_ii0 {g : Int → Int → V} {i j : Int} {d : PyData} (ha : JD K M W ta ps (.int i)) (hb : JD K M W tb ps (.int j)) (hd : ∀ H, Dp K H (g i j) d) : JD K M W (tOp (rI0 g) ta tb) ps d :=
  je_op ha hb fun x y F H fh p q Q k => ⟨i, j, dp_int p, dp_int q, k _ F H (Gr.refl fh) (hd F)⟩
theorem je_iiC {C : Int → Int → Prop} {g : Int → Int → V} {i j : Int} {d : PyData} (ha : JD K M W ta ps (.int i)) (hb : JD K M W tb ps (.int j)) (hc : C i j) (hd : ∀ H, Dp K H (g i j) d) : JD K M W (tOp (rI C g) ta tb) ps d :=
  je_op ha hb fun x y F H fh p q Q k => ⟨i, j, dp_int p, dp_int q, hc, k _ F H (Gr.refl fh) (hd F)⟩
theorem je_add {i j : Int} (ha : JD K M W ta ps (.int i)) (hb : JD K M W tb ps (.int j)) : JD K M W (tOp (rI0 fun i j => .int (i + j)) ta tb) ps (.int (i + j)) := je_ii0 ha hb fun _ => .int _
theorem je_sub {i j : Int} (ha : JD K M W ta ps (.int i)) (hb : JD K M W tb ps (.int j)) : JD K M W (tOp (rI0 fun i j => .int (i - j)) ta tb) ps (.int (i - j)) := je_ii0 ha hb fun _ => .int _
theorem je_mul {i j : Int} (ha : JD K M W ta ps (.int i)) (hb : JD K M W tb ps (.int j)) (hc : CMul i j) : JD K M W (tOp (rI CMul fun i j => .int (i * j)) ta tb) ps (.int (i * j)) := je_iiC ha hb hc fun _ => .int _
theorem je_mod {i j : Int} (ha : JD K M W ta ps (.int i)) (hb : JD K M W tb ps (.int j)) (hc : 0 < j) : JD K M W (tOp (rI (fun _ j => 0 < j) fun i j => .int (i % j)) ta tb) ps (.int (i % j)) := je_iiC (C := fun _ j => 0 < j) ha hb hc fun _ => .int _
theorem je_div {i j : Int} (ha : JD K M W ta ps (.int i)) (hb : JD K M W tb ps (.int j)) (hc : CDiv i j) : JD K M W (tOp (rI CDiv fun i j => .int (i / j)) ta tb) ps (.int (i / j)) := je_iiC ha hb hc fun _ => .int _
theorem je_pow {i j : Int} (ha : JD K M W ta ps (.int i)) (hb : JD K M W tb ps (.int j)) (hc : CPow i j) : JD K M W (tOp (rI CPow fun i j => .int (i ^ j.toNat)) ta tb) ps (.int (i ^ j.toNat)) := je_iiC ha hb hc fun _ => .int _
theorem je_lt {i j : Int} (ha : JD K M W ta ps (.int i)) (hb : JD K M W tb ps (.int j)) : JD K M W (tOp (rI0 fun i j => .bl (decide (i < j))) ta tb) ps (.bool (decide (i < j))) := je_ii0 ha hb fun _ => .bl _
theorem je_le {i j : Int} (ha : JD K M W ta ps (.int i)) (hb : JD K M W tb ps (.int j)) : JD K M W (tOp (rI0 fun i j => .bl (decide (i ≤ j))) ta tb) ps (.bool (decide (i ≤ j))) := je_ii0 ha hb fun _ => .bl _
theorem je_gt {i j : Int} (ha : JD K M W ta ps (.int i)) (hb : JD K M W tb ps (.int j)) : JD K M W (tOp (rI0 fun i j => .bl (decide (j < i))) ta tb) ps (.bool (decide (j < i))) := je_ii0 ha hb fun _ => .bl _
theorem je_ge {i j : Int} (ha : JD K M W ta ps (.int i)) (hb : JD K M W tb ps (.int j)) : JD K M W (tOp (rI0 fun i j => .bl (decide (j ≤ i))) ta tb) ps (.bool (decide (j ≤ i))) := je_ii0 ha hb fun _ => .bl _
theorem je_eqI {i j : Int} (ha : JD K M W ta ps (.int i)) (hb : JD K M W tb ps (.int j)) : JD K M W (tOp rEq ta tb) ps (.bool (decide (i = j))) := je_op ha hb fun x y F H fh p q Q k => by
  rw [dp_int p, dp_int q]
  refine ⟨rfl, ?_⟩
  have e : decide (V.int i = V.int j) = decide (i = j) := by
    by_cases h : i = j
    · subst h; simp
    · simp [h]
  rw [e]
  exact k _ F H (Gr.refl fh) (.bl _)
theorem je_neI {i j : Int} (ha : JD K M W ta ps (.int i)) (hb : JD K M W tb ps (.int j)) : JD K M W (tOp rNe ta tb) ps (.bool (!decide (i = j))) := je_op ha hb fun x y F H fh p q Q k => by
  rw [dp_int p, dp_int q]
  refine ⟨rfl, ?_⟩
  have e : decide (V.int i = V.int j) = decide (i = j) := by
    by_cases h : i = j
    · subst h; simp
    · simp [h]
  rw [e]
  exact k _ F H (Gr.refl fh) (.bl _)
theorem je_eqS {x y : Str} (ha : JD K M W ta ps (.str x)) (hb : JD K M W tb ps (.str y)) : JD K M W (tOp rEq ta tb) ps (.bool (decide (x = y))) := je_op ha hb fun a b F H fh p q Q k => by
  rw [dp_str p, dp_str q]
  refine ⟨rfl, ?_⟩
  have e : decide (V.str x = V.str y) = decide (x = y) := by
    by_cases h : x = y
    · subst h; simp
    · simp [h]
  rw [e]
  exact k _ F H (Gr.refl fh) (.bl _)
/-- data at any depth -/
theorem je_eqD {d e : PyData} (ha : JD K M W ta ps d) (hb : JD K M W tb ps e) (sd : SeqAt.shaped d = true) (se : SeqAt.shaped e = true) : JD K M W (tOp (rEqD K) ta tb) ps (.bool (PyData.eqv d e)) :=
  je_op ha hb fun x y F H fh p q Q k => ⟨d, e, dp_mono fh p, dp_mono fh q, sd, se, k _ F H (Gr.refl fh) (.bl _)⟩
theorem je_neD {d e : PyData} (ha : JD K M W ta ps d) (hb : JD K M W tb ps e) (sd : SeqAt.shaped d = true) (se : SeqAt.shaped e = true) : JD K M W (tOp (rNeD K) ta tb) ps (.bool (!PyData.eqv d e)) :=
  je_op ha hb fun x y F H fh p q Q k => ⟨d, e, dp_mono fh p, dp_mono fh q, sd, se, k _ F H (Gr.refl fh) (.bl _)⟩
theorem je_neg {i : Int} (ha : JD K M W ta ps (.int i)) : JD K M W (tUn (rU fun i => .int (-i)) ta) ps (.int (-i)) := je_un ha fun x F H fh p Q k => ⟨i, dp_int p, k _ F H (Gr.refl fh) (.int _)⟩
/-- items -/
theorem atI_all {H : Hp} {vs : List V} {ds : List PyData} {i : Int} {d : PyData} (h : DpAll K H vs ds) (ha : atI ds i = some d) : ∃ v, atI vs i = some v ∧ Dp K H v d := by
  unfold atI at ha ⊢
  rw [dpLength h]
  cases q : ixN ds.length i with
  | none => rw [q] at ha; cases ha
  | some j =>
    rw [q] at ha
    exact dpGet h ha
theorem je_ixT {ds : List PyData} {i : Int} {d : PyData} (ha : JD K M W ta ps (.tuple ds)) (hb : JD K M W tb ps (.int i)) (hi : atI ds i = some d) : JD K M W (tOp (rIxT K) ta tb) ps d :=
  je_op ha hb fun x y F H fh p q Q k => by
    obtain ⟨a, xs, rfl, hs, hd⟩ := dp_tup p
    obtain ⟨v, hv, dd⟩ := atI_all hd hi
    exact ⟨a, xs, i, v, rfl, dp_int q, ex_t fh hs, hv, k v F H (Gr.refl fh) dd⟩
theorem je_ixL {ds : List PyData} {i : Int} {d : PyData} (ha : JD K M W ta ps (.list ds)) (hb : JD K M W tb ps (.int i)) (hi : atI ds i = some d) : JD K M W (tOp (rIxL K) ta tb) ps d :=
  je_op ha hb fun x y F H fh p q Q k => by
    obtain ⟨a, xs, rfl, hs, hd⟩ := dp_lst p
    obtain ⟨v, hv, dd⟩ := atI_all hd hi
    exact ⟨a, xs, i, v, rfl, dp_int q, ex_l fh hs, hv, k v F H (Gr.refl fh) dd⟩
theorem je_ixQT {ds : List PyData} {i : Int} {d : PyData} (ha : JD K M W ta ps (.tuple ds)) (hb : JD K M W tb ps (.int i)) (hi : atI ds i = some d) : JD K M W (tOp (rIx K) ta tb) ps d :=
  je_op ha hb fun x y F H fh p q Q k => by
    obtain ⟨a, xs, rfl, hs, hd⟩ := dp_tup p
    obtain ⟨v, hv, dd⟩ := atI_all hd hi
    exact .inr (.inl ⟨a, xs, i, v, rfl, dp_int q, ex_t fh hs, hv, k v F H (Gr.refl fh) dd⟩)
theorem je_ixQL {ds : List PyData} {i : Int} {d : PyData} (ha : JD K M W ta ps (.list ds)) (hb : JD K M W tb ps (.int i)) (hi : atI ds i = some d) : JD K M W (tOp (rIx K) ta tb) ps d :=
  je_op ha hb fun x y F H fh p q Q k => by
    obtain ⟨a, xs, rfl, hs, hd⟩ := dp_lst p
    obtain ⟨v, hv, dd⟩ := atI_all hd hi
    exact .inl ⟨a, xs, i, v, rfl, dp_int q, ex_l fh hs, hv, k v F H (Gr.refl fh) dd⟩
/-- arguments -/
theorem ja_nil : JA K M W tNil ps [] := fun σ F H Q fh S k => k [] F H (Gr.refl fh) .nil
theorem ja_cons {P : PV} {Ps : List PV} {tr : TA} (h : JV K M W te ps P) (hr : JA K M W tr ps Ps) : JA K M W (tCons te tr) ps (P :: Ps) := fun σ F H Q fh S k =>
  h.go fh S fun v F1 H1 e1 p => hr σ F1 H1 _ e1.fh (S.mono e1.ff) fun vs F2 H2 e2 a => k (v :: vs) F2 H2 (e1.trans e2) (.cons (P.mn e2.ff p) a)
theorem ja_starT {ds : List PyData} {Ps : List PV} {tr : TA} (h : JD K M W te ps (.tuple ds)) (hr : JA K M W tr ps Ps) : JA K M W (StX.tStar K te tr) ps (ds.map (dv K) ++ Ps) := fun σ F H Q fh S k =>
  h.go fh S fun v F1 H1 e1 p => by
    obtain ⟨a, xs, rfl, hs, hd⟩ := dp_tup p
    exact ⟨a, xs, rfl, .inl (ex_t e1.fh hs), hr σ F1 H1 _ e1.fh (S.mono e1.ff) fun vs F2 H2 e2 b => k (xs ++ vs) F2 H2 (e1.trans e2) ((AllP.of_dv (dpAll_mono e2.ff hd)).app b)⟩
theorem ja_starL {ds : List PyData} {Ps : List PV} {tr : TA} (h : JD K M W te ps (.list ds)) (hr : JA K M W tr ps Ps) : JA K M W (StX.tStar K te tr) ps (ds.map (dv K) ++ Ps) := fun σ F H Q fh S k =>
  h.go fh S fun v F1 H1 e1 p => by
    obtain ⟨a, xs, rfl, hs, hd⟩ := dp_lst p
    exact ⟨a, xs, rfl, .inr (ex_l e1.fh hs), hr σ F1 H1 _ e1.fh (S.mono e1.ff) fun vs F2 H2 e2 b => k (xs ++ vs) F2 H2 (e1.trans e2) ((AllP.of_dv (dpAll_mono e2.ff hd)).app b)⟩
theorem ja_is {Ps Qs : List PV} {tr : TA} (h : JA K M W tr ps Ps) (e : Ps = Qs) : JA K M W tr ps Qs := e ▸ h
theorem je_tup {ds : List PyData} {tr : TA} (h : JA K M W tr ps (ds.map (dv K))) (hl : ds.length ≤ 100000 := by first | decide | omega | (simp; done)) : JD K M W (tTup tr) ps (.tuple ds) := fun σ F H Q fh S k =>
  h σ F H _ fh S fun vs F1 H1 e1 a => ⟨sz_of (by rw [dpLength a.dv]; exact hl), fun p hp => k _ _ _ (e1.trans (Gr.new e1.fh hp)) (.tup (st_of upd_same) (dpAll_mono (Gr.new (o := .tup vs) e1.fh hp).ff a.dv))⟩
theorem je_lst {ds : List PyData} {tr : TA} (h : JA K M W tr ps (ds.map (dv K))) (hl : ds.length ≤ 100000 := by first | decide | omega | (simp; done)) : JD K M W (tLst tr) ps (.list ds) := fun σ F H Q fh S k =>
  h σ F H _ fh S fun vs F1 H1 e1 a => ⟨sz_of (by rw [dpLength a.dv]; exact hl), fun p hp => k _ _ _ (e1.trans (Gr.new e1.fh hp)) (.lst (sq_of upd_same) (dpAll_mono (Gr.new (o := .lst vs) e1.fh hp).ff a.dv))⟩
/-- calls -/
theorem je_call {α : Type} {args : α → List PV} {dom : α → Prop} {out : α → Out} {tr : TA} (a : α) (h : JA K M W tr ps (args a)) (hd : dom a) : JE K M W (tCallS (Prm K M args dom out) (WE W) tr) ps (out a) := fun σ F H Q fh S k =>
  h σ F H _ fh S fun vs F1 H1 e1 b => ⟨a, F1, e1.fh, b, hd, Then.step e1 k⟩
theorem je_cb {r : List V → Hp → VK → Prop} {Ps : List PV} {P : PV} {tr : TA} (h : JA K M W tr ps Ps) (hr : ∀ vs F H, Ex F H → AllP F vs Ps → ∀ Q : VK, (∀ v F' H', Gr F H F' H' → P.p F' v → Q v H') → r vs H Q) : JV K M W (tCB r tr) ps P := fun σ F H Q fh S k =>
  h σ F H _ fh S fun vs F1 H1 e1 b => hr vs F1 H1 e1.fh b Q fun v F2 H2 e2 p => k v F2 H2 (e1.trans e2) p
theorem allP1 {H : Hp} {vs : List V} {P : PV} (h : AllP H vs [P]) : ∃ v, vs = [v] ∧ P.p H v := by
  cases h with
  | cons h t => cases t; exact ⟨_, rfl, h⟩
theorem allP2 {H : Hp} {vs : List V} {P R : PV} (h : AllP H vs [P, R]) : ∃ v u, vs = [v, u] ∧ P.p H v ∧ R.p H u := by
  cases h with
  | cons h t =>
    obtain ⟨u, rfl, h2⟩ := allP1 t
    exact ⟨_, _, rfl, h, h2⟩
def rAbs : List V → Hp → VK → Prop := fun xs H Q => ∃ i, xs = [.int i] ∧ Q (.int (if i < 0 then -i else i)) H
theorem je_abs {i : Int} (h : JD K M W te ps (.int i)) : JD K M W (tCB rAbs (tCons te tNil)) ps (.int (if i < 0 then -i else i)) := je_cb (ja_cons h ja_nil) fun vs F H fh b Q k => by
  obtain ⟨v, rfl, p⟩ := allP1 b
  rw [dp_int p]
  exact ⟨i, rfl, k _ F H (Gr.refl fh) (.int _)⟩
def rInt1 : List V → Hp → VK → Prop := fun xs H Q => (∃ i, xs = [.int i] ∧ Q (.int i) H) ∨ ∃ k, xs = [.bl k] ∧ Q (.int (if k then 1 else 0)) H
theorem je_intI {i : Int} (h : JD K M W te ps (.int i)) : JD K M W (tCB rInt1 (tCons te tNil)) ps (.int i) := je_cb (ja_cons h ja_nil) fun vs F H fh b Q k => by
  obtain ⟨v, rfl, p⟩ := allP1 b
  rw [dp_int p]
  exact .inl ⟨i, rfl, k _ F H (Gr.refl fh) (.int _)⟩
theorem je_intB {c : Bool} (h : JD K M W te ps (.bool c)) : JD K M W (tCB rInt1 (tCons te tNil)) ps (.int (if c then 1 else 0)) := je_cb (ja_cons h ja_nil) fun vs F H fh b Q k => by
  obtain ⟨v, rfl, p⟩ := allP1 b
  rw [dp_bl p]
  exact .inr ⟨c, rfl, k _ F H (Gr.refl fh) (.int _)⟩
theorem je_lenT {ds : List PyData} (h : JD K M W te ps (.tuple ds)) : JD K M W (tCB (rLenS K) (tCons te tNil)) ps (.int ds.length) := je_cb (ja_cons h ja_nil) fun vs F H fh b Q k => by
  obtain ⟨v, rfl, p⟩ := allP1 b
  obtain ⟨a, xs, rfl, hs, hd⟩ := dp_tup p
  refine ⟨a, xs, rfl, .inr (ex_t fh hs), k _ F H (Gr.refl fh) ?_⟩
  rw [dpLength hd]
  exact .int _
theorem je_lenL {ds : List PyData} (h : JD K M W te ps (.list ds)) : JD K M W (tCB (rLenS K) (tCons te tNil)) ps (.int ds.length) := je_cb (ja_cons h ja_nil) fun vs F H fh b Q k => by
  obtain ⟨v, rfl, p⟩ := allP1 b
  obtain ⟨a, xs, rfl, hs, hd⟩ := dp_lst p
  refine ⟨a, xs, rfl, .inl (ex_l fh hs), k _ F H (Gr.refl fh) ?_⟩
  rw [dpLength hd]
  exact .int _
theorem je_listL {ds : List PyData} (h : JD K M W te ps (.list ds)) : JD K M W (tCB (rListS K) (tCons te tNil)) ps (.list ds) := je_cb (ja_cons h ja_nil) fun vs F H fh b Q k => by
  obtain ⟨v, rfl, p⟩ := allP1 b
  obtain ⟨a, xs, rfl, hs, hd⟩ := dp_lst p
  exact ⟨a, xs, rfl, .inl (ex_l fh hs), fun l hl => k _ _ _ (Gr.new fh hl) (.lst (sq_of upd_same) (dpAll_mono (Gr.new (o := .lst xs) fh hl).ff hd))⟩
theorem je_listT {ds : List PyData} (h : JD K M W te ps (.tuple ds)) : JD K M W (tCB (rListS K) (tCons te tNil)) ps (.list ds) := je_cb (ja_cons h ja_nil) fun vs F H fh b Q k => by
  obtain ⟨v, rfl, p⟩ := allP1 b
  obtain ⟨a, xs, rfl, hs, hd⟩ := dp_tup p
  exact ⟨a, xs, rfl, .inr (ex_t fh hs), fun l hl => k _ _ _ (Gr.new fh hl) (.lst (sq_of upd_same) (dpAll_mono (Gr.new (o := .lst xs) fh hl).ff hd))⟩
def rTupS (K : PySem.W.Frag) : List V → Hp → VK → Prop := fun xs H Q => ∃ p ys, xs = [.ref p] ∧ ((SqL K H p ys ∧ ∀ l, H l = none → Q (.ref l) (upd H l (.tup ys))) ∨ (SqT K H p ys ∧ Q (.ref p) H))
theorem je_tupL {ds : List PyData} (h : JD K M W te ps (.list ds)) : JD K M W (tCB (rTupS K) (tCons te tNil)) ps (.tuple ds) := je_cb (ja_cons h ja_nil) fun vs F H fh b Q k => by
  obtain ⟨v, rfl, p⟩ := allP1 b
  obtain ⟨a, xs, rfl, hs, hd⟩ := dp_lst p
  exact ⟨a, xs, rfl, .inl ⟨ex_l fh hs, fun l hl => k _ _ _ (Gr.new fh hl) (.tup (st_of upd_same) (dpAll_mono (Gr.new (o := .tup xs) fh hl).ff hd))⟩⟩
theorem je_tupT {ds : List PyData} (h : JD K M W te ps (.tuple ds)) : JD K M W (tCB (rTupS K) (tCons te tNil)) ps (.tuple ds) := je_cb (ja_cons h ja_nil) fun vs F H fh b Q k => by
  obtain ⟨v, rfl, p⟩ := allP1 b
  obtain ⟨a, xs, rfl, hs, hd⟩ := dp_tup p
  exact ⟨a, xs, rfl, .inr ⟨ex_t fh hs, k _ F H (Gr.refl fh) p⟩⟩
/-- tests -/
theorem jt_test {b : Bool} (h : JD K M W te ps (.bool b)) : JT K M W (tTest te) ps b := fun σ F H Q fh S k => h.go fh S fun v F1 H1 e p => ⟨b, dp_bl p, k F1 H1 e⟩
theorem jt_B {b : Bool} (h : JD K M W te ps (.bool b)) : JT K M W (tB te) ps b := fun σ F H Q fh S k => h.go fh S fun v F1 H1 e p => ⟨b, dp_bl p, k F1 H1 e⟩
theorem jt_and {a b : Bool} (h1 : JT K M W t ps a) (h2 : a = true → JT K M W u ps b) : JT K M W (tAnd t u) ps (a && b) := fun σ F H Q fh S k => h1 σ F H _ fh S fun F1 H1 e1 => by
  cases a with
  | true => exact h2 rfl σ F1 H1 Q e1.fh (S.mono e1.ff) fun F2 H2 e2 => k F2 H2 (e1.trans e2)
  | false => exact k F1 H1 e1
theorem jt_or {a b : Bool} (h1 : JT K M W t ps a) (h2 : a = false → JT K M W u ps b) : JT K M W (tOr t u) ps (a || b) := fun σ F H Q fh S k => h1 σ F H _ fh S fun F1 H1 e1 => by
  cases a with
  | false => exact h2 rfl σ F1 H1 Q e1.fh (S.mono e1.ff) fun F2 H2 e2 => k F2 H2 (e1.trans e2)
  | true => exact k F1 H1 e1
theorem jt_not {a : Bool} (h1 : JT K M W t ps a) : JT K M W (tNot t) ps (!a) := fun σ F H Q fh S k => h1 σ F H _ fh S fun F1 H1 e1 => k F1 H1 e1
theorem jt_yes : JT K M W tYes ps true := fun σ F H Q fh S k => k F H (Gr.refl fh)
theorem jt_is {a b : Bool} (h : JT K M W t ps a) (e : a = b) : JT K M W t ps b := by rw [← e]; exact h
theorem je_is {d e : PyData} (h : JD K M W te ps d) (q : d = e) : JD K M W te ps e := by rw [← q]; exact h
theorem je_andV {a b : Bool} (h1 : JD K M W ta ps (.bool a)) (h2 : a = true → JD K M W tb ps (.bool b)) : JD K M W (tAndV ta tb) ps (.bool (a && b)) := fun σ F H Q fh S k => h1.go fh S fun v F1 H1 e1 p => by
  refine ⟨a, dp_bl p, ?_⟩
  cases a with
  | true => exact (h2 rfl).go e1.fh (S.mono e1.ff) fun v F2 H2 e2 q => k v F2 H2 (e1.trans e2) q
  | false => exact k _ F1 H1 e1 (.bl false)
theorem je_orV {a b : Bool} (h1 : JD K M W ta ps (.bool a)) (h2 : a = false → JD K M W tb ps (.bool b)) : JD K M W (tOrV ta tb) ps (.bool (a || b)) := fun σ F H Q fh S k => h1.go fh S fun v F1 H1 e1 p => by
  refine ⟨a, dp_bl p, ?_⟩
  cases a with
  | false => exact (h2 rfl).go e1.fh (S.mono e1.ff) fun v F2 H2 e2 q => k v F2 H2 (e1.trans e2) q
  | true => exact k _ F1 H1 e1 (.bl true)
theorem je_notV {a : Bool} (h1 : JD K M W ta ps (.bool a)) : JD K M W (tNotV ta) ps (.bool (!a)) := fun σ F H Q fh S k => h1.go fh S fun v F1 H1 e1 p => ⟨a, dp_bl p, k _ F1 H1 e1 (.bl _)⟩
theorem je_if {b : Bool} {P : PV} (h : JT K M W t ps b) (h1 : b = true → JV K M W ta ps P) (h2 : b = false → JV K M W tb ps P) : JV K M W (tIf t ta tb) ps P := fun σ F H Q fh S k => h σ F H _ fh S fun F1 H1 e1 => by
  cases b with
  | true => exact (h1 rfl).go e1.fh (S.mono e1.ff) fun v F2 H2 e2 q => k v F2 H2 (e1.trans e2) q
  | false => exact (h2 rfl).go e1.fh (S.mono e1.ff) fun v F2 H2 e2 q => k v F2 H2 (e1.trans e2) q
/-- a < b <= c -/
theorem je_chain {r r' : R2} {P R T : PV} {k1 k2 : Bool} (ha : JV K M W ta ps P) (hb : JV K M W tb ps R) (hr : ∀ x y F H, Ex F H → P.p F x → R.p F y → ∀ Q : VK, Q (.bl k1) H → r x y H Q)
    (hc : k1 = true → JV K M W tc ps T) (hr' : ∀ x y F H, Ex F H → R.p F x → T.p F y → ∀ Q : VK, Q (.bl k2) H → r' x y H Q) : JD K M W (tChain r r' ta tb tc) ps (.bool (k1 && k2)) := fun σ F H Q fh S k =>
  ha.go fh S fun x F1 H1 e1 p => hb.go e1.fh (S.mono e1.ff) fun y F2 H2 e2 q => hr x y F2 H2 e2.fh (P.mn e2.ff p) q _ ⟨k1, rfl, by
    cases k1 with
    | false => exact k _ F2 H2 (e1.trans e2) (.bl _)
    | true => exact (hc rfl).go e2.fh ((S.mono e1.ff).mono e2.ff) fun z F3 H3 e3 s => hr' y z F3 H3 e3.fh (R.mn e3.ff q) s _ (k _ F3 H3 ((e1.trans e2).trans e3) (.bl _))⟩
theorem je_chainI {f f' : Int → Int → Bool} {i j l : Int} (ha : JD K M W ta ps (.int i)) (hb : JD K M W tb ps (.int j)) (hc : JD K M W tc ps (.int l)) :
    JD K M W (tChain (rI0 fun i j => .bl (f i j)) (rI0 fun i j => .bl (f' i j)) ta tb tc) ps (.bool (f i j && f' j l)) :=
  je_chain ha hb (fun x y F H fh p q Q k => ⟨i, j, dp_int p, dp_int q, k⟩) (fun _ => hc) (fun x y F H fh p q Q k => ⟨j, l, dp_int p, dp_int q, k⟩)
end
end EB

/-! EB4: statements (JS), loops over data, comprehensions, raise, methods, making. -/
namespace EB
open PySem PySem.Spec PyProof.Rows L2 Evl
inductive Res
  | nx (ps : Kn)
  | rt (P : PV)
  | bk (ps : Kn)
  | ct (ps : Kn)
  | er (e : Er)
def Wsh (K : PySem.W.Frag) (M : EC → Addr) (W : WX) (n : Nat) (D : Ends) (F H : Hp) : Res → Prop
  | .nx ps => ∀ σ' F' H', Gr F H F' H' → Sl F' σ' ps → D.nx σ' H'
  | .rt P => ∀ v F' H', Gr F H F' H' → P.p F' v → D.rt v H'
  | .bk ps => ∀ σ' F' H', Gr F H F' H' → Sl F' σ' ps → D.bk σ' H'
  | .ct ps => ∀ σ' F' H', Gr F H F' H' → Sl F' σ' ps → D.ct σ' H'
  | .er e => ∀ d u σ' F' H', Gr F H F' H' → H d = none → H' d = some (.xd [(e.c.fld, u)]) → Dp K F' u e.val → σ'.length = n → W (.ref (M e.c)) (some d) σ' H'
theorem Wsh.step {K : PySem.W.Frag} {M : EC → Addr} {W : WX} {n : Nat} {D : Ends} {F H F1 H1 : Hp} {r : Res} (e : Gr F H F1 H1) (h : Wsh K M W n D F H r) : Wsh K M W n D F1 H1 r := by
  cases r with
  | nx ps => exact fun σ' F' H' e2 s => h σ' F' H' (e.trans e2) s
  | rt P => exact fun v F' H' e2 s => h v F' H' (e.trans e2) s
  | bk ps => exact fun σ' F' H' e2 s => h σ' F' H' (e.trans e2) s
  | ct ps => exact fun σ' F' H' e2 s => h σ' F' H' (e.trans e2) s
  | er x => exact fun d u σ' F' H' e2 n a b l => h d u σ' F' H' (e.trans e2) (fresh_back e.hh n) a b l
/-- the end of a call's outcome, as a statement's -/
def Out.res (ps : Kn) : Out → Res
  | .ok _ => .nx ps
  | .er e => .er e
section
variable {K : PySem.W.Frag} {M : EC → Addr} {W : WX} {ps qs : Kn} {te ta tb : TE} {t : TT} {ts tu tw : TS} {r : Res}
def JS (K : PySem.W.Frag) (M : EC → Addr) (W : WX) (ts : TS) (ps : Kn) (r : Res) : Prop := ∀ D σ F H, Ex F H → Sl F σ ps → Wsh K M W ps.length D F H r → ts D σ H
/-- less is known of the slots behind it -/
theorem js_weak (h : JS K M W ts ps (.nx qs)) {rs : Kn} (w : Weak qs rs) : JS K M W ts ps (.nx rs) := fun D σ F H fh S k => h D σ F H fh S fun σ' F' H' e s => k σ' F' H' e (s.weak w)
theorem js_pre (h : JS K M W ts qs r) (w : Weak ps qs) : JS K M W ts ps r := fun D σ F H fh S k => h D σ F H fh (S.weak w) (by rw [← w.len]; exact k)
theorem js_next : JS K M W tNext ps (.nx ps) := fun D σ F H fh S k => k σ F H (Gr.refl fh) S
theorem js_cont : JS K M W tCont ps (.ct ps) := fun D σ F H fh S k => k σ F H (Gr.refl fh) S
theorem js_seq (h1 : JS K M W ts ps (.nx qs)) (h2 : JS K M W tu qs r) (hq : qs.length = ps.length := by first | rfl | (simp; done)) : JS K M W (tSeq ts tu) ps r := fun D σ F H fh S k => h1 { D with nx := tu D } σ F H fh S fun σ' F' H' e s => h2 D σ' F' H' e.fh s (by rw [hq]; exact Wsh.step e k)
/-- nothing behind it is reached -/
theorem js_stop {r : Res} (h1 : JS K M W ts ps r) (hr : ∀ qs, r ≠ .nx qs) : JS K M W (tSeq ts tu) ps r := fun D σ F H fh S k => h1 { D with nx := tu D } σ F H fh S (by
  cases r with
  | nx qs => exact absurd rfl (hr qs)
  | rt P => exact k
  | bk ps => exact k
  | ct ps => exact k
  | er e => exact k)
theorem js_rt {P : PV} (h1 : JS K M W ts ps (.rt P)) : JS K M W (tSeq ts tu) ps (.rt P) := js_stop h1 fun _ h => nomatch h
theorem js_er {e : Er} (h1 : JS K M W ts ps (.er e)) : JS K M W (tSeq ts tu) ps (.er e) := js_stop h1 fun _ h => nomatch h
theorem js_set {i : Nat} {P : PV} (h : JV K M W te ps P) : JS K M W (tAsg te (gName i)) ps (.nx (ps.set i (some P))) := fun D σ F H fh S k => h.go fh S fun v F1 H1 e p => k _ F1 H1 e ((S.mono e.ff).set i p)
theorem js_set_er {g : TG} {e : Er} (h : JE K M W te ps (.er e)) : JS K M W (tAsg te g) ps (.er e) := fun D σ F H fh S k => h σ F H _ fh S fun d u F' H' e1 n a b => k d u σ F' H' e1 n a b S.1
theorem js_ret {P : PV} (h : JV K M W te ps P) : JS K M W (tRet te) ps (.rt P) := fun D σ F H fh S k => h.go fh S fun v F1 H1 e p => k v F1 H1 e p
theorem js_ret_er {e : Er} (h : JE K M W te ps (.er e)) : JS K M W (tRet te) ps (.er e) := fun D σ F H fh S k => h σ F H _ fh S fun d u F' H' e1 n a b => k d u σ F' H' e1 n a b S.1
theorem js_retN : JS K M W tRetN ps (.rt (dv K .none)) := fun D σ F H fh S k => k .non F H (Gr.refl fh) .non
theorem js_drop {o : Out} (h : JE K M W te ps o) : JS K M W (tDrop te) ps (o.res ps) := fun D σ F H fh S k => h σ F H _ fh S (by
  cases o with
  | ok P => exact fun v F1 H1 e p => k σ F1 H1 e (S.mono e.ff)
  | er e => exact fun d u F' H' e1 n a b => k d u σ F' H' e1 n a b S.1)
theorem js_if {b : Bool} (h : JT K M W t ps b) (h1 : b = true → JS K M W ts ps r) (h2 : b = false → JS K M W tu ps r) : JS K M W (tIfS t ts tu) ps r := fun D σ F H fh S k => h σ F H _ fh S fun F1 H1 e1 => by
  cases b with
  | true => exact h1 rfl D σ F1 H1 e1.fh (S.mono e1.ff) (Wsh.step e1 k)
  | false => exact h2 rfl D σ F1 H1 e1.fh (S.mono e1.ff) (Wsh.step e1 k)
theorem js_res {r' : Res} (h : JS K M W ts ps r) (e : r = r') : JS K M W ts ps r' := e ▸ h
/-! ### targets -/
/-- a target takes a value that is known -/
structure Upto (vs : List Nat) (σ σ' : L2.St) : Prop where
  len : σ'.length = σ.length
  out : ∀ j, j ∉ vs → σ'[j]? = σ[j]?
theorem Upto.refl (vs : List Nat) (σ : L2.St) : Upto vs σ σ := ⟨rfl, fun _ _ => rfl⟩
theorem Upto.trans {vs : List Nat} {σ τ ρ : L2.St} (a : Upto vs σ τ) (b : Upto vs τ ρ) : Upto vs σ ρ := ⟨b.len.trans a.len, fun j h => (b.out j h).trans (a.out j h)⟩
theorem Upto.set {vs : List Nat} {σ : L2.St} {j : Nat} {x : Option V} (h : j ∈ vs) : Upto vs σ (σ.set j x) := ⟨by rw [List.length_set], fun i hi => by
  rw [List.getElem?_set_ne (fun z => hi (by rw [← z]; exact h))]⟩
theorem wipe_in {σ : L2.St} : ∀ {vs : List Nat} {j : Nat}, j ∈ vs → j < σ.length → (wipe σ vs)[j]? = some none
  | v :: vs, j, h, hl => by
    show ((wipe σ vs).set v none)[j]? = some none
    by_cases e : v = j
    · subst e
      exact List.getElem?_set_self (by rw [wipe_length]; exact hl)
    · rw [List.getElem?_set_ne e]
      rcases List.mem_cons.mp h with z | z
      · exact absurd z.symm e
      · exact wipe_in z hl
theorem wipe_upto {vs : List Nat} {σ σ' : L2.St} (u : Upto vs σ σ') : wipe σ' vs = wipe σ vs := by
  apply List.ext_getElem?
  intro j
  by_cases h : j ∈ vs
  · by_cases hl : j < σ.length
    · rw [wipe_in h hl, wipe_in h (by rw [u.len]; exact hl)]
    · rw [List.getElem?_eq_none (by rw [wipe_length, u.len]; omega), List.getElem?_eq_none (by rw [wipe_length]; omega)]
  · rw [wipe_out h, wipe_out h, u.out j h]
theorem upto_wipe {vs : List Nat} {σ : L2.St} : Upto vs σ (wipe σ vs) := ⟨wipe_length σ vs, fun j h => wipe_out h⟩
def wipeK : Kn → List Nat → Kn
  | ps, [] => ps
  | ps, v :: vs => (wipeK ps vs).set v none
theorem Sl.wipe {H : Hp} {σ : L2.St} {ps : Kn} (S : Sl H σ ps) : ∀ vs : List Nat, Sl H (L2.wipe σ vs) (wipeK ps vs)
  | [] => S
  | v :: vs => (Sl.wipe S vs).forget v none
def JG (vs : List Nat) (g : TG) (ps : Kn) (P : PV) (qs : Kn) : Prop := ∀ v σ F H (Q : L2.St → Hp → Prop), Ex F H → Sl F σ ps → P.p F v → (∀ σ' F' H', Gr F H F' H' → Sl F' σ' qs → Upto vs σ σ' → Q σ' H') → g v σ H Q
def JGs (vs : List Nat) (g : TGs) (ps : Kn) (Ps : List PV) (qs : Kn) : Prop := ∀ us σ F H (Q : L2.St → Hp → Prop), Ex F H → Sl F σ ps → AllP F us Ps → (∀ σ' F' H', Gr F H F' H' → Sl F' σ' qs → Upto vs σ σ' → Q σ' H') → g us σ H Q
variable {vs : List Nat}
theorem jg_name {i : Nat} {P : PV} (h : i ∈ vs := by decide) : JG vs (gName i) ps P (ps.set i (some P)) := fun v σ F H Q fh S p k => k _ F H (Gr.refl fh) (S.set i p) (Upto.set h)
theorem jgs_nil : JGs vs gNil ps [] ps := fun us σ F H Q fh S a k => by
  cases a
  exact ⟨rfl, k σ F H (Gr.refl fh) S (Upto.refl _ _)⟩
theorem jgs_cons {g : TG} {gs : TGs} {P : PV} {Ps : List PV} {rs : Kn} (h : JG vs g ps P qs) (hs : JGs vs gs qs Ps rs) : JGs vs (gCons g gs) ps (P :: Ps) rs := fun us σ F H Q fh S a k => by
  cases a with
  | cons p a =>
    exact ⟨_, _, rfl, h _ σ F H _ fh S p fun σ1 F1 H1 e1 S1 u1 => hs _ σ1 F1 H1 Q e1.fh S1 (a.mono e1.ff) fun σ2 F2 H2 e2 S2 u2 => k σ2 F2 H2 (e1.trans e2) S2 (u1.trans u2)⟩
theorem jg_tup {gs : TGs} {n : Nat} {ds : List PyData} (h : JGs vs gs ps (ds.map (dv K)) qs) (hn : ds.length = n := by rfl) : JG vs (gTup K n gs) ps (dv K (.tuple ds)) qs := fun v σ F H Q fh S p k => by
  obtain ⟨a, xs, rfl, hs, hd⟩ := dp_tup p
  exact ⟨a, xs, rfl, ex_t fh hs, by rw [dpLength hd, hn], h xs σ F H Q fh S (AllP.of_dv hd) k⟩
theorem js_asg {g : TG} {P : PV} (h : JV K M W te ps P) (hg : JG vs g ps P qs) : JS K M W (tAsg te g) ps (.nx qs) := fun D σ F H fh S k =>
  h.go fh S fun v F1 H1 e p => hg v σ F1 H1 _ e.fh (S.mono e.ff) p fun σ2 F2 H2 e2 S2 _ => k σ2 F2 H2 (e.trans e2) S2
theorem js_par {i j : Nat} {P R : PV} {tr : TA} (h : JA K M W tr ps [P, R]) : JS K M W (tPar i j tr) ps (.nx ((ps.set i (some P)).set j (some R))) := fun D σ F H fh S k => h σ F H _ fh S fun us F1 H1 e1 a => by
  obtain ⟨v, u, rfl, p, q⟩ := allP2 a
  exact ⟨v, u, rfl, k _ F1 H1 e1 (((S.mono e1.ff).set i p).set j q)⟩
/-! ### what is walked -/
/-- J walks the data ds, told at F, in every heap above -/
structure ItOf (K : PySem.W.Frag) (J : It) (F : Hp) (ds : List PyData) : Prop where
  stop : ∀ i H', Ex F H' → ds.length ≤ i → J.stop i H'
  go : ∀ i H', Ex F H' → i < ds.length → J.go i H'
  yld : ∀ i d F' H' x H2, Ex F F' → Ex F' H' → ds[i]? = some d → J.yld i H' x H2 → ∃ F2, Gr F' H' F2 H2 ∧ Dp K F2 x d
def JI (K : PySem.W.Frag) (M : EC → Addr) (W : WX) (wi : TI) (ps : Kn) (ds : List PyData) : Prop := ∀ σ F H R, Ex F H → Sl F σ ps → (∀ J F1 H1, Gr F H F1 H1 → ItOf K J F1 ds → R J H1) → wi σ H R
theorem itl_of {a : Addr} {xs : List V} {ds : List PyData} {F : Hp} (hx : SqL K F a xs) (hd : DpAll K F xs ds) : ItOf K (Itl K a) F ds where
  stop := fun i H' e h => ⟨xs, ex_l e hx, by rw [dpLength hd]; exact h⟩
  go := fun i H' e h => by
    have hl : i < xs.length := by rw [dpLength hd]; exact h
    exact ⟨xs, xs[i], ex_l e hx, List.getElem?_eq_getElem hl⟩
  yld := fun i d F' H' x H2 e fh hi y => by
    obtain ⟨rfl, y⟩ := y
    obtain ⟨v, hv, dvv⟩ := dpGet hd hi
    have := y xs (ex_l (e.trans fh) hx)
    rw [hv] at this
    cases this
    exact ⟨F', Gr.refl fh, dp_mono e dvv⟩
theorem itt_of {a : Addr} {xs : List V} {ds : List PyData} {F : Hp} (hx : SqT K F a xs) (hd : DpAll K F xs ds) : ItOf K (Itt K a) F ds where
  stop := fun i H' e h => ⟨xs, ex_t e hx, by rw [dpLength hd]; exact h⟩
  go := fun i H' e h => by
    have hl : i < xs.length := by rw [dpLength hd]; exact h
    exact ⟨xs, xs[i], ex_t e hx, List.getElem?_eq_getElem hl⟩
  yld := fun i d F' H' x H2 e fh hi y => by
    obtain ⟨rfl, y⟩ := y
    obtain ⟨v, hv, dvv⟩ := dpGet hd hi
    have := y xs (ex_t (e.trans fh) hx)
    rw [hv] at this
    cases this
    exact ⟨F', Gr.refl fh, dp_mono e dvv⟩
theorem ji_list {ds : List PyData} (h : JD K M W te ps (.list ds)) : JI K M W (iList K te) ps ds := fun σ F H R fh S k => h.go fh S fun v F1 H1 e p => by
  obtain ⟨a, xs, rfl, hx, hd⟩ := dp_lst p
  exact ⟨a, rfl, ⟨xs, ex_l e.fh hx⟩, k _ F1 H1 e (itl_of hx hd)⟩
theorem ji_tup {ds : List PyData} (h : JD K M W te ps (.tuple ds)) : JI K M W (iTup K te) ps ds := fun σ F H R fh S k => h.go fh S fun v F1 H1 e p => by
  obtain ⟨a, xs, rfl, hx, hd⟩ := dp_tup p
  exact ⟨a, rfl, ⟨xs, ex_t e.fh hx⟩, k _ F1 H1 e (itt_of hx hd)⟩
/-- the ints lo, lo + 1, .. -/
def rg (lo : Int) (n : Nat) : List Int := (List.range n).map fun i => lo + (i : Nat)
theorem rg_length (lo : Int) (n : Nat) : (rg lo n).length = n := by unfold rg; rw [List.length_map, List.length_range]
theorem rg_get {lo : Int} {n i : Nat} (h : i < n) : (rg lo n)[i]? = some (lo + (i : Nat)) := by
  unfold rg
  rw [List.getElem?_map, List.getElem?_range h]
  rfl
theorem itr_of {lo : Int} {n : Nat} {F : Hp} : ItOf K (Itr lo n) F ((rg lo n).map PyData.int) where
  stop := fun i H' e h => by
    rw [List.length_map, rg_length] at h
    exact h
  go := fun i H' e h => by
    rw [List.length_map, rg_length] at h
    exact h
  yld := fun i d F' H' x H2 e fh hi y => by
    obtain ⟨e2, e1⟩ := y
    subst e1
    subst e2
    have hl : i < n := by
      have := (List.getElem?_eq_some_iff.mp hi).1
      rw [List.length_map, rg_length] at this
      exact this
    rw [List.getElem?_map, rg_get hl] at hi
    cases hi
    exact ⟨F', Gr.refl fh, .int _⟩
theorem ji_rng1 {tr : TA} {n : Int} (h : JA K M W tr ps [dv K (.int n)]) (hn : -100000 ≤ n ∧ n ≤ 100000) : JI K M W (iRng1 tr) ps ((rg 0 n.toNat).map PyData.int) := fun σ F H R fh S k => h σ F H _ fh S fun us F1 H1 e1 a => by
  obtain ⟨v, rfl, p⟩ := allP1 a
  rw [dp_int p]
  exact ⟨n, rfl, by omega, by omega, k _ F1 H1 e1 itr_of⟩
theorem ji_rng2 {tr : TA} {lo n : Int} (h : JA K M W tr ps [dv K (.int lo), dv K (.int n)]) (hn : -100000 ≤ lo ∧ lo ≤ 100000 ∧ -100000 ≤ n ∧ n ≤ 100000) : JI K M W (iRng2 tr) ps ((rg lo (n - lo).toNat).map PyData.int) := fun σ F H R fh S k => h σ F H _ fh S fun us F1 H1 e1 a => by
  obtain ⟨v, u, rfl, p, q⟩ := allP2 a
  rw [dp_int p, dp_int q]
  exact ⟨lo, n, rfl, ⟨by omega, by omega, by omega, by omega⟩, k _ F1 H1 e1 itr_of⟩
/-- numbered -/
def nb (ds : List PyData) : List PyData := (List.range ds.length).zipWith (fun i d => PyData.tuple [.int (i : Nat), d]) ds
theorem nb_length (ds : List PyData) : (nb ds).length = ds.length := by unfold nb; simp
theorem nb_get {ds : List PyData} {i : Nat} {d : PyData} (h : ds[i]? = some d) : (nb ds)[i]? = some (.tuple [.int (i : Nat), d]) := by
  have hl := (List.getElem?_eq_some_iff.mp h).1
  unfold nb
  rw [List.getElem?_zipWith, List.getElem?_range hl, h]
theorem ite_of {a : Addr} {xs : List V} {ds : List PyData} {F : Hp} (hx : SqL K F a xs) (hd : DpAll K F xs ds) : ItOf K (Ite K a) F (nb ds) where
  stop := fun i H' e h => ⟨xs, ex_l e hx, by rw [dpLength hd]; rw [nb_length] at h; exact h⟩
  go := fun i H' e h => by
    have hl : i < xs.length := by rw [dpLength hd]; rw [nb_length] at h; exact h
    exact ⟨xs, xs[i], ex_l e hx, List.getElem?_eq_getElem hl⟩
  yld := fun i d F' H' x H2 e fh hi y => by
    obtain ⟨T, y0, rfl, nT, rfl, f⟩ := y
    have hl : i < ds.length := by
      have := (List.getElem?_eq_some_iff.mp hi).1
      rw [nb_length] at this
      exact this
    rw [nb_get (List.getElem?_eq_getElem hl)] at hi
    cases hi
    obtain ⟨v, hv, dvv⟩ := dpGet hd (List.getElem?_eq_getElem hl)
    have := f xs (ex_l (e.trans fh) hx)
    rw [hv] at this
    cases this
    exact ⟨_, Gr.new fh nT, .tup (st_of upd_same) (.cons (.int _) (.cons (dp_mono (e.trans (Gr.new (o := .tup [.int (i : Nat), y0]) fh nT).ff) dvv) .nil))⟩
theorem iteT_of {a : Addr} {xs : List V} {ds : List PyData} {F : Hp} (hx : SqT K F a xs) (hd : DpAll K F xs ds) : ItOf K (IteT K a) F (nb ds) where
  stop := fun i H' e h => ⟨xs, ex_t e hx, by rw [dpLength hd]; rw [nb_length] at h; exact h⟩
  go := fun i H' e h => by
    have hl : i < xs.length := by rw [dpLength hd]; rw [nb_length] at h; exact h
    exact ⟨xs, xs[i], ex_t e hx, List.getElem?_eq_getElem hl⟩
  yld := fun i d F' H' x H2 e fh hi y => by
    obtain ⟨T, y0, rfl, nT, rfl, f⟩ := y
    have hl : i < ds.length := by
      have := (List.getElem?_eq_some_iff.mp hi).1
      rw [nb_length] at this
      exact this
    rw [nb_get (List.getElem?_eq_getElem hl)] at hi
    cases hi
    obtain ⟨v, hv, dvv⟩ := dpGet hd (List.getElem?_eq_getElem hl)
    have := f xs (ex_t (e.trans fh) hx)
    rw [hv] at this
    cases this
    exact ⟨_, Gr.new fh nT, .tup (st_of upd_same) (.cons (.int _) (.cons (dp_mono (e.trans (Gr.new (o := .tup [.int (i : Nat), y0]) fh nT).ff) dvv) .nil))⟩
theorem ji_enum {ds : List PyData} (h : JD K M W te ps (.list ds)) : JI K M W (iEnum K (tCons te tNil)) ps (nb ds) := fun σ F H R fh S k => h.go fh S fun v F1 H1 e p => by
  obtain ⟨a, xs, rfl, hx, hd⟩ := dp_lst p
  exact ⟨a, xs, rfl, ex_l e.fh hx, k _ F1 H1 e (ite_of hx hd)⟩
theorem ji_enumT {ds : List PyData} (h : JD K M W te ps (.tuple ds)) : JI K M W (iEnumT K (tCons te tNil)) ps (nb ds) := fun σ F H R fh S k => h.go fh S fun v F1 H1 e p => by
  obtain ⟨a, xs, rfl, hx, hd⟩ := dp_tup p
  exact ⟨a, xs, rfl, ex_t e.fh hx, k _ F1 H1 e (iteT_of hx hd)⟩
theorem ji_is {wi : TI} {ds es : List PyData} (h : JI K M W wi ps ds) (e : ds = es) : JI K M W wi ps es := e ▸ h
/-- a for: m turns go on (f tells what is known ahead of each), then it ends, or the turn m leaves it by r -/
theorem js_for {wi : TI} {g : TG} {ds : List PyData} {tb : TS} (f : Nat → Kn) (m : Nat) (hi : JI K M W wi ps ds) (h0 : f 0 = ps) (hm : m ≤ ds.length)
    (hs : ∀ i d, i < m → ds[i]? = some d → ∃ qs, JG vs g (f i) (dv K d) qs ∧ (JS K M W tb qs (.nx (f (i + 1))) ∨ JS K M W tb qs (.ct (f (i + 1)))))
    (he : (m = ds.length ∧ r = .nx (f m)) ∨ (∃ d qs, ds[m]? = some d ∧ JG vs g (f m) (dv K d) qs ∧ JS K M W tb qs r ∧ ((∃ P, r = .rt P) ∨ ∃ e, r = .er e)))
    (hf : ∀ i, (f i).length = ps.length := by intro i; first | rfl | (simp; done)) : JS K M W (tFor wi g tb) ps r := fun D σ F H fh S k => hi σ F H _ fh S fun J F1 H1 e1 it => by
  refine ⟨fun i n σ' H' => n = ds.length - i ∧ i ≤ m ∧ ∃ F', Gr F1 H1 F' H' ∧ Sl F' σ' (f i), ⟨ds.length, by omega, Nat.zero_le _, F1, Gr.refl e1.fh, by rw [h0]; exact S.mono e1.ff⟩, ?_⟩
  rintro i n σ' H' ⟨rfl, him, F2, e2, S2⟩
  by_cases hlt : i < m
  · have hl : i < ds.length := Nat.lt_of_lt_of_le hlt hm
    refine .inr ⟨it.go i H' (e2.ff.trans e2.fh) hl, fun σ3 H3 => ∃ F3, Gr F1 H1 F3 H3 ∧ Sl F3 σ3 (f (i + 1)), fun σ3 H3 q => ⟨ds.length - (i + 1), by omega, rfl, hlt, q⟩, fun x H3 y => ?_⟩
    obtain ⟨F3, e3, dx⟩ := it.yld i _ F2 H' x H3 e2.ff e2.fh (List.getElem?_eq_getElem hl) y
    obtain ⟨qs, hg, hb⟩ := hs i _ hlt (List.getElem?_eq_getElem hl)
    refine hg x σ' F3 H3 _ e3.fh (S2.mono e3.ff) dx fun σ4 F4 H4 e4 S4 _ => ?_
    rcases hb with hb | hb
    · exact hb _ σ4 F4 H4 e4.fh S4 fun σ5 F5 H5 e5 S5 => ⟨F5, ((e2.trans e3).trans e4).trans e5, S5⟩
    · exact hb _ σ4 F4 H4 e4.fh S4 fun σ5 F5 H5 e5 S5 => ⟨F5, ((e2.trans e3).trans e4).trans e5, S5⟩
  · have hem : i = m := by omega
    subst hem
    rcases he with ⟨hlen, hr⟩ | ⟨d, qs, hd, hg, hb, hr⟩
    · subst hr
      exact .inl ⟨it.stop i H' (e2.ff.trans e2.fh) (by omega), k σ' F2 H' (e1.trans e2) S2⟩
    · have hl : i < ds.length := (List.getElem?_eq_some_iff.mp hd).1
      refine .inr ⟨it.go i H' (e2.ff.trans e2.fh) hl, fun _ _ => False, fun _ _ z => z.elim, fun x H3 y => ?_⟩
      obtain ⟨F3, e3, dx⟩ := it.yld i _ F2 H' x H3 e2.ff e2.fh hd y
      refine hg x σ' F3 H3 _ e3.fh (S2.mono e3.ff) dx fun σ4 F4 H4 e4 S4 u4 => hb _ σ4 F4 H4 e4.fh S4 ?_
      have ql : qs.length = ps.length := by rw [← S4.1, u4.len, S2.1, hf]
      rw [ql]
      have k2 := Wsh.step (((e1.trans e2).trans e3).trans e4) k
      rcases hr with ⟨P, rfl⟩ | ⟨e, rfl⟩
      · exact k2
      · exact k2
/-! ### comprehensions -/
theorem filter_take_succ {α : Type} {b : α → Bool} {xs : List α} {i : Nat} {x : α} (h : xs[i]? = some x) : (xs.take (i + 1)).filter b = (xs.take i).filter b ++ (if b x then [x] else []) := by
  rw [List.take_succ, h, List.filter_append]
  cases hb : b x <;> simp [hb]
/-- a list that grows lies at D: not told at F -/
structure Acc (K : PySem.W.Frag) (D : Addr) (F1 H1 F H : Hp) (ds : List PyData) : Prop where
  gr : Gr F1 H1 F H
  off : F D = none
  at_ : ∃ acc, H D = some (.lst acc) ∧ DpAll K F acc ds
theorem gr_mut {F1 H1 F H : Hp} {D : Addr} {o : HO} (g : Gr F1 H1 F H) (h1 : H1 D = none) (off : F D = none) : Gr F1 H1 F (upd H D o) := ⟨g.ff, g.hh.mut h1, g.fh.mut off, g.nw⟩
theorem gr_in {F1 H1 F H : Hp} {D : Addr} {o : HO} (g : Gr F1 H1 F H) (h1 : H1 D = none) (off : F D = none) (at_ : H D = some o) : Gr F1 H1 (upd F D o) H := ⟨g.ff.trans (Ex.new off), g.hh, fun a u e => by
  by_cases z : a = D
  · subst z
    rw [upd_same] at e
    cases e
    exact at_
  · rw [upd_ne z] at e
    exact g.fh a u e, fun a ha hf => by
  have : a ≠ D := fun z => by
    subst z
    exact ha h1
  rw [upd_ne this]
  exact g.nw a ha hf⟩
theorem Acc.start {D : Addr} {F H : Hp} (fh : Ex F H) (hD : H D = none) : Acc K D F H F (upd H D (.lst [])) [] := ⟨gr_mut (Gr.refl fh) hD (fresh_back fh hD), fresh_back fh hD, [], upd_same, .nil⟩
theorem Acc.step {D : Addr} {F1 H1 F H F2 H2 : Hp} {ds : List PyData} (a : Acc K D F1 H1 F H ds) (g : Gr F H F2 H2) : Acc K D F1 H1 F2 H2 ds := by
  obtain ⟨acc, h, d⟩ := a.at_
  exact ⟨a.gr.trans g, g.nw D (by rw [h]; exact fun z => nomatch z) a.off, acc, g.hh _ _ h, dpAll_mono g.ff d⟩
theorem Acc.app {D : Addr} {F1 H1 F H : Hp} {ds : List PyData} {v : V} {d : PyData} {acc : List V} (a : Acc K D F1 H1 F H ds) (h1 : H1 D = none) (hacc : H D = some (.lst acc)) (p : Dp K F v d) : Acc K D F1 H1 F (upd H D (.lst (acc ++ [v]))) (ds ++ [d]) := by
  obtain ⟨acc2, h, dd⟩ := a.at_
  rw [hacc] at h
  cases h
  exact ⟨gr_mut a.gr h1 a.off, a.off, _, upd_same, dpApp dd (.cons p .nil)⟩
theorem Acc.len {D : Addr} {F1 H1 F H : Hp} {ds : List PyData} {acc : List V} (a : Acc K D F1 H1 F H ds) (hacc : H D = some (.lst acc)) : acc.length = ds.length := by
  obtain ⟨acc2, h, dd⟩ := a.at_
  rw [hacc] at h
  cases h
  exact dpLength dd
/-- it is told from now on -/
theorem Acc.done {D : Addr} {F1 H1 F H : Hp} {ds : List PyData} (a : Acc K D F1 H1 F H ds) (h1 : H1 D = none) : ∃ F', Gr F1 H1 F' H ∧ Dp K F' (.ref D) (.list ds) ∧ Ex F F' := by
  obtain ⟨acc, h, dd⟩ := a.at_
  exact ⟨upd F D (.lst acc), gr_in a.gr h1 a.off h, .lst (sq_of upd_same) (dpAll_mono (Ex.new a.off) dd), Ex.new a.off⟩
/-- [e for x in ds if b], the items told by xs -/
theorem je_lc {α : Type} {wi : TI} {g : TG} (xs : List α) (enc : α → PyData) (b : α → Bool) (e : α → PyData) {W' : WX} (hi : JI K M W wi ps (xs.map enc)) (hlen : xs.length ≤ 90000)
    (hs : ∀ x ∈ xs, ∃ qs, JG vs g (wipeK ps vs) (dv K (enc x)) qs ∧ JT K M W' t qs (b x) ∧ (b x = true → JD K M W' te qs (e x))) : JD K M W (tLc wi g t te vs) ps (.list ((xs.filter b).map e)) := fun σ F H Q fh S k => hi σ F H _ fh S fun J F1 H1 e1 it D hD => by
  refine ⟨fun i n H' => n = xs.length - i ∧ i ≤ xs.length ∧ ∃ F', Acc K D F1 H1 F' H' (((xs.take i).filter b).map e), ⟨xs.length, by omega, Nat.zero_le _, F1, Acc.start e1.fh hD⟩, ?_⟩
  rintro i n H' ⟨rfl, him, F2, A⟩
  have accLen : (((xs.take i).filter b).map e).length ≤ i := by
    rw [List.length_map]
    have := List.length_filter_le b (xs.take i)
    rw [List.length_take] at this
    omega
  by_cases hlt : i < xs.length
  · have hx : xs[i]? = some xs[i] := List.getElem?_eq_getElem hlt
    have hmem : xs[i] ∈ xs := List.getElem_mem hlt
    have hex : (xs.map enc)[i]? = some (enc xs[i]) := by rw [List.getElem?_map, hx] <;> rfl
    refine .inr ⟨it.go i H' (A.gr.ff.trans A.gr.fh) (by rw [List.length_map]; exact hlt), fun H3 => ∃ F3, Acc K D F1 H1 F3 H3 (((xs.take (i + 1)).filter b).map e), fun H3 q => ⟨xs.length - (i + 1), by omega, rfl, hlt, q⟩, fun x H3 y => ?_⟩
    obtain ⟨F3, e3, dx⟩ := it.yld i _ F2 H' x H3 A.gr.ff A.gr.fh hex y
    have A3 := A.step e3
    obtain ⟨qs, hg, ht, he⟩ := hs xs[i] hmem
    refine hg x (wipe σ vs) F3 H3 _ e3.fh ((S.mono (e1.ff.trans A3.gr.ff)).wipe vs) dx fun σ4 F4 H4 e4 S4 u4 => ⟨wipe_upto (upto_wipe.trans u4), ht σ4 F4 H4 _ e4.fh S4 fun F5 H5 e5 => ?_⟩
    have A5 := (A3.step e4).step e5
    have ff := filter_take_succ (b := b) hx
    cases hb : b xs[i] with
    | true =>
      rw [hb] at ff
      show te σ4 H5 _
      refine (he hb).go e5.fh (S4.mono e5.ff) fun v F6 H6 e6 p => ?_
      have A6 := A5.step e6
      obtain ⟨acc, h6, _⟩ := A6.at_
      refine ⟨acc, h6, sz_lt (by rw [A6.len h6]; omega), F6, ?_⟩
      rw [ff, List.map_append]
      exact A6.app hD h6 p
    | false =>
      rw [hb] at ff
      show ∃ F3, Acc K D F1 H1 F3 H5 _
      rw [ff]
      simp only [Bool.false_eq_true, if_false, List.append_nil]
      exact ⟨F5, A5⟩
  · have hem : i = xs.length := by omega
    subst hem
    rw [List.take_length] at A
    obtain ⟨F3, g3, d3, _⟩ := A.done hD
    exact .inl ⟨it.stop _ H' (A.gr.ff.trans A.gr.fh) (by rw [List.length_map]; exact Nat.le_refl _), k _ F3 H' (e1.trans g3) d3⟩
theorem flatMap_take_succ {α β : Type} {f : α → List β} {xs : List α} {i : Nat} {x : α} (h : xs[i]? = some x) : (xs.take (i + 1)).flatMap f = (xs.take i).flatMap f ++ f x := by
  rw [List.take_succ, h, List.flatMap_append]
  simp
theorem flatMap_take_le {α β : Type} (f : α → List β) (xs : List α) (i : Nat) : ((xs.take i).flatMap f).length ≤ (xs.flatMap f).length := by
  conv => rhs; rw [← List.take_append_drop i xs]
  rw [List.flatMap_append, List.length_append]
  omega
/-- [e for x in ds for y in (those of x) if b], the first clause without a test -/
theorem je_lc2 {α β : Type} {wi wi1 : TI} {g g1 : TG} {u : TT} {vs1 : List Nat} (xs : List α) (ys : α → List β) (enc : α → PyData) (enc1 : β → PyData) (b : α → β → Bool) (e : α → β → PyData) {W' : WX} (hi : JI K M W wi ps (xs.map enc))
    (hlen : (xs.flatMap fun x => ((ys x).filter (b x)).map (e x)).length ≤ 90000)
    (hs : ∀ x ∈ xs, ∃ qs, JG vs g (wipeK ps vs) (dv K (enc x)) qs ∧ JT K M W' t qs true ∧ JI K M W' wi1 qs ((ys x).map enc1) ∧
      ∀ y ∈ ys x, ∃ rs, JG vs1 g1 (wipeK qs vs1) (dv K (enc1 y)) rs ∧ JT K M W' u rs (b x y) ∧ (b x y = true → JD K M W' te rs (e x y))) :
    JD K M W (tLc2 wi g t wi1 g1 u te vs vs1) ps (.list (xs.flatMap fun x => ((ys x).filter (b x)).map (e x))) := fun σ F H Q fh S k => hi σ F H _ fh S fun J F1 H1 e1 it D hD => by
  let out : α → List PyData := fun x => ((ys x).filter (b x)).map (e x)
  refine ⟨fun i n H' => n = xs.length - i ∧ i ≤ xs.length ∧ ∃ F', Acc K D F1 H1 F' H' ((xs.take i).flatMap out), ⟨xs.length, by omega, Nat.zero_le _, F1, Acc.start e1.fh hD⟩, ?_⟩
  rintro i n H' ⟨rfl, him, F2, A⟩
  by_cases hlt : i < xs.length
  · have hx : xs[i]? = some xs[i] := List.getElem?_eq_getElem hlt
    have hmem : xs[i] ∈ xs := List.getElem_mem hlt
    have hex : (xs.map enc)[i]? = some (enc xs[i]) := by rw [List.getElem?_map, hx] <;> rfl
    refine .inr ⟨it.go i H' (A.gr.ff.trans A.gr.fh) (by rw [List.length_map]; exact hlt), fun H3 => ∃ F3, Acc K D F1 H1 F3 H3 ((xs.take (i + 1)).flatMap out), fun H3 q => ⟨xs.length - (i + 1), by omega, rfl, hlt, q⟩, fun x H3 y => ?_⟩
    obtain ⟨F3, e3, dx⟩ := it.yld i _ F2 H' x H3 A.gr.ff A.gr.fh hex y
    have A3 := A.step e3
    obtain ⟨qs, hg, ht, hi1, hin⟩ := hs xs[i] hmem
    refine hg x (wipe σ vs) F3 H3 _ e3.fh ((S.mono (e1.ff.trans A3.gr.ff)).wipe vs) dx fun σ4 F4 H4 e4 S4 u4 => ⟨wipe_upto (upto_wipe.trans u4), ht σ4 F4 H4 _ e4.fh S4 fun F5 H5 e5 => ?_⟩
    have A5 := (A3.step e4).step e5
    show wi1 σ4 H5 _
    refine hi1 σ4 F5 H5 _ e5.fh (S4.mono e5.ff) fun J1 F6 H6 e6 it1 => ?_
    have A6 := A5.step e6
    have pre := flatMap_take_le out xs (i + 1)
    rw [flatMap_take_succ hx, List.length_append] at pre
    refine ⟨fun j n H' => n = (ys xs[i]).length - j ∧ j ≤ (ys xs[i]).length ∧ ∃ F', Ex F6 F' ∧ Acc K D F1 H1 F' H' ((xs.take i).flatMap out ++ (((ys xs[i]).take j).filter (b xs[i])).map (e xs[i])), ⟨(ys xs[i]).length, by omega, Nat.zero_le _, F6, Ex.refl _, by simpa using A6⟩, ?_⟩
    rintro j n H7 ⟨rfl, hj, F7, x67, A7⟩
    by_cases hjl : j < (ys xs[i]).length
    · have hy : (ys xs[i])[j]? = some (ys xs[i])[j] := List.getElem?_eq_getElem hjl
      have ymem : (ys xs[i])[j] ∈ ys xs[i] := List.getElem_mem hjl
      have hey : ((ys xs[i]).map enc1)[j]? = some (enc1 (ys xs[i])[j]) := by rw [List.getElem?_map, hy] <;> rfl
      refine .inr ⟨it1.go j H7 (x67.trans A7.gr.fh) (by rw [List.length_map]; exact hjl), fun H8 => ∃ F8, Ex F6 F8 ∧ Acc K D F1 H1 F8 H8 ((xs.take i).flatMap out ++ (((ys xs[i]).take (j + 1)).filter (b xs[i])).map (e xs[i])), fun H8 q => ⟨(ys xs[i]).length - (j + 1), by omega, rfl, hjl, q⟩, fun x1 H8 y1 => ?_⟩
      obtain ⟨F8, e8, dy⟩ := it1.yld j _ F7 H7 x1 H8 x67 A7.gr.fh hey y1
      have A8 := A7.step e8
      obtain ⟨rs, hg1, ht1, he1⟩ := hin _ ymem
      refine hg1 x1 (wipe σ4 vs1) F8 H8 _ e8.fh ((S4.mono ((e5.ff.trans e6.ff).trans (x67.trans e8.ff))).wipe vs1) dy fun σ9 F9 H9 e9 S9 u9 => ⟨wipe_upto (upto_wipe.trans u9), ht1 σ9 F9 H9 _ e9.fh S9 fun Fa Ha ea => ?_⟩
      have Aa := (A8.step e9).step ea
      have ff := filter_take_succ (b := b xs[i]) hy
      have pre2 : (((ys xs[i]).take j).filter (b xs[i])).length ≤ ((ys xs[i]).filter (b xs[i])).length := by
        conv => rhs; rw [← List.take_append_drop j (ys xs[i])]
        rw [List.filter_append, List.length_append]
        omega
      have lout : (out xs[i]).length = ((ys xs[i]).filter (b xs[i])).length := List.length_map _
      cases hb : b xs[i] (ys xs[i])[j] with
      | true =>
        rw [hb] at ff
        show te σ9 Ha _
        refine (he1 hb).go ea.fh (S9.mono ea.ff) fun v Fb Hb eb p => ?_
        have Ab := Aa.step eb
        obtain ⟨acc, hb6, _⟩ := Ab.at_
        refine ⟨acc, hb6, sz_lt ?_, Fb, ((x67.trans e8.ff).trans e9.ff).trans (ea.ff.trans eb.ff), ?_⟩
        · rw [Ab.len hb6, List.length_append, List.length_map]
          have h1 : (xs.flatMap out).length ≤ 90000 := hlen
          omega
        · rw [ff, List.map_append, ← List.append_assoc]
          exact Ab.app hD hb6 p
      | false =>
        rw [hb] at ff
        show ∃ F8, Ex F6 F8 ∧ Acc K D F1 H1 F8 Ha _
        rw [ff]
        simp only [Bool.false_eq_true, if_false, List.append_nil]
        exact ⟨Fa, ((x67.trans e8.ff).trans e9.ff).trans ea.ff, Aa⟩
    · have hem : j = (ys xs[i]).length := by omega
      subst hem
      rw [List.take_length] at A7
      refine .inl ⟨it1.stop _ H7 (x67.trans A7.gr.fh) (by rw [List.length_map]; exact Nat.le_refl _), F7, ?_⟩
      rw [flatMap_take_succ hx]
      exact A7
  · have hem : i = xs.length := by omega
    subst hem
    rw [List.take_length] at A
    obtain ⟨F3, g3, d3, _⟩ := A.done hD
    exact .inl ⟨it.stop _ H' (A.gr.ff.trans A.gr.fh) (by rw [List.length_map]; exact Nat.le_refl _), k _ F3 H' (e1.trans g3) d3⟩
end
end EB

/-! EB5: errors with a field, raise, methods and making where what is raised is wished for at the slots, fields, isinstance, try. -/
namespace EB
open PySem PySem.Spec PyProof.Rows L2 Evl
/-! ### rules -/
section
variable {X : Cx} {CX : CXT} {k : Nat} {f C : Addr} {fd : FuncData} {ps : List Str} {sp : Sp} {E : L2.St → XK} {x m : Str} {p pos apos : Pos} {e o : Expr} {es : List Expr} {ta : TE} {t : TA}
/-- C(..), at the slots -/
def tMakeS (C : Addr) (sp : Sp) (E : L2.St → XK) (t : TA) : TE := fun σ H Q => tMake C sp [] (E σ) t σ H Q
theorem pe_makeS (M : Mk X.K C f) (F : FnOk X.prog X.w X.K X.mg X.base CX k f fd ps sp) (hr : Room (k + 1) X.A) (hg : Gl X x) (hm : X.mg x = some (.ref C)) (hb : Binds X.K fd ps []) (hx : ∀ σ, PassesAt CX X σ (E σ))
    (ha : PA X (e :: es) t) (hdb : (x == ("__debug__" : Str)) = false := by decide) (he : starEach (e :: es) X.env = (false, eval e X.env) :: starEach es X.env := by rfl) (hpl : (backTo pos (starEach es X.env)).any (·.1) = false := by rfl) :
    PE X (.Call (.Name x p) (e :: es) [] pos) (tMakeS C sp E t) := by
  refine ⟨fun pins s σ H Q I hyp => wpAny_Call_Name_kw (ld_glob I hg hm ?_ hdb)⟩
  refine PySem.W.callWith_K (h₀ := X.base) I.ok.mod.kin M.kp (thn (ha.run pos pins s σ H _ I hyp) fun us t1 ⟨vs, H1, I1, rr, want⟩ => ⟨I1.kIn, ?_⟩) he hpl
  have w1 := want (t1.heap.objs.size + 1) t1.heap.objs.size (I1.hok.fresh (Nat.le_succ _)) (I1.hok.fresh (Nat.le_refl _)) (Nat.ne_of_lt (Nat.lt_succ_self _))
  rw [List.append_nil] at w1
  have I2 := Inv.made (C := C) I1
  have r2 : Vals (V.ref (t1.heap.objs.size + 1) :: vs) (Value.ref (t1.heap.objs.size + 1) :: us) := .cons rfl rr
  have len2 : (Value.ref (t1.heap.objs.size + 1) :: us).length = ps.length := by
    have q := r2.length
    rw [F.len _ _ _ _ w1] at q
    exact q.symm
  have bnd := hb _ (Value.ref (t1.heap.objs.size + 1) :: us) I2.kIn (by rw [List.append_nil]; exact len2)
  rw [List.append_nil] at bnd
  refine wpAny_call (make_map (f := f) I1.kIn M.makes M.init (beq_iff_eq.mp M.fn) (codeAny_mono (F.run _ X.stack _ _ ⟨Value.ref (t1.heap.objs.size + 1) :: us, []⟩ (Value.ref (t1.heap.objs.size + 1) :: us) _ _ (E σ) (hr.make C us [])
    (I2.env0.make C us []) bnd r2 w1) fun r t2 got => ?_))
  cases r with
  | error er => exact hx σ pins _ _ er t2 I2 got
  | ok fl =>
    cases fl with
    | ret u =>
      obtain ⟨v, H2, I3, rv, ev, q3⟩ := I2.after got
      subst ev
      exact ⟨rv, ⟨V.ref (t1.heap.objs.size + 1), H2, I3, rfl, q3⟩⟩
    | next => exact got.elim
    | brk => exact got.elim
    | cont => exact got.elim
/-- o.m(e, ..), at the slots -/
def tMethW (C : Addr) (m : Str) (sp : Sp) (E : L2.St → XK) (ta : TE) (t : TA) : TE := fun σ H Q => tMeth C m sp [] (E σ) ta t σ H Q
theorem pe_methW {pl : Sem Bool} (he : PE X o ta) (c : Cls X.K C) (hm : Meth X.K C m f) (F : FnOk X.prog X.w X.K X.mg X.base CX k f fd ps sp) (hr : Room k X.A) (hb : Binds X.K fd ps []) (hx : ∀ σ, PassesAt CX X σ (E σ)) (ha : PA X (e :: es) t)
    (hst : starEach (e :: es) X.env = (false, eval e X.env) :: starEach es X.env := by rfl) (hpl : (backTo pos (starEach es X.env)).any (·.1) = false := by rfl)
    (ht : eval (.Call (.Attribute o m apos) (e :: es) [] pos) X.env = (do
      let whom ← eval o X.env
      standAt apos.atName
      let (fn, before) ← holding [whom] (getMethod whom m pl)
      callWith pos fn before (backTo pos (starEach (e :: es) X.env)) (backToKw pos (keywordEach [] X.env))) := by rfl) :
    PE X (.Call (.Attribute o m apos) (e :: es) [] pos) (tMethW C m sp E ta t) := by
  refine ⟨fun pins s σ H Q I hyp => PySem.W.methodCall_KW (pl := pl) (thn (he.run pins s σ H _ I hyp) fun u t1 ⟨x, H1, I1, rx, a, dx, fs, ex, ea, l, q⟩ => ?_) ht⟩
  subst ex
  obtain rfl : u = Value.ref a := rx
  refine getmeth_ok I1 ea c hm l (PySem.W.callWith_K (first := [.ref a]) (h₀ := X.base) I.ok.mod.kin hm.kp (thn (ha.run pos pins t1 σ H1 _ I1 q) fun us t2 ⟨vs, H2, I2, r, q2⟩ => ⟨I2.kIn, ?_⟩) hst hpl)
  have q3 := q2
  dsimp only at q3
  rw [List.append_nil] at q3
  exact run_fnS (us := .ref a :: us) (vs := .ref a :: vs) F hr hb (hx σ) I2 (.cons rfl r) q3
theorem pe_methW0 {pl : Sem Bool} (he : PE X o ta) (c : Cls X.K C) (hm : Meth X.K C m f) (F : FnOk X.prog X.w X.K X.mg X.base CX k f fd ps sp) (hr : Room k X.A) (hb : Binds X.K fd ps []) (hx : ∀ σ, PassesAt CX X σ (E σ))
    (ht : eval (.Call (.Attribute o m apos) [] [] pos) X.env = (do
      let whom ← eval o X.env
      standAt apos.atName
      let (fn, before) ← holding [whom] (getMethod whom m pl)
      callWith pos fn before (backTo pos (starEach [] X.env)) (backToKw pos (keywordEach [] X.env))) := by rfl) :
    PE X (.Call (.Attribute o m apos) [] [] pos) (tMethW C m sp E ta tNil) := by
  refine ⟨fun pins s σ H Q I hyp => PySem.W.methodCall_KW (pl := pl) (thn (he.run pins s σ H _ I hyp) fun u t1 ⟨x, H1, I1, rx, a, dx, fs, ex, ea, l, q⟩ => ?_) ht⟩
  subst ex
  obtain rfl : u = Value.ref a := rx
  exact getmeth_ok I1 ea c hm l (PySem.W.callWith_K0 (first := [.ref a]) I1.kIn hm.kp (run_fnS (us := [.ref a]) (vs := [.ref a]) F hr hb (hx σ) I1 (.cons rfl .nil) q))
end
/-! ### an error's class -/
/-- __init__(self, f): self.f = f -/
def spErr (C : Addr) (f : Str) : Sp := fun vs H Q _ => ∃ a u, vs = [.ref a, u] ∧ H a = some (exo a C none) ∧ ∀ dx, H dx = none → dx ≠ a → Q .non (upd (upd H dx (exd dx [(f, u)])) a (exo a C (some dx)))
/-- what the written part says of an error's class C (its __init__ at fI) -/
structure ErT (K : PySem.W.Frag) (C fI : Addr) (f : Str) : Prop where
  ox : OexC K C
  iC : PySem.W.findIn K (.ref C) "__init__" = some (some (.ref fI))
  tI : PySem.W.typeIn K (.ref fI) = some (.type "function")
  nf : PySem.W.findIn K (.ref C) f = some none
  xf : XfC K C
  ek : ExK K C
section
variable {K : PySem.W.Frag} {M : EC → Addr} {W : WX} {ps qs : Kn} {te ta tb : TE} {tr : TA} {t : TT} {ts tu : TS} {r : Res}
/-- raise C(e) -/
def tRs (C : Addr) (f : Str) (W : WX) (tr : TA) : TS := fun _ σ H => tMkO C (spErr C f) [] tr σ H fun cls d H' => W cls d σ H'
theorem js_raise {c : EC} {d : PyData} (h : JA K M W tr ps [dv K d]) : JS K M W (tRs (M c) c.fld W tr) ps (.er ⟨c, d⟩) := fun D σ F H fh S k => h σ F H _ fh S fun vs F1 H1 e1 a => by
  obtain ⟨v, rfl, p⟩ := allP1 a
  refine ⟨by show 1 ≤ 1000; decide, fun x hx => ⟨x, v, rfl, upd_same, fun dx hdx ne => ⟨rfl, dx, [(c.fld, v)], upd_same, ?_, ?_, ?_⟩⟩⟩
  · rw [upd_ne ne, upd_same]
  · rw [upd_ne ne] at hdx
    exact hdx
  · have h1 : H1 dx = none := by
      rw [upd_ne ne] at hdx
      exact hdx
    have key : Ex H1 (upd (del (upd (upd (upd H1 x (exo x (M c) none)) dx (exd dx [(c.fld, v)])) x (exo x (M c) (some dx))) x) dx (.xd [(c.fld, v)])) := fun b u q => by
      have nx : b ≠ x := ne_of_none q hx
      have nd : b ≠ dx := ne_of_none q h1
      rw [upd_ne nd, del_ne nx, upd_ne nx, upd_ne nd, upd_ne nx]
      exact q
    exact k dx v σ F1 _ (e1.trans (Gr.heap e1.fh key)) (fresh_back e1.hh h1) upd_same p S.1
/-! ### objects: a floor -/
def pD (p : Int × Int) : PyData := .tuple [.int p.1, .int p.2]
/-- an instance of C with one attribute, data that never changes -/
def ob1 (K : PySem.W.Frag) (C : Addr) (f : Str) (d : PyData) : PV := ⟨fun H v => ∃ a dx u, v = .ref a ∧ H a = some (.ins C dx [(f, u)]) ∧ Dp K H u d, fun e h => by
  obtain ⟨a, dx, u, h1, h2, h3⟩ := h
  exact ⟨a, dx, u, h1, e _ _ h2, dp_mono e h3⟩⟩
theorem je_fld {C : Addr} {f : Str} {d : PyData} (h : JV K M W te ps (ob1 K C f d)) (c : Cls K C) (n : NoAttr K C f) : JD K M W (tFld K te f) ps d := fun σ F H Q fh S k => h.go fh S fun v F1 H1 e p => by
  obtain ⟨a, dx, u, rfl, ha, hd⟩ := p
  exact ⟨a, C, dx, [(f, u)], u, rfl, e.fh _ _ ha, c, n, by simp [List.lookup], k u F1 H1 e hd⟩
/-- a constant of a class, read off the class -/
theorem je_cval {C : Addr} {mc : Value} {f : Str} {v : V} {u : Value} {P : PV} (h : JV K M W te ps (xv (.ref C))) (r : ClX.CRead K C mc) (c : ClX.CVal K C mc f v u) (hp : ∀ H, P.p H v) : JV K M W (ClX.tCVal K te f) ps P := fun σ F H Q fh S k => h.go fh S fun x F1 H1 e p => ⟨C, mc, v, u, p, r, c, k v F1 H1 e (hp F1)⟩
/-- a method that keeps a promise over data; self is known -/
theorem je_meth {α : Type} {args : α → List PV} {dom : α → Prop} {out : α → Out} {C : Addr} {m f : Str} {d : PyData} (a : α) (hs : JV K M W te ps (ob1 K C f d)) (hm : ¬ m = f) (Ps : List PV) (h : JA K M W tr ps Ps) (ea : args a = ob1 K C f d :: Ps) (hd : dom a) :
    JE K M W (tMethW C m (Prm K M args dom out) (WE W) te tr) ps (out a) := fun σ F H Q fh S k => hs.go fh S fun v F1 H1 e1 p => by
  obtain ⟨b, dx, u, rfl, hb, hdp⟩ := id p
  refine ⟨b, dx, [(f, u)], rfl, e1.fh _ _ hb, ?_, h σ F1 H1 _ e1.fh (S.mono e1.ff) fun vs F2 H2 e2 al => ⟨a, F2, e2.fh, ?_, hd, Then.step (e1.trans e2) k⟩⟩
  · have : (m == f) = false := by simpa using hm
    simp [List.lookup, this]
  · rw [ea, List.append_nil]
    exact .cons (PV.mn _ e2.ff p) al
/-- C(e) where __init__ promises: an instance with one attribute, or an error -/
def spMake (K : PySem.W.Frag) (M : EC → Addr) (C : Addr) (f : Str) {α : Type} (args : α → List PV) (dom : α → Prop) (out : α → Except Er PyData) : Sp := fun vs H Q E => ∃ (a : α) (F : Hp) (x dx : Addr) (us : List V), vs = .ref x :: us ∧ Ex F H ∧ H x = some (.ins C dx []) ∧ F x = none ∧ AllP F us (args a) ∧ dom a ∧
  (match out a with
    | .ok d => ∀ F' H' u, Gr F H F' H' → Dp K F' u d → F' x = none → Q .non (upd H' x (.ins C dx [(f, u)]))
    | .error e => ∀ d u F' H', Gr F H F' H' → H d = none → H' d = some (.xd [(e.c.fld, u)]) → Dp K F' u e.val → E (.ref (M e.c)) (some d) H')
def mkOut (K : PySem.W.Frag) (C : Addr) (f : Str) : Except Er PyData → Out
  | .ok d => .ok (ob1 K C f d)
  | .error e => .er e
theorem je_make {α : Type} {args : α → List PV} {dom : α → Prop} {out : α → Except Er PyData} {C : Addr} {f : Str} (a : α) (h : JA K M W tr ps (args a)) (hd : dom a) : JE K M W (tMakeS C (spMake K M C f args dom out) (WE W) tr) ps (mkOut K C f (out a)) := fun σ F H Q fh S k =>
  h σ F H _ fh S fun vs F1 H1 e1 al x dx hx hdx ne => by
    have exn : Ex H1 (upd (upd H1 dx (.own x)) x (.ins C dx [])) := fun b o q => by
      rw [upd_ne (ne_of_none q hx), upd_ne (ne_of_none q hdx)]
      exact q
    have g0 : Gr F1 H1 F1 (upd (upd H1 dx (.own x)) x (.ins C dx [])) := Gr.heap e1.fh exn
    have fx : F1 x = none := fresh_back e1.fh hx
    refine ⟨a, F1, x, dx, vs, by rw [List.append_nil], g0.fh, upd_same, fx, al, hd, ?_⟩
    cases ho : out a with
    | ok d =>
      rw [ho] at k
      refine fun F' H' u g dd fx' => ⟨rfl, ?_⟩
      have hx' : H' x = some (.ins C dx []) := g.hh _ _ upd_same
      have G1 : Gr F1 H1 F' (upd H' x (.ins C dx [(f, u)])) := ⟨g.ff, (g0.hh.trans g.hh).mut hx, g.fh.mut fx', (g0.trans g).nw⟩
      have G2 := gr_in G1 hx fx' (upd_same (H := H') (a := x) (o := .ins C dx [(f, u)]))
      exact k (.ref x) _ _ (e1.trans G2) ⟨x, dx, u, rfl, upd_same, dp_mono (Ex.new fx') dd⟩
    | error e =>
      rw [ho] at k
      exact fun d u F' H' g hn hd2 dp => k d u F' H' ((e1.trans g0).trans g) (fresh_back (e1.trans g0).hh hn) hd2 dp
/-! ### isinstance -/
def rIs1 (K : PySem.W.Frag) : List V → Hp → VK → Prop := rIsi K
/-- of data (not an object): its type's name -/
def tyName : PyData → String
  | .none => "NoneType"
  | .bool _ => "bool"
  | .int _ => "int"
  | .str _ => "str"
  | .list _ => "list"
  | .tuple _ => "tuple"
  | .dict _ => "dict"
theorem je_isTyI {i : Int} {T : String} {b : Bool} (h : JD K M W te ps (.int i)) (hT : kitB "int" T = some b) : JD K M W (tCB (rIsi K) (tCons te (tCons (tC (.ty T)) tNil))) ps (.bool b) := je_cb (ja_cons h (ja_cons je_x ja_nil)) fun vs F H fh a Q k => by
  obtain ⟨v, u, rfl, p, q⟩ := allP2 a
  rw [dp_int p, show u = V.ty T from q]
  exact ⟨.int i, .ty T, .type "int", .type T, b, rfl, .ty T, .base (.int i), kit_ty hT, k _ F H (Gr.refl fh) (.bl b)⟩
/-- of an instance of an own class -/
theorem je_isOb {C D : Addr} {f : Str} {d : PyData} {b : Bool} (h : JV K M W te ps (ob1 K C f d)) (cl : Cls K C) (ha : PySem.W.findIn K (.ref C) "__class__" = some (some (.builtin "object.__class__")))
    (hn : PySem.W.specialIn K (.builtin "object.__class__") "__get__" = some (some (.builtin "getset_descriptor.__get__"))) (htk : PySem.W.takesIn K (.builtin "object.__class__") = some true) (hm : PySem.W.mroIn K C (.type "object") = some true)
    (hk : PySem.W.kitOne K (.ref C) (.ref D) = some b) : JD K M W (tCB (rIsi K) (tCons te (tCons (tC (.ref D)) tNil))) ps (.bool b) := je_cb (ja_cons h (ja_cons je_x ja_nil)) fun vs F H fh a Q k => by
  obtain ⟨v, u, rfl, p, q⟩ := allP2 a
  rw [show u = V.ref D from q]
  obtain ⟨o, dx, w, rfl, ho, _⟩ := p
  exact ⟨.ref o, .ref D, .ref C, .ref D, b, rfl, .own D, .base (.ins (fh _ _ ho) cl ha hn htk hm), hk, k _ F H (Gr.refl fh) (.bl b)⟩
/-! ### an exception that a suite holds -/
def exv (K : PySem.W.Frag) (a dd : Addr) (f : Str) (d : PyData) : PV := ⟨fun H v => v = .ref a ∧ ∃ u, H dd = some (.xd [(f, u)]) ∧ Dp K H u d, fun e h => by
  obtain ⟨h1, u, h2, h3⟩ := h
  exact ⟨h1, u, e _ _ h2, dp_mono e h3⟩⟩
theorem je_xf {a dd C : Addr} {f : Str} {d : PyData} (h : JV K M W te ps (exv K a dd f d)) : JD K M W (tXf a (.ref C) (some dd) C f te) ps d := fun σ F H Q fh S k => h.go fh S fun v F1 H1 e p => by
  obtain ⟨rfl, u, h2, h3⟩ := p
  exact ⟨rfl, rfl, dd, [(f, u)], u, rfl, e.fh _ _ h2, by simp [List.lookup], k u F1 H1 e h3⟩
theorem je_isEx {a dd C : Addr} {f : Str} {d : PyData} {c : V} {cv : Value} {b : Bool} (h : JV K M W te ps (exv K a dd f d)) (T : ExK K C) (hc : ClsV c cv) (hk : PySem.W.kitOne K (.ref C) cv = some b) : JD K M W (tCB (rIsEx K a (.ref C) (some dd)) (tCons te (tCons (tC c) tNil))) ps (.bool b) := je_cb (ja_cons h (ja_cons je_x ja_nil)) fun vs F H fh al Q k => by
  obtain ⟨v, u, rfl, p, q⟩ := allP2 al
  obtain ⟨rfl, w, h2, h3⟩ := p
  rw [show u = c from q]
  exact ⟨C, c, cv, b, dd, _, rfl, T, rfl, rfl, fh _ _ h2, hc, hk, k _ F H (Gr.refl fh) (.bl b)⟩
theorem je_isExT2 {a dd C C1 C2 : Addr} {f : Str} {d : PyData} {b : Bool} (h : JV K M W te ps (exv K a dd f d)) (T : ExK K C) (hk : PySem.W.kitAny K (.ref C) [.ref C1, .ref C2] = some b) :
    JD K M W (tCB (rIsExT K a (.ref C) (some dd)) (tCons te (tCons (tTup (tCons (tC (.ref C1)) (tCons (tC (.ref C2)) tNil))) tNil))) ps (.bool b) := fun σ F H Q fh S k => h.go fh S fun v F1 H1 e p => by
  obtain ⟨rfl, w, h2, h3⟩ := p
  refine ⟨by show 2 ≤ sizeLine; decide, fun tp htp => ?_⟩
  refine ⟨C, tp, [.ref C1, .ref C2], [.ref C1, .ref C2], b, dd, [(f, w)], rfl, T, rfl, rfl, ?_, upd_same, .cons (.own C1) (.cons (.own C2) .nil), hk, k _ _ _ (e.trans (Gr.new e.fh htp)) (.bl b)⟩
  rw [upd_ne (ne_of_none (e.fh _ _ h2) htp)]
  exact e.fh _ _ h2
/-! ### try -/
theorem js_try_ok {tb : WX → TS} {Wo : WX} {l : List (Value × Nat × (Addr → Value → Option Addr → TS))} (hb : ∀ W', JS K M W' (tb W') ps r) (hr : ∀ e, r ≠ .er e) : JS K M W (fun D σ H => tb (wClauses K Wo D l) D σ H) ps r := fun D σ F H fh S k => hb _ D σ F H fh S (by
  cases r with
  | er e => exact absurd rfl (hr e)
  | nx qs => exact k
  | rt P => exact k
  | bk qs => exact k
  | ct qs => exact k)
/-- the suite of the clause that catches: slot i holds the error, no other slot is known -/
def Suite (K : PySem.W.Frag) (M : EC → Addr) (W : WX) (n i : Nat) (ts : Addr → Value → Option Addr → TS) (e : Er) (P : PV) : Prop :=
  ∀ a dd, JS K M W (ts a (.ref (M e.c)) (some dd)) ((List.replicate n none).set i (some (exv K a dd e.c.fld e.val))) (.rt P)
/-- which clause catches the error: the ones ahead of it do not -/
def Catch (K : PySem.W.Frag) (M : EC → Addr) (W : WX) (n : Nat) (e : Er) (P : PV) : List (Value × Nat × (Addr → Value → Option Addr → TS)) → Prop
  | [] => False
  | (c, i, ts) :: l => (PySem.W.exmOne K (.ref (M e.c)) c = some true ∧ Suite K M W n i ts e P) ∨ (PySem.W.exmOne K (.ref (M e.c)) c = some false ∧ Catch K M W n e P l)
theorem sl_bare {F : Hp} : ∀ σ : L2.St, Sl F σ (List.replicate σ.length none) := fun σ => ⟨by simp, fun i P h => by
  have := List.eq_of_mem_replicate (List.mem_of_getElem? h)
  cases this⟩
theorem catch_ok {Wo : WX} {D : Ends} {e : Er} {P : PV} {n : Nat} : ∀ {l : List (Value × Nat × (Addr → Value → Option Addr → TS))}, Catch K M W n e P l → ∀ {F H F1 H1 : Hp} {σ' : L2.St} {d : Addr} {u : V}, Wsh K M W n D F H (.rt P) → Gr F H F1 H1 → H d = none → H1 d = some (.xd [(e.c.fld, u)]) → Dp K F1 u e.val → σ'.length = n →
    wClauses K Wo D l (.ref (M e.c)) (some d) σ' H1
  | [], h, _, _, _, _, _, _, _, _, _, _, _, _, _ => h.elim
  | (c, i, ts) :: l, h, F, H, F1, H1, σ', d, u, k, g, hn, hd, dp, hl => by
    rcases h with ⟨hx, hs⟩ | ⟨hx, hc⟩
    · refine ⟨true, hx, fun _ a ha => ?_, fun z => Bool.noConfusion z⟩
      have fo : ∀ o, F1 d = some o → o = .xd [(e.c.fld, u)] := fun o ho => by
        have := g.fh _ _ ho
        rw [hd] at this
        exact (Option.some.inj this).symm
      -- the error's dict is told from here on
      have F2 : Ex F1 (upd F1 d (.xd [(e.c.fld, u)])) := fun b o q => by
        by_cases z : b = d
        · subst z
          rw [upd_same, fo o q]
        · rw [upd_ne z]
          exact q
      have fh2 : Ex (upd F1 d (.xd [(e.c.fld, u)])) H1 := fun b o q => by
        by_cases z : b = d
        · subst z
          rw [upd_same] at q
          cases q
          exact hd
        · rw [upd_ne z] at q
          exact g.fh b o q
      have S0 : Sl (upd F1 d (.xd [(e.c.fld, u)])) (σ'.set i (some (.ref a))) ((List.replicate n none).set i (some (exv K a d e.c.fld e.val))) := by
        have := (sl_bare (F := upd F1 d (.xd [(e.c.fld, u)])) σ').set (P := exv K a d e.c.fld e.val) (v := .ref a) i ⟨rfl, u, upd_same, dp_mono F2 dp⟩
        rw [hl] at this
        exact this
      refine hs a d _ (σ'.set i (some (.ref a))) (upd F1 d (.xd [(e.c.fld, u)])) H1 fh2 S0 fun v F3 H3 g3 p => ?_
      exact k v F3 H3 ⟨g.ff.trans (F2.trans g3.ff), g.hh.trans g3.hh, g3.fh, fun b hb hf => g3.nw b (fun z => by
        have := fresh_back g.hh z
        exact hb this) (by
          by_cases z : b = d
          · subst z
            exact absurd hn hb
          · rw [upd_ne z]
            exact g.nw b hb hf)⟩ p
    · exact ⟨false, hx, fun z => Bool.noConfusion z, fun _ => catch_ok hc k g hn hd dp hl⟩
/-- a def's end -/
def Fin (K : PySem.W.Frag) : Res → Out → Prop
  | .rt P, .ok R => P = R
  | .nx _, .ok R => R = dv K .none
  | .er e, .er e' => e = e'
  | _, _ => False
theorem fin_ok {N : List Str} {Ps : List PV} {vs : List V} {F H : Hp} {Q : VK} {E : XK} {o : Out} (h : JS K M (fun cls d _ H => E cls d H) ts (entry N Ps) r) (hf : Fin K r o) (fh : Ex F H) (al : AllP F vs Ps) (th : Then K M F H Q E o) : ts { nx := fun _ H' => Q .non H', rt := Q } (start N vs) H := by
  refine h _ _ F H fh (Sl.start al) ?_
  cases r with
  | rt P =>
    cases o with
    | ok R =>
      cases (show P = R from hf)
      exact fun v F' H' g p => th v F' H' g p
    | er e => exact hf.elim
  | nx qs =>
    cases o with
    | ok R =>
      cases (show R = dv K .none from hf)
      exact fun σ' F' H' g _ => th .non F' H' g .non
    | er e => exact hf.elim
  | er e =>
    cases o with
    | ok R => exact hf.elim
    | er e2 =>
      cases (show e = e2 from hf)
      exact fun d u σ' F' H' g n hd dp _ => th d u F' H' g n hd dp
  | bk qs =>
    cases o <;> exact hf.elim
  | ct qs =>
    cases o <;> exact hf.elim
theorem js_try_er {tb : WX → TS} {Wo : WX} {l : List (Value × Nat × (Addr → Value → Option Addr → TS))} {e : Er} {P : PV} (hb : ∀ W', JS K M W' (tb W') ps (.er e)) (hc : Catch K M W ps.length e P l) : JS K M W (fun D σ H => tb (wClauses K Wo D l) D σ H) ps (.rt P) := fun D σ F H fh S k =>
  hb _ D σ F H fh S fun d u σ' F' H' g hn hd dp hl => catch_ok hc k g hn hd dp hl
end
end EB

/-! EB6: loops that search, truth of a sequence, membership, slices, more sources. -/
namespace EB
open PySem PySem.Spec PyProof.Rows L2 Evl
/-- a turn that leaves the loop: returns, or raises -/
def Out.lv : Out → Res
  | .ok P => .rt P
  | .er e => .er e
def ends (ps : Kn) : Option Out → Res
  | none => .nx ps
  | some o => o.lv
section
variable {K : PySem.W.Frag} {M : EC → Addr} {W : WX} {ps qs : Kn} {te ta tb : TE} {tr : TA} {t : TT} {ts tu : TS} {r : Res} {vs : List Nat}
theorem lv_or (o : Out) : (∃ P, o.lv = .rt P) ∨ ∃ e, o.lv = .er e := by
  cases o with
  | ok P => exact .inl ⟨P, rfl⟩
  | er e => exact .inr ⟨e, rfl⟩
theorem range_first {β : Type} {c : Nat → Option β} {n : Nat} {o : β} (h : (List.range n).findSome? c = some o) : ∃ m, m < n ∧ c m = some o ∧ ∀ i, i < m → c i = none := by
  induction n with
  | zero => simp at h
  | succ n ih =>
    rw [List.range_succ, List.findSome?_append] at h
    cases q : (List.range n).findSome? c with
    | some o2 =>
      rw [q] at h
      have e : o2 = o := by simpa using h
      subst e
      obtain ⟨m, h1, h2, h3⟩ := ih q
      exact ⟨m, by omega, h2, h3⟩
    | none =>
      rw [q] at h
      have e : c n = some o := by simpa using h
      refine ⟨n, by omega, e, fun i hi => ?_⟩
      have := List.findSome?_eq_none_iff.mp q i (List.mem_range.mpr hi)
      exact this
/-- a loop that is left at the first turn i where c i tells how -/
theorem js_search {wi : TI} {g : TG} {ds : List PyData} {tb : TS} (c : Nat → Option Out) (hi : JI K M W wi ps ds)
    (hs : ∀ i d, ds[i]? = some d → ∃ qs, JG vs g ps (dv K d) qs ∧ (JS K M W tb qs (ends ps (c i)) ∨ (c i = none ∧ JS K M W tb qs (.ct ps)))) : JS K M W (tFor wi g tb) ps (ends ps ((List.range ds.length).findSome? c)) := by
  cases q : (List.range ds.length).findSome? c with
  | none =>
    have hn : ∀ i, i < ds.length → c i = none := fun i h => List.findSome?_eq_none_iff.mp q i (List.mem_range.mpr h)
    refine js_for (vs := vs) (fun _ => ps) ds.length hi rfl (Nat.le_refl _) (fun i d h hd => ?_) (.inl ⟨rfl, rfl⟩) (fun _ => rfl)
    obtain ⟨qs, hg, hb⟩ := hs i d hd
    refine ⟨qs, hg, ?_⟩
    rw [hn i h] at hb
    rcases hb with hb | ⟨_, hb⟩
    · exact .inl hb
    · exact .inr hb
  | some o =>
    obtain ⟨m, hm, hc, hn⟩ := range_first q
    refine js_for (vs := vs) (fun _ => ps) m hi rfl (Nat.le_of_lt hm) (fun i d h hd => ?_) (.inr ?_) (fun _ => rfl)
    · obtain ⟨qs, hg, hb⟩ := hs i d hd
      refine ⟨qs, hg, ?_⟩
      rw [hn i h] at hb
      rcases hb with hb | ⟨_, hb⟩
      · exact .inl hb
      · exact .inr hb
    · obtain ⟨qs, hg, hb⟩ := hs m _ (List.getElem?_eq_getElem hm)
      rw [hc] at hb
      rcases hb with hb | ⟨z, _⟩
      · exact ⟨_, qs, List.getElem?_eq_getElem hm, hg, hb, lv_or o⟩
      · cases z
/-- the truth of a sequence -/
theorem jt_truT {ds : List PyData} (h : JD K M W te ps (.tuple ds)) : JT K M W (fun σ H Q => te σ H fun x H' => ∃ k, TruV K x H' k ∧ Q k H') ps (!ds.isEmpty) := fun σ F H Q fh S k => h.go fh S fun v F1 H1 e p => by
  obtain ⟨a, xs, rfl, hs, hd⟩ := dp_tup p
  refine ⟨!ds.isEmpty, .inr (.inl ⟨xs, ex_t e.fh hs, ?_⟩), k F1 H1 e⟩
  cases hd <;> rfl
theorem jt_truL {ds : List PyData} (h : JD K M W te ps (.list ds)) : JT K M W (fun σ H Q => te σ H fun x H' => ∃ k, TruV K x H' k ∧ Q k H') ps (!ds.isEmpty) := fun σ F H Q fh S k => h.go fh S fun v F1 H1 e p => by
  obtain ⟨a, xs, rfl, hs, hd⟩ := dp_lst p
  refine ⟨!ds.isEmpty, .inl ⟨xs, ex_l e.fh hs, ?_⟩, k F1 H1 e⟩
  cases hd <;> rfl
/-- x in ns -/
theorem inV_ints (i : Int) : ∀ ns : List Int, inV (.int i) (ns.map V.int) = ns.contains i
  | [] => rfl
  | n :: r => by
    unfold inV
    rw [List.map_cons, List.any_cons, List.contains_cons]
    have := inV_ints i r
    unfold inV at this
    rw [this]
    congr 1
    show eqV (.int n) (.int i) = (i == n)
    unfold eqV
    exact BEq.comm
theorem flat_ints : ∀ ns : List Int, (ns.map V.int).all flatV = true
  | [] => rfl
  | n :: r => by
    rw [List.map_cons, List.all_cons, flat_ints r]
    rfl
theorem je_inT {i : Int} {ns : List Int} (ha : JD K M W ta ps (.int i)) (hb : JD K M W tb ps (.tuple (ns.map .int))) : JD K M W (tOp (rIn K false) ta tb) ps (.bool (ns.contains i)) := je_op ha hb fun x y F H fh p q Q k => by
  obtain ⟨a, xs, rfl, hs, hd⟩ := dp_tup q
  have e := dpAll_ints_eq hd
  subst e
  rw [dp_int p]
  refine ⟨a, _, rfl, .inr (ex_t fh hs), rfl, flat_ints ns, ?_⟩
  rw [inV_ints]
  exact k _ F H (Gr.refl fh) (.bl _)
theorem je_inL {i : Int} {ns : List Int} (ha : JD K M W ta ps (.int i)) (hb : JD K M W tb ps (.list (ns.map .int))) : JD K M W (tOp (rIn K false) ta tb) ps (.bool (ns.contains i)) := je_op ha hb fun x y F H fh p q Q k => by
  obtain ⟨a, xs, rfl, hs, hd⟩ := dp_lst q
  have e := dpAll_ints_eq hd
  subst e
  rw [dp_int p]
  refine ⟨a, _, rfl, .inl (ex_l fh hs), rfl, flat_ints ns, ?_⟩
  rw [inV_ints]
  exact k _ F H (Gr.refl fh) (.bl _)
/-- t[:k], not the whole; xs[:k] -/
def JO (K : PySem.W.Frag) (M : EC → Addr) (W : WX) (to : TO) (ps : Kn) (o : Option Int) : Prop := ∀ σ F H (Q : Option Int → Hp → Prop), Ex F H → Sl F σ ps → (∀ F' H', Gr F H F' H' → Q o H') → to σ H Q
theorem jo_none : JO K M W tNoPart ps none := fun σ F H Q fh S k => k F H (Gr.refl fh)
theorem jo_some {i : Int} (h : JD K M W te ps (.int i)) : JO K M W (tPart te) ps (some i) := fun σ F H Q fh S k => h.go fh S fun v F1 H1 e p => ⟨i, dp_int p, k F1 H1 e⟩
def cutD (ds : List PyData) (lo hi : Option Int) : List PyData := (ds.drop (HT.sIx ds.length 0 lo)).take (HT.sIx ds.length ds.length hi - HT.sIx ds.length 0 lo)
theorem cut_all {F : Hp} {xs : List V} {ds : List PyData} (h : DpAll K F xs ds) (lo hi : Option Int) : DpAll K F (cutV xs lo hi) (cutD ds lo hi) := by
  unfold cutV cutD
  rw [dpLength h]
  exact dpTake _ (dpDrop _ h)
theorem je_slT {ds : List PyData} {tl th : TO} {lo hi : Option Int} (h : JD K M W te ps (.tuple ds)) (h1 : JO K M W tl ps lo) (h2 : JO K M W th ps hi) (hw : ¬ (HT.sIx ds.length 0 lo = 0 ∧ HT.sIx ds.length ds.length hi = ds.length)) : JD K M W (tSl (rSlT K) te tl th) ps (.tuple (cutD ds lo hi)) := fun σ F H Q fh S k =>
  h.go fh S fun v F1 H1 e p => h1 σ F1 H1 _ e.fh (S.mono e.ff) fun F2 H2 e2 => h2 σ F2 H2 _ e2.fh ((S.mono e.ff).mono e2.ff) fun F3 H3 e3 => by
    obtain ⟨a, xs, rfl, hs, hd⟩ := dp_tup (dp_mono (e2.ff.trans e3.ff) p)
    refine ⟨a, xs, rfl, ex_t e3.fh hs, by rw [dpLength hd]; exact hw, fun p hp => k _ _ _ (((e.trans e2).trans e3).trans (Gr.new e3.fh hp)) (.tup (st_of upd_same) (dpAll_mono (Gr.new (o := .tup (cutV xs lo hi)) e3.fh hp).ff (cut_all hd lo hi)))⟩
theorem je_slL {ds : List PyData} {tl th : TO} {lo hi : Option Int} (h : JD K M W te ps (.list ds)) (h1 : JO K M W tl ps lo) (h2 : JO K M W th ps hi) : JD K M W (tSl (rSlL K) te tl th) ps (.list (cutD ds lo hi)) := fun σ F H Q fh S k =>
  h.go fh S fun v F1 H1 e p => h1 σ F1 H1 _ e.fh (S.mono e.ff) fun F2 H2 e2 => h2 σ F2 H2 _ e2.fh ((S.mono e.ff).mono e2.ff) fun F3 H3 e3 => by
    obtain ⟨a, xs, rfl, hs, hd⟩ := dp_lst (dp_mono (e2.ff.trans e3.ff) p)
    exact ⟨a, xs, rfl, ex_l e3.fh hs, fun p hp => k _ _ _ (((e.trans e2).trans e3).trans (Gr.new e3.fh hp)) (.lst (sq_of upd_same) (dpAll_mono (Gr.new (o := .lst (cutV xs lo hi)) e3.fh hp).ff (cut_all hd lo hi)))⟩
theorem cutD_map {α : Type} (f : α → PyData) (xs : List α) (j : Nat) : cutD (xs.map f) none (some (j : Int)) = (xs.take j).map f := by
  unfold cutD
  rw [HT.sIx_none, HT.sIx_nat, List.drop_zero, Nat.sub_zero, List.length_map, ← List.map_take]
  congr 1
  by_cases h : j ≤ xs.length
  · rw [Nat.min_eq_left h]
  · rw [Nat.min_eq_right (by omega), List.take_length, List.take_of_length_le (by omega)]
/-- t + u -/
theorem je_catT {ds es : List PyData} (ha : JD K M W ta ps (.tuple ds)) (hb : JD K M W tb ps (.tuple es)) (h1 : ds ≠ []) (h2 : es ≠ []) (hl : ds.length + es.length ≤ 100000) : JD K M W (tOp (rCatT K) ta tb) ps (.tuple (ds ++ es)) := je_op ha hb fun x y F H fh p q Q k => by
  obtain ⟨a, xs, rfl, hs, hd⟩ := dp_tup p
  obtain ⟨b, ys, rfl, hs2, hd2⟩ := dp_tup q
  have n1 : xs ≠ [] := fun z => by subst z; cases hd; exact h1 rfl
  have n2 : ys ≠ [] := fun z => by subst z; cases hd2; exact h2 rfl
  refine ⟨a, b, xs, ys, rfl, rfl, ex_t fh hs, ex_t fh hs2, n1, sz_of (by rw [dpLength hd, dpLength hd2]; exact hl), fun z => absurd z n2, fun _ p hp => k _ _ _ (Gr.new fh hp) (.tup (st_of upd_same) (dpApp (dpAll_mono (Gr.new (o := .tup (xs ++ ys)) fh hp).ff hd) (dpAll_mono (Gr.new (o := .tup (xs ++ ys)) fh hp).ff hd2)))⟩
/-- tuple(range(a, b)) -/
theorem rg_all {F : Hp} (a b : Int) : DpAll K F (rgV a b) ((rg a (b - a).toNat).map PyData.int) := by
  have e : rgV a b = (rg a (b - a).toNat).map V.int := by
    unfold rgV rg
    rw [List.map_map]
    rfl
  rw [e]
  exact dpAll_ints _
theorem je_tupRg2 {a b : Int} (ha : JD K M W ta ps (.int a)) (hb : JD K M W tb ps (.int b)) (ok : RgOk a b) : JD K M W (tTupRg (tRg2 ta tb)) ps (.tuple ((rg a (b - a).toNat).map .int)) := fun σ F H Q fh S k =>
  ha.go fh S fun x F1 H1 e1 p => hb.go e1.fh (S.mono e1.ff) fun y F2 H2 e2 q => ⟨a, b, dp_int p, dp_int q, ok, fun l hl => k _ _ _ ((e1.trans e2).trans (Gr.new e2.fh hl)) (.tup (st_of upd_same) (rg_all a b))⟩
end
end EB

/-! EB7: the end of a law's row where the top's loose numbers are told too. -/
namespace EB
open PySem PySem.Spec PyProof.Rows L2 Evl
theorem walk_ofX {l : PySem.W.OpenLaw} {n k : Nat} {q : Program} {loose : List Str} {XP : (Str → Option Value) → Heap → Prop} {YP : World → Heap → Prop} {d : DefRec} {K : Params → PySem.W.Frag} {CX : CXT} {sp : PySem.W.Frag → Sp} {x : Str}
    (hn : l.most = some n) (hn2 : n ≤ sizeLine) (hdf : d.params.defaults = []) (hr : Room k callerA)
    (hY : ∀ (w : World) (h : Heap), YP w h → (K w.params).In h)
    (F : ∀ (w : World) (mg : Str → Option Value) (fa : Addr) (h : Heap), (K w.params).In h → h.Ns mainGlobals mg → XP mg h → mg d.name = some (.ref fa) →
      ∃ fd : FuncData, (∀ (s : Shared) (u : Value), BindsTo s fd ⟨[u], []⟩ [(x, u)]) ∧
        ∀ base : Heap, (K w.params).In base → base.Ns mainGlobals mg → FnOk l.prog w (K w.params) mg base CX k fa fd [x] (sp (K w.params)))
    (hsp : ∀ (K : PySem.W.Frag) (H : Hp) (a : Addr) (ns : List Int), ns.length ≤ n → Only H → SqL K H a (ns.map V.int) → sp K [.ref a] H (fun v _ => v = .bl true) fun _ _ _ => False)
    (hCX : ∀ (H : Hp) (s : Shared) (e : Value) (t : Shared), CX [] H s (fun _ _ _ => False) e t → False) :
    PySem.W.WalkO q loose XP YP l.row.toRowW d [] (fun f vs => PySem.call f vs) := by
  refine Att.attach_call hn hdf fun w t0 t1 mg mb fa o pm cd doc a vs ns G Y ho hd hcd hmg hobj hints hlen hg => ?_
  have KX := hY w _ Y
  obtain ⟨fd, hb, hF⟩ := F w mg fa _ KX G.T.g G.X hmg
  exact law_call KX G.T.g G.T.b G.T.builtins G.T.nolimit hg hobj hints (Nat.le_trans hlen hn2) hr hF hb (fun H hO hS => hsp (K w.params) H a ns hlen hO hS) fun H e t => hCX H t1 e t
theorem loose_int {p : Program} {lv : List (Str × PySem.W.WData)} {mg : Str → Option Value} {h : Heap} {x : Str} {i : Int} (L : PySem.W.XL p lv mg h) (m : (x, PySem.W.WData.int i) ∈ lv) : ∃ t, mg x = some (.int i t) := by
  obtain ⟨v, e, r⟩ := L.2.val _ m
  cases r
  exact ⟨_, e⟩
section
variable {K : PySem.W.Frag} {A C : Addr} {b : Bool}
theorem kit_refl : PySem.W.kitOne K (.ref C) (.ref C) = some true := if_pos (beq_self_eq_true _)
theorem cls_ask (ic : PySem.W.isClsIn K C = true) (ty : PySem.W.typeIn K (.ref C) = some (.type "type")) : ((PySem.W.clsIn K C).isSome && PySem.W.typeIn K (.ref C) == some (.type "type")) = true := by
  have i2 : (PySem.W.clsIn K C).isSome = true := ic
  rw [i2, ty] <;> rfl
theorem kit_sub (ic : PySem.W.isClsIn K C = true) (ty : PySem.W.typeIn K (.ref C) = some (.type "type")) (su : PySem.W.subIn K (.ref A) (.ref C) = some b) (hb : A = C → b = true) : PySem.W.kitOne K (.ref A) (.ref C) = some b := by
  by_cases z : A = C
  · rw [hb z, z]
    exact kit_refl
  · unfold PySem.W.kitOne
    have ne : (Value.ref A == Value.ref C) = false := by
      refine Bool.eq_false_iff.mpr fun q => z ?_
      exact Value.ref.inj (beq_iff_eq.mp q)
    rw [ne, if_neg Bool.false_ne_true]
    show (if ((PySem.W.clsIn K C).isSome && PySem.W.typeIn K (.ref C) == some (.type "type")) = true then PySem.W.subIn K (.ref A) (.ref C) else none) = some b
    rw [if_pos (cls_ask ic ty)]
    exact su
theorem kit_off (ic : PySem.W.isClsIn K C = true) (ty : PySem.W.typeIn K (.ref C) = some (.type "type")) (sa : PySem.W.subIn K (.ref A) (.ref A) = some true) (su : PySem.W.subIn K (.ref A) (.ref C) = some false) : PySem.W.kitOne K (.ref A) (.ref C) = some false := kit_sub ic ty su fun z => by
  rw [← z, sa] at su
  cases su
theorem kit_val (su : PySem.W.subIn K (.ref A) (.type "ValueError") = some true) : PySem.W.kitOne K (.ref A) (.type "ValueError") = some true := by
  unfold PySem.W.kitOne
  have ne : (Value.ref A == Value.type "ValueError") = false := Bool.eq_false_iff.mpr fun q => by
    have := beq_iff_eq.mp q
    cases this
  rw [ne, if_neg Bool.false_ne_true]
  show (if PySem.W.kitMeta "ValueError" = true then PySem.W.subIn K (.ref A) (.type "ValueError") else none) = some true
  rw [if_pos (by decide +kernel)]
  exact su
theorem kit_any2 {C1 C2 : Addr} (h1 : PySem.W.kitOne K (.ref A) (.ref C1) = some false) (h2 : PySem.W.kitOne K (.ref A) (.ref C2) = some false) : PySem.W.kitAny K (.ref A) [.ref C1, .ref C2] = some false := kitAny_cons h1 (fun _ => kitAny_cons h2 (fun _ => kitAny_nil) fun z => nomatch z) fun z => nomatch z
theorem exm_sub (sb : PySem.W.subIn K (.ref C) (.type "BaseException") = some true) (ic : PySem.W.isClsIn K C = true) (ty : PySem.W.typeIn K (.ref C) = some (.type "type")) (su : PySem.W.subIn K (.ref A) (.ref C) = some b) : PySem.W.exmOne K (.ref A) (.ref C) = some b := by
  have e1 : (PySem.W.subIn K (.ref C) (.type "BaseException") == some true) = true := by rw [sb] <;> rfl
  show (if (PySem.W.subIn K (.ref C) (.type "BaseException") == some true) = true then (if ((PySem.W.clsIn K C).isSome && PySem.W.typeIn K (.ref C) == some (.type "type")) = true then PySem.W.subIn K (.ref A) (.ref C) else none) else none) = some b
  rw [if_pos e1, if_pos (cls_ask ic ty)]
  exact su
end
end EB

/-! EB8: data that may be compared. -/
namespace EB
open PySem PySem.Spec PyProof.Rows L2 Evl
structure Ok (d : PyData) (n : Nat) : Prop where
  c : PyData.canLay0 d = true
  d : PyData.depth d ≤ n
theorem ok_all {n : Nat} : ∀ {ds : List PyData}, (∀ d ∈ ds, Ok d n) → PyData.canLayAll0 ds = true ∧ PyData.depthAll ds ≤ n
  | [], _ => by simp [PyData.canLayAll0, PyData.depthAll]
  | d :: r, h => by
    have h1 := h d (List.mem_cons_self)
    have h2 := ok_all (n := n) (ds := r) fun e he => h e (List.mem_cons_of_mem _ he)
    simp only [PyData.canLayAll0, PyData.depthAll, Bool.and_eq_true]
    exact ⟨⟨h1.c, h2.1⟩, Nat.max_le.mpr ⟨h1.d, h2.2⟩⟩
theorem ok_tup {n : Nat} {ds : List PyData} (h : ∀ d ∈ ds, Ok d n) : Ok (.tuple ds) (n + 1) := by
  have h2 := ok_all h
  refine ⟨by simp only [PyData.canLay0]; exact h2.1, ?_⟩
  simp only [PyData.depth]
  omega
theorem ok_lst {n : Nat} {ds : List PyData} (h : ∀ d ∈ ds, Ok d n) : Ok (.list ds) (n + 1) := by
  have h2 := ok_all h
  refine ⟨by simp only [PyData.canLay0]; exact h2.1, ?_⟩
  simp only [PyData.depth]
  omega
theorem ok_int {n : Nat} {i : Int} : Ok (.int i) n := ⟨by simp only [PyData.canLay0], by simp only [PyData.depth]; omega⟩
theorem ok_bl {n : Nat} {b : Bool} : Ok (.bool b) n := ⟨by simp only [PyData.canLay0], by simp only [PyData.depth]; omega⟩
theorem ok_str {n : Nat} {x : Str} (h : PyData.strOk x = true) : Ok (.str x) n := ⟨by simp only [PyData.canLay0]; exact h, by simp only [PyData.depth]; omega⟩
theorem Ok.up {d : PyData} {n m : Nat} (h : Ok d n) (q : n ≤ m) : Ok d m := ⟨h.c, Nat.le_trans h.d q⟩
theorem Ok.sh {d : PyData} {n : Nat} (h : Ok d n) (hn : n ≤ 64) : SeqAt.shaped d = true := by
  unfold SeqAt.shaped
  rw [h.c, Bool.true_and]
  exact decide_eq_true (Nat.le_trans h.d hn)
theorem ok_ints {n : Nat} (xs : List Int) : ∀ d ∈ xs.map PyData.int, Ok d n := fun d hd => by
  obtain ⟨i, _, rfl⟩ := List.mem_map.mp hd
  exact ok_int
section
variable {K : PySem.W.Frag} {M : EC → Addr} {W : WX} {ps : Kn} {ta tb : TE}
/-- the same data on both sides -/
theorem je_eqR {d : PyData} {n : Nat} (ha : JD K M W ta ps d) (hb : JD K M W tb ps d) (o : Ok d n) (hn : n ≤ 64 := by decide) : JD K M W (tOp (rEqD K) ta tb) ps (.bool true) := je_is (je_eqD ha hb (o.sh hn) (o.sh hn)) (by rw [SeqAt.eqv_refl d o.c])
theorem je_neR {d : PyData} {n : Nat} (ha : JD K M W ta ps d) (hb : JD K M W tb ps d) (o : Ok d n) (hn : n ≤ 64 := by decide) : JD K M W (tOp (rNeD K) ta tb) ps (.bool false) := je_is (je_neD ha hb (o.sh hn) (o.sh hn)) (by rw [SeqAt.eqv_refl d o.c]; rfl)
end
end EB

/-! EB9: a list of one's own that is written to (appended to, items set), then handed on as data. -/
namespace EB
open PySem PySem.Spec PyProof.Rows L2 Evl
theorem dpSet {K : PySem.W.Frag} {H : Hp} : ∀ {vs : List V} {ds : List PyData} {j : Nat} {v : V} {d : PyData}, DpAll K H vs ds → Dp K H v d → DpAll K H (vs.set j v) (ds.set j d)
  | _, _, _, _, _, .nil, _ => .nil
  | _, _, 0, _, _, .cons a b, p => .cons p b
  | _, _, j + 1, _, _, .cons a b, p => .cons a (dpSet b p)
inductive LR
  | nx (qs : Kn) (ds : List PyData)
  | rt (d : PyData)
def LW (K : PySem.W.Frag) (D : Addr) (F1 H1 : Hp) (Dn : Ends) (F : Hp) : LR → Prop
  | .nx qs es => ∀ σ' F' H', Acc K D F1 H1 F' H' es → Ex F F' → Sl F' σ' qs → Dn.nx σ' H'
  | .rt d => ∀ v F' H', Gr F1 H1 F' H' → Dp K F' v d → Dn.rt v H'
theorem LW.step {K : PySem.W.Frag} {D : Addr} {F1 H1 : Hp} {Dn : Ends} {F F' : Hp} {R : LR} (e : Ex F F') (k : LW K D F1 H1 Dn F R) : LW K D F1 H1 Dn F' R := by
  cases R with
  | nx qs es => exact fun σ2 F2 H2 A2 e2 S2 => k σ2 F2 H2 A2 (e.trans e2) S2
  | rt d => exact k
def JL (K : PySem.W.Frag) (M : EC → Addr) (W : WX) (D : Addr) (F1 H1 : Hp) (ts : TS) (ps : Kn) (ds : List PyData) (R : LR) : Prop := ∀ Dn σ F H, Acc K D F1 H1 F H ds → Sl F σ ps → LW K D F1 H1 Dn F R → ts Dn σ H
section
variable {K : PySem.W.Frag} {M : EC → Addr} {W : WX} {D : Addr} {F1 H1 : Hp} {ps qs rs : Kn} {ts tu : TS} {te ti : TE} {ds es : List PyData} {R : LR} {t : TT}
theorem jl_js (h : JS K M W ts ps (.nx qs)) : JL K M W D F1 H1 ts ps ds (.nx qs ds) := fun Dn σ F H A S k => h Dn σ F H A.gr.fh S fun σ' F' H' g s => k σ' F' H' (A.step g) g.ff s
theorem jl_weak (h : JL K M W D F1 H1 ts ps ds (.nx qs es)) (w : Weak qs rs) : JL K M W D F1 H1 ts ps ds (.nx rs es) := fun Dn σ F H A S k => h Dn σ F H A S fun σ' F' H' A' e s => k σ' F' H' A' e (s.weak w)
theorem jl_is {es' : List PyData} (h : JL K M W D F1 H1 ts ps ds (.nx qs es)) (e : es = es') : JL K M W D F1 H1 ts ps ds (.nx qs es') := e ▸ h
theorem jl_seq (h1 : JL K M W D F1 H1 ts ps ds (.nx qs es)) (h2 : JL K M W D F1 H1 tu qs es R) : JL K M W D F1 H1 (tSeq ts tu) ps ds R := fun Dn σ F H A S k => h1 { Dn with nx := tu Dn } σ F H A S fun σ' F' H' A' e S' => h2 Dn σ' F' H' A' S' (LW.step e k)
theorem jl_if {b : Bool} (h : JT K M W t ps b) (h1 : b = true → JL K M W D F1 H1 ts ps ds R) (h2 : b = false → JL K M W D F1 H1 tu ps ds R) : JL K M W D F1 H1 (tIfS t ts tu) ps ds R := fun Dn σ F H A S k => h σ F H _ A.gr.fh S fun F' H' g => by
  have k' := LW.step g.ff k
  cases b with
  | true => exact h1 rfl Dn σ F' H' (A.step g) (S.mono g.ff) k'
  | false => exact h2 rfl Dn σ F' H' (A.step g) (S.mono g.ff) k'
theorem sl_at {F : Hp} {σ : L2.St} {i : Nat} {v : V} (S : Sl F σ ps) (h : ps[i]? = some (some (xv v))) : σ[i]? = some (some v) := by
  obtain ⟨u, hu, e⟩ := S.2 i _ h
  rw [hu, show u = v from e]
/-- xs.append(e) -/
theorem jl_app {i : Nat} {ta : TA} {d : PyData} (hi : ps[i]? = some (some (xv (.ref D)))) (hD : H1 D = none) (h : JA K M W ta ps [dv K d]) (hl : ds.length < 90000) : JL K M W D F1 H1 (tDrop (tBM K "list" rAppend (tVar i) ta)) ps ds (.nx ps (ds ++ [d])) := fun Dn σ F H A S k => by
  obtain ⟨acc0, h0, _⟩ := A.at_
  refine ⟨.ref D, sl_at S hi, (.inl ⟨rfl, acc0, sq_of h0⟩), h σ F H _ A.gr.fh S fun vs F2 H2 g a => ?_⟩
  obtain ⟨v, rfl, p⟩ := allP1 a
  have A2 := A.step g
  obtain ⟨acc, h2, hd⟩ := A2.at_
  exact ⟨D, acc, v, rfl, rfl, h2, sz_lt (by rw [A2.len h2]; omega), k σ F2 _ (A2.app hD h2 p) g.ff (S.mono g.ff)⟩
theorem ixN_nat {n j : Nat} (h : j < n) : ixN n (j : Int) = some j := by
  unfold ixN
  rw [if_pos (by omega), if_pos (by omega)]
  simp
theorem acc_set {F H : Hp} {acc : List V} {j : Nat} {v : V} {d : PyData} (A : Acc K D F1 H1 F H ds) (hD : H1 D = none) (h : H D = some (.lst acc)) (p : Dp K F v d) : Acc K D F1 H1 F (upd H D (.lst (acc.set j v))) (ds.set j d) := by
  obtain ⟨acc2, h2, hd⟩ := A.at_
  rw [h] at h2
  cases h2
  exact ⟨gr_mut A.gr hD A.off, A.off, _, upd_same, dpSet hd p⟩
/-- xs[k] = e -/
theorem jl_set {i j : Nat} {d : PyData} (hi : ps[i]? = some (some (xv (.ref D)))) (hD : H1 D = none) (h : JD K M W te ps d) (hk : JD K M W ti ps (.int (j : Nat))) (hj : j < ds.length) : JL K M W D F1 H1 (tAsg te (gSub (tVar i) ti rSetL)) ps ds (.nx ps (ds.set j d)) := fun Dn σ F H A S k =>
  h.go A.gr.fh S fun v F2 H2 g p => by
    refine ⟨.ref D, sl_at S hi, hk.go g.fh (S.mono g.ff) fun u F3 H3 g3 q => ?_⟩
    have A3 := (A.step g).step g3
    obtain ⟨acc, h3, hd⟩ := A3.at_
    exact ⟨D, acc, (j : Nat), j, rfl, dp_int q, h3, by rw [A3.len h3]; exact ixN_nat hj, k σ F3 _ (acc_set A3 hD h3 (dp_mono g3.ff p)) (g.ff.trans g3.ff) ((S.mono g.ff).mono g3.ff)⟩
/-- xs[k] = e where e is an int that may be read off xs itself -/
theorem jl_setI {i j : Nat} {v : Int} (hi : ps[i]? = some (some (xv (.ref D)))) (hD : H1 D = none) (h : JD K M W te (ps.set i (some (dv K (.list ds)))) (.int v)) (hk : JD K M W ti ps (.int (j : Nat))) (hj : j < ds.length) : JL K M W D F1 H1 (tAsg te (gSub (tVar i) ti rSetL)) ps ds (.nx ps (ds.set j (.int v))) := fun Dn σ F H A S k => by
  obtain ⟨acc0, h0, hd0⟩ := A.at_
  have fo : Ex F (upd F D (.lst acc0)) := Ex.new A.off
  have fh : Ex (upd F D (.lst acc0)) H := fun b o q => by
    by_cases z : b = D
    · subst z
      rw [upd_same] at q
      cases q
      exact h0
    · rw [upd_ne z] at q
      exact A.gr.fh b o q
  have S2 : Sl (upd F D (.lst acc0)) σ (ps.set i (some (dv K (.list ds)))) := by
    refine ⟨by rw [List.length_set]; exact S.1, fun b P hb => ?_⟩
    by_cases z : b = i
    · subst z
      have hl : b < ps.length := (List.getElem?_eq_some_iff.mp hi).1
      rw [List.getElem?_set_self hl] at hb
      cases hb
      exact ⟨_, sl_at S hi, .lst (sq_of upd_same) (dpAll_mono fo hd0)⟩
    · rw [List.getElem?_set_ne (fun y => z y.symm)] at hb
      exact (S.mono fo).2 b P hb
  refine h.go fh S2 fun x F2 H2 g p => ?_
  rw [dp_int p]
  have A2 : Acc K D F1 H1 F H2 ds := ⟨⟨A.gr.ff, A.gr.hh.trans g.hh, A.gr.fh.trans g.hh, A.gr.nw⟩, A.off, acc0, g.hh _ _ h0, hd0⟩
  refine ⟨.ref D, sl_at S hi, hk.go A2.gr.fh S fun u F3 H3 g3 q => ?_⟩
  have A3 := A2.step g3
  obtain ⟨acc, h3, hd⟩ := A3.at_
  exact ⟨D, acc, (j : Nat), j, rfl, dp_int q, h3, by rw [A3.len h3]; exact ixN_nat hj, k σ F3 _ (acc_set A3 hD h3 (.int v)) g3.ff (S.mono g3.ff)⟩
/-- for, the list grows or changes in every turn -/
theorem jl_for {vs : List Nat} {wi : TI} {g : TG} {tb : TS} (xs : List PyData) (f : Nat → Kn) (l : Nat → List PyData) (hi : JI K M W wi ps xs) (h0 : f 0 = ps) (hl0 : l 0 = ds)
    (hs : ∀ (j : Nat) (d : PyData), xs[j]? = some d → ∃ qs, JG vs g (f j) (dv K d) qs ∧ JL K M W D F1 H1 tb qs (l j) (.nx (f (j + 1)) (l (j + 1)))) : JL K M W D F1 H1 (tFor wi g tb) ps ds (.nx (f xs.length) (l xs.length)) := fun Dn σ F H A S k => hi σ F H _ A.gr.fh S fun J F2 H2 e1 it => by
  refine ⟨fun i n σ' H' => n = xs.length - i ∧ i ≤ xs.length ∧ ∃ F', Acc K D F1 H1 F' H' (l i) ∧ Ex F2 F' ∧ Sl F' σ' (f i), ⟨xs.length, by omega, Nat.zero_le _, F2, by rw [hl0]; exact A.step e1, Ex.refl _, by rw [h0]; exact S.mono e1.ff⟩, ?_⟩
  rintro i n σ' H' ⟨rfl, him, F3, A3, e3, S3⟩
  by_cases hlt : i < xs.length
  · refine .inr ⟨it.go i H' (e3.trans A3.gr.fh) hlt, fun σ4 H4 => ∃ F4, Acc K D F1 H1 F4 H4 (l (i + 1)) ∧ Ex F2 F4 ∧ Sl F4 σ4 (f (i + 1)), fun σ4 H4 q => ⟨xs.length - (i + 1), by omega, rfl, hlt, q⟩, fun x H4 y => ?_⟩
    obtain ⟨F4, e4, dx⟩ := it.yld i _ F3 H' x H4 e3 A3.gr.fh (List.getElem?_eq_getElem hlt) y
    obtain ⟨qs, hg, hb⟩ := hs i _ (List.getElem?_eq_getElem hlt)
    have A4 := A3.step e4
    refine hg x σ' F4 H4 _ e4.fh (S3.mono e4.ff) dx fun σ5 F5 H5 e5 S5 _ => ?_
    exact hb _ σ5 F5 H5 (A4.step e5) S5 fun σ6 F6 H6 A6 e6 S6 => ⟨F6, A6, ((e3.trans e4.ff).trans e5.ff).trans e6, S6⟩
  · have hem : i = xs.length := by omega
    subst hem
    exact .inl ⟨it.stop _ H' (e3.trans A3.gr.fh) (Nat.le_refl _), k σ' F3 H' A3 (e1.ff.trans e3) S3⟩
theorem jl_ret {i : Nat} (hi : ps[i]? = some (some (xv (.ref D)))) (hD : H1 D = none) : JL K M W D F1 H1 (tRet (tVar i)) ps ds (.rt (.list ds)) := fun Dn σ F H A S k => by
  obtain ⟨F3, g3, d3, _⟩ := A.done hD
  exact ⟨.ref D, sl_at S hi, k _ F3 H g3 d3⟩
/-- xs = [] -/
theorem jl_new {i : Nat} {d : PyData} (h : ∀ D F1 H1, H1 D = none → JL K M W D F1 H1 tu (ps.set i (some (xv (.ref D)))) [] (.rt d)) : JS K M W (tSeq (tAsg (tLst tNil) (gName i)) tu) ps (.rt (dv K d)) := fun Dn σ F H fh S k =>
  ⟨sz_of (by decide), fun D hD => h D F H hD Dn _ F _ (Acc.start fh hD) (S.set i rfl) fun v F' H' g p => k v F' H' g p⟩
/-- xs = list(e), e a list -/
theorem jl_copy {i : Nat} {d : PyData} (he : JD K M W te ps (.list ds)) (h : ∀ D F1 H1, H1 D = none → JL K M W D F1 H1 tu (ps.set i (some (xv (.ref D)))) ds (.rt d)) : JS K M W (tSeq (tAsg (tCB (rListS K) (tCons te tNil)) (gName i)) tu) ps (.rt (dv K d)) := fun Dn σ F H fh S k =>
  he.go fh S fun v F1 H1 e p => by
    obtain ⟨a, xs, rfl, hs, hd⟩ := dp_lst p
    exact ⟨a, xs, rfl, .inl (ex_l e.fh hs), fun D hD => h D F1 H1 hD Dn _ F1 _ ⟨gr_mut (Gr.refl e.fh) hD (fresh_back e.fh hD), fresh_back e.fh hD, xs, upd_same, hd⟩ ((S.mono e.ff).set i rfl) fun v F' H' g p => k v F' H' (e.trans g) p⟩
end
end EB

/-! EB10: max and min, lists that stand in the heap, == by an own __eq__, is True. -/
namespace EB
open PySem PySem.Spec PyProof.Rows L2 Evl
/-- a list that was made at run time -/
def lv (K : PySem.W.Frag) (ds : List PyData) : PV := ⟨fun H v => ∃ a xs, v = .ref a ∧ H a = some (.lst xs) ∧ DpAll K H xs ds, fun e h => by
  obtain ⟨a, xs, h1, h2, h3⟩ := h
  exact ⟨a, xs, h1, e _ _ h2, dpAll_mono e h3⟩⟩
theorem lv_dv {K : PySem.W.Frag} {ds : List PyData} : ∀ (H : Hp) (v : V), (lv K ds).p H v → (dv K (.list ds)).p H v := fun H v h => by
  obtain ⟨a, xs, rfl, h2, h3⟩ := h
  exact .lst (sq_of h2) h3
section
variable {K : PySem.W.Frag} {M : EC → Addr} {W : WX} {ps : Kn} {ta tb te : TE} {tr : TA}
theorem je_lvd {ds : List PyData} (h : JV K M W te ps (lv K ds)) : JD K M W te ps (.list ds) := je_weak h lv_dv
theorem je_lstV {ds : List PyData} (h : JA K M W tr ps (ds.map (dv K))) (hl : ds.length ≤ 100000 := by first | decide | omega | (simp; done)) : JV K M W (tLst tr) ps (lv K ds) := fun σ F H Q fh S k =>
  h σ F H _ fh S fun vs F1 H1 e1 a => ⟨sz_of (by rw [dpLength a.dv]; exact hl), fun p hp => k _ _ _ (e1.trans (Gr.new e1.fh hp)) ⟨p, vs, rfl, upd_same, dpAll_mono (Gr.new (o := .lst vs) e1.fh hp).ff a.dv⟩⟩
theorem je_catV {ds es : List PyData} (ha : JV K M W ta ps (lv K ds)) (hb : JV K M W tb ps (lv K es)) (hl : ds.length + es.length ≤ 100000) : JV K M W (tOp rCat ta tb) ps (lv K (ds ++ es)) := je_op ha hb fun x y F H fh p q Q k => by
  obtain ⟨a, xs, rfl, hx, hd⟩ := p
  obtain ⟨b, ys, rfl, hy, he⟩ := q
  exact ⟨a, b, xs, ys, rfl, rfl, fh _ _ hx, fh _ _ hy, sz_of (by rw [dpLength hd, dpLength he]; exact hl), fun p hp => k _ _ _ (Gr.new fh hp) ⟨p, _, rfl, upd_same, dpApp (dpAll_mono (Gr.new (o := .lst (xs ++ ys)) fh hp).ff hd) (dpAll_mono (Gr.new (o := .lst (xs ++ ys)) fh hp).ff he)⟩⟩
theorem je_maxI {ns : List Int} {m : Int} (h : JD K M W te ps (.list (ns.map .int))) (hm : m ∈ ns) (hx : ∀ y ∈ ns, y ≤ m) : JD K M W (tCB (rMax K) (tCons te tNil)) ps (.int m) := je_cb (ja_cons h ja_nil) fun vs F H fh b Q k => by
  obtain ⟨v, rfl, p⟩ := allP1 b
  obtain ⟨a, xs, rfl, hs, hd⟩ := dp_lst p
  have e := dpAll_ints_eq hd
  subst e
  refine ⟨a, ns, rfl, ex_l fh hs, List.length_pos_of_mem hm, fun m2 h2 h3 => ?_⟩
  rw [show m2 = m from Int.le_antisymm (hx _ h2) (h3 _ hm)]
  exact k _ F H (Gr.refl fh) (.int m)
theorem je_minI {ns : List Int} {m : Int} (h : JD K M W te ps (.list (ns.map .int))) (hm : m ∈ ns) (hx : ∀ y ∈ ns, m ≤ y) : JD K M W (tCB (rMin K) (tCons te tNil)) ps (.int m) := je_cb (ja_cons h ja_nil) fun vs F H fh b Q k => by
  obtain ⟨v, rfl, p⟩ := allP1 b
  obtain ⟨a, xs, rfl, hs, hd⟩ := dp_lst p
  have e := dpAll_ints_eq hd
  subst e
  refine ⟨a, ns, rfl, ex_l fh hs, List.length_pos_of_mem hm, fun m2 h2 h3 => ?_⟩
  rw [show m2 = m from Int.le_antisymm (h3 _ hm) (hx _ h2)]
  exact k _ F H (Gr.refl fh) (.int m)
theorem je_isB {a b : Bool} (ha : JD K M W ta ps (.bool a)) (hb : JD K M W tb ps (.bool b)) : JD K M W (tOp rIsB ta tb) ps (.bool (decide (a = b))) := je_op ha hb fun x y F H fh p q Q k => ⟨a, b, dp_bl p, dp_bl q, k _ F H (Gr.refl fh) (.bl _)⟩
/-- two objects of a class with the same data -/
def eqR (K : PySem.W.Frag) (C : Addr) (f : Str) : Addr → Addr → Hp → Prop := fun a b H => ∃ (F : Hp) (d : PyData), Ex F H ∧ (ob1 K C f d).p F (.ref a) ∧ (ob1 K C f d).p F (.ref b) ∧ Ok d 60
theorem je_eqOwn {C : Addr} {f : Str} {d : PyData} (ha : JV K M W ta ps (ob1 K C f d)) (hb : JV K M W tb ps (ob1 K C f d)) (o : Ok d 60) : JD K M W (tOp (rEqG (DIns C (eqR K C f))) ta tb) ps (.bool true) := je_op ha hb fun x y F H fh p q Q k => by
  obtain ⟨a, dx, u, rfl, h1, h2⟩ := id p
  obtain ⟨b, dy, v, rfl, h3, h4⟩ := id q
  exact ⟨⟨a, b, dx, dy, _, _, rfl, rfl, fh _ _ h1, fh _ _ h3, F, d, fh, p, q, o⟩, fun H' e => k _ F H' (Gr.heap fh e) (.bl true)⟩
/-- a list of one's own is told as data from here on -/
theorem jl_tell {D : Addr} {F1 H1 : Hp} {tu : TS} {i : Nat} {ds : List PyData} {d : PyData} (hi : ps[i]? = some (some (xv (.ref D)))) (hD : H1 D = none) (h : JS K M W tu (ps.set i (some (lv K ds))) (.rt (dv K d))) : JL K M W D F1 H1 tu ps ds (.rt d) := fun Dn σ F H A S k => by
  obtain ⟨acc, h0, hd⟩ := A.at_
  have fo : Ex F (upd F D (.lst acc)) := Ex.new A.off
  have g3 := gr_in A.gr hD A.off h0
  have S2 : Sl (upd F D (.lst acc)) σ (ps.set i (some (lv K ds))) := by
    refine ⟨by rw [List.length_set]; exact S.1, fun b P hb => ?_⟩
    by_cases z : b = i
    · subst z
      have hl : b < ps.length := (List.getElem?_eq_some_iff.mp hi).1
      rw [List.getElem?_set_self hl] at hb
      cases hb
      exact ⟨_, sl_at S hi, D, acc, rfl, upd_same, dpAll_mono fo hd⟩
    · rw [List.getElem?_set_ne (fun y => z y.symm)] at hb
      exact (S.mono fo).2 b P hb
  exact h Dn σ _ H g3.fh S2 fun v F' H' g p => k v F' H' (g3.trans g) p
/-- xs = a + b: a list of one's own from here on -/
theorem jl_cat {tu : TS} {i : Nat} {ds es : List PyData} {d : PyData} (ha : JV K M W ta ps (lv K ds)) (hb : JV K M W tb ps (lv K es)) (hl : ds.length + es.length ≤ 100000) (h : ∀ D F1 H1, H1 D = none → JL K M W D F1 H1 tu (ps.set i (some (xv (.ref D)))) (ds ++ es) (.rt d)) : JS K M W (tSeq (tAsg (tOp rCat ta tb) (gName i)) tu) ps (.rt (dv K d)) := fun Dn σ F H fh S k =>
  ha.go fh S fun v F1 H1 e p => hb.go e.fh (S.mono e.ff) fun u F2 H2 e2 q => by
    obtain ⟨a, xs, rfl, hx, hd⟩ := (lv K ds).mn e2.ff p
    obtain ⟨b, ys, rfl, hy, he⟩ := q
    exact ⟨a, b, xs, ys, rfl, rfl, e2.fh _ _ hx, e2.fh _ _ hy, sz_of (by rw [dpLength hd, dpLength he]; exact hl), fun D hD => h D F2 H2 hD Dn _ F2 _ ⟨gr_mut (Gr.refl e2.fh) hD (fresh_back e2.fh hD), fresh_back e2.fh hD, _, upd_same, dpApp hd he⟩ (((S.mono e.ff).mono e2.ff).set i rfl) fun v F' H' g p => k v F' H' ((e.trans e2).trans g) p⟩
end
end EB

/-! EB11: len by an own __len__, lists that a call has made anew (told by nobody yet), lists times n, turned lists, sums, counts, isinstance of lists. -/
namespace EB
open PySem PySem.Spec PyProof.Rows L2 Evl
section
variable {X : Cx} {CX : CXT} {n : Nat} {C f : Addr} {fd : FuncData} {ps : List Str} {sp : Sp} {E : XK}
/-- the callee runs somewhere below -/
theorem own_run {A1 : Around} {pins : List (Addr × Obj)} {σ : L2.St} {H : Hp} {s : Shared} {Q : VK} {us : List Value} {vs : List V} (sb : Sub X n A1) (F : FnOk X.prog X.w X.K X.mg X.base CX n f fd ps sp) (hb : Binds X.K fd ps []) (hx : Passes CX X E)
    (I : Inv X pins σ H s) (r : Vals vs us) (h : sp vs H Q E) : wpAny (model X.prog X.w) A1 (call (.ref f) us) (EP X pins σ Q) X.xe s := by
  have e0 : Env0 X.prog X.w X.K X.mg X.base A1 X.stack s H := by
    have e := I.env0
    exact ⟨by rw [sb.fr]; exact e.frames, e.mod, e.bs, e.bsz, e.funs, e.frf, e.hok, e.bare⟩
  have hl : us.length = ps.length := by rw [← r.length]; exact F.len _ _ _ _ h
  have b := hb s us I.kIn (by rw [List.append_nil]; exact hl)
  rw [List.append_nil] at b
  refine wpAny_call (codeAny_mono (F.run A1 X.stack s H ⟨us, []⟩ us vs Q E sb.room e0 b r h) fun r s' hq => ?_)
  cases r with
  | error e => exact hx pins σ H s e s' I hq
  | ok fl =>
    cases fl with
    | ret u => exact I.after hq
    | next => exact False.elim hq
    | brk => exact False.elim hq
    | cont => exact False.elim hq
theorem passF : Passes (L2.CX X.prog X.w) X (fun _ _ _ => False) := fun pins σ H s e s' I c => by
  obtain ⟨_, _, _, _, _, _, _, _, _, _, _, _, h⟩ := c
  exact h.elim
/-- len(o), o an instance of C with an own __len__ -/
def rLenO (C : Addr) (sp : Sp) (E : XK) : List V → Hp → VK → Prop := fun xs H Q => ∃ a dx fs, xs = [V.ref a] ∧ H a = some (.ins C dx fs) ∧ sp [.ref a] H (fun v H' => ∃ i : Int, v = .int i ∧ 0 ≤ i ∧ i < 2 ^ 63 ∧ Q (.int i) H') E
theorem call_lenOwn (F : FnOk X.prog X.w X.K X.mg X.base CX n f fd ps sp) (hr : Room (n + 1) X.A) (hs : PySem.W.findIn X.K (.ref C) "__len__" = some (some (.ref f))) (hf : PySem.W.isFn X.K (.ref f) = true) (hb : Binds X.K fd ps []) (hx : Passes CX X E) : CallR X (.builtin "len") (rLenO C sp E) := by
  intro pins s σ H xs us Q I r h
  obtain ⟨a, dx, fs, rfl, ha, hsp⟩ := h
  obtain ⟨u, rfl, rx⟩ := vals1 r
  cases rx
  obtain ⟨mA, J, _⟩ := ins_get I.hok ha
  obtain ⟨od, J, _⟩ := J.look
  obtain ⟨m, hF⟩ := I.fr
  refine PySem.W.len_K hF I.ok.mod.kin J hs hf (thn (own_run (A1 := X.A.in1) (Sub.in1 ⟨hr, rfl⟩) F hb hx I (show Vals [V.ref a] [Value.ref a] from .cons rfl .nil) hsp) fun v s' hv => ?_)
  obtain ⟨y, H', I', ry, i, rfl, h0, h1, q⟩ := hv
  obtain ⟨t, rfl⟩ := ry
  exact ⟨⟨h0, h1⟩, .int i, H', I'.tok _, ⟨_, rfl⟩, q⟩
end
section
variable {K : PySem.W.Frag} {M : EC → Addr} {W : WX} {ps qs : Kn} {te ta tb : TE} {tr : TA} {t : TT} {ts tu : TS} {r : Res} {vs : List Nat}
theorem je_lenO {α : Type} {args : α → List PV} {dom : α → Prop} {out : α → Out} {C : Addr} {f : Str} {d : PyData} {i : Int} (a : α) (h : JV K M W te ps (ob1 K C f d)) (ea : args a = [ob1 K C f d]) (hd : dom a) (ho : out a = .ok (dv K (.int i))) (h0 : 0 ≤ i) (h1 : i < 2 ^ 63) :
    JD K M W (tCB (rLenO C (Prm K M args dom out) fun _ _ _ => False) (tCons te tNil)) ps (.int i) := je_cb (ja_cons h ja_nil) fun vs F H fh b Q k => by
  obtain ⟨v, rfl, p⟩ := allP1 b
  obtain ⟨o, dx, u, rfl, h2, h3⟩ := id p
  refine ⟨o, dx, _, rfl, fh _ _ h2, a, F, fh, by rw [ea]; exact .cons p .nil, hd, ?_⟩
  rw [ho]
  intro v F' H' g p2
  exact ⟨i, dp_int p2, h0, h1, k _ F' H' g (.int i)⟩
/-! ### lists made anew -/
/-- a list that was just made: nobody else has it -/
def JN (K : PySem.W.Frag) (te : TE) (ps : Kn) (ds : List PyData) : Prop := ∀ σ F H Q, Ex F H → Sl F σ ps → (∀ D F' H', Acc K D F H F' H' ds → H D = none → Q (.ref D) H') → te σ H Q
theorem Acc.pre {D : Addr} {F0 H0 F1 H1 F H : Hp} {ds : List PyData} (g : Gr F0 H0 F1 H1) (a : Acc K D F1 H1 F H ds) : Acc K D F0 H0 F H ds := ⟨g.trans a.gr, a.off, a.at_⟩
theorem jn_told (h : JN K te ps ds) : JD K M W te ps (.list ds) := fun σ F H Q fh S k => h σ F H Q fh S fun D F' H' A hD => by
  obtain ⟨F3, g3, d3, _⟩ := A.done hD
  exact k _ F3 H' g3 d3
theorem jn_is {ds es : List PyData} (h : JN K te ps ds) (e : ds = es) : JN K te ps es := e ▸ h
def PrmN (K : PySem.W.Frag) {α : Type} (args : α → List PV) (dom : α → Prop) (out : α → List PyData) : Sp := fun vs H Q _ => ∃ a F, Ex F H ∧ AllP F vs (args a) ∧ dom a ∧ (∀ D F' H', Acc K D F H F' H' (out a) → H D = none → Q (.ref D) H')
theorem jn_call {α : Type} {args : α → List PV} {dom : α → Prop} {out : α → List PyData} {E : L2.St → XK} (a : α) (h : JA K M W tr ps (args a)) (hd : dom a) : JN K (tCallS (PrmN K args dom out) E tr) ps (out a) := fun σ F H Q fh S k =>
  h σ F H _ fh S fun vs F1 H1 e1 b => ⟨a, F1, e1.fh, b, hd, fun D F' H' A hD => k D F' H' (A.pre e1) (fresh_back e1.hh hD)⟩
/-- [e for x in ds if b], made anew -/
theorem jn_lc {α : Type} {wi : TI} {g : TG} (xs : List α) (enc : α → PyData) (b : α → Bool) (e : α → PyData) {W' : WX} (hi : JI K M W wi ps (xs.map enc)) (hlen : xs.length ≤ 90000)
    (hs : ∀ x ∈ xs, ∃ qs, JG vs g (wipeK ps vs) (dv K (enc x)) qs ∧ JT K M W' t qs (b x) ∧ (b x = true → JD K M W' te qs (e x))) : JN K (tLc wi g t te vs) ps ((xs.filter b).map e) := fun σ F H Q fh S k => hi σ F H _ fh S fun J F1 H1 e1 it D hD => by
  refine ⟨fun i n H' => n = xs.length - i ∧ i ≤ xs.length ∧ ∃ F', Acc K D F1 H1 F' H' (((xs.take i).filter b).map e), ⟨xs.length, by omega, Nat.zero_le _, F1, Acc.start e1.fh hD⟩, ?_⟩
  rintro i n H' ⟨rfl, him, F2, A⟩
  have accLen : (((xs.take i).filter b).map e).length ≤ i := by
    rw [List.length_map]
    have := List.length_filter_le b (xs.take i)
    rw [List.length_take] at this
    omega
  by_cases hlt : i < xs.length
  · have hx : xs[i]? = some xs[i] := List.getElem?_eq_getElem hlt
    have hmem : xs[i] ∈ xs := List.getElem_mem hlt
    have hex : (xs.map enc)[i]? = some (enc xs[i]) := by rw [List.getElem?_map, hx] <;> rfl
    refine .inr ⟨it.go i H' (A.gr.ff.trans A.gr.fh) (by rw [List.length_map]; exact hlt), fun H3 => ∃ F3, Acc K D F1 H1 F3 H3 (((xs.take (i + 1)).filter b).map e), fun H3 q => ⟨xs.length - (i + 1), by omega, rfl, hlt, q⟩, fun x H3 y => ?_⟩
    obtain ⟨F3, e3, dx⟩ := it.yld i _ F2 H' x H3 A.gr.ff A.gr.fh hex y
    have A3 := A.step e3
    obtain ⟨qs, hg, ht, he⟩ := hs xs[i] hmem
    refine hg x (wipe σ vs) F3 H3 _ e3.fh ((S.mono (e1.ff.trans A3.gr.ff)).wipe vs) dx fun σ4 F4 H4 e4 S4 u4 => ⟨wipe_upto (upto_wipe.trans u4), ht σ4 F4 H4 _ e4.fh S4 fun F5 H5 e5 => ?_⟩
    have A5 := (A3.step e4).step e5
    have ff := filter_take_succ (b := b) hx
    cases hb : b xs[i] with
    | true =>
      rw [hb] at ff
      show te σ4 H5 _
      refine (he hb).go e5.fh (S4.mono e5.ff) fun v F6 H6 e6 p => ?_
      have A6 := A5.step e6
      obtain ⟨acc, h6, _⟩ := A6.at_
      refine ⟨acc, h6, sz_lt (by rw [A6.len h6]; omega), F6, ?_⟩
      rw [ff, List.map_append]
      exact A6.app hD h6 p
    | false =>
      rw [hb] at ff
      show ∃ F3, Acc K D F1 H1 F3 H5 _
      rw [ff]
      simp only [Bool.false_eq_true, if_false, List.append_nil]
      exact ⟨F5, A5⟩
  · have hem : i = xs.length := by omega
    subst hem
    rw [List.take_length] at A
    exact .inl ⟨it.stop _ H' (A.gr.ff.trans A.gr.fh) (by rw [List.length_map]; exact Nat.le_refl _), k D F2 H' (A.pre e1) (fresh_back e1.hh hD)⟩
/-- xs * k -/
theorem jn_rep {ds : List PyData} {k : Nat} (ha : JV K M W ta ps (lv K ds)) (hb : JD K M W tb ps (.int (k : Nat))) (hl : ds.length * k ≤ 100000) (hk : k ≤ 100000) : JN K (tOp rRep ta tb) ps (List.replicate k ds).flatten := fun σ F H Q fh S c =>
  ha.go fh S fun x F1 H1 e1 p => hb.go e1.fh (S.mono e1.ff) fun y F2 H2 e2 q => by
    obtain ⟨a, xs, rfl, hx, hd⟩ := (lv K ds).mn e2.ff p
    refine ⟨a, k, xs, rfl, dp_int q, e2.fh _ _ hx, by omega, by omega, sz_of (by rw [dpLength hd, Int.toNat_natCast]; exact hl), fun D hD => ?_⟩
    have rep : ∀ j : Nat, DpAll K F2 (List.replicate j xs).flatten (List.replicate j ds).flatten := fun j => by
      induction j with
      | zero => exact .nil
      | succ j ih =>
        rw [List.replicate_succ, List.replicate_succ, List.flatten_cons, List.flatten_cons]
        exact dpApp hd ih
    exact c D F2 _ ⟨gr_mut (e1.trans e2) (fresh_back (e1.trans e2).hh hD) (fresh_back e2.fh hD), fresh_back e2.fh hD, _, upd_same, by rw [Int.toNat_natCast]; exact rep k⟩ (fresh_back (e1.trans e2).hh hD)
/-- list(e) -/
theorem jn_listL {ds : List PyData} (h : JD K M W te ps (.list ds)) : JN K (tCB (rListS K) (tCons te tNil)) ps ds := fun σ F H Q fh S c => h.go fh S fun v F1 H1 e p => by
  obtain ⟨a, xs, rfl, hs, hd⟩ := dp_lst p
  exact ⟨a, xs, rfl, .inl (ex_l e.fh hs), fun D hD => c D F1 _ ⟨gr_mut e (fresh_back e.hh hD) (fresh_back e.fh hD), fresh_back e.fh hD, xs, upd_same, hd⟩ (fresh_back e.hh hD)⟩
/-- xs = e, a list of one's own from here on -/
theorem jl_own {i : Nat} {ds : List PyData} {d : PyData} (he : JN K te ps ds) (h : ∀ D F1 H1, H1 D = none → JL K M W D F1 H1 tu (ps.set i (some (xv (.ref D)))) ds (.rt d)) : JS K M W (tSeq (tAsg te (gName i)) tu) ps (.rt (dv K d)) := fun Dn σ F H fh S k =>
  he σ F H _ fh S fun D F1 H1 A hD => h D F H hD Dn _ F1 H1 A ((S.mono A.gr.ff).set i rfl) fun v F' H' g p => k v F' H' g p
/-- .. told as data in between: reads of a list of one's own -/
theorem acc_told {D : Addr} {F1 H1 F H : Hp} {i : Nat} {σ : L2.St} {ds : List PyData} (A : Acc K D F1 H1 F H ds) (S : Sl F σ ps) (hi : ps[i]? = some (some (xv (.ref D)))) : ∃ F0, Ex F F0 ∧ Ex F0 H ∧ Sl F0 σ (ps.set i (some (dv K (.list ds)))) ∧ ∀ a, a ≠ D → F0 a = F a := by
  obtain ⟨acc0, h0, hd0⟩ := A.at_
  have fo : Ex F (upd F D (.lst acc0)) := Ex.new A.off
  refine ⟨upd F D (.lst acc0), fo, fun b o q => ?_, ⟨by rw [List.length_set]; exact S.1, fun b P hb => ?_⟩, fun a ha => upd_ne ha⟩
  · by_cases z : b = D
    · subst z
      rw [upd_same] at q
      cases q
      exact h0
    · rw [upd_ne z] at q
      exact A.gr.fh b o q
  · by_cases z : b = i
    · subst z
      have hl : b < ps.length := (List.getElem?_eq_some_iff.mp hi).1
      rw [List.getElem?_set_self hl] at hb
      cases hb
      exact ⟨_, sl_at S hi, .lst (sq_of upd_same) (dpAll_mono fo hd0)⟩
    · rw [List.getElem?_set_ne (fun y => z y.symm)] at hb
      exact (S.mono fo).2 b P hb
/-- a test that reads the list -/
theorem jl_ifR {D : Addr} {F1 H1 : Hp} {i : Nat} {ds : List PyData} {R : LR} {b : Bool} (hi : ps[i]? = some (some (xv (.ref D)))) (h : JT K M W t (ps.set i (some (dv K (.list ds)))) b) (h1 : b = true → JL K M W D F1 H1 ts ps ds R) (h2 : b = false → JL K M W D F1 H1 tu ps ds R) : JL K M W D F1 H1 (tIfS t ts tu) ps ds R := fun Dn σ F H A S k => by
  obtain ⟨F0, x0, x1, S0, _⟩ := acc_told A S hi
  refine h σ F0 H _ x1 S0 fun F' H' g => ?_
  have A' : Acc K D F1 H1 F H' ds := by
    obtain ⟨acc, hh, hd⟩ := A.at_
    exact ⟨⟨A.gr.ff, A.gr.hh.trans g.hh, A.gr.fh.trans g.hh, A.gr.nw⟩, A.off, acc, g.hh _ _ hh, hd⟩
  cases b with
  | true => exact h1 rfl Dn σ F H' A' S k
  | false => exact h2 rfl Dn σ F H' A' S k
/-- y = list(xs), xs one's own: a copy that is data -/
theorem jl_copyOf {D : Addr} {F1 H1 : Hp} {i j : Nat} {ds : List PyData} (hi : ps[i]? = some (some (xv (.ref D)))) : JL K M W D F1 H1 (tAsg (tCB (rListS K) (tCons (tVar i) tNil)) (gName j)) ps ds (.nx (ps.set j (some (dv K (.list ds)))) ds) := fun Dn σ F H A S k => by
  obtain ⟨acc, h0, hd⟩ := A.at_
  refine ⟨.ref D, sl_at S hi, D, acc, rfl, .inl (sq_of h0), fun l hl => ?_⟩
  have g := Gr.new (o := .lst acc) A.gr.fh hl
  exact k _ _ _ (A.step g) g.ff ((S.mono g.ff).set j (.lst (sq_of upd_same) (dpAll_mono g.ff hd)))
theorem jl_copyT {D : Addr} {F1 H1 : Hp} {i j : Nat} {ds : List PyData} (hi : ps[i]? = some (some (xv (.ref D)))) : JL K M W D F1 H1 (tAsg (tCB (rTupS K) (tCons (tVar i) tNil)) (gName j)) ps ds (.nx (ps.set j (some (dv K (.tuple ds)))) ds) := fun Dn σ F H A S k => by
  obtain ⟨acc, h0, hd⟩ := A.at_
  refine ⟨.ref D, sl_at S hi, D, acc, rfl, .inl ⟨sq_of h0, fun l hl => ?_⟩⟩
  have g := Gr.new (o := .tup acc) A.gr.fh hl
  exact k _ _ _ (A.step g) g.ff ((S.mono g.ff).set j (.tup (st_of upd_same) (dpAll_mono g.ff hd)))
theorem jl_rt {D : Addr} {F1 H1 : Hp} {ds : List PyData} {d : PyData} (h : JD K M W te ps d) : JL K M W D F1 H1 (tRet te) ps ds (.rt d) := fun Dn σ F H A S k => h.go A.gr.fh S fun v F' H' g p => k v F' H' (A.gr.trans g) p
theorem jl_rtS {D : Addr} {F1 H1 : Hp} {ds : List PyData} {d : PyData} (h : JL K M W D F1 H1 ts ps ds (.rt d)) : JL K M W D F1 H1 (tSeq ts tu) ps ds (.rt d) := fun Dn σ F H A S k => h { Dn with nx := tu Dn } σ F H A S k
/-- return of a list made anew -/
theorem fin_new {N : List Str} {Ps : List PV} {us : List V} {F H : Hp} {Q : VK} {ds : List PyData} (h : JN K te (entry N Ps) ds) (fh : Ex F H) (al : AllP F us Ps) (th : ∀ D F' H', Acc K D F H F' H' ds → H D = none → Q (.ref D) H') : tRet te { nx := fun _ H' => Q .non H', rt := Q } (start N us) H := h _ F H _ fh (Sl.start al) th
theorem fin_new1 {N : List Str} {Ps : List PV} {us : List V} {F H : Hp} {Q : VK} {ds : List PyData} (h1 : JS K M W ts (entry N Ps) (.nx qs)) (h : JN K te qs ds) (fh : Ex F H) (al : AllP F us Ps) (th : ∀ D F' H', Acc K D F H F' H' ds → H D = none → Q (.ref D) H') : tSeq ts (tRet te) { nx := fun _ H' => Q .non H', rt := Q } (start N us) H :=
  h1 { nx := tRet te { nx := fun _ H' => Q .non H', rt := Q }, rt := Q } _ F H fh (Sl.start al) fun σ' F' H' g S' => h σ' F' H' _ g.fh S' fun D F2 H2 A hD => th D F2 H2 (A.pre g) (fresh_back g.hh hD)
/-! ### more of lists -/
theorem je_isL {ds : List PyData} {T : String} {b : Bool} (h : JD K M W te ps (.list ds)) (hT : kitB "list" T = some b) : JD K M W (tCB (rIsi K) (tCons te (tCons (tC (.ty T)) tNil))) ps (.bool b) := je_cb (ja_cons h (ja_cons je_x ja_nil)) fun vs F H fh a Q k => by
  obtain ⟨v, u, rfl, p, q⟩ := allP2 a
  obtain ⟨o, xs, rfl, hs, hd⟩ := dp_lst p
  rw [show u = V.ty T from q]
  have ty : TyX K H (.ref o) (.type "list") := by
    rcases ex_l fh hs with (z | ⟨ob, z⟩) | ⟨ob, its, n, z, c, _⟩
    · exact .base (.lst z)
    · exact .base (.frz z)
    · exact .kList z c
  exact ⟨.ref o, .ty T, .type "list", .type T, b, rfl, .ty T, ty, kit_ty hT, k _ F H (Gr.refl fh) (.bl b)⟩
theorem je_sum {ns : List Int} (h : JD K M W te ps (.list (ns.map .int))) : JD K M W (tCB (rSum K) (tCons te tNil)) ps (.int ns.sum) := je_cb (ja_cons h ja_nil) fun vs F H fh b Q k => by
  obtain ⟨v, rfl, p⟩ := allP1 b
  obtain ⟨a, xs, rfl, hs, hd⟩ := dp_lst p
  have e := dpAll_ints_eq hd
  subst e
  exact ⟨a, ns, rfl, ex_l fh hs, k _ F H (Gr.refl fh) (.int _)⟩
theorem je_count {ns : List Int} {i : Int} (h : JD K M W te ps (.list (ns.map .int))) (hr : JA K M W tr ps [dv K (.int i)]) : JD K M W (tBM K "list" (rCntI K) te tr) ps (.int (ns.count i : Nat)) := fun σ F H Q fh S k => h.go fh S fun v F1 H1 e p => by
  obtain ⟨a, xs, rfl, hs, hd⟩ := dp_lst p
  have e2 := dpAll_ints_eq hd
  subst e2
  refine ⟨.inl ⟨rfl, _, ex_l e.fh hs⟩, hr σ F1 H1 _ e.fh (S.mono e.ff) fun vs F2 H2 e2 b => ?_⟩
  obtain ⟨v, rfl, p2⟩ := allP1 b
  exact ⟨a, ns, i, rfl, by rw [dp_int p2], ex_l (e.fh.trans e2.hh) hs, k _ F2 H2 (e.trans e2) (.int _)⟩
theorem dpRev {F : Hp} : ∀ {us : List V} {ds : List PyData}, DpAll K F us ds → DpAll K F us.reverse ds.reverse
  | _, _, .nil => .nil
  | _, _, .cons h t => by
    rw [List.reverse_cons, List.reverse_cons]
    exact dpApp (dpRev t) (.cons h .nil)
theorem je_rev {ds : List PyData} (h : JD K M W te ps (.list ds)) : JD K M W (tRevL K te) ps (.list ds.reverse) := fun σ F H Q fh S k => h.go fh S fun v F1 H1 e p => by
  obtain ⟨a, xs, rfl, hs, hd⟩ := dp_lst p
  exact ⟨a, xs, rfl, ex_l e.fh hs, fun D hD => k _ _ _ (e.trans (Gr.new e.fh hD)) (.lst (sq_of upd_same) (dpAll_mono (Gr.new (o := .lst xs.reverse) e.fh hD).ff (dpRev hd)))⟩
/-- xs[:k], made anew, as an operand of + -/
theorem je_slLV {ds : List PyData} {tl th : TO} {lo hi : Option Int} (h : JD K M W te ps (.list ds)) (h1 : JO K M W tl ps lo) (h2 : JO K M W th ps hi) : JV K M W (tSl (rSlL K) te tl th) ps (lv K (cutD ds lo hi)) := fun σ F H Q fh S k =>
  h.go fh S fun v F1 H1 e p => h1 σ F1 H1 _ e.fh (S.mono e.ff) fun F2 H2 e2 => h2 σ F2 H2 _ e2.fh ((S.mono e.ff).mono e2.ff) fun F3 H3 e3 => by
    obtain ⟨a, xs, rfl, hs, hd⟩ := dp_lst (dp_mono (e2.ff.trans e3.ff) p)
    exact ⟨a, xs, rfl, ex_l e3.fh hs, fun p hp => k _ _ _ (((e.trans e2).trans e3).trans (Gr.new e3.fh hp)) ⟨p, _, rfl, upd_same, dpAll_mono (Gr.new (o := .lst (cutV xs lo hi)) e3.fh hp).ff (cut_all hd lo hi)⟩⟩
/-- xs[:k] of a list or of a tuple -/
def rSlQ (K : PySem.W.Frag) : V → Option Int → Option Int → Hp → VK → Prop := fun x lo hi H Q => rSlL K x lo hi H Q ∨ rSlA K x lo hi H Q
theorem je_slQL {ds : List PyData} {tl th : TO} {lo hi : Option Int} (h : JD K M W te ps (.list ds)) (h1 : JO K M W tl ps lo) (h2 : JO K M W th ps hi) : JD K M W (tSl (rSlQ K) te tl th) ps (.list (cutD ds lo hi)) := fun σ F H Q fh S k =>
  h.go fh S fun v F1 H1 e p => h1 σ F1 H1 _ e.fh (S.mono e.ff) fun F2 H2 e2 => h2 σ F2 H2 _ e2.fh ((S.mono e.ff).mono e2.ff) fun F3 H3 e3 => by
    obtain ⟨a, xs, rfl, hs, hd⟩ := dp_lst (dp_mono (e2.ff.trans e3.ff) p)
    exact .inl ⟨a, xs, rfl, ex_l e3.fh hs, fun p hp => k _ _ _ (((e.trans e2).trans e3).trans (Gr.new e3.fh hp)) (.lst (sq_of upd_same) (dpAll_mono (Gr.new (o := .lst (cutV xs lo hi)) e3.fh hp).ff (cut_all hd lo hi)))⟩
theorem cut_whole {ds : List PyData} {lo hi : Option Int} (h : HT.sIx ds.length 0 lo = 0 ∧ HT.sIx ds.length ds.length hi = ds.length) : cutD ds lo hi = ds := by
  unfold cutD
  rw [h.1, h.2, List.drop_zero, Nat.sub_zero, List.take_length]
theorem je_slQT {ds : List PyData} {tl th : TO} {lo hi : Option Int} (h : JD K M W te ps (.tuple ds)) (h1 : JO K M W tl ps lo) (h2 : JO K M W th ps hi) : JD K M W (tSl (rSlQ K) te tl th) ps (.tuple (cutD ds lo hi)) := fun σ F H Q fh S k =>
  h.go fh S fun v F1 H1 e p => h1 σ F1 H1 _ e.fh (S.mono e.ff) fun F2 H2 e2 => h2 σ F2 H2 _ e2.fh ((S.mono e.ff).mono e2.ff) fun F3 H3 e3 => by
    have p3 := dp_mono (e2.ff.trans e3.ff) p
    obtain ⟨a, xs, rfl, hs, hd⟩ := dp_tup p3
    refine .inr ⟨a, xs, rfl, ex_t e3.fh hs, fun w => k _ _ _ ((e.trans e2).trans e3) ?_, fun _ p hp => k _ _ _ (((e.trans e2).trans e3).trans (Gr.new e3.fh hp)) (.tup (st_of upd_same) (dpAll_mono (Gr.new (o := .tup (cutV xs lo hi)) e3.fh hp).ff (cut_all hd lo hi)))⟩
    rw [dpLength hd] at w
    rw [cut_whole w]
    exact p3
/-- enumerate of a list or of a tuple -/
def iEnumQ (K : PySem.W.Frag) (ta : TA) : TI := fun σ H R => iEnum K ta σ H R ∨ iEnumT K ta σ H R
theorem pi_enumQ {X : Cx} {e : Expr} {ta : TA} {p pos tpos : Pos} {elts : List Expr} {kk : Nat} (hg : Gl X "enumerate") (hm : X.mg "enumerate" = none) (ha : PA X [e] ta) (hs : starEach [e] X.env = [(false, eval e X.env)] := by rfl) :
    PI X (.Tuple elts kk tpos) (.Call (.Name "enumerate" p) [e] [] pos) (iEnumQ X.K ta) :=
  ⟨fun pins s σ H R I h => h.elim (fun h => (pi_enum hg hm ha hs).run pins s σ H R I h) fun h => (pi_enumT hg hm ha hs).run pins s σ H R I h⟩
/-- a list or a tuple walked -/
def iSeqQ (K : PySem.W.Frag) (ta : TE) : TI := fun σ H R => iList K ta σ H R ∨ iTup K ta σ H R
theorem pi_seqQ {X : Cx} {tg e : Expr} {ta : TE} (ha : PE X e ta) : PI X tg e (iSeqQ X.K ta) := ⟨fun pins s σ H R I h => h.elim (fun h => (pi_list ha).run pins s σ H R I h) fun h => (pi_tup ha).run pins s σ H R I h⟩
/-- True in bs, False in bs -/
theorem je_inB {b : Bool} {bs : List Bool} (ha : JD K M W ta ps (.bool b)) (hb : JD K M W tb ps (.list (bs.map .bool))) : JD K M W (tOp (rIn K false) ta tb) ps (.bool (bs.contains b)) := je_op ha hb fun x y F H fh p q Q k => by
  obtain ⟨a, xs, rfl, hs, hd⟩ := dp_lst q
  have e : ∀ {xs : List V} {bs : List Bool}, DpAll K F xs (bs.map PyData.bool) → xs = bs.map V.bl := by
    intro xs bs
    induction bs generalizing xs with
    | nil => intro h; cases h; rfl
    | cons c r ih =>
      intro h
      cases h with
      | cons h1 h2 => rw [dp_bl h1, ih h2] <;> rfl
  have e := e hd
  subst e
  rw [dp_bl p]
  have fl : ∀ bs : List Bool, (bs.map V.bl).all flatV = true := fun bs => by
    induction bs with
    | nil => rfl
    | cons c r ih =>
      rw [List.map_cons, List.all_cons, ih]
      rfl
  have iv : ∀ bs : List Bool, inV (.bl b) (bs.map V.bl) = bs.contains b := fun bs => by
    induction bs with
    | nil => rfl
    | cons c r ih =>
      unfold inV at ih ⊢
      rw [List.map_cons, List.any_cons, List.contains_cons, ih]
      congr 1
      cases b <;> cases c <;> rfl
  refine ⟨a, _, rfl, .inl (ex_l fh hs), rfl, fl bs, ?_⟩
  rw [iv]
  exact k _ F H (Gr.refl fh) (.bl _)
end
end EB

/-! EB12: several lists of one's own at once, lists of such lists; each told as data at the end. -/
namespace EB
open PySem PySem.Spec PyProof.Rows L2 Evl
/-- the lists of one's own: where each lies, and what is known of each item -/
abbrev Ow := List (Addr × List PV)
structure AccM (Os : Ow) (F1 H1 F H : Hp) : Prop where
  gr : Gr F1 H1 F H
  nd : (Os.map (·.1)).Nodup
  fr : ∀ p ∈ Os, H1 p.1 = none
  off : ∀ p ∈ Os, F p.1 = none
  at_ : ∀ p ∈ Os, ∃ acc, H p.1 = some (.lst acc) ∧ AllP F acc p.2
theorem AccM.start {F H : Hp} (fh : Ex F H) : AccM [] F H F H := ⟨Gr.refl fh, List.nodup_nil, fun p h => by simp at h, fun p h => by simp at h, fun p h => by simp at h⟩
theorem AccM.step {Os : Ow} {F1 H1 F H F2 H2 : Hp} (a : AccM Os F1 H1 F H) (g : Gr F H F2 H2) : AccM Os F1 H1 F2 H2 := ⟨a.gr.trans g, a.nd, a.fr, fun p h => by
    obtain ⟨acc, e, _⟩ := a.at_ p h
    exact g.nw p.1 (by rw [e]; exact fun z => nomatch z) (a.off p h), fun p h => by
    obtain ⟨acc, e, d⟩ := a.at_ p h
    exact ⟨acc, g.hh _ _ e, d.mono g.ff⟩⟩
theorem AccM.new {Os : Ow} {F1 H1 F H : Hp} {D : Addr} {acc : List V} {items : List PV} (a : AccM Os F1 H1 F H) (hD : H D = none) (h : AllP F acc items) : AccM ((D, items) :: Os) F1 H1 F (upd H D (.lst acc)) := by
  have f1 : H1 D = none := fresh_back a.gr.hh hD
  have f2 : F D = none := fresh_back a.gr.fh hD
  have ne : ∀ p ∈ Os, p.1 ≠ D := fun p hp z => by
    obtain ⟨acc, e, _⟩ := a.at_ p hp
    rw [z, hD] at e
    cases e
  refine ⟨gr_mut a.gr f1 f2, List.nodup_cons.mpr ⟨fun z => ?_, a.nd⟩, fun p hp => ?_, fun p hp => ?_, fun p hp => ?_⟩
  · obtain ⟨p, hp, e⟩ := List.mem_map.mp z
    exact ne p hp e
  · rcases List.mem_cons.mp hp with rfl | z
    · exact f1
    · exact a.fr p z
  · rcases List.mem_cons.mp hp with rfl | z
    · exact f2
    · exact a.off p z
  · rcases List.mem_cons.mp hp with rfl | z
    · exact ⟨acc, upd_same, h⟩
    · obtain ⟨c, e, d⟩ := a.at_ p z
      exact ⟨c, by rw [upd_ne (ne p z)]; exact e, d⟩
theorem AccM.set {Os : Ow} {F1 H1 F H : Hp} {i : Nat} {D : Addr} {items items' : List PV} {acc : List V} (a : AccM Os F1 H1 F H) (hi : Os[i]? = some (D, items)) (h : AllP F acc items') : AccM (Os.set i (D, items')) F1 H1 F (upd H D (.lst acc)) := by
  have hl : i < Os.length := (List.getElem?_eq_some_iff.mp hi).1
  have hm : (D, items) ∈ Os := List.mem_of_getElem? hi
  have e1 : (Os.set i (D, items')).map (·.1) = Os.map (·.1) := by
    rw [List.map_set]
    apply List.ext_getElem?
    intro j
    by_cases z : i = j
    · subst z
      rw [List.getElem?_set_self (by rw [List.length_map]; exact hl), List.getElem?_map, hi]
      rfl
    · rw [List.getElem?_set_ne z]
  have cases_ : ∀ p ∈ Os.set i (D, items'), p = (D, items') ∨ (p ∈ Os ∧ p.1 ≠ D) := fun p hp => by
    obtain ⟨j, hj, e⟩ := List.getElem_of_mem hp
    rw [List.length_set] at hj
    by_cases z : i = j
    · subst z
      rw [List.getElem_set_self] at e
      exact .inl e.symm
    · rw [List.getElem_set_ne z] at e
      refine .inr ⟨e ▸ List.getElem_mem hj, fun y => ?_⟩
      have nd := List.pairwise_iff_getElem.mp (List.nodup_iff_pairwise_ne.mp a.nd)
      have ei : Os[i] = (D, items) := by
        have := hi
        rw [List.getElem?_eq_getElem hl] at this
        exact Option.some.inj this
      have q1 : (Os.map (·.1))[i]'(by rw [List.length_map]; exact hl) = D := by rw [List.getElem_map, ei]
      have q2 : (Os.map (·.1))[j]'(by rw [List.length_map]; exact hj) = D := by rw [List.getElem_map, e, y]
      rcases Nat.lt_or_gt_of_ne z with w | w
      · exact nd i j _ _ w (q1.trans q2.symm)
      · exact nd j i _ _ w (q2.trans q1.symm)
  refine ⟨gr_mut a.gr (a.fr _ hm) (a.off _ hm), by rw [e1]; exact a.nd, fun p hp => ?_, fun p hp => ?_, fun p hp => ?_⟩
  · rcases cases_ p hp with rfl | ⟨z, _⟩
    · exact a.fr (D, items) hm
    · exact a.fr p z
  · rcases cases_ p hp with rfl | ⟨z, _⟩
    · exact a.off (D, items) hm
    · exact a.off p z
  · rcases cases_ p hp with rfl | ⟨z, ne⟩
    · exact ⟨acc, upd_same, h⟩
    · obtain ⟨c, e, d⟩ := a.at_ p z
      exact ⟨c, by rw [upd_ne ne]; exact e, d⟩
inductive MR
  | nx (qs : Kn) (Os : Ow)
  | rt (d : PyData)
def MW (K : PySem.W.Frag) (F1 H1 : Hp) (Dn : Ends) (F : Hp) : MR → Prop
  | .nx qs Os => ∀ σ' F' H', AccM Os F1 H1 F' H' → Ex F F' → Sl F' σ' qs → Dn.nx σ' H'
  | .rt d => ∀ v F' H', Gr F1 H1 F' H' → Dp K F' v d → Dn.rt v H'
theorem MW.step {K : PySem.W.Frag} {F1 H1 : Hp} {Dn : Ends} {F F' : Hp} {R : MR} (e : Ex F F') (k : MW K F1 H1 Dn F R) : MW K F1 H1 Dn F' R := by
  cases R with
  | nx qs Os => exact fun σ2 F2 H2 A2 e2 S2 => k σ2 F2 H2 A2 (e.trans e2) S2
  | rt d => exact k
def JM (K : PySem.W.Frag) (F1 H1 : Hp) (ts : TS) (ps : Kn) (Os : Ow) (R : MR) : Prop := ∀ Dn σ F H, AccM Os F1 H1 F H → Sl F σ ps → MW K F1 H1 Dn F R → ts Dn σ H
/-- an expression that may change the lists of one's own -/
def JX (F1 H1 : Hp) (te : TE) (ps : Kn) (Os : Ow) (P : PV) (Os' : Ow) : Prop := ∀ σ F H Q, AccM Os F1 H1 F H → Sl F σ ps → (∀ v F' H', AccM Os' F1 H1 F' H' → Ex F F' → P.p F' v → Q v H') → te σ H Q
section
variable {K : PySem.W.Frag} {M : EC → Addr} {W : WX} {F1 H1 : Hp} {ps qs rs : Kn} {ts tu : TS} {te tx ti ta tb : TE} {t : TT} {Os Os0 Os1 Os2 : Ow} {R : MR} {P P0 : PV} {d : PyData} {D : Addr} {items : List PV} {vs : List Nat}
theorem jx_jv (h : JV K M W te ps P) : JX F1 H1 te ps Os P Os := fun σ F H Q A S k => h.go A.gr.fh S fun v F' H' g p => k v F' H' (A.step g) g.ff p
theorem jx_var {i : Nat} (h : ps[i]? = some (some P)) : JX F1 H1 (tVar i) ps Os P Os := fun σ F H Q A S k => by
  obtain ⟨v, h1, h2⟩ := S.2 i P h
  exact ⟨v, h1, k v F H A (Ex.refl _) h2⟩
/-- an item of a list of one's own -/
theorem jx_ix {i j : Nat} (hx : JX F1 H1 tx ps Os (xv (.ref D)) Os0) (hi : JX F1 H1 ti ps Os0 (xv (.int (j : Nat))) Os1) (h : Os1[i]? = some (D, items)) (hj : items[j]? = some P) : JX F1 H1 (tOp (rIxL K) tx ti) ps Os P Os1 := fun σ F H Q A S k => hx σ F H _ A S fun v F2 H2 A2 e2 p => hi σ F2 H2 _ A2 (S.mono e2) fun u F3 H3 A3 e3 q => by
  obtain ⟨acc, hh, hd⟩ := A3.at_ _ (List.mem_of_getElem? h)
  obtain ⟨w, hw, pw⟩ := hd.get hj
  exact ⟨D, acc, j, w, (show v = V.ref D from p), (show u = V.int j from q), sq_of hh, atI_nat hw, k w F3 H3 A3 (e2.trans e3) pw⟩
theorem jx_int {i : Int} (h : JD K M W te ps (.int i)) : JX F1 H1 te ps Os (xv (.int i)) Os := fun σ F H Q A S k => h.go A.gr.fh S fun v F' H' g p => k v F' H' (A.step g) g.ff (dp_int p)
/-- xs.append(e) -/
theorem jx_app {i i0 : Nat} {items0 : List PV} (hx : JX F1 H1 tx ps Os (xv (.ref D)) Os0) (h0 : Os0[i0]? = some (D, items0)) (ha : JX F1 H1 ta ps Os0 P Os1) (h : Os1[i]? = some (D, items)) (hl : items.length < 90000) : JX F1 H1 (tBM K "list" rAppend tx (tCons ta tNil)) ps Os (dv K .none) (Os1.set i (D, items ++ [P])) := fun σ F H Q A S k => hx σ F H _ A S fun v F2 H2 A2 e2 p => by
  obtain rfl : v = V.ref D := p
  obtain ⟨acc0, hh0, _⟩ := A2.at_ _ (List.mem_of_getElem? h0)
  refine ⟨.inl ⟨rfl, acc0, sq_of hh0⟩, ha σ F2 H2 _ A2 (S.mono e2) fun u F3 H3 A3 e3 q => ?_⟩
  obtain ⟨acc, hh, hd⟩ := A3.at_ _ (List.mem_of_getElem? h)
  exact ⟨D, acc, u, rfl, rfl, hh, sz_lt (by rw [hd.length]; exact Nat.lt_trans hl (by decide)), k .non F3 _ (A3.set h (hd.app (.cons q .nil))) (e2.trans e3) .non⟩
theorem allErase {H : Hp} : ∀ {us : List V} {Ps : List PV} (j : Nat), AllP H us Ps → AllP H (us.eraseIdx j) (Ps.eraseIdx j)
  | _, _, _, .nil => .nil
  | _, _, 0, .cons _ b => b
  | _, _, j + 1, .cons a b => .cons a (allErase j b)
theorem allSet {H : Hp} {v : V} {P : PV} : ∀ {us : List V} {Ps : List PV} (j : Nat), AllP H us Ps → P.p H v → AllP H (us.set j v) (Ps.set j P)
  | _, _, _, .nil, _ => .nil
  | _, _, 0, .cons _ b, p => .cons p b
  | _, _, j + 1, .cons a b, p => .cons a (allSet j b p)
/-- xs.pop(k) -/
theorem jx_pop {i i0 : Nat} {items0 : List PV} {j : Nat} (hx : JX F1 H1 tx ps Os (xv (.ref D)) Os0) (h0 : Os0[i0]? = some (D, items0)) (ha : JX F1 H1 ta ps Os0 (xv (.int (j : Nat))) Os1) (h : Os1[i]? = some (D, items)) (hl : items.length < 90000) (hj : items[j]? = some P) : JX F1 H1 (tBM K "list" rPopAt tx (tCons ta tNil)) ps Os P (Os1.set i (D, items.eraseIdx j)) := fun σ F H Q A S k => hx σ F H _ A S fun v F2 H2 A2 e2 p => by
  obtain rfl : v = V.ref D := p
  obtain ⟨acc0, hh0, _⟩ := A2.at_ _ (List.mem_of_getElem? h0)
  refine ⟨.inl ⟨rfl, acc0, sq_of hh0⟩, ha σ F2 H2 _ A2 (S.mono e2) fun u F3 H3 A3 e3 q => ?_⟩
  obtain rfl : u = V.int (j : Nat) := q
  obtain ⟨acc, hh, hd⟩ := A3.at_ _ (List.mem_of_getElem? h)
  obtain ⟨w, hw, pw⟩ := hd.get hj
  have hjl : j < acc.length := (List.getElem?_eq_some_iff.mp hw).1
  have hal : acc.length = items.length := hd.length
  refine ⟨D, acc, j, j, w, rfl, rfl, hh, by omega, by omega, ?_, hw, k w F3 _ (A3.set h (allErase j hd)) (e2.trans e3) pw⟩
  unfold seqIndex?
  simp
  omega
theorem jm_js (h : JS K M W ts ps (.nx qs)) : JM K F1 H1 ts ps Os (.nx qs Os) := fun Dn σ F H A S k => h Dn σ F H A.gr.fh S fun σ' F' H' g s => k σ' F' H' (A.step g) g.ff s
theorem jm_weak (h : JM K F1 H1 ts ps Os (.nx qs Os1)) (w : Weak qs rs) : JM K F1 H1 ts ps Os (.nx rs Os1) := fun Dn σ F H A S k => h Dn σ F H A S fun σ' F' H' A' e s => k σ' F' H' A' e (s.weak w)
theorem jm_is (h : JM K F1 H1 ts ps Os (.nx qs Os1)) (e : Os1 = Os2) : JM K F1 H1 ts ps Os (.nx qs Os2) := e ▸ h
theorem jm_seq (h1 : JM K F1 H1 ts ps Os (.nx qs Os1)) (h2 : JM K F1 H1 tu qs Os1 R) : JM K F1 H1 (tSeq ts tu) ps Os R := fun Dn σ F H A S k => h1 { Dn with nx := tu Dn } σ F H A S fun σ' F' H' A' e S' => h2 Dn σ' F' H' A' S' (MW.step e k)
theorem jm_if {b : Bool} (h : JT K M W t ps b) (h1 : b = true → JM K F1 H1 ts ps Os R) (h2 : b = false → JM K F1 H1 tu ps Os R) : JM K F1 H1 (tIfS t ts tu) ps Os R := fun Dn σ F H A S k => h σ F H _ A.gr.fh S fun F' H' g => by
  have k' := MW.step g.ff k
  cases b with
  | true => exact h1 rfl Dn σ F' H' (A.step g) (S.mono g.ff) k'
  | false => exact h2 rfl Dn σ F' H' (A.step g) (S.mono g.ff) k'
theorem jm_drop (h : JX F1 H1 te ps Os P Os1) : JM K F1 H1 (tDrop te) ps Os (.nx ps Os1) := fun Dn σ F H A S k => h σ F H _ A S fun v F' H' A' e p => k σ F' H' A' e (S.mono e)
theorem jm_asg {i : Nat} (h : JX F1 H1 te ps Os P Os1) : JM K F1 H1 (tAsg te (gName i)) ps Os (.nx (ps.set i (some P)) Os1) := fun Dn σ F H A S k => h σ F H _ A S fun v F' H' A' e p => k _ F' H' A' e ((S.mono e).set i p)
/-- xs[k] = e -/
theorem jm_set {i j : Nat} (h : JX F1 H1 te ps Os P Os0) (hx : JX F1 H1 tx ps Os0 (xv (.ref D)) Os1) (hi : JX F1 H1 ti ps Os1 (xv (.int (j : Nat))) Os2) (ho : Os2[i]? = some (D, items)) (hj : j < items.length) : JM K F1 H1 (tAsg te (gSub tx ti rSetL)) ps Os (.nx ps (Os2.set i (D, items.set j P))) := fun Dn σ F H A S k => h σ F H _ A S fun v F2 H2 A2 e2 p => hx σ F2 H2 _ A2 (S.mono e2) fun x F3 H3 A3 e3 px => by
  obtain rfl : x = V.ref D := px
  refine hi σ F3 H3 _ A3 ((S.mono e2).mono e3) fun u F4 H4 A4 e4 q => ?_
  obtain rfl : u = V.int (j : Nat) := q
  obtain ⟨acc, hh, hd⟩ := A4.at_ _ (List.mem_of_getElem? ho)
  exact ⟨D, acc, (j : Nat), j, rfl, rfl, hh, ixN_nat (by rw [hd.length]; exact hj), k σ F4 _ (A4.set ho (allSet j hd (PV.mn _ (e3.trans e4) p))) ((e2.trans e3).trans e4) (((S.mono e2).mono e3).mono e4)⟩
/-- xs = [e, ..] -/
theorem jm_lst {i : Nat} {tr : TA} {Ps : List PV} (h : JA K M W tr ps Ps) (hl : Ps.length ≤ 100000) (hu : ∀ D, JM K F1 H1 tu (ps.set i (some (xv (.ref D)))) ((D, Ps) :: Os) R) : JM K F1 H1 (tSeq (tAsg (tLst tr) (gName i)) tu) ps Os R := fun Dn σ F H A S k => h σ F H _ A.gr.fh S fun vs F2 H2 g a => ⟨sz_of (by rw [a.length]; exact hl), fun D hD => hu D Dn _ F2 _ ((A.step g).new hD a) ((S.mono g.ff).set i rfl) (MW.step g.ff k)⟩
theorem jm_for {wi : TI} {g : TG} {tb : TS} (xs : List PyData) (f : Nat → Kn) (l : Nat → Ow) (hi : JI K M W wi ps xs) (h0 : f 0 = ps) (hl0 : l 0 = Os)
    (hs : ∀ (j : Nat) (d : PyData), xs[j]? = some d → ∃ qs, JG vs g (f j) (dv K d) qs ∧ JM K F1 H1 tb qs (l j) (.nx (f (j + 1)) (l (j + 1)))) : JM K F1 H1 (tFor wi g tb) ps Os (.nx (f xs.length) (l xs.length)) := fun Dn σ F H A S k => hi σ F H _ A.gr.fh S fun J F2 H2 e1 it => by
  refine ⟨fun i n σ' H' => n = xs.length - i ∧ i ≤ xs.length ∧ ∃ F', AccM (l i) F1 H1 F' H' ∧ Ex F2 F' ∧ Sl F' σ' (f i), ⟨xs.length, by omega, Nat.zero_le _, F2, by rw [hl0]; exact A.step e1, Ex.refl _, by rw [h0]; exact S.mono e1.ff⟩, ?_⟩
  rintro i n σ' H' ⟨rfl, him, F3, A3, e3, S3⟩
  by_cases hlt : i < xs.length
  · refine .inr ⟨it.go i H' (e3.trans A3.gr.fh) hlt, fun σ4 H4 => ∃ F4, AccM (l (i + 1)) F1 H1 F4 H4 ∧ Ex F2 F4 ∧ Sl F4 σ4 (f (i + 1)), fun σ4 H4 q => ⟨xs.length - (i + 1), by omega, rfl, hlt, q⟩, fun x H4 y => ?_⟩
    obtain ⟨F4, e4, dx⟩ := it.yld i _ F3 H' x H4 e3 A3.gr.fh (List.getElem?_eq_getElem hlt) y
    obtain ⟨qs, hg, hb⟩ := hs i _ (List.getElem?_eq_getElem hlt)
    have A4 := A3.step e4
    refine hg x σ' F4 H4 _ e4.fh (S3.mono e4.ff) dx fun σ5 F5 H5 e5 S5 _ => ?_
    exact hb _ σ5 F5 H5 (A4.step e5) S5 fun σ6 F6 H6 A6 e6 S6 => ⟨F6, A6, ((e3.trans e4.ff).trans e5.ff).trans e6, S6⟩
  · have hem : i = xs.length := by omega
    subst hem
    exact .inl ⟨it.stop _ H' (e3.trans A3.gr.fh) (Nat.le_refl _), k σ' F3 H' A3 (e1.ff.trans e3) S3⟩
/-- return of a list of one's own -/
theorem jm_ret {i j : Nat} {ds : List PyData} (hi : ps[i]? = some (some (xv (.ref D)))) (h : Os[j]? = some (D, ds.map (dv K))) : JM K F1 H1 (tRet (tVar i)) ps Os (.rt (.list ds)) := fun Dn σ F H A S k => by
  have hm := List.mem_of_getElem? h
  obtain ⟨acc, hh, hd⟩ := A.at_ _ hm
  exact ⟨.ref D, sl_at S hi, k _ _ H (gr_in A.gr (A.fr _ hm) (A.off _ hm) hh) (.lst (sq_of upd_same) (dpAll_mono (Ex.new (A.off _ hm)) hd.dv))⟩
theorem jm_rt {d : PyData} (h : JD K M W te ps d) : JM K F1 H1 (tRet te) ps Os (.rt d) := fun Dn σ F H A S k => h.go A.gr.fh S fun v F' H' g p => k v F' H' (A.gr.trans g) p
/-- from here on lists of one's own -/
theorem js_own {d : PyData} (h : ∀ F1 H1, JM K F1 H1 ts ps [] (.rt d)) : JS K M W ts ps (.rt (dv K d)) := fun Dn σ F H fh S k => h F H Dn σ F H (AccM.start fh) S fun v F' H' g p => k v F' H' g p
/-- .. and the other way: the lists that are told no more change (the rest stays one's own) -/
theorem jm_tell {i j : Nat} {ds : List PyData} (hi : ps[i]? = some (some (xv (.ref D)))) (h : Os = (D, ds.map (dv K)) :: Os1) (hu : JM K F1 H1 tu (ps.set i (some (lv K ds))) Os1 R) : JM K F1 H1 tu ps Os R := fun Dn σ F H A S k => by
  subst h
  have hm : (D, ds.map (dv K)) ∈ (D, ds.map (dv K)) :: Os1 := List.mem_cons_self
  obtain ⟨acc, hh, hd⟩ := A.at_ _ hm
  have off := A.off _ hm
  have fo : Ex F (upd F D (.lst acc)) := Ex.new off
  have nd := List.nodup_cons.mp A.nd
  refine hu Dn σ (upd F D (.lst acc)) H ⟨gr_in A.gr (A.fr _ hm) off hh, nd.2, fun p hp => A.fr p (List.mem_cons_of_mem _ hp), fun p hp => ?_, fun p hp => ?_⟩ ?_ (MW.step fo k)
  · have ne : p.1 ≠ D := fun z => nd.1 (List.mem_map.mpr ⟨p, hp, z⟩)
    show upd F D (.lst acc) p.1 = none
    rw [upd_ne ne]
    exact A.off p (List.mem_cons_of_mem _ hp)
  · obtain ⟨c, e, q⟩ := A.at_ p (List.mem_cons_of_mem _ hp)
    exact ⟨c, e, q.mono fo⟩
  · refine ⟨by rw [List.length_set]; exact S.1, fun b P hb => ?_⟩
    by_cases z : b = i
    · subst z
      have hl : b < ps.length := (List.getElem?_eq_some_iff.mp hi).1
      rw [List.getElem?_set_self hl] at hb
      cases hb
      exact ⟨_, sl_at S hi, D, acc, rfl, upd_same, dpAll_mono fo hd.dv⟩
    · rw [List.getElem?_set_ne (fun y => z y.symm)] at hb
      exact (S.mono fo).2 b P hb
theorem jm_done (h : JS K M W tu ps (.rt (dv K d))) : JM K F1 H1 tu ps Os (.rt d) := fun Dn σ F H A S k => h Dn σ F H A.gr.fh S fun v F' H' g p => k v F' H' (A.gr.trans g) p
end
end EB

/-! EB13: comb, shifts and masks, lists unpacked, not in, chains of ==. -/
namespace EB
open PySem PySem.Spec PyProof.Rows L2 Evl PySem.W
section
variable {X : Cx}
/-- f(e, ..), f a built-in function that a module's name holds -/
theorem pe_callG {x : Str} {p pos : Pos} {e : Expr} {es : List Expr} {id : String} {r : List V → Hp → VK → Prop} {t : TA} (hc : CallR X (.builtin id) r) (hg : Gl X x) (hm : X.mg x = some (.builtin id)) (ha : PA X (e :: es) t) (hdb : (x == ("__debug__" : Str)) = false := by decide)
    (he : starEach (e :: es) X.env = (false, eval e X.env) :: starEach es X.env := by rfl) (hpl : (backTo pos (starEach es X.env)).any (·.1) = false := by rfl) : PE X (.Call (.Name x p) (e :: es) [] pos) (tCB r t) := by
  refine ⟨fun pins s σ H Q I h => ?_⟩
  refine wpAny_Call_Name_kw (ld_glob I hg hm ?_ hdb)
  exact PyProof.Rows.callWith_builtin1 (thn (ha.run pos pins s σ H _ I h) fun us s1 ⟨vs, H1, I1, r1, q1⟩ => hc pins s1 σ H1 vs us Q I1 r1 q1) he hpl
def rComb : List V → Hp → VK → Prop := fun xs H Q => ∃ a b : Int, xs = [.int a, .int b] ∧ 0 ≤ a ∧ 0 ≤ b ∧ a < 2 ^ 64 ∧ (b ≤ 9000 ∨ a ≤ 18000) ∧ Q (.int (mcComb a b)) H
theorem cr_comb : CallR X (.builtin "math.comb") rComb := by
  intro pins s σ H xs us Q I r h
  obtain ⟨a, b, rfl, h0, h1, h2, h3, q⟩ := h
  cases r with
  | cons r1 r =>
    cases r with
    | cons r2 r =>
      cases r
      obtain ⟨t, rfl⟩ := r1
      obtain ⟨u, rfl⟩ := r2
      exact mc_comb_v h0 h1 h2 h3 rfl ⟨.int (mcComb a b), H, I.tok _, ⟨_, rfl⟩, q⟩
end
section
variable {K : PySem.W.Frag} {M : EC → Addr} {W : WX} {ps qs : Kn} {te ta tb tc : TE} {t : TT} {vs : List Nat}
theorem je_comb {a b : Int} (ha : JD K M W ta ps (.int a)) (hb : JD K M W tb ps (.int b)) (h0 : 0 ≤ a) (h1 : 0 ≤ b) (h2 : a < 2 ^ 64) (h3 : b ≤ 9000 ∨ a ≤ 18000) : JD K M W (tCB rComb (tCons ta (tCons tb tNil))) ps (.int (mcComb a b)) := je_cb (ja_cons ha (ja_cons hb ja_nil)) fun vs F H fh c Q k => by
  obtain ⟨v, u, rfl, p, q⟩ := allP2 c
  rw [dp_int p, dp_int q]
  exact ⟨a, b, rfl, h0, h1, h2, h3, k _ F H (Gr.refl fh) (.int _)⟩
theorem je_shl {i j : Int} (ha : JD K M W ta ps (.int i)) (hb : JD K M W tb ps (.int j)) (hc : CPow i j) : JD K M W (tOp (rI CPow fun i j => .int (i * 2 ^ j.toNat)) ta tb) ps (.int (i * 2 ^ j.toNat)) := je_iiC ha hb hc fun _ => .int _
theorem je_shr {i j : Int} (ha : JD K M W ta ps (.int i)) (hb : JD K M W tb ps (.int j)) (hc : 0 ≤ j) : JD K M W (tOp (rI (fun _ j => 0 ≤ j) fun i j => .int (i / 2 ^ j.toNat)) ta tb) ps (.int (i / 2 ^ j.toNat)) := je_iiC (C := fun _ j => 0 ≤ j) ha hb hc fun _ => .int _
theorem je_band {i j : Int} (ha : JD K M W ta ps (.int i)) (hb : JD K M W tb ps (.int j)) : JD K M W (tOp (rI0 fun i j => .int (Builtin.bitAnd i j)) ta tb) ps (.int (Builtin.bitAnd i j)) := je_ii0 ha hb fun _ => .int _
theorem jg_unl {gs : TGs} {n : Nat} {ds : List PyData} (h : JGs vs gs ps (ds.map (dv K)) qs) (hn : ds.length = n := by rfl) : JG vs (gUnl K n gs) ps (dv K (.list ds)) qs := fun v σ F H Q fh S p k => by
  obtain ⟨a, xs, rfl, hs, hd⟩ := dp_lst p
  exact ⟨a, xs, rfl, ex_l fh hs, by rw [dpLength hd, hn], h xs σ F H Q fh S (AllP.of_dv hd) k⟩
theorem je_notInT {i : Int} {ns : List Int} (ha : JD K M W ta ps (.int i)) (hb : JD K M W tb ps (.tuple (ns.map .int))) : JD K M W (tOp (rIn K true) ta tb) ps (.bool (!ns.contains i)) := je_op ha hb fun x y F H fh p q Q k => by
  obtain ⟨a, xs, rfl, hs, hd⟩ := dp_tup q
  have e := dpAll_ints_eq hd
  subst e
  rw [dp_int p]
  refine ⟨a, _, rfl, .inr (ex_t fh hs), rfl, flat_ints ns, ?_⟩
  rw [inV_ints]
  exact k _ F H (Gr.refl fh) (.bl _)
theorem je_notInL {i : Int} {ns : List Int} (ha : JD K M W ta ps (.int i)) (hb : JD K M W tb ps (.list (ns.map .int))) : JD K M W (tOp (rIn K true) ta tb) ps (.bool (!ns.contains i)) := je_op ha hb fun x y F H fh p q Q k => by
  obtain ⟨a, xs, rfl, hs, hd⟩ := dp_lst q
  have e := dpAll_ints_eq hd
  subst e
  rw [dp_int p]
  refine ⟨a, _, rfl, .inl (ex_l fh hs), rfl, flat_ints ns, ?_⟩
  rw [inV_ints]
  exact k _ F H (Gr.refl fh) (.bl _)
theorem rEq_bl {a b : Bool} {x y : V} {F H : Hp} (p : Dp K F x (.bool a)) (q : Dp K F y (.bool b)) {Q : VK} (h : Q (.bl (a == b)) H) : rEq x y H Q := by
  rw [dp_bl p, dp_bl q]
  refine ⟨rfl, ?_⟩
  have e : decide (V.bl a = V.bl b) = (a == b) := by
    cases a <;> cases b <;> simp
  rw [e]
  exact h
theorem je_eqB {a b : Bool} (ha : JD K M W ta ps (.bool a)) (hb : JD K M W tb ps (.bool b)) : JD K M W (tOp rEq ta tb) ps (.bool (a == b)) := je_op ha hb fun x y F H fh p q Q k => rEq_bl p q (k _ F H (Gr.refl fh) (.bl _))
/-- a == b == c, of bools -/
theorem je_chainB {a b c : Bool} (ha : JD K M W ta ps (.bool a)) (hb : JD K M W tb ps (.bool b)) (hc : JD K M W tc ps (.bool c)) : JD K M W (tChain rEq rEq ta tb tc) ps (.bool ((a == b) && (b == c))) :=
  je_chain ha hb (fun x y F H fh p q Q k => rEq_bl p q k) (fun _ => hc) (fun x y F H fh p q Q k => rEq_bl p q k)
end
end EB

/-! EB14: lists whose items are known one by one, lists of new lists, sorted pairs. -/
namespace EB
open PySem PySem.Spec PyProof.Rows L2 Evl
def lp (Ps : List PV) : PV := ⟨fun H v => ∃ a xs, v = .ref a ∧ H a = some (.lst xs) ∧ AllP H xs Ps, fun e h => by
  obtain ⟨a, xs, h1, h2, h3⟩ := h
  exact ⟨a, xs, h1, e _ _ h2, h3.mono e⟩⟩
/-- a pair of ints that was made at run time -/
def tp2 (p : Int × Int) : PV := ⟨fun H v => ∃ t, v = .ref t ∧ H t = some (.tup [.int p.1, .int p.2]), fun e h => by
  obtain ⟨t, h1, h2⟩ := h
  exact ⟨t, h1, e _ _ h2⟩⟩
section
variable {K : PySem.W.Frag} {M : EC → Addr} {W : WX} {F1 H1 : Hp} {ps qs : Kn} {ts tu : TS} {te ta tb : TE} {t : TT} {tr : TA} {Os Os' : Ow} {R : MR} {D : Addr} {vs : List Nat}
theorem tp2_dv {p : Int × Int} {H : Hp} {v : V} (h : (tp2 p).p H v) : Dp K H v (pD p) := by
  obtain ⟨t, rfl, e⟩ := h
  exact .tup (st_of e) (.cons (.int _) (.cons (.int _) .nil))
theorem allP_dp {α : Type} {f : α → PV} {d : α → PyData} (hf : ∀ a (H : Hp) v, (f a).p H v → Dp K H v (d a)) {H : Hp} : ∀ {xs : List V} {l : List α}, AllP H xs (l.map f) → DpAll K H xs (l.map d)
  | _, [], h => by cases h; exact .nil
  | _, a :: r, h => by
    cases h with
    | cons h1 h2 => exact .cons (hf a H _ h1) (allP_dp hf h2)
theorem lp_dv {α : Type} {f : α → PV} {d : α → PyData} (hf : ∀ a (H : Hp) v, (f a).p H v → Dp K H v (d a)) {l : List α} {H : Hp} {v : V} (h : (lp (l.map f)).p H v) : Dp K H v (.list (l.map d)) := by
  obtain ⟨a, xs, rfl, e, al⟩ := h
  exact .lst (sq_of e) (allP_dp hf al)
theorem je_lpd {α : Type} {f : α → PV} {d : α → PyData} (hf : ∀ a (H : Hp) v, (f a).p H v → Dp K H v (d a)) {l : List α} (h : JV K M W te ps (lp (l.map f))) : JD K M W te ps (.list (l.map d)) := je_weak h fun H v p => lp_dv hf p
theorem je_tup2 {i j : Int} (h1 : JD K M W ta ps (.int i)) (h2 : JD K M W tb ps (.int j)) : JV K M W (tTup (tCons ta (tCons tb tNil))) ps (tp2 (i, j)) := fun σ F H Q fh S k =>
  ja_cons h1 (ja_cons h2 ja_nil) σ F H _ fh S fun vs F1 H1 e1 a => by
    obtain ⟨v, u, rfl, p, q⟩ := allP2 a
    rw [dp_int p, dp_int q]
    exact ⟨sz_of (show 2 ≤ 100000 by decide), fun p hp => k _ _ _ (e1.trans (Gr.new e1.fh hp)) ⟨p, rfl, upd_same⟩⟩
/-! ### walks over such lists -/
structure ItP (J : It) (F : Hp) (Ps : List PV) : Prop where
  stop : ∀ i H', Ex F H' → Ps.length ≤ i → J.stop i H'
  go : ∀ i H', Ex F H' → i < Ps.length → J.go i H'
  yld : ∀ i P F' H' x H2, Ex F F' → Ex F' H' → Ps[i]? = some P → J.yld i H' x H2 → ∃ F2, Gr F' H' F2 H2 ∧ P.p F2 x
def JIP (K : PySem.W.Frag) (M : EC → Addr) (W : WX) (wi : TI) (ps : Kn) (Ps : List PV) : Prop := ∀ σ F H R, Ex F H → Sl F σ ps → (∀ J F1 H1, Gr F H F1 H1 → ItP J F1 Ps → R J H1) → wi σ H R
theorem jip_list {Ps : List PV} (h : JV K M W te ps (lp Ps)) : JIP K M W (iList K te) ps Ps := fun σ F H R fh S k => h.go fh S fun v F1 H1 e p => by
  obtain ⟨a, xs, rfl, hx, al⟩ := p
  refine ⟨a, rfl, ⟨xs, sq_of (e.fh _ _ hx)⟩, k _ F1 H1 e ⟨fun i H' e2 h => ⟨xs, sq_of (e2 _ _ hx), by rw [al.length]; exact h⟩, fun i H' e2 h => ?_, fun i P F' H' x H2 e2 fh2 hi y => ?_⟩⟩
  · have hl : i < xs.length := by rw [al.length]; exact h
    exact ⟨xs, xs[i], sq_of (e2 _ _ hx), List.getElem?_eq_getElem hl⟩
  · obtain ⟨rfl, y⟩ := y
    obtain ⟨v, hv, pv⟩ := al.get hi
    have := y xs (sq_of ((e2.trans fh2) _ _ hx))
    rw [hv] at this
    cases this
    exact ⟨F', Gr.refl fh2, P.mn e2 pv⟩
/-- [e for x in xs], items known one by one -/
theorem je_lcP {wi : TI} {g : TG} {Ps : List PV} (e : Nat → PyData) {W' : WX} (hi : JIP K M W wi ps Ps) (hlen : Ps.length ≤ 90000)
    (hs : ∀ i P, Ps[i]? = some P → ∃ qs, JG vs g (wipeK ps vs) P qs ∧ JT K M W' t qs true ∧ JD K M W' te qs (e i)) : JD K M W (tLc wi g t te vs) ps (.list ((List.range Ps.length).map e)) := fun σ F H Q fh S k => hi σ F H _ fh S fun J F1 H1 e1 it D hD => by
  refine ⟨fun i n H' => n = Ps.length - i ∧ i ≤ Ps.length ∧ ∃ F', Acc K D F1 H1 F' H' ((List.range i).map e), ⟨Ps.length, by omega, Nat.zero_le _, F1, Acc.start e1.fh hD⟩, ?_⟩
  rintro i n H' ⟨rfl, him, F2, A⟩
  by_cases hlt : i < Ps.length
  · have hx : Ps[i]? = some Ps[i] := List.getElem?_eq_getElem hlt
    refine .inr ⟨it.go i H' (A.gr.ff.trans A.gr.fh) hlt, fun H3 => ∃ F3, Acc K D F1 H1 F3 H3 ((List.range (i + 1)).map e), fun H3 q => ⟨Ps.length - (i + 1), by omega, rfl, hlt, q⟩, fun x H3 y => ?_⟩
    obtain ⟨F3, e3, dx⟩ := it.yld i _ F2 H' x H3 A.gr.ff A.gr.fh hx y
    have A3 := A.step e3
    obtain ⟨qs, hg, ht, he⟩ := hs i _ hx
    refine hg x (wipe σ vs) F3 H3 _ e3.fh ((S.mono (e1.ff.trans A3.gr.ff)).wipe vs) dx fun σ4 F4 H4 e4 S4 u4 => ⟨wipe_upto (upto_wipe.trans u4), ht σ4 F4 H4 _ e4.fh S4 fun F5 H5 e5 => ?_⟩
    have A5 := (A3.step e4).step e5
    show te σ4 H5 _
    refine he.go e5.fh (S4.mono e5.ff) fun v F6 H6 e6 p => ?_
    have A6 := A5.step e6
    obtain ⟨acc, h6, _⟩ := A6.at_
    refine ⟨acc, h6, sz_lt (by rw [A6.len h6, List.length_map, List.length_range]; omega), F6, ?_⟩
    rw [List.range_succ, List.map_append]
    exact A6.app hD h6 p
  · have hem : i = Ps.length := by omega
    subst hem
    obtain ⟨F3, g3, d3, _⟩ := A.done hD
    exact .inl ⟨it.stop _ H' (A.gr.ff.trans A.gr.fh) (Nat.le_refl _), k _ F3 H' (e1.trans g3) d3⟩
/-! ### sorted pairs -/
def lexLt (p q : Int × Int) : Prop := p.1 < q.1 ∨ (p.1 = q.1 ∧ p.2 < q.2)
theorem sort_one : ∀ {xs ys : List (Int × Int)}, xs.Perm ys → xs.Pairwise (fun x y => ¬ lexLt y x) → ys.Pairwise lexLt → xs = ys
  | [], ys, h, _, _ => by rw [List.nil_perm.mp h]
  | x :: xs, [], h, _, _ => absurd h.length_eq (by simp)
  | x :: xs, y :: ys, h, h1, h2 => by
    obtain ⟨a1, a2⟩ := List.pairwise_cons.mp h1
    obtain ⟨b1, b2⟩ := List.pairwise_cons.mp h2
    have e : x = y := by
      have m1 : x ∈ y :: ys := h.mem_iff.mp List.mem_cons_self
      have m2 : y ∈ x :: xs := h.mem_iff.mpr List.mem_cons_self
      rcases List.mem_cons.mp m1 with z | z
      · exact z
      · rcases List.mem_cons.mp m2 with w | w
        · exact w.symm
        · exact absurd (b1 x z) (a1 y w)
    subst e
    rw [sort_one (List.Perm.cons_inv h) a2 b2]
def kP (H : Hp) (v : V) : Int × Int := match v with
  | .ref t => match H t with
    | some (.tup [.int i, .int j]) => (i, j)
    | _ => (0, 0)
  | _ => (0, 0)
theorem kP_tp2 {F H : Hp} (fh : Ex F H) {p : Int × Int} {v : V} (h : (tp2 p).p F v) : (∃ t, v = .ref t ∧ H t = some (.tup [.int (kP H v).1, .int (kP H v).2])) ∧ kP H v = p := by
  obtain ⟨t, rfl, e⟩ := h
  have e2 := fh _ _ e
  have : kP H (.ref t) = p := by
    unfold kP
    dsimp only
    rw [e2]
  exact ⟨⟨t, rfl, by rw [this]; exact e2⟩, this⟩
theorem kP_all {F H : Hp} (fh : Ex F H) : ∀ {xs : List V} {l : List (Int × Int)}, AllP F xs (l.map tp2) → xs.map (kP H) = l ∧ ∀ x ∈ xs, (∃ t, x = .ref t ∧ H t = some (.tup [.int (kP H x).1, .int (kP H x).2])) ∧ (tp2 (kP H x)).p F x
  | _, [], h => by cases h; exact ⟨rfl, fun x h => by cases h⟩
  | _, a :: r, h => by
    cases h with
    | cons h1 h2 =>
      obtain ⟨i1, i2⟩ := kP_all fh h2
      obtain ⟨k1, k2⟩ := kP_tp2 fh h1
      refine ⟨by rw [List.map_cons, i1, k2], fun x hx => ?_⟩
      rcases List.mem_cons.mp hx with rfl | z
      · exact ⟨k1, by rw [k2]; exact h1⟩
      · exact i2 x z
theorem dpAll_kP {F H : Hp} : ∀ {xs : List V}, (∀ x ∈ xs, (tp2 (kP H x)).p F x) → DpAll K F xs ((xs.map (kP H)).map pD)
  | [], _ => .nil
  | x :: r, h => .cons (tp2_dv (h x List.mem_cons_self)) (dpAll_kP fun y hy => h y (List.mem_cons_of_mem _ hy))
theorem je_sortP {xs ys : List (Int × Int)} (h : JV K M W te ps (lp (xs.map tp2))) (hp : xs.Perm ys) (hs : ys.Pairwise lexLt) : JD K M W (tCB (rSortedPO K) (tCons te tNil)) ps (.list (ys.map pD)) := je_cb (ja_cons h ja_nil) fun vs F H fh b Q k => by
  obtain ⟨v, rfl, p⟩ := allP1 b
  obtain ⟨a, acc, rfl, ha, al⟩ := p
  obtain ⟨e1, e2⟩ := kP_all fh al
  refine ⟨a, acc, kP H, rfl, sq_of (fh _ _ ha), fun x hx => (e2 x hx).1, fun zs q h1 h2 hq => ?_⟩
  have key : zs.map (kP H) = ys := by
    refine sort_one ((h2.perm.map (kP H)).trans (by rw [e1]; exact hp)) ?_ hs
    rw [List.pairwise_map]
    refine List.Pairwise.imp (fun {x y} (z : SrtO.lexB (kP H y) (kP H x) = false) w => ?_) h1
    have := SrtO.lexB_no.mp z
    unfold lexLt at w
    omega
  refine k _ _ _ (Gr.new fh hq) (.lst (sq_of upd_same) ?_)
  rw [← key]
  exact dpAll_mono (Gr.new (o := .lst zs) fh hq).ff (dpAll_kP fun x hx => (e2 x (h2.perm.mem_iff.mp hx)).2)
/-! ### a list of new lists -/
theorem AccM.perm {F H : Hp} (h : Os.Perm Os') (a : AccM Os F1 H1 F H) : AccM Os' F1 H1 F H := ⟨a.gr, (h.map _).nodup_iff.mp a.nd, fun p hp => a.fr p (h.mem_iff.mpr hp), fun p hp => a.off p (h.mem_iff.mpr hp), fun p hp => a.at_ p (h.mem_iff.mpr hp)⟩
abbrev emp (Ds : List Addr) : Ow := Ds.map fun a => (a, ([] : List PV))
abbrev refs (Ds : List Addr) : List PV := Ds.map fun a => xv (.ref a)
theorem jm_lcNew {wi : TI} {g : TG} {i : Nat} (xs : List PyData) (hi : JI K M W wi ps xs) (hlen : xs.length ≤ 90000) (hg : ∀ d ∈ xs, ∃ qs, JG vs g (wipeK ps vs) (dv K d) qs)
    (hu : ∀ (D : Addr) (Ds : List Addr), Ds.length = xs.length → JM K F1 H1 tu (ps.set i (some (xv (.ref D)))) ((D, refs Ds) :: (emp Ds ++ Os)) R) : JM K F1 H1 (tSeq (tAsg (tLc wi g tYes (tLst tNil) vs) (gName i)) tu) ps Os R := fun Dn σ F H A S k => hi σ F H _ A.gr.fh S fun J F2 H2 e1 it D hD => by
  refine ⟨fun i n H' => n = xs.length - i ∧ i ≤ xs.length ∧ ∃ (Ds : List Addr) (F' : Hp), Ds.length = i ∧ Ex F2 F' ∧ AccM ((D, refs Ds) :: (emp Ds ++ Os)) F1 H1 F' H', ⟨xs.length, by omega, Nat.zero_le _, [], F2, rfl, Ex.refl _, (A.step e1).new hD .nil⟩, ?_⟩
  rintro i n H' ⟨rfl, him, Ds, F3, hDs, e3, A3⟩
  by_cases hlt : i < xs.length
  · have hx : xs[i]? = some xs[i] := List.getElem?_eq_getElem hlt
    refine .inr ⟨it.go i H' (e3.trans A3.gr.fh) hlt, fun H3 => ∃ (Ds : List Addr) (F' : Hp), Ds.length = i + 1 ∧ Ex F2 F' ∧ AccM ((D, refs Ds) :: (emp Ds ++ Os)) F1 H1 F' H3, fun H3 q => ⟨xs.length - (i + 1), by omega, rfl, hlt, q⟩, fun x H3 y => ?_⟩
    obtain ⟨F4, e4, dx⟩ := it.yld i _ F3 H' x H3 e3 A3.gr.fh hx y
    have A4 := A3.step e4
    obtain ⟨qs, hgx⟩ := hg _ (List.getElem_mem hlt)
    refine hgx x (wipe σ vs) F4 H3 _ e4.fh ((S.mono ((e1.ff.trans e3).trans e4.ff)).wipe vs) dx fun σ5 F5' H5' e5' S5 u5 => ⟨wipe_upto (upto_wipe.trans u5), (jt_yes (K := K) (M := M) (W := W)) σ5 F5' H5' _ e5'.fh S5 fun F5 H5 e6 => ?_⟩
    have e5 := e5'.trans e6
    have A5 := A4.step e5
    rw [if_pos rfl]
    refine ⟨sz_of (by decide), fun p hp => ?_⟩
    have A6 := A5.new (items := []) (acc := []) hp .nil
    have A7 : AccM ((D, refs Ds) :: (emp (Ds ++ [p]) ++ Os)) F1 H1 F5 (upd H5 p (.lst [])) := by
      refine A6.perm ?_
      refine (List.Perm.swap _ _ _).trans (List.Perm.cons _ ?_)
      show ((p, []) :: (emp Ds ++ Os)).Perm (emp (Ds ++ [p]) ++ Os)
      unfold emp
      rw [List.map_append, List.append_assoc]
      exact List.perm_middle.symm
    obtain ⟨acc, h7, a7⟩ := A7.at_ (D, refs Ds) List.mem_cons_self
    have lacc : acc.length = Ds.length := by
      have := a7.length
      unfold refs at this
      rwa [List.length_map] at this
    refine ⟨acc, h7, sz_lt (by omega), Ds ++ [p], F5, by rw [List.length_append, hDs]; rfl, (e3.trans e4.ff).trans e5.ff, ?_⟩
    have A8 := A7.set (i := 0) (D := D) (items := refs Ds) (items' := refs (Ds ++ [p])) (acc := acc ++ [.ref p]) rfl (by
      unfold refs
      rw [List.map_append]
      exact a7.app (.cons rfl .nil))
    exact A8
  · have hem : i = xs.length := by omega
    subst hem
    exact .inl ⟨it.stop _ H' (e3.trans A3.gr.fh) (Nat.le_refl _), hu D Ds hDs Dn _ F3 H' A3 ((S.mono (e1.ff.trans e3)).set _ rfl) (MW.step (e1.ff.trans e3) k)⟩
/-- all of them are told from here on -/
theorem jm_tellAll {d : PyData} (hq : ∀ F' σ, (∀ p ∈ Os, ∃ acc, F' p.1 = some (.lst acc) ∧ AllP F' acc p.2) → Sl F' σ ps → Sl F' σ qs) (hl : ps.length = qs.length) (hu : JS K M W tu qs (.rt (dv K d))) : JM K F1 H1 tu ps Os (.rt d) := fun Dn σ F H A S k => by
  classical
  let F' : Hp := fun a => if a ∈ Os.map (·.1) then H a else F a
  have ff : Ex F F' := fun a o e => by
    by_cases z : a ∈ Os.map (·.1)
    · obtain ⟨p, hp, rfl⟩ := List.mem_map.mp z
      rw [A.off p hp] at e
      cases e
    · show (if a ∈ Os.map (·.1) then H a else F a) = some o
      rw [if_neg z]
      exact e
  have fh : Ex F' H := fun a o e => by
    by_cases z : a ∈ Os.map (·.1)
    · have e2 : (if a ∈ Os.map (·.1) then H a else F a) = some o := e
      rw [if_pos z] at e2
      exact e2
    · have e2 : (if a ∈ Os.map (·.1) then H a else F a) = some o := e
      rw [if_neg z] at e2
      exact A.gr.fh _ _ e2
  have g : Gr F1 H1 F' H := ⟨A.gr.ff.trans ff, A.gr.hh, fh, fun a ha hf => by
    by_cases z : a ∈ Os.map (·.1)
    · obtain ⟨p, hp, rfl⟩ := List.mem_map.mp z
      exact absurd (A.fr p hp) ha
    · show (if a ∈ Os.map (·.1) then H a else F a) = none
      rw [if_neg z]
      exact A.gr.nw a ha hf⟩
  have S' : Sl F' σ qs := hq F' σ (fun p hp => by
    obtain ⟨acc, e, al⟩ := A.at_ p hp
    refine ⟨acc, ?_, al.mono ff⟩
    show (if p.1 ∈ Os.map (·.1) then H p.1 else F p.1) = _
    rw [if_pos (List.mem_map.mpr ⟨p, hp, rfl⟩)]
    exact e) (S.mono ff)
  exact hu Dn σ F' H fh S' fun v F2 H2 g2 p => k v F2 H2 (g.trans g2) p
/-- got.reverse() of a list of one's own -/
theorem jl_rev {i : Nat} {ds : List PyData} (hi : ps[i]? = some (some (xv (.ref D)))) (hD : H1 D = none) : JL K M W D F1 H1 (tDrop (tBM0 K "list" rReverse (tVar i))) ps ds (.nx ps ds.reverse) := fun Dn σ F H A S k => by
  obtain ⟨acc, h0, hd⟩ := A.at_
  exact ⟨.ref D, sl_at S hi, .inl ⟨rfl, acc, sq_of h0⟩, D, acc, rfl, rfl, h0, k σ F _ ⟨gr_mut A.gr hD A.off, A.off, _, upd_same, dpRev hd⟩ (Ex.refl _) S⟩
theorem je_isNone {d : PyData} (ha : JD K M W ta ps d) (hn : d ≠ .none) : JD K M W (tOp (fun x y H Q => y = .non ∧ Q (.bl (decide (x = .non))) H) ta (tC .non)) ps (.bool false) := fun σ F H Q fh S k => ha.go fh S fun v F' H' g p => by
  have e : decide (v = V.non) = false := decide_eq_false fun z => by
    subst z
    cases p
    exact hn rfl
  refine ⟨rfl, ?_⟩
  rw [e]
  exact k _ F' H' g (.bl false)
/-- list(range(n)) -/
theorem je_listRg1 {n : Int} (h : JD K M W te ps (.int n)) (ok : RgOk 0 n) : JV K M W (tLstRg (tRg1 te)) ps (lv K ((rg 0 n.toNat).map .int)) := fun σ F H Q fh S k => h.go fh S fun x F1 H1 e1 p => ⟨n, dp_int p, ok, fun l hl => k _ _ _ (e1.trans (Gr.new e1.fh hl)) ⟨l, _, rfl, upd_same, by
  have := rg_all (K := K) (F := upd F1 l (.lst (rgV 0 n))) 0 n
  rw [Int.sub_zero] at this
  exact this⟩⟩
end
end EB

/-! EB16: defs that end with a list just made, or with an error; own lists told to other names. -/
namespace EB
open PySem PySem.Spec PyProof.Rows L2 Evl
def QW (K : PySem.W.Frag) (M : EC → Addr) (W : WX) (n : Nat) (F H : Hp) (rt : VK) : Except Er (List PyData) → Prop
  | .ok ds => ∀ D F' H', Acc K D F H F' H' ds → H D = none → rt (.ref D) H'
  | .error e => ∀ d u σ' F' H', Gr F H F' H' → H d = none → H' d = some (.xd [(e.c.fld, u)]) → Dp K F' u e.val → σ'.length = n → W (.ref (M e.c)) (some d) σ' H'
theorem QW.step {K : PySem.W.Frag} {M : EC → Addr} {W : WX} {n : Nat} {F H F1 H1 : Hp} {rt : VK} {o : Except Er (List PyData)} (g : Gr F H F1 H1) (h : QW K M W n F H rt o) : QW K M W n F1 H1 rt o := by
  cases o with
  | ok ds => exact fun D F' H' A hD => h D F' H' (A.pre g) (fresh_back g.hh hD)
  | error e => exact fun d u σ' F' H' e2 hn a b l => h d u σ' F' H' (g.trans e2) (fresh_back g.hh hn) a b l
def JSN (K : PySem.W.Frag) (M : EC → Addr) (W : WX) (ts : TS) (ps : Kn) (o : Except Er (List PyData)) : Prop := ∀ Dn σ F H, Ex F H → Sl F σ ps → QW K M W ps.length F H Dn.rt o → ts Dn σ H
def JQ (K : PySem.W.Frag) (M : EC → Addr) (W : WX) (D : Addr) (F1 H1 : Hp) (n : Nat) (ts : TS) (ps : Kn) (ds : List PyData) (o : Except Er (List PyData)) : Prop := ∀ Dn σ F H, Acc K D F1 H1 F H ds → Sl F σ ps → QW K M W n F1 H1 Dn.rt o → ts Dn σ H
section
variable {K : PySem.W.Frag} {M : EC → Addr} {W : WX} {ps qs rs : Kn} {ts tu tv : TS} {ta tb te : TE} {tr : TA} {t : TT} {ds es : List PyData} {o : Except Er (List PyData)} {e : Er}
theorem jsn_ret (h : JN K te ps ds) : JSN K M W (tRet te) ps (.ok ds) := fun Dn σ F H fh S k => h σ F H _ fh S k
theorem jsn_seq (h1 : JS K M W ts ps (.nx qs)) (h2 : JSN K M W tu qs o) (hq : qs.length = ps.length := by first | rfl | (simp; done)) : JSN K M W (tSeq ts tu) ps o := fun Dn σ F H fh S k =>
  h1 { Dn with nx := tu Dn } σ F H fh S fun σ' F' H' g s => h2 Dn σ' F' H' g.fh s (by rw [hq]; exact QW.step g k)
theorem jsn_er (h : JS K M W ts ps (.er e)) : JSN K M W ts ps (.error e) := fun Dn σ F H fh S k => h Dn σ F H fh S k
theorem jsn_erS (h : JS K M W ts ps (.er e)) : JSN K M W (tSeq ts tu) ps (.error e) := jsn_er (js_er h)
theorem jsn_ifT (h : JT K M W t ps true) (k : JSN K M W ts ps o) : JSN K M W (tSeq (tIfS t ts tv) tu) ps o := fun Dn σ F H fh S kk =>
  h σ F H _ fh S fun F1 H1 g => by
    show (if true = true then _ else _)
    rw [if_pos rfl]
    exact k { Dn with nx := tu Dn } σ F1 H1 g.fh (S.mono g.ff) (QW.step g kk)
theorem jsn_ifF (h : JT K M W t ps false) (k : JSN K M W tu ps o) : JSN K M W (tSeq (tIfS t ts tNext) tu) ps o := fun Dn σ F H fh S kk =>
  h σ F H _ fh S fun F1 H1 g => by
    show (if false = true then _ else _)
    rw [if_neg (by decide)]
    exact k Dn σ F1 H1 g.fh (S.mono g.ff) (QW.step g kk)
theorem jsn_is {o' : Except Er (List PyData)} (h : JSN K M W ts ps o) (q : o = o') : JSN K M W ts ps o' := q ▸ h
theorem jsn_own {i : Nat} (he : JN K te ps ds) (h : ∀ D F1 H1, H1 D = none → JQ K M W D F1 H1 ps.length tu (ps.set i (some (xv (.ref D)))) ds o) : JSN K M W (tSeq (tAsg te (gName i)) tu) ps o := fun Dn σ F H fh S k =>
  he σ F H _ fh S fun D F1 H1 A hD => h D F H hD Dn _ F1 H1 A ((S.mono A.gr.ff).set i rfl) k
theorem jn_lst (h : JA K M W tr ps (ds.map (dv K))) (hl : ds.length ≤ 100000 := by first | decide | omega | (simp; done)) : JN K (tLst tr) ps ds := fun σ F H Q fh S k =>
  h σ F H _ fh S fun vs F1 H1 e1 a => ⟨sz_of (by rw [dpLength a.dv]; exact hl), fun p hp => k p F1 _ ⟨gr_mut e1 (fresh_back e1.hh hp) (fresh_back e1.fh hp), fresh_back e1.fh hp, vs, upd_same, a.dv⟩ (fresh_back e1.hh hp)⟩
theorem jn_cat (ha : JV K M W ta ps (lv K ds)) (hb : JV K M W tb ps (lv K es)) (hl : ds.length + es.length ≤ 100000) : JN K (tOp rCat ta tb) ps (ds ++ es) := fun σ F H Q fh S k =>
  ha.go fh S fun x F1 H1 e1 p => hb.go e1.fh (S.mono e1.ff) fun y F2 H2 e2 q => by
    obtain ⟨a, xs, rfl, hx, hd⟩ := (lv K ds).mn e2.ff p
    obtain ⟨b, ys, rfl, hy, he⟩ := q
    have g := e1.trans e2
    exact ⟨a, b, xs, ys, rfl, rfl, e2.fh _ _ hx, e2.fh _ _ hy, sz_of (by rw [dpLength hd, dpLength he]; exact hl), fun p hp => k p F2 _ ⟨gr_mut g (fresh_back g.hh hp) (fresh_back g.fh hp), fresh_back g.fh hp, _, upd_same, dpApp hd he⟩ (fresh_back g.hh hp)⟩
theorem jn_lv (h : JN K te ps ds) : JV K M W te ps (lv K ds) := fun σ F H Q fh S k => h σ F H Q fh S fun D F' H' A hD => by
  obtain ⟨acc, h0, hd⟩ := A.at_
  exact k _ _ H' (gr_in A.gr hD A.off h0) ⟨D, acc, rfl, upd_same, dpAll_mono (Ex.new A.off) hd⟩
theorem jn_sl {tl th : TO} {lo hi : Option Int} (h : JD K M W te ps (.list ds)) (h1 : JO K M W tl ps lo) (h2 : JO K M W th ps hi) : JN K (tSl (rSlL K) te tl th) ps (cutD ds lo hi) := fun σ F H Q fh S k =>
  h.go fh S fun v F1 H1 e1 p => h1 σ F1 H1 _ e1.fh (S.mono e1.ff) fun F2 H2 e2 => h2 σ F2 H2 _ e2.fh ((S.mono e1.ff).mono e2.ff) fun F3 H3 e3 => by
    obtain ⟨a, xs, rfl, hs, hd⟩ := dp_lst (dp_mono (e2.ff.trans e3.ff) p)
    have g := (e1.trans e2).trans e3
    exact ⟨a, xs, rfl, ex_l e3.fh hs, fun q hq => k q F3 _ ⟨gr_mut g (fresh_back g.hh hq) (fresh_back g.fh hq), fresh_back g.fh hq, _, upd_same, cut_all hd lo hi⟩ (fresh_back g.hh hq)⟩
/-! ### while a list of one's own is held -/
variable {D : Addr} {F1 H1 : Hp} {n : Nat}
theorem jq_seq (h1 : JL K M W D F1 H1 ts ps ds (.nx qs es)) (h2 : JQ K M W D F1 H1 n tu qs es o) : JQ K M W D F1 H1 n (tSeq ts tu) ps ds o := fun Dn σ F H A S k =>
  h1 { Dn with nx := tu Dn } σ F H A S fun σ' F' H' A' e S' => h2 Dn σ' F' H' A' S' k
theorem jq_ret {i : Nat} (hi : ps[i]? = some (some (xv (.ref D)))) (hD : H1 D = none) : JQ K M W D F1 H1 n (tRet (tVar i)) ps ds (.ok ds) := fun Dn σ F H A S k => ⟨.ref D, sl_at S hi, k D F H A hD⟩
theorem jq_is {o' : Except Er (List PyData)} (h : JQ K M W D F1 H1 n ts ps ds o) (q : o = o') : JQ K M W D F1 H1 n ts ps ds o' := q ▸ h
theorem jq_retSl {i : Nat} {tl th : TO} {lo hi : Option Int} (hi_ : ps[i]? = some (some (xv (.ref D)))) (h1 : JO K M W tl ps lo) (h2 : JO K M W th ps hi) : JQ K M W D F1 H1 n (tRet (tSl (rSlL K) (tVar i) tl th)) ps ds (.ok (cutD ds lo hi)) := fun Dn σ F H A S k =>
  ⟨.ref D, sl_at S hi_, h1 σ F H _ A.gr.fh S fun F2 H2 e2 => h2 σ F2 H2 _ e2.fh (S.mono e2.ff) fun F3 H3 e3 => by
    have A3 := (A.step e2).step e3
    obtain ⟨acc, h3, hd⟩ := A3.at_
    exact ⟨D, acc, rfl, sq_of h3, fun q hq => k q F3 _ ⟨gr_mut A3.gr (fresh_back A3.gr.hh hq) (fresh_back A3.gr.fh hq), fresh_back A3.gr.fh hq, _, upd_same, cut_all hd lo hi⟩ (fresh_back A3.gr.hh hq)⟩⟩
/-- a test that reads the list of one's own, and an error behind it -/
theorem jq_ifRE {i : Nat} (hi : ps[i]? = some (some (xv (.ref D)))) (h : JT K M W t (ps.set i (some (dv K (.list ds)))) true) (h1 : JS K M W ts ps (.er e)) (hn : ps.length = n) : JQ K M W D F1 H1 n (tSeq (tIfS t ts tv) tu) ps ds (.error e) := fun Dn σ F H A S k => by
  obtain ⟨F0, x0, x1, S0, _⟩ := acc_told A S hi
  refine h σ F0 H _ x1 S0 fun F' H' g => ?_
  have A' : Acc K D F1 H1 F H' ds := by
    obtain ⟨acc, hh, hd⟩ := A.at_
    exact ⟨⟨A.gr.ff, A.gr.hh.trans g.hh, A.gr.fh.trans g.hh, A.gr.nw⟩, A.off, acc, g.hh _ _ hh, hd⟩
  show (if true = true then _ else _)
  rw [if_pos rfl]
  refine h1 { Dn with nx := tu Dn } σ F H' A'.gr.fh S ?_
  rw [hn]
  exact fun d u σ' F' H' g2 hn a b l => k d u σ' F' H' (A'.gr.trans g2) (fresh_back A'.gr.hh hn) a b l
/-- xs.append(e) where e is an int that may be read off xs itself -/
theorem jl_appI {i : Nat} {v : Int} (hi : ps[i]? = some (some (xv (.ref D)))) (hD : H1 D = none) (h : JD K M W te (ps.set i (some (dv K (.list ds)))) (.int v)) (hl : ds.length < 90000) : JL K M W D F1 H1 (tDrop (tBM K "list" rAppend (tVar i) (tCons te tNil))) ps ds (.nx ps (ds ++ [.int v])) := fun Dn σ F H A S k => by
  obtain ⟨acc0, h00, hd0⟩ := A.at_
  obtain ⟨F0, x0, x1, S0, _⟩ := acc_told A S hi
  refine ⟨.ref D, sl_at S hi, (.inl ⟨rfl, acc0, sq_of h00⟩), h.go x1 S0 fun x F2 H2 g p => ?_⟩
  rw [dp_int p]
  have A2 : Acc K D F1 H1 F H2 ds := ⟨⟨A.gr.ff, A.gr.hh.trans g.hh, A.gr.fh.trans g.hh, A.gr.nw⟩, A.off, acc0, g.hh _ _ h00, hd0⟩
  obtain ⟨acc, h2, hd⟩ := A2.at_
  exact ⟨D, acc, .int v, rfl, rfl, h2, sz_lt (by rw [A2.len h2]; omega), k σ F _ (A2.app hD h2 (.int v)) (Ex.refl _) S⟩
/-- a list of one's own within a block; at its end it is told under a name -/
theorem jl_scope {i j : Nat} (qs : Addr → Kn) (he : JN K te ps ds) (h : ∀ D F1 H1, H1 D = none → JL K M W D F1 H1 tu (ps.set i (some (xv (.ref D)))) ds (.nx (qs D) es)) (hj : ∀ D, (qs D)[j]? = some (some (xv (.ref D)))) (hw : ∀ D, Weak ((qs D).set j (some (lv K es))) rs) : JS K M W (tSeq (tAsg te (gName i)) tu) ps (.nx rs) := fun Dn σ F H fh S k =>
  he σ F H _ fh S fun D F1 H1 A hD => h D F H hD Dn _ F1 H1 A ((S.mono A.gr.ff).set i rfl) fun σ' F' H' A' e S' => by
    obtain ⟨acc, h0, hd⟩ := A'.at_
    have fo : Ex F' (upd F' D (.lst acc)) := Ex.new A'.off
    have S2 : Sl (upd F' D (.lst acc)) σ' ((qs D).set j (some (lv K es))) := by
      refine ⟨by rw [List.length_set]; exact S'.1, fun b P hb => ?_⟩
      by_cases z : b = j
      · subst z
        have hl : b < (qs D).length := (List.getElem?_eq_some_iff.mp (hj D)).1
        rw [List.getElem?_set_self hl] at hb
        cases hb
        exact ⟨_, sl_at S' (hj D), D, acc, rfl, upd_same, dpAll_mono fo hd⟩
      · rw [List.getElem?_set_ne (fun y => z y.symm)] at hb
        exact (S'.mono fo).2 b P hb
    exact k σ' _ H' (gr_in A'.gr hD A'.off h0) (S2.weak (hw D))
/-! ### an own list that a statement of some form gives to a name -/
def JAN (K : PySem.W.Frag) (M : EC → Addr) (W : WX) (ts : TS) (ps : Kn) (i : Nat) (ds : List PyData) : Prop := ∀ Dn σ F H, Ex F H → Sl F σ ps → (∀ D F' H', Acc K D F H F' H' ds → H D = none → Dn.nx (σ.set i (some (.ref D))) H') → ts Dn σ H
theorem jan_asg {i : Nat} (he : JN K te ps ds) : JAN K M W (tAsg te (gName i)) ps i ds := fun Dn σ F H fh S k => he σ F H _ fh S fun D F' H' A hD => k D F' H' A hD
theorem jan_ifT {i : Nat} (h : JT K M W t ps true) (k : JAN K M W ts ps i ds) : JAN K M W (tIfS t ts tu) ps i ds := fun Dn σ F H fh S kk => h σ F H _ fh S fun F1 H1 g => by
  show (if true = true then _ else _)
  rw [if_pos rfl]
  exact k Dn σ F1 H1 g.fh (S.mono g.ff) fun D F' H' A hD => kk D F' H' (A.pre g) (fresh_back g.hh hD)
theorem jan_ifF {i : Nat} (h : JT K M W t ps false) (k : JAN K M W tu ps i ds) : JAN K M W (tIfS t ts tu) ps i ds := fun Dn σ F H fh S kk => h σ F H _ fh S fun F1 H1 g => by
  show (if false = true then _ else _)
  rw [if_neg (by decide)]
  exact k Dn σ F1 H1 g.fh (S.mono g.ff) fun D F' H' A hD => kk D F' H' (A.pre g) (fresh_back g.hh hD)
theorem jan_try {tb : WX → TS} {i : Nat} {Wo : WX} {l : List (Value × Nat × (Addr → Value → Option Addr → TS))} {d : PyData} (hb : ∀ W', JAN K M W' (tb W') ps i ds) (h : ∀ D F1 H1, H1 D = none → JL K M W D F1 H1 tu (ps.set i (some (xv (.ref D)))) ds (.rt d)) : JS K M W (tSeq (fun D σ H => tb (wClauses K Wo D l) D σ H) tu) ps (.rt (dv K d)) := fun Dn σ F H fh S k =>
  hb _ { Dn with nx := tu Dn } σ F H fh S fun D F1 H1 A hD => h D F H hD Dn _ F1 H1 A ((S.mono A.gr.ff).set i rfl) fun v F' H' g p => k v F' H' g p
/-! ### a def's end -/
theorem fin_neO {N : List Str} {Ps : List PV} {us : List V} {F H : Hp} {Q : VK} {E : XK} (h : JSN K M (fun cls d _ H => E cls d H) ts (entry N Ps) (.ok ds)) (fh : Ex F H) (al : AllP F us Ps) (th : ∀ D F' H', Acc K D F H F' H' ds → H D = none → Q (.ref D) H') : ts { nx := fun _ H' => Q .non H', rt := Q } (start N us) H :=
  h _ _ F H fh (Sl.start al) th
theorem fin_neE {N : List Str} {Ps : List PV} {us : List V} {F H : Hp} {Q : VK} {E : XK} (h : JSN K M (fun cls d _ H => E cls d H) ts (entry N Ps) (.error e)) (fh : Ex F H) (al : AllP F us Ps) (th : ∀ d u F' H', Gr F H F' H' → H d = none → H' d = some (.xd [(e.c.fld, u)]) → Dp K F' u e.val → E (.ref (M e.c)) (some d) H') : ts { nx := fun _ H' => Q .non H', rt := Q } (start N us) H :=
  h _ _ F H fh (Sl.start al) fun d u σ' F' H' g hn a b _ => th d u F' H' g hn a b
theorem je_catA {as bs : List PyData} (ha : JD K M W ta ps (.tuple as)) (hb : JD K M W tb ps (.tuple bs)) (hl : as.length + bs.length ≤ 100000) : JD K M W (tOp (rCatA K) ta tb) ps (.tuple (as ++ bs)) := je_op ha hb fun x y F H fh p q Q k => by
  obtain ⟨a, xs, rfl, hx, hd⟩ := dp_tup p
  obtain ⟨b, ys, rfl, hy, he⟩ := dp_tup q
  refine ⟨a, b, xs, ys, rfl, rfl, ex_t fh hx, ex_t fh hy, sz_of (by rw [dpLength hd, dpLength he]; exact hl), fun z => ?_, fun _ z => ?_, fun _ _ p hp => ?_⟩
  · subst z
    cases hd
    exact k _ F H (Gr.refl fh) q
  · subst z
    cases he
    rw [List.append_nil] at *
    exact k _ F H (Gr.refl fh) p
  · have g := Gr.new (o := .tup (xs ++ ys)) fh hp
    exact k _ _ _ g (.tup (st_of upd_same) (dpApp (dpAll_mono g.ff hd) (dpAll_mono g.ff he)))
theorem je_divW {i j : Int} (ha : JD K M W ta ps (.int i)) (hb : JD K M W tb ps (.int j)) (hc : CDivW i j) : JD K M W (tOp (rI CDivW fun i j => .int (i / j)) ta tb) ps (.int (i / j)) := je_iiC ha hb hc fun _ => .int _
end
end EB

/-! EB17: generator defs that hand out a list by yield from, and list(g). -/
namespace EB
open PySem PySem.Spec PyProof.Rows L2 Evl GenW
section
variable {prog : Program} {w : World} {A : Around} {E : Value → Shared → Prop} {s : Shared} {it l : Addr} {i : Nat} {items : Array Value}
theorem li_of {h : Heap} (z : h.get? it = some (GNX.itObj l i)) : h.IsListIter it l i := ⟨GNX.itObj l i, z, rfl, rfl⟩
theorem lst_item {x : Value} {Q : Option Value → Shared → Prop} (z : s.heap.get? it = some (GNX.itObj l i)) (hl : s.heap.IsList l items) (hx : items[i]? = some x)
    (k : ∀ h', h'.get? it = some (GNX.itObj l (i + 1)) → Heap.SameBut it s.heap h' → Q (some x) { s with heap := h' }) : wpAny (model prog w) A (callSpecial? (.ref it) "__next__") Q E s :=
  wpAny_callSpecial?_slot (name := Str.ofString "__next__") (li_of z).typeIs slot_listiter_next (wpAny_call_entry slot_listiter_next (li_of z).typeIs entry_listiter_next (GNX.next_item (Q := fun v => Q (some v)) z hl hx k) (args_listiter_next _))
theorem lst_end {Q : Option Value → Shared → Prop} (hA : A.handled = none) (z : s.heap.get? it = some (GNX.itObj l i)) (hl : s.heap.IsList l items) (hx : items[i]? = none)
    (k : ∀ e h', StopX e h' → Heap.ExtBut it s.heap h' → E e { s with heap := h' }) : wpAny (model prog w) A (callSpecial? (.ref it) "__next__") Q E s := by
  obtain ⟨oL, zL, _, nL, dL⟩ := hl
  refine wpAny_callSpecial?_slot (name := Str.ofString "__next__") (li_of z).typeIs slot_listiter_next (wpAny_call_entry slot_listiter_next (li_of z).typeIs entry_listiter_next ?_ (args_listiter_next _))
  refine (show wpAny _ _ (field (.ref it) 0 >>= _) _ _ s from wpAny_bind (wpAny_field z rfl (x := .ref l) rfl ?_))
  refine (show wpAny _ _ (if (Value.ref l == Value.none) = true then _ else _) _ _ s from ?_); rw [if_neg (show ¬ ((Value.ref l == Value.none) = true) from Bool.false_ne_true)]
  refine (show wpAny _ _ (field (.ref it) 1 >>= _) _ _ s from wpAny_bind (wpAny_field z rfl (x := .int i 0) rfl ?_))
  refine (show wpAny _ _ (seqItems? (.ref l) >>= _) _ _ s from wpAny_bind (wpAny_seqItems zL dL ?_)); simp only [Int.toNat_natCast, hx]
  refine wpAny_bind (wpAny_rule (wpAny_bind (wpAny_setField z rfl (by simp) (show wpAny _ _ (newExc (.type "StopIteration") [] >>= _) _ _ _ from wpAny_bind ?_))))
  simp only [newExc, newTuple]; refine wpAny_bind (wpAny_newObj_type (wpAny_bind (m := firstArgMember _ _) (wpAny_of_eq (a := Value.none) (by first | rfl | (simp only [firstArgMember]; rfl)) (wpAny_newObj_type ?_ (by size_fits)))) (by size_fits))
  simp only [raiseNew]; refine wpAny_bind (wpAny_handled ?_); first | rw [show A.in1.handled = none from hA] | rw [hA]
  refine wpAny_bind (wpAny_pure (wpAny_throw (k _ _ ⟨_, _, _, rfl, Heap.get?_push_size _ rfl, rfl, rfl, ?_⟩ (((Heap.SameBut.update ..).extBut.push _).push _))))
  first | rfl | (rw [Array.getElem?_append_left (by decide)]; rfl) | kernel_rfl
end
def tYfLst (te : TE) : TYf := fun σ H Q => te σ H fun x H1 => ∃ a xs, x = .ref a ∧ H1 a = some (.lst xs) ∧ Q xs H1
theorem close_lst : typeLookup (.type "list_iterator") "close" = pure none := by rw [typeLookup_type, builtinLookup_eq_fast]; kernel_rfl
theorem yf_lst {X : Cx} {e : Expr} {te : TE} (he : PE X e te) : YfE X e (tYfLst te) := by
  refine ⟨fun pins s σ H Q I hyp => thn (he.run pins s σ H _ I hyp) fun v s1 ⟨x, H1, I1, rv, a, xs, ex, at_, hq⟩ => ?_⟩
  subst ex
  obtain rfl : v = Value.ref a := rv
  obtain ⟨its, rits, pl, _⟩ := I1.list (SqL.of (K := X.K) at_)
  have isl : s1.heap.IsList a its.toArray := pl.isList
  have old : ∀ b ob, s1.heap.get? b = some ob → b ≠ s1.heap.objs.size := fun b ob z => Nat.ne_of_lt (Heap.lt_size z)
  have up : ∀ b ob, s1.heap.get? b = some ob → (s1.heap.push (GNX.itObj a 0)).get? b = some ob := fun b ob z => Heap.get?_push_of_some _ z
  refine ⟨"list", isl.typeIs, by decide, wpAny_pyIter_list isl ?_⟩
  let St : Nat → Heap → Prop := fun j h => h.get? s1.heap.objs.size = some (GNX.itObj a j) ∧ h.IsList a its.toArray
  have ane : a ≠ s1.heap.objs.size := by
    obtain ⟨ob, z, _⟩ := isl
    exact old a ob z
  have qit : QIt X H1 s1.heap.objs.size xs St := by
    refine ⟨⟨"list_iterator", fun j h q => ⟨_, q.1, rfl⟩, close_lst, by decide⟩, fun j h h' q hk => ?_, fun A' j y s2 Q' E' hA hy q hQ => ?_, fun A' s2 Q' E' hA q hE => ?_⟩
    · obtain ⟨q1, ob, q2, q3⟩ := q
      exact ⟨hk _ _ (.inl rfl) q1, ob, hk _ _ (.inr (by rw [at_]; exact fun z => nomatch z)) q2, q3⟩
    · obtain ⟨u, hu, ru⟩ := rits.get hy
      exact lst_item q.1 q.2 (x := u) (by simpa using hu) fun h' q1 sb => hQ u h' s2.toks ru ⟨q1, q.2.extBut sb.extBut ane⟩ fun b ob hb eb => sb.extBut b ob hb eb
    · have len := rits.length
      have no : its.toArray[xs.length]? = none := by
        have : its[xs.length]? = none := List.getElem?_eq_none_iff.mpr (by omega)
        simpa using this
      exact lst_end hA q.1 q.2 no fun e h' st sb => hE e h' s2.toks st fun b ob hb eb => sb b ob hb eb
  exact ⟨s1.heap.objs.size, H1, xs, St, rfl, I1.kept (t' := s1.toks) up, .inr I1.sz, Nat.ne_of_gt I1.lt, fun y c hy => by
    obtain ⟨v, ob, ho, _⟩ := I1.cell y c hy
    exact old c ob ho, I1.hok.fresh (Nat.le_refl _), fun p hp => old p.1 _ (I1.pin p hp).1, ⟨Heap.get?_push_size _ rfl, isl.push _⟩, qit, hq⟩
/-! ### a generator def's promise -/
/-- it hands out the items, or raises before the first one -/
def PrmG (K : PySem.W.Frag) (M : EC → Addr) {α : Type} (args : α → List PV) (dom : α → Prop) (out : α → Except Er (List PyData)) : SpG := fun vs H Q E => ∃ a F, Ex F H ∧ AllP F vs (args a) ∧ dom a ∧ (match out a with
  | .ok ds => ∀ ys F' H', Gr F H F' H' → DpAll K F' ys ds → Q ys H'
  | .error e => ∀ d u F' H', Gr F H F' H' → H d = none → H' d = some (.xd [(e.c.fld, u)]) → Dp K F' u e.val → E (.ref (M e.c)) (some d) H')
/-- what a call in the body may end in, whatever the slots then hold -/
def genE (K : PySem.W.Frag) (W : WX) (n : Nat) : XK := fun cls d H => PySem.W.subIn K cls (.type "StopIteration") = some false ∧ ∀ σ : L2.St, σ.length = n → W cls d σ H
theorem passG {X : Cx} {W : WX} {n : Nat} (tk : Takes X W) (hn : X.N.length = n) : Passes (L2.CX X.prog X.w) X (genE X.K W n) := fun pins σ H s e s' I c => tk e s' (XE.of_call I (fun _ _ _ h => h.2 σ (I.len.trans hn)) c)
theorem noStopG {K : PySem.W.Frag} {W : WX} {n : Nat} : NoStop K (genE K W n) := fun cls d H h => h.1
theorem jn_listG {K : PySem.W.Frag} {M : EC → Addr} {W : WX} {ps : Kn} {tr : TA} {α : Type} {args : α → List PV} {dom : α → Prop} {out : α → Except Er (List PyData)} {E : XK} (a : α) {ds : List PyData} (h : JA K M W tr ps (args a)) (hd : dom a) (ho : out a = .ok ds) : JN K (tListG (tCallG (PrmG K M args dom out) [] E tr)) ps ds := fun σ F H Q fh S k =>
  h σ F H _ fh S fun vs F1 H1 e1 al => by
    refine ⟨a, F1, e1.fh, by rw [List.append_nil]; exact al, hd, ?_⟩
    rw [ho]
    exact fun ys F2 H2 g hy p hp => by
      have g2 := e1.trans g
      exact k p F2 _ ⟨gr_mut g2 (fresh_back g2.hh hp) (fresh_back g2.fh hp), fresh_back g2.fh hp, ys, upd_same, hy⟩ (fresh_back g2.hh hp)
theorem je_listG {K : PySem.W.Frag} {M : EC → Addr} {W : WX} {ps : Kn} {tr : TA} {α : Type} {args : α → List PV} {dom : α → Prop} {out : α → Except Er (List PyData)} {n : Nat} {i : Nat} (a : α) {e : Er} (h : JA K M W tr ps (args a)) (hd : dom a) (ho : out a = .error e) (hs : PySem.W.subIn K (.ref (M e.c)) (.type "StopIteration") = some false) (hn : ps.length = n) : JS K M W (tAsg (tListG (tCallG (PrmG K M args dom out) [] (genE K W n) tr)) (gName i)) ps (.er e) := fun D σ F H fh S k =>
  h σ F H _ fh S fun vs F1 H1 e1 al => by
    refine ⟨a, F1, e1.fh, by rw [List.append_nil]; exact al, hd, ?_⟩
    rw [ho]
    exact fun d u F2 H2 g hd2 hx hp => ⟨hs, fun σ' hl => k d u σ' F2 H2 (e1.trans g) (fresh_back e1.hh hd2) hx hp (by rw [hl, hn])⟩
end EB

/-! EB18: a comprehension of two for's, as a plain list. -/
namespace EB
open PySem PySem.Spec PyProof.Rows L2 Evl
section
variable {K : PySem.W.Frag} {M : EC → Addr} {W : WX} {ps : Kn} {te : TE} {t : TT} {vs : List Nat}
theorem je_lc2V {α β : Type} {wi wi1 : TI} {g g1 : TG} {u : TT} {vs1 : List Nat} (xs : List α) (ys : α → List β) (enc : α → PyData) (enc1 : β → PyData) (b : α → β → Bool) (e : α → β → PyData) {W' : WX} (hi : JI K M W wi ps (xs.map enc))
    (hlen : (xs.flatMap fun x => ((ys x).filter (b x)).map (e x)).length ≤ 90000)
    (hs : ∀ x ∈ xs, ∃ qs, JG vs g (wipeK ps vs) (dv K (enc x)) qs ∧ JT K M W' t qs true ∧ JI K M W' wi1 qs ((ys x).map enc1) ∧
      ∀ y ∈ ys x, ∃ rs, JG vs1 g1 (wipeK qs vs1) (dv K (enc1 y)) rs ∧ JT K M W' u rs (b x y) ∧ (b x y = true → JD K M W' te rs (e x y))) :
    JV K M W (tLc2 wi g t wi1 g1 u te vs vs1) ps (lv K (xs.flatMap fun x => ((ys x).filter (b x)).map (e x))) := fun σ F H Q fh S k => hi σ F H _ fh S fun J F1 H1 e1 it D hD => by
  let out : α → List PyData := fun x => ((ys x).filter (b x)).map (e x)
  refine ⟨fun i n H' => n = xs.length - i ∧ i ≤ xs.length ∧ ∃ F', Acc K D F1 H1 F' H' ((xs.take i).flatMap out), ⟨xs.length, by omega, Nat.zero_le _, F1, Acc.start e1.fh hD⟩, ?_⟩
  rintro i n H' ⟨rfl, him, F2, A⟩
  by_cases hlt : i < xs.length
  · have hx : xs[i]? = some xs[i] := List.getElem?_eq_getElem hlt
    have hmem : xs[i] ∈ xs := List.getElem_mem hlt
    have hex : (xs.map enc)[i]? = some (enc xs[i]) := by rw [List.getElem?_map, hx] <;> rfl
    refine .inr ⟨it.go i H' (A.gr.ff.trans A.gr.fh) (by rw [List.length_map]; exact hlt), fun H3 => ∃ F3, Acc K D F1 H1 F3 H3 ((xs.take (i + 1)).flatMap out), fun H3 q => ⟨xs.length - (i + 1), by omega, rfl, hlt, q⟩, fun x H3 y => ?_⟩
    obtain ⟨F3, e3, dx⟩ := it.yld i _ F2 H' x H3 A.gr.ff A.gr.fh hex y
    have A3 := A.step e3
    obtain ⟨qs, hg, ht, hi1, hin⟩ := hs xs[i] hmem
    refine hg x (wipe σ vs) F3 H3 _ e3.fh ((S.mono (e1.ff.trans A3.gr.ff)).wipe vs) dx fun σ4 F4 H4 e4 S4 u4 => ⟨wipe_upto (upto_wipe.trans u4), ht σ4 F4 H4 _ e4.fh S4 fun F5 H5 e5 => ?_⟩
    have A5 := (A3.step e4).step e5
    show wi1 σ4 H5 _
    refine hi1 σ4 F5 H5 _ e5.fh (S4.mono e5.ff) fun J1 F6 H6 e6 it1 => ?_
    have A6 := A5.step e6
    have pre := flatMap_take_le out xs (i + 1)
    rw [flatMap_take_succ hx, List.length_append] at pre
    refine ⟨fun j n H' => n = (ys xs[i]).length - j ∧ j ≤ (ys xs[i]).length ∧ ∃ F', Ex F6 F' ∧ Acc K D F1 H1 F' H' ((xs.take i).flatMap out ++ (((ys xs[i]).take j).filter (b xs[i])).map (e xs[i])), ⟨(ys xs[i]).length, by omega, Nat.zero_le _, F6, Ex.refl _, by simpa using A6⟩, ?_⟩
    rintro j n H7 ⟨rfl, hj, F7, x67, A7⟩
    by_cases hjl : j < (ys xs[i]).length
    · have hy : (ys xs[i])[j]? = some (ys xs[i])[j] := List.getElem?_eq_getElem hjl
      have ymem : (ys xs[i])[j] ∈ ys xs[i] := List.getElem_mem hjl
      have hey : ((ys xs[i]).map enc1)[j]? = some (enc1 (ys xs[i])[j]) := by rw [List.getElem?_map, hy] <;> rfl
      refine .inr ⟨it1.go j H7 (x67.trans A7.gr.fh) (by rw [List.length_map]; exact hjl), fun H8 => ∃ F8, Ex F6 F8 ∧ Acc K D F1 H1 F8 H8 ((xs.take i).flatMap out ++ (((ys xs[i]).take (j + 1)).filter (b xs[i])).map (e xs[i])), fun H8 q => ⟨(ys xs[i]).length - (j + 1), by omega, rfl, hjl, q⟩, fun x1 H8 y1 => ?_⟩
      obtain ⟨F8, e8, dy⟩ := it1.yld j _ F7 H7 x1 H8 x67 A7.gr.fh hey y1
      have A8 := A7.step e8
      obtain ⟨rs, hg1, ht1, he1⟩ := hin _ ymem
      refine hg1 x1 (wipe σ4 vs1) F8 H8 _ e8.fh ((S4.mono ((e5.ff.trans e6.ff).trans (x67.trans e8.ff))).wipe vs1) dy fun σ9 F9 H9 e9 S9 u9 => ⟨wipe_upto (upto_wipe.trans u9), ht1 σ9 F9 H9 _ e9.fh S9 fun Fa Ha ea => ?_⟩
      have Aa := (A8.step e9).step ea
      have ff := filter_take_succ (b := b xs[i]) hy
      have pre2 : (((ys xs[i]).take j).filter (b xs[i])).length ≤ ((ys xs[i]).filter (b xs[i])).length := by
        conv => rhs; rw [← List.take_append_drop j (ys xs[i])]
        rw [List.filter_append, List.length_append]
        omega
      have lout : (out xs[i]).length = ((ys xs[i]).filter (b xs[i])).length := List.length_map _
      cases hb : b xs[i] (ys xs[i])[j] with
      | true =>
        rw [hb] at ff
        show te σ9 Ha _
        refine (he1 hb).go ea.fh (S9.mono ea.ff) fun v Fb Hb eb p => ?_
        have Ab := Aa.step eb
        obtain ⟨acc, hb6, _⟩ := Ab.at_
        refine ⟨acc, hb6, sz_lt ?_, Fb, ((x67.trans e8.ff).trans e9.ff).trans (ea.ff.trans eb.ff), ?_⟩
        · rw [Ab.len hb6, List.length_append, List.length_map]
          have h1 : (xs.flatMap out).length ≤ 90000 := hlen
          omega
        · rw [ff, List.map_append, ← List.append_assoc]
          exact Ab.app hD hb6 p
      | false =>
        rw [hb] at ff
        show ∃ F8, Ex F6 F8 ∧ Acc K D F1 H1 F8 Ha _
        rw [ff]
        simp only [Bool.false_eq_true, if_false, List.append_nil]
        exact ⟨Fa, ((x67.trans e8.ff).trans e9.ff).trans ea.ff, Aa⟩
    · have hem : j = (ys xs[i]).length := by omega
      subst hem
      rw [List.take_length] at A7
      refine .inl ⟨it1.stop _ H7 (x67.trans A7.gr.fh) (by rw [List.length_map]; exact Nat.le_refl _), F7, ?_⟩
      rw [flatMap_take_succ hx]
      exact A7
  · have hem : i = xs.length := by omega
    subst hem
    rw [List.take_length] at A
    obtain ⟨acc0, h0, hd0⟩ := A.at_
    exact .inl ⟨it.stop _ H' (A.gr.ff.trans A.gr.fh) (by rw [List.length_map]; exact Nat.le_refl _), k _ _ H' (e1.trans (gr_in A.gr hD A.off h0)) ⟨D, acc0, rfl, upd_same, dpAll_mono (Ex.new A.off) hd0⟩⟩
end
end EB

/-! EB19: defs that are only called where no repr is at work (the guards are known), repr of data, the row's end for such a law. -/
namespace EB
open PySem PySem.Spec PyProof.Rows L2 Evl
structure RoomG (k : Nat) (A : Around) : Prop where
  rm : Room k A
  gd : A.guards = some []
theorem RoomG.mono {j k : Nat} {A : Around} (h : RoomG k A) (q : j ≤ k) : RoomG j A := ⟨h.rm.mono q, h.gd⟩
structure FnG (P : Program) (w : World) (K : PySem.W.Frag) (mg : Str → Option Value) (base : Heap) (CX : CXT) (k : Nat) (f : Addr) (fd : FuncData) (ps : List Str) (sp : Sp) : Prop where
  len : ∀ vs H Q E, sp vs H Q E → vs.length = ps.length
  run : ∀ (A : Around) (outer : List Env) (s : Shared) (H : Hp) (args : Args) (us : List Value) (vs : List V) (Q : VK) (E : XK), RoomG k A → Env0 P w K mg base A outer s H → BindsTo s fd args (ps.zip us) → Vals vs us → sp vs H Q E →
    codeAny (model P w) A (.call (.ref f) args) (CR CX outer P w H s Q E) s
theorem fn_ofG {CX : CXT} {P : Program} {w : World} {K : PySem.W.Frag} {mg : Str → Option Value} {base : Heap} {k : Nat} {f : Addr} {nm ql : Str} {pr : Arguments} {bd : List Stmt} {sc : Scope} {dV kV doc pm cdv ct oc : Value} {an od : Option Addr}
    {osl : Array (Option Value)} {N ps : List Str} {sp : Sp} (at_ : K.lookup f = some ⟨oc, od, .func (PySem.W.fnOf nm ql pr bd sc dV kV doc pm an cdv ct), osl⟩) (cd : PySem.W.codeIn K cdv ql = true) (S : FnScope N ps sc) (len : ∀ vs H Q E, sp vs H Q E → vs.length = ps.length)
    (hb : ∀ (A : Around) (outer : List Env) (s : Shared) (H : Hp) (vs : List V) (Q : VK) (E : XK), RoomG k (A.deeper (envOfC ql sc s.heap.objs.size f cdv)) → sp vs H Q E →
      ∃ t, PSs (cxOf CX P w K mg base N ql sc f cdv A outer s H E) bd t ∧ t { nx := fun _ H' => Q .non H', rt := Q } (start N vs) H) : FnG P w K mg base CX (k + 1) f (PySem.W.fnOf nm ql pr bd sc dV kV doc pm an cdv ct) ps sp where
  len := len
  run := fun A outer s H args us vs Q E room env bind rv want => by
    have KS : K.In s.heap := env.mod.kin.keeps fun b o z => (env.bs b o z).1
    have nolim : s.heap.NoLimit := env.mod.nolimit.keeps fun b o z => (env.bs b o z).1
    have kinds : ∀ y ∈ ps.zip us, sc.names.lookup y.1 = some .local ∨ (sc.names.lookup y.1 = some .cell ∧ ((cellsFrom (s.heap.objs.size + 1) sc.names []).lookup y.1).isSome = true) := fun ⟨y, u⟩ hy =>
      (S.par y (List.of_mem_zip hy).1).elim .inl fun q => .inr ⟨q, PySem.W.cellsFrom_some _ _ _ (.inl q)⟩
    refine codeAny_call_function room.rm.depth (KS _ _ at_) rfl S.co S.gen rfl (PySem.W.codeRec_of KS cd) (bind _ _ _ _ (wpAny_newFunctionEnv_cells S.kind kinds fun ev hv s1 inn => ?_))
    subst hv
    refine ⟨nolim.keeps inn.toInCall.keep, codeAny_func ?_⟩
    obtain ⟨t, tp, tq⟩ := hb A outer s H vs Q E ⟨room.rm.deeper _, room.gd⟩ want
    have I0 : Inv (cxOf CX P w K mg base N ql sc f cdv A outer s H E) [] (start N vs) H s1 := inv_start S room.rm.hd env (len _ _ _ _ want) rv inn
    refine wpAny_mono (tp.run [] s1 (start N vs) H _ I0 tq) (fun fl s2 sp2 => ?_) fun _ _ z => z
    cases fl with
    | ret u => obtain ⟨v, σ2, H2, J, r2, q2⟩ := sp2; exact ⟨v, H2, J.os, J.bare, J.base, J.hok, r2, q2⟩
    | next => obtain ⟨σ2, H2, J, q2⟩ := sp2; exact ⟨V.non, H2, J.os, J.bare, J.base, J.hok, rfl, q2⟩
    | brk => exact sp2.elim fun _ z => z.elim fun _ z => z.2.elim
    | cont => exact sp2.elim fun _ z => z.elim fun _ z => z.2.elim
/-- a def of the text, that may raise -/
theorem okG {P : Program} {w : World} {K : PySem.W.Frag} {mg : Str → Option Value} {base : Heap} {CX : CXT} {x ql : Str} {st : Stmt} {f : Addr} {fd : FuncData} {N ps : List Str} {k : Nat} {sp : Sp} (F : Fun K x ql st f fd) (S : FnScope N ps (defScope st)) (len : ∀ vs H Q E, sp vs H Q E → vs.length = ps.length)
    (hb : ∀ (cdv : Value) (A : Around) (outer : List Env) (s : Shared) (H : Hp) (vs : List V) (Q : VK) (E : XK), RoomG k (A.deeper (envOfC ql (defScope st) s.heap.objs.size f cdv)) → sp vs H Q E →
      ∃ t, PSs (cxOf CX P w K mg base N ql (defScope st) f cdv A outer s H E) (defBody st) t ∧ t { nx := fun _ H' => Q .non H', rt := Q } (start N vs) H) : FnG P w K mg base CX (k + 1) f fd ps sp := by
  obtain ⟨oc, od, kV, doc, pm, an, cdv, ct, osl, e, at_, cd⟩ := F.ex
  rw [e] at at_ ⊢
  exact fn_ofG at_ cd S len fun A outer s H vs Q E room want => hb cdv A outer s H vs Q E room want
section
variable {X : Cx} {CX : CXT} {k : Nat} {f : Addr} {fd : FuncData} {ps : List Str} {sp : Sp} {E : L2.St → XK} {x : Str} {p pos : Pos} {e : Expr} {es : List Expr} {t : TA}
theorem run_fnG {pins : List (Addr × Obj)} {σ : L2.St} {H : Hp} {s : Shared} {Q : VK} {us : List Value} {vs : List V} (F : FnG X.prog X.w X.K X.mg X.base CX k f fd ps sp) (room : RoomG k X.A) (bd : Binds X.K fd ps []) (px : PassesAt CX X σ (E σ)) (I : Inv X pins σ H s) (rv : Vals vs us) (want : sp vs H Q (E σ)) : wpAny (model X.prog X.w) X.A (call (.ref f) us) (EP X pins σ Q) X.xe s := by
  have el : us.length = ps.length := rv.length.symm.trans (F.len _ _ _ _ want)
  have bnd : BindsTo s fd ⟨us, []⟩ (ps.zip us) := by
    have := bd s us I.kIn (by rw [List.append_nil, el])
    rwa [List.append_nil] at this
  refine wpAny_call (codeAny_mono (F.run X.A X.stack s H ⟨us, []⟩ us vs Q (E σ) room I.env0 bnd rv want) fun res s2 z => ?_)
  match res, z with
  | .error ev, z => exact px pins H s ev s2 I z
  | .ok (.ret u), z => exact I.after z
  | .ok .next, z => exact z.elim
  | .ok .brk, z => exact z.elim
  | .ok .cont, z => exact z.elim
/-- f(e, ..) of such a def -/
theorem pe_callSG (F : FnG X.prog X.w X.K X.mg X.base CX k f fd ps sp) (room : RoomG k X.A) (hg : Gl X x) (hm : X.mg x = some (.ref f)) (hk : PySem.W.keepIn X.K (.ref f) = true) (bd : Binds X.K fd ps []) (px : ∀ σ, PassesAt CX X σ (E σ))
    (ha : PA X (e :: es) t) (hdb : (x == ("__debug__" : Str)) = false := by decide) (he : starEach (e :: es) X.env = (false, eval e X.env) :: starEach es X.env := by rfl) (hpl : (backTo pos (starEach es X.env)).any (·.1) = false := by rfl) :
    PE X (.Call (.Name x p) (e :: es) [] pos) (tCallS sp E t) :=
  ⟨fun pins s σ H Q I want => wpAny_Call_Name_kw (ld_glob I hg hm (PySem.W.callWith_K (h₀ := X.base) I.ok.mod.kin hk (thn (ha.run pos pins s σ H _ I want) fun us s1 ⟨vs, H1, I1, rv, q⟩ => ⟨I1.kIn, run_fnG F room bd (px σ) I1 rv q⟩) he hpl) hdb)⟩
/-- repr of a list or a tuple, told as data -/
def rRepr (K : PySem.W.Frag) : List V → Hp → VK → Prop := fun xs H Q => ∃ (a : Addr) (d : PyData), xs = [.ref a] ∧ Dp K H (.ref a) d ∧ d.showable = true ∧ d.hasDict = false ∧ d.depth ≤ 60 ∧ d.shown.length ≤ sizeLine ∧ Q (.str d.shown) H
theorem cr_repr (room : RoomG k X.A) : CallR X (.builtin "repr") (rRepr X.K) := by
  intro pins s σ H xs us Q I rv want
  obtain ⟨a, d, rfl, hd, sh, nd, dp, sz, q⟩ := want
  obtain rfl := Vals.ref1 rv
  obtain ⟨as, rd⟩ := Dp.reads I d (.ref a) (.ref a) hd rfl
  have un := room.rm.un
  exact repr_of_reads' rd sh (fun z => by rw [nd] at z; cases z) room.gd (by omega) (fun b o z => z) (fun h' u tk kept => ⟨.str d.shown, H, I.kept (t' := tk) kept, ⟨_, rfl⟩, q⟩) sz
end
section
variable {K : PySem.W.Frag} {M : EC → Addr} {W : WX} {ps : Kn} {te : TE}
theorem je_repr {d : PyData} (h : JD K M W te ps d) (hr : (∃ ds, d = .list ds) ∨ ∃ ds, d = .tuple ds) (sh : d.showable = true) (nd : d.hasDict = false) (dp : d.depth ≤ 60) (sz : d.shown.length ≤ sizeLine) : JD K M W (tCB (rRepr K) (tCons te tNil)) ps (.str d.shown) := je_cb (ja_cons h ja_nil) fun vs F H fh b Q k => by
  obtain ⟨v, rfl, p⟩ := allP1 b
  have p2 := dp_mono fh p
  rcases hr with ⟨ds, rfl⟩ | ⟨ds, rfl⟩
  · obtain ⟨a, xs, rfl, _, _⟩ := dp_lst p2
    exact ⟨a, _, rfl, p2, sh, nd, dp, sz, k _ F H (Gr.refl fh) (.str _)⟩
  · obtain ⟨a, xs, rfl, _, _⟩ := dp_tup p2
    exact ⟨a, _, rfl, p2, sh, nd, dp, sz, k _ F H (Gr.refl fh) (.str _)⟩
end
end EB

/-! EB20: the end of a law's row for a law whose defs want the guards known. -/
namespace EB
open PySem PySem.Spec PyProof.Rows L2 Evl
theorem law_callG {P : Program} {w : World} {K : PySem.W.Frag} {mg mb : Str → Option Value} {CX : CXT} {k : Nat} {fa a : Addr} {fd : FuncData} {x : Str} {sp : Sp} {t : Shared} {us : List Value} {ns : List Int}
    (kin : K.In t.heap) (nsM : t.heap.Ns mainGlobals mg) (nsB : t.heap.Ns builtinsNs mb) (same : ∀ y : Str, y ≠ "__name__" → mb y = bootBuiltins y) (nol : t.heap.NoLimit) (nog : t.gens = #[])
    (scr : t.heap.get? a = some { cls := .type "list", data := .seq us.toArray }) (isI : IntsAre us ns) (sz : ns.length ≤ sizeLine) (room : Room k callerA) (F : ∀ base : Heap, K.In base → base.Ns mainGlobals mg → FnG P w K mg base CX k fa fd [x] sp)
    (bd : ∀ (s : Shared) (u : Value), BindsTo s fd ⟨[u], []⟩ [(x, u)]) (want : ∀ H : Hp, Only H → SqL K H a (ns.map V.int) → sp [.ref a] H (fun v _ => v = .bl true) fun _ _ _ => False) (noE : ∀ H e s', CX [] H t (fun _ _ _ => False) e s' → False) :
    codeAny (model P w) callerA (.call (.ref fa) ⟨[.ref a], []⟩) (fun r s' => r = .ok (.ret (.bool true)) ∧ OldK t.heap s'.heap ∧ s'.os = t.os ∧ AllBare s'.gens) t := by
  have rel := vals_ints isI
  have lenU := isI.length
  have main : ∀ H : Hp, Only H → SqL K H a (ns.map V.int) → HOk P w H t.heap → (∀ b, H b ≠ none → b = a) → (H a ≠ none → K.lookup a = none) → codeAny (model P w) callerA (.call (.ref fa) ⟨[.ref a], []⟩) (fun r s' => r = .ok (.ret (.bool true)) ∧ OldK t.heap s'.heap ∧ s'.os = t.os ∧ AllBare s'.gens) t := by
    intro H only sq ok one off
    have isA : ∀ {b : Addr} {u : HO}, H b = some u → b = a := fun {b u} z => one b (by rw [z]; exact fun y => nomatch y)
    have low : ∀ {b : Addr} {o : Obj}, t.heap.get? b = some o → H b = none → (hidT t.heap H).get? b = some o := fun z n => hidT_get z n
    have nsLow : ∀ {b : Addr} {m : Str → Option Value}, t.heap.Ns b m → (hidT t.heap H).Ns b m := fun {b m} ⟨o, es, ep, z, dd, r⟩ => ⟨o, es, ep, low z (by
      cases q : H b with
      | none => rfl
      | some u =>
        rw [isA q, scr] at z
        cases z
        have dd2 : Data.seq us.toArray _ = Data.dict es ep := dd
        cases dd2), dd, r⟩
    have kLow : K.In (hidT t.heap H) := fun b o z => low (kin b o z) (by
      cases q : H b with
      | none => rfl
      | some u =>
        have zb := isA q
        rw [zb] at z q
        rw [off (by rw [q]; exact fun y => nomatch y)] at z
        cases z)
    obtain ⟨mc, l1, l2⟩ := nol
    have env : Env0 P w K mg (hidT t.heap H) callerA [] t H := ⟨rfl, ⟨kLow, nsLow nsM, ⟨mb, nsLow nsB, same⟩, ⟨mc, nsLow l1, l2⟩⟩, fun b o z => of_hidT z, Nat.le_of_eq (hidT_size _ _), trivial, fun b z => absurd (show b ∈ ([] : List Addr) from z) (by simp), ok, .of_eq nog⟩
    refine codeAny_mono ((F _ kLow (nsLow nsM)).run callerA [] t H ⟨[.ref a], []⟩ [.ref a] [.ref a] _ _ ⟨room, rfl⟩ env (bd t (.ref a)) (.cons rfl .nil) (want H only sq)) fun res s2 z => ?_
    match res, z with
    | .error e, z => exact (noE H e s2 z).elim
    | .ok .next, z => exact z.elim
    | .ok .brk, z => exact z.elim
    | .ok .cont, z => exact z.elim
    | .ok (.ret u), z =>
      obtain ⟨v, H2, os, bare, un, ok2, rv, e⟩ := z
      have e2 : v = .bl true := e
      subst e2
      obtain rfl : u = Value.bool true := rv
      refine ⟨rfl, OldK.of_keep fun b o z => ?_, os, bare⟩
      cases q : H b with
      | none => exact un.keep b o z q (fun y => by have y2 : b ∈ ([] : List Addr) := y; simp at y2) (by simp)
      | some u2 =>
        rcases only b with y | ⟨ob, xs, y⟩
        · rw [q] at y; cases y
        · have z1 := (ok b _ y).1
          rw [z] at z1
          cases z1
          exact (ok2 b _ (un.frzs b _ _ y)).1
  cases look : K.lookup a with
  | some o =>
    have z := kin a o look
    rw [scr] at z
    cases z
    exact main (fun _ => none) (fun _ => .inl rfl) (.inr ⟨_, us.toArray, _, look, rfl, rfl, rfl, by rw [List.size_toArray, lenU]; exact sz, by simpa using rel⟩) (fun b u y => by have y2 : (none : Option HO) = some u := y; cases y2) (fun b y => (y rfl).elim) fun y => (y rfl).elim
  | none =>
    let H0 : Hp := fun b => if b = a then some (.frz { cls := .type "list", data := .seq us.toArray } (.lst (ns.map V.int))) else none
    have h0 : H0 a = some (.frz { cls := .type "list", data := .seq us.toArray } (.lst (ns.map V.int))) := if_pos rfl
    have h1 : ∀ b, b ≠ a → H0 b = none := fun b y => if_neg y
    refine main H0 (fun b => ?_) (.inl (.inr ⟨_, h0⟩)) (fun b u y => ?_) (fun b y => ?_) fun _ => look
    · by_cases z : b = a
      · subst z; exact .inr ⟨_, _, h0⟩
      · exact .inl (h1 b z)
    · by_cases z : b = a
      · subst z
        rw [h0] at y
        cases y
        exact ⟨scr, by rw [List.length_map]; exact sz, us, _, rel, scr⟩
      · rw [h1 b z] at y; cases y
    · by_cases z : b = a
      · exact z
      · exact (y (h1 b z)).elim
theorem walk_ofG {l : PySem.W.OpenLaw} {n k : Nat} {q : Program} {loose : List Str} {XP : (Str → Option Value) → Heap → Prop} {YP : World → Heap → Prop} {d : DefRec} {K : Params → PySem.W.Frag} {CX : CXT} {sp : PySem.W.Frag → Sp} {x : Str}
    (hn : l.most = some n) (hn2 : n ≤ sizeLine) (hdf : d.params.defaults = []) (hr : Room k callerA) (hY : ∀ (w : World) (h : Heap), YP w h → (K w.params).In h)
    (F : ∀ (w : World) (mg : Str → Option Value) (fa : Addr) (h : Heap), (K w.params).In h → h.Ns mainGlobals mg → XP mg h → mg d.name = some (.ref fa) →
      ∃ fd : FuncData, (∀ (s : Shared) (u : Value), BindsTo s fd ⟨[u], []⟩ [(x, u)]) ∧ ∀ base : Heap, (K w.params).In base → base.Ns mainGlobals mg → FnG l.prog w (K w.params) mg base CX k fa fd [x] (sp (K w.params)))
    (hsp : ∀ (K : PySem.W.Frag) (H : Hp) (a : Addr) (ns : List Int), ns.length ≤ n → Only H → SqL K H a (ns.map V.int) → sp K [.ref a] H (fun v _ => v = .bl true) fun _ _ _ => False)
    (hCX : ∀ (H : Hp) (s : Shared) (e : Value) (t : Shared), CX [] H s (fun _ _ _ => False) e t → False) : PySem.W.WalkO q loose XP YP l.row.toRowW d [] (fun f vs => PySem.call f vs) := by
  refine Att.attach_call hn hdf fun w t0 t1 mg mb fa o pm cd doc a us ns G Y ho hd hcd hmg scr isI hlen nog => ?_
  have kin := hY w _ Y
  obtain ⟨fd, bd, FF⟩ := F w mg fa _ kin G.T.g G.X hmg
  exact law_callG kin G.T.g G.T.b G.T.builtins G.T.nolimit nog scr isI (Nat.le_trans hlen hn2) hr FF bd (fun H only sq => hsp (K w.params) H a ns hlen only sq) fun H e t => hCX H t1 e t
end EB

/-! EB21: a dict comprehension with two for's. One lemma walks a clause, whichever of the two; it is used inside itself. -/
namespace EB
open PySem PySem.Spec PyProof.Rows L2 Evl
/-- what a turn has left to do where its tests said yes: the inner clause (at 0), or the entry's store -/
def Left (Y : Cx) (kx vx t0 i0 t1 i1 : Expr) (f0 f1 : List Expr) (scope : Scope) (pos : Pos) (D : Addr) : Nat → (Shared → Prop) → Shared → Prop
  | 0, N, s => wpAny (model Y.prog Y.w) Y.A (eval i1 Y.env) (fun x s1 => wpAny (model Y.prog Y.w) Y.A (pyIter x) (fun y s2 =>
      codeAny (model Y.prog Y.w) Y.A (.compStart (.DictComp kx vx [⟨t0, i0, f0, 0⟩, ⟨t1, i1, f1, 0⟩] scope pos) 1 y (.ref D) Y.env) (fun r s3 => (∃ f, r = .ok f) ∧ N s3) s2) (fun _ _ => False) s1) (fun _ _ => False) s
  | _ + 1, N, s => wpAny (model Y.prog Y.w) Y.A (eval kx Y.env) (fun u s1 => wpAny (model Y.prog Y.w) Y.A (eval vx Y.env) (fun v s2 => wpAny (model Y.prog Y.w) Y.A (dictSet D u v) (fun _ s3 => N s3) (fun _ _ => False) s2) (fun _ _ => False) s1) (fun _ _ => False) s
theorem lap {Y : Cx} {fp : List Addr} {it D : Addr} {tn : Nat → Heap → Prop} {J : It} {g : TG} {tt : TT} {kx vx t0 i0 t1 i1 t : Expr} {f0 f1 f : List Expr} {scope : Scope} {pos : Pos} {j : Nat} {R : Result → Shared → Prop} {pins : List (Addr × Obj)} {σ : L2.St} {vs : List Nat} {H : Hp} {s : Shared}
    {W : Nat → Nat → Hp → Prop} {B : (Hp → Prop) → L2.St → Hp → Prop} {Dn : Hp → Prop}
    (hj : (j = 0 ∧ t = t0 ∧ f = f0) ∨ (j = 1 ∧ t = t1 ∧ f = f1)) (hx : Y.xe = fun _ _ => False) (hc : Y.calm = true) (hs1 : ∀ x, foldedSetIterable i1 Y.env x = pure x)
    (T : Turn Y.prog Y.w Y.K t J fp it tn) (pg : PG Y t g) (pt : PTs Y f tt)
    (st : ∀ {σ' : L2.St} {H' : Hp} {s' : Shared}, Inv Y pins σ' H' s' → (∀ b ∈ fp, H' b = none) → ∀ b ∈ fp, FpOk Y pins H' b)
    (I : Inv Y pins σ H s) (h0 : tn 0 s.heap) (nf : ∀ b ∈ fp, H b = none) (w0 : ∃ m, W 0 m H)
    (turn : ∀ i m H, W i m H → (J.stop i H ∧ Dn H) ∨ (J.go i H ∧ ∃ Nx : Hp → Prop, (∀ H', Nx H' → ∃ m', m' < m ∧ W (i + 1) m' H') ∧ ∀ x H', J.yld i H x H' → g x σ H' fun σ2 H2 => wipe σ2 vs = σ ∧ tt σ2 H2 fun b H3 => if b = true then B Nx σ2 H3 else Nx H3))
    (out : ∀ H' s', Inv Y pins σ H' s' → Dn H' → R (.ok .next) s')
    (rest : ∀ (Nx : Hp → Prop) pl σ2 H3 s3, wipe σ2 vs = σ → Inv Y (pins ++ pl) σ2 H3 s3 → B Nx σ2 H3 →
      Left Y kx vx t0 i0 t1 i1 f0 f1 scope pos D j (fun s' => ∃ σ3 H', Inv Y (pins ++ pl) σ3 H' s' ∧ wipe σ3 vs = σ ∧ Nx H') s3) :
    codeAny (model Y.prog Y.w) Y.A (.compLoop (.DictComp kx vx [⟨t0, i0, f0, 0⟩, ⟨t1, i1, f1, 0⟩] scope pos) j (.ref it) (.ref D) Y.env) R s := by
  obtain ⟨m0, w0⟩ := w0
  refine codeAny_loop rfl (fun n s' => ∃ i H', Inv Y pins σ H' s' ∧ tn i s'.heap ∧ (∀ b ∈ fp, H' b = none) ∧ W i n H') (fun n s5 hI => ?_) m0 ⟨0, H, I, h0, nf, w0⟩
  obtain ⟨i, H5, I5, t5, n5, w5⟩ := hI
  show wpAny _ Y.A ((compTurn (.DictComp kx vx [⟨t0, i0, f0, 0⟩, ⟨t1, i1, f1, 0⟩] scope pos) j (.ref it) (.ref D) Y.env).onRaise _) _ _ s5
  refine wpAny_noted ?_
  -- the turn's end: the walk goes on from the slots it began with
  have on : ∀ {pl : List (Addr × Obj)} {σ3 : L2.St} {H' : Hp} {s' s7 : Shared} {Nx : Hp → Prop}, pl = pinsAt fp s7.heap → tn (i + 1) s7.heap → (∀ H', Nx H' → ∃ m', m' < n ∧ W (i + 1) m' H') → Inv Y (pins ++ pl) σ3 H' s' → wipe σ3 vs = σ → Nx H' → ∃ m, m < n ∧ ∃ i H', Inv Y pins σ H' s' ∧ tn i s'.heap ∧ (∀ b ∈ fp, H' b = none) ∧ W i m H' := by
    intro pl σ3 H' s' s7 Nx hp ht hN I' hw nx
    obtain ⟨m', lt, w'⟩ := hN H' nx
    have held : ∀ b ∈ fp, ∀ o, s7.heap.get? b = some o → s'.heap.get? b = some o ∧ H' b = none := fun b hb o e => by
      have z := I'.pin (b, o) (List.mem_append_right _ (List.mem_append_right _ (by rw [hp]; exact mem_pinsAt hb e)))
      exact ⟨z.1, z.2.1⟩
    refine ⟨m', lt, i + 1, H', I'.unpinned.weak (by rw [← hw, wipe_length]) (fun k v e => by rw [← hw] at e; exact (wipe_some e).1), T.keep _ _ _ ht fun b hb o e => (held b hb o e).1, fun b hb => ?_, w'⟩
    obtain ⟨o, e, _⟩ := T.obj _ _ ht b hb
    exact (held b hb o e).2
  unfold compTurn
  rcases hj with ⟨rfl, rfl, rfl⟩ | ⟨rfl, rfl, rfl⟩
  all_goals
    refine wpAny_bind (wpAny_standAt (wpAny_bind ?_))
    rcases turn i n H5 w5 with ⟨stop, dn⟩ | ⟨go, Nx, hN, step⟩
    · refine thnF (T.done Y rfl rfl rfl hc i pins s5 σ H5 (fun _ _ => False) I5 (st I5 n5) t5 stop) fun r s6 ⟨hr, I6⟩ => ?_
      subst hr
      exact wpAny_pure (out H5 s6 I6 dn)
    refine thnF (T.item Y rfl rfl rfl hc i pins s5 σ H5 (fun _ _ => False) I5 (st I5 n5) t5 go) fun r s6 ⟨u, hr, h6⟩ => ?_
    subst hr
    refine wpAny_bind (thnF h6 fun _ s7 ⟨x, H7, I7, r7, y7, t7, n7⟩ => ?_)
    have Ip := I7.pinned (st I7 n7) (T.obj _ _ t7)
    have pgr := pg.run _ s7 σ H7 x u _ Ip r7 (step x H7 y7)
    rw [hx] at pgr
    refine wpAny_bind (thnF pgr fun _ s8 ⟨σ8, H8, I8, hw, q8⟩ => ?_)
    have ptr := pt.run _ s8 σ8 H8 _ I8 q8
    rw [hx] at ptr
    refine wpAny_bind (thnF ptr fun b s9 ⟨H9, I9, q9⟩ => ?_)
    cases b with
    | false => exact wpAny_pure ⟨rfl, on rfl t7 hN I9 hw q9⟩
    | true =>
      have l := rest Nx _ σ8 H9 s9 hw I9 q9
      first
        | (refine wpAny_bind (thnF l fun x s10 l1 => wpAny_bind (wpAny_standAt (wpAny_bind (wpAny_of_eq (hs1 x) (wpAny_bind (wpAny_holding (thnF l1 fun y s11 l2 => wpAny_bind (wpAny_runOwn ?_))))))))
           rw [Around.mark_none]
           refine codeAny_mono l2 fun r s12 ⟨⟨fl, hr⟩, σ3, H', I3, hw3, nx⟩ => ?_
           subst hr
           exact wpAny_pure ⟨rfl, on rfl t7 hN I3 hw3 nx⟩)
        | exact wpAny_bind (wpAny_bind (thnF l fun kv s10 l1 => wpAny_bind (wpAny_holding (thnF l1 fun vv s11 l2 => wpAny_bind (wpAny_standAt (wpAny_holding (thnF l2 fun _ s12 ⟨σ3, H', I3, hw3, nx⟩ => wpAny_pure ⟨rfl, on rfl t7 hN I3 hw3 nx⟩)))))))
theorem wipe_two {σ : L2.St} {vs ws : List Nat} (h : ∀ i ∈ ws, i ∈ vs) : wipe (wipe σ ws) vs = wipe σ vs := by
  refine List.ext_getElem? fun i => ?_
  by_cases hi : i ∈ vs
  · by_cases hl : i < σ.length
    · rw [wipe_in hi (by rw [wipe_length]; exact hl), wipe_in hi hl]
    · rw [List.getElem?_eq_none (by rw [wipe_length, wipe_length]; omega), List.getElem?_eq_none (by rw [wipe_length]; omega)]
  · rw [wipe_out hi, wipe_out hi, wipe_out fun z => hi (h i z)]
/-- the inner clause begins: its iterator is asked once more for itself, or is not -/
theorem inner_begins {prog : Program} {w : World} {A : Around} {R : Result → Shared → Prop} {s : Shared} {kx vx : Expr} {c0 c1 : Comprehension} {scope : Scope} {pos : Pos} {it acc : Value} {env : Env} (h1 : c1.is_async = 0)
    (a : codeAny (model prog w) A (.compLoop (.DictComp kx vx [c0, c1] scope pos) 1 it acc env) R s)
    (b : wpAny (model prog w) A (pyIter it) (fun y s' => codeAny (model prog w) A (.compLoop (.DictComp kx vx [c0, c1] scope pos) 1 y acc env) R s') (fun _ _ => False) s) :
    codeAny (model prog w) A (.compStart (.DictComp kx vx [c0, c1] scope pos) 1 it acc env) R s := by
  refine codeAny_of_tree ?_
  show wpAny _ _ ((compStart (.DictComp kx vx [c0, c1] scope pos) 1 it acc env).onRaise _) _ _ s
  refine wpAny_notedAt ?_
  obtain ⟨t1, i1, f1, n1⟩ := c1
  obtain rfl : n1 = 0 := h1
  unfold compStart
  show wpAny _ _ (ask >>= _) _ _ s
  refine wpAny_bind (wpAny_askSetting (wpAny_ite ?_))
  split
  · first
      | exact wpAny_bind (wpAny_pure (wpAny_pure ⟨rfl, a⟩))
      | exact wpAny_pure ⟨rfl, a⟩
  · refine wpAny_bind (wpAny_rule ?_)
    first
      | exact wpAny_bind (wpAny_standAt (wpAny_bind (thnF b fun y s' h => wpAny_pure ⟨rfl, h⟩)))
      | (show wpAny _ _ (standAt i1.pos >>= _) _ _ s; exact wpAny_bind (wpAny_standAt (wpAny_bind (thnF b fun y s' h => wpAny_pure ⟨rfl, h⟩))))
/-- {key: value for .. in .. if .. for .. in .. if ..}: the outer walk, in each of its turns the inner one; D is the dict -/
def walkIn (wi1 : TI) (g1 : TG) (tt1 : TT) (tk tv : TE) (ws : List Nat) (D : Addr) (Nx : Hp → Prop) (σ : L2.St) (H : Hp) : Prop :=
  wi1 σ H fun J H1 => ∃ W : Nat → Nat → Hp → Prop, (∃ m, W 0 m H1) ∧ ∀ j m H, W j m H → (J.stop j H ∧ Nx H) ∨ (J.go j H ∧ ∃ Ny : Hp → Prop, (∀ H', Ny H' → ∃ m', m' < m ∧ W (j + 1) m' H') ∧
    ∀ x H', J.yld j H x H' → g1 x (wipe σ ws) H' fun σ2 H2 => wipe σ2 ws = wipe σ ws ∧ tt1 σ2 H2 fun b H3 =>
      if b = true then tk σ2 H3 fun y H4 => tv σ2 H4 fun z H5 => ∃ kvs k, y = kV k ∧ H5 D = some (.dK kvs) ∧ kvs.length < sizeLine ∧ Ny (upd H5 D (.dK (putK kvs k z))) else Ny H3)
def tDc2 (wi : TI) (g : TG) (tt : TT) (wi1 : TI) (g1 : TG) (tt1 : TT) (tk tv : TE) (vs ws : List Nat) : TE := fun σ H Q =>
  wi σ H fun J H1 => ∀ D, H1 D = none → ∃ W : Nat → Nat → Hp → Prop, (∃ m, W 0 m (upd H1 D (.dK []))) ∧ ∀ i m H, W i m H → (J.stop i H ∧ Q (.ref D) H) ∨ (J.go i H ∧ ∃ Nx : Hp → Prop, (∀ H', Nx H' → ∃ m', m' < m ∧ W (i + 1) m' H') ∧
    ∀ x H', J.yld i H x H' → g x (wipe σ vs) H' fun σ2 H2 => wipe σ2 vs = wipe σ vs ∧ tt σ2 H2 fun b H3 => if b = true then walkIn wi1 g1 tt1 tk tv ws D Nx σ2 H3 else Nx H3)
/-- both clauses, in the block's own context -/
theorem laps {Y : Cx} {fp : List Addr} {it D : Addr} {tn : Nat → Heap → Prop} {J : It} {wi1 : TI} {g g1 : TG} {tt tt1 : TT} {tk tv : TE} {kx vx t0 i0 t1 i1 : Expr} {f0 f1 : List Expr} {scope : Scope} {pos : Pos} {R : Result → Shared → Prop} {σ : L2.St} {vs ws : List Nat} {H : Hp} {s : Shared} {W : Nat → Nat → Hp → Prop} {Dn : Hp → Prop}
    (hx : Y.xe = fun _ _ => False) (hc : Y.calm = true) (hs1 : ∀ x, foldedSetIterable i1 Y.env x = pure x) (hw : ∀ i ∈ ws, i ∈ vs)
    (T : Turn Y.prog Y.w Y.K t0 J fp it tn) (pg : PG Y t0 g) (pt : PTs Y f0 tt) (pi : PI Y t1 i1 wi1) (pg1 : PG Y t1 g1) (pt1 : PTs Y f1 tt1) (pk : PE Y kx tk) (pv : PE Y vx tv)
    (st : ∀ {σ' : L2.St} {H' : Hp} {s' : Shared}, Inv Y [] σ' H' s' → (∀ b ∈ fp, H' b = none) → ∀ b ∈ fp, FpOk Y [] H' b)
    (I : Inv Y [] (wipe σ vs) H s) (h0 : tn 0 s.heap) (nf : ∀ b ∈ fp, H b = none) (w0 : ∃ m, W 0 m H)
    (turn : ∀ i m H, W i m H → (J.stop i H ∧ Dn H) ∨ (J.go i H ∧ ∃ Nx : Hp → Prop, (∀ H', Nx H' → ∃ m', m' < m ∧ W (i + 1) m' H') ∧ ∀ x H', J.yld i H x H' → g x (wipe σ vs) H' fun σ2 H2 => wipe σ2 vs = wipe σ vs ∧ tt σ2 H2 fun b H3 => if b = true then walkIn wi1 g1 tt1 tk tv ws D Nx σ2 H3 else Nx H3))
    (out : ∀ H' s', Inv Y [] (wipe σ vs) H' s' → Dn H' → R (.ok .next) s') :
    codeAny (model Y.prog Y.w) Y.A (.compLoop (.DictComp kx vx [⟨t0, i0, f0, 0⟩, ⟨t1, i1, f1, 0⟩] scope pos) 0 (.ref it) (.ref D) Y.env) R s := by
  refine lap (B := fun Nx σ2 H3 => walkIn wi1 g1 tt1 tk tv ws D Nx σ2 H3) (.inl ⟨rfl, rfl, rfl⟩) hx hc hs1 T pg pt st I h0 nf w0 turn out ?_
  intro Nx pl σ2 H3 s3 e2 I3 hb
  have r := pi.run _ s3 σ2 H3 _ I3 hb
  rw [hx] at r
  refine thnF r fun x s4 h4 => thnF h4 fun y s5 ⟨it1, fp1, tn1, J1, H5, e, I5, T1, z5, f5, W1, w1, turn1⟩ => ?_
  subst e
  have go : codeAny (model Y.prog Y.w) Y.A (.compLoop (.DictComp kx vx [⟨t0, i0, f0, 0⟩, ⟨t1, i1, f1, 0⟩] scope pos) 1 (.ref it1) (.ref D) Y.env) (fun r s3 => (∃ f, r = .ok f) ∧ ∃ σ3 H', Inv Y ([] ++ pl) σ3 H' s3 ∧ wipe σ3 vs = wipe σ vs ∧ Nx H') s5 := by
    refine lap (vs := ws) (B := fun Ny σ4 H4 => tk σ4 H4 fun y H6 => tv σ4 H6 fun z H7 => ∃ kvs k, y = kV k ∧ H7 D = some (.dK kvs) ∧ kvs.length < sizeLine ∧ Ny (upd H7 D (.dK (putK kvs k z)))) (.inr ⟨rfl, rfl, rfl⟩) hx hc hs1 T1 pg1 pt1
      (fun _ hn b hb => ⟨hn b hb, (f5 b hb).2⟩) (I5.weak (wipe_length _ _) fun j v e => (wipe_some e).1) z5 (fun b hb => (f5 b hb).1) w1 turn1
      (fun H' s' I' nx => ⟨⟨_, rfl⟩, wipe σ2 ws, H', I', (wipe_two hw).trans e2, nx⟩) ?_
    intro Ny pm σ4 H4 s6 e4 I6 q6
    have rk := pk.run _ s6 σ4 H4 _ I6 q6
    rw [hx] at rk
    refine thnF rk fun u s7 ⟨yk, H7, I7, r7, q7⟩ => ?_
    have rv := pv.run _ s7 σ4 H7 _ I7 q7
    rw [hx] at rv
    refine thnF rv fun v s8 ⟨yv, H8, I8, r8, kvs, k, ek, hD, hz, ny⟩ => ?_
    subst ek
    exact d_dictSet I8 hD hz r7 r8 fun s9 I9 => ⟨σ4, _, I9, e4, ny⟩
  exact inner_begins rfl go (T1.self Y.A 0 _ _ _ z5 go)
theorem pe_dc2 {X : Cx} {kx vx t0 i0 t1 i1 : Expr} {f0 f1 : List Expr} {scope : Scope} {own : List (Str × Nat)} {ws : List Nat} {pos : Pos} {wi wi1 : TI} {g g1 : TG} {tt tt1 : TT} {tk tv : TE} (hc : X.calm = true) (hN : X.N.Nodup) (hi : PI X t0 i0 wi) (ok : BlkOk X.N X.env.scope scope own) (hv : ∀ i ∈ ws, i ∈ own.map (·.2))
    (hg : ∀ (s : Shared) (H : Hp) (C : Addr) (cl : List (Str × Addr)) (fp : List Addr), PG (X.blk s H scope (compEnvC scope cl C X.env) fp) t0 g)
    (ht : ∀ (s : Shared) (H : Hp) (C : Addr) (cl : List (Str × Addr)) (fp : List Addr), PTs (X.blk s H scope (compEnvC scope cl C X.env) fp) f0 tt)
    (hi1 : ∀ (s : Shared) (H : Hp) (C : Addr) (cl : List (Str × Addr)) (fp : List Addr), PI (X.blk s H scope (compEnvC scope cl C X.env) fp) t1 i1 wi1)
    (hg1 : ∀ (s : Shared) (H : Hp) (C : Addr) (cl : List (Str × Addr)) (fp : List Addr), PG (X.blk s H scope (compEnvC scope cl C X.env) fp) t1 g1)
    (ht1 : ∀ (s : Shared) (H : Hp) (C : Addr) (cl : List (Str × Addr)) (fp : List Addr), PTs (X.blk s H scope (compEnvC scope cl C X.env) fp) f1 tt1)
    (hk : ∀ (s : Shared) (H : Hp) (C : Addr) (cl : List (Str × Addr)) (fp : List Addr), PE (X.blk s H scope (compEnvC scope cl C X.env) fp) kx tk)
    (he : ∀ (s : Shared) (H : Hp) (C : Addr) (cl : List (Str × Addr)) (fp : List Addr), PE (X.blk s H scope (compEnvC scope cl C X.env) fp) vx tv)
    (hs : ∀ x, foldedSetIterable i0 X.env x = pure x := by intro _; rfl) (hs1 : ∀ env x, foldedSetIterable i1 env x = pure x := by intro _ _; rfl) :
    PE X (.DictComp kx vx [⟨t0, i0, f0, 0⟩, ⟨t1, i1, f1, 0⟩] scope pos) (tDc2 wi g tt wi1 g1 tt1 tk tv (own.map (·.2)) ws) := by
  refine ⟨fun pins s σ H Q I h => ?_⟩
  rw [arm_eval_DictComp]
  have hfree : ∀ y ∈ scope.names, y.2 = .free → ∃ c, X.env.cells.lookup y.1 = some c := fun y hy e => (ok.free y hy e).elim (fun k => I.ok.has _ (.inl k)) fun k => I.ok.has _ (.inr k)
  refine wpAny_comprehension_free (use := none) rfl hs (closure_ok hfree) ok.kind (fun y hy e => by rw [ok.uniq y hy, e]) (thn (hi.run pins s σ H _ I h) fun xv s1 hx => thn hx fun itv s2 h2 => ?_)
  obtain ⟨it, fp, tn, J, H2, e, I2, T, st2, f2, q⟩ := h2
  subst e
  refine wpAny_newObj_type (newEnv_comp ?_)
  generalize hD : s2.heap.objs.size = D
  have hDn : H2 D = none := I2.hok.fresh (Nat.le_of_eq hD)
  obtain ⟨W, w0, turn⟩ := q D hDn
  generalize hs3 : ({ s2 with heap := s2.heap.push { cls := .type "dict", data := .dict #[] } } : Shared) = s3
  have h3 : s3.heap = s2.heap.push { cls := .type "dict", data := .dict #[] } := by rw [← hs3]
  have I3 : Inv X pins σ (upd H2 D (.dK [])) s3 := by
    rw [← hs3]
    exact I2.laid (t' := s2.toks) (fun b o e => Heap.get?_push_of_some _ e) (Nat.le_of_eq hD) (by rw [← hD]; exact dk_empty s2.heap I2.big)
  have f3 : ∀ b ∈ fp, FpOk X pins (upd H2 D (.dK [])) b ∧ b < s3.heap.objs.size := fun b hb => by
    obtain ⟨o, e, _⟩ := T.obj _ _ st2 b hb
    have lt : b < s2.heap.objs.size := Heap.lt_size e
    exact ⟨⟨by rw [upd_ne (by rw [← hD]; exact Nat.ne_of_lt lt)]; exact (f2 b hb).1, (f2 b hb).2⟩, by rw [h3, Heap.size_push]; exact Nat.lt_succ_of_lt lt⟩
  have I4 := block_start I3 ok hN f3
  generalize hL : s3.heap.objs.size = L at I4
  generalize hcl : cellsFrom (L + 1) scope.names (cloFrom X.env.cells scope.names []) = cl at I4
  have nfp : ∀ b ∈ fp, (upd H2 D (.dK [])) b = none := fun b hb => (f3 b hb).1.1
  have st4 : tn 0 (pushCells (s3.heap.push { cls := .type "dict", data := .dict #[] }) scope.names) := T.keep _ _ _ st2 fun b _ o e => pushCells_keeps _ _ _ _ (Heap.get?_push_of_some _ (by rw [h3]; exact Heap.get?_push_of_some _ e))
  have own' : ∀ {σ' : L2.St} {H' : Hp} {s' : Shared}, Inv (X.blk s3 (upd H2 D (.dK [])) scope (compEnvC scope cl L X.env) fp) [] σ' H' s' → (∀ b ∈ fp, H' b = none) → ∀ b ∈ fp, FpOk (X.blk s3 (upd H2 D (.dK [])) scope (compEnvC scope cl L X.env) fp) [] H' b := fun I' hn b hb =>
    ⟨hn b hb, (I'.ok.exf b hb).1, I'.ok.exfs b hb, .inl hb, fun x c e => (I'.ok.exf b hb).2 x c e, fun p hp => absurd (show p ∈ ([] : List (Addr × Obj)) ++ [] from hp) (by simp)⟩
  have go := laps (Y := X.blk s3 (upd H2 D (.dK [])) scope (compEnvC scope cl L X.env) fp) (kx := kx) (vx := vx) (i0 := i0) (scope := scope) (pos := pos) (D := D) (R := compPost (model X.prog X.w) X.A X.xe none (EP X pins σ Q) (.ref D) L) (Dn := Q (.ref D)) rfl hc (hs1 _) hv T (hg _ _ _ _ _) (ht _ _ _ _ _) (hi1 _ _ _ _ _) (hg1 _ _ _ _ _) (ht1 _ _ _ _ _) (hk _ _ _ _ _) (he _ _ _ _ _) own' I4 st4 nfp w0 turn (fun H' s' I6 q => by
    have I7 : Inv X pins σ H' s' := I3.call' (ch := fp) I6.os I6.base I6.hok I6.bare fun b hb => let z := (f3 b hb).1; ⟨z.2.2.2.1, z.2.1, z.2.2.2.2.1, z.2.2.2.2.2⟩
    obtain ⟨m, hn, _⟩ := I6.loc
    obtain ⟨f0, f1, _, f3', f4, _⟩ := I3.fpOk (b := L) (Nat.le_of_eq hL) (show H' L = none from I6.free)
    exact ⟨m, hn, fun h'' sb => ⟨.ref D, H', I7.turned (t' := s'.toks) (fun b o hb e => (sb.2 b hb).trans e) f0 f1 f3' f4 (by assumption), rfl, q⟩⟩)
  exact codeAny_compStart_dict go (T.self X.A 0 _ _ _ st4 go)
end EB

/-! EB22: dicts of ints as what is known of a value; while over a list of one's own; tuples of what is known; lists of one's own read on the way. -/
namespace EB
open PySem PySem.Spec PyProof.Rows L2 Evl
/-! ### a dict of ints -/
def ent (p : Int × Int) : Key × V := (.inl p.1, .int p.2)
def mp (es : List (Int × Int)) : PV := ⟨fun H v => ∃ a, v = .ref a ∧ H a = some (.dK (es.map ent)), fun e h => by
  obtain ⟨a, h1, h2⟩ := h
  exact ⟨a, h1, e _ _ h2⟩⟩
theorem valV_off {k : Int} : ∀ {es : List (Int × Int)}, k ∉ es.map (·.1) → valV (es.map ent) (.inl k : Key) = none
  | [], _ => rfl
  | p :: r, h => by
    have h1 : ¬ k = p.1 := fun z => h (List.mem_cons.mpr (.inl z))
    have h2 : k ∉ r.map (·.1) := fun z => h (List.mem_cons.mpr (.inr z))
    rw [List.map_cons, valV_neg (p := ent p) (fun z => h1 (Sum.inl.inj z).symm)]
    exact valV_off h2
theorem valV_on {k v : Int} : ∀ {es : List (Int × Int)}, (es.map (·.1)).Nodup → (k, v) ∈ es → valV (es.map ent) (.inl k : Key) = some (.int v)
  | p :: r, hn, hm => by
    rw [List.map_cons]
    obtain ⟨n1, n2⟩ := List.nodup_cons.mp hn
    rcases List.mem_cons.mp hm with z | z
    · subst z
      exact valV_pos rfl
    · have : ¬ (ent p).1 = (.inl k : Key) := fun y => by
        have e : p.1 = k := Sum.inl.inj y
        exact n1 (List.mem_map.mpr ⟨_, z, e.symm⟩)
      rw [valV_neg this]
      exact valV_on n2 z
structure AccD (D : Addr) (F1 H1 F H : Hp) (es : List (Int × Int)) : Prop where
  gr : Gr F1 H1 F H
  off : F D = none
  at_ : H D = some (.dK (es.map ent))
theorem AccD.start {D : Addr} {F H : Hp} (fh : Ex F H) (hD : H D = none) : AccD D F H F (upd H D (.dK [])) [] := ⟨gr_mut (Gr.refl fh) hD (fresh_back fh hD), fresh_back fh hD, upd_same⟩
theorem AccD.step {D : Addr} {F1 H1 F H F2 H2 : Hp} {es : List (Int × Int)} (a : AccD D F1 H1 F H es) (g : Gr F H F2 H2) : AccD D F1 H1 F2 H2 es :=
  ⟨a.gr.trans g, g.nw D (by rw [a.at_]; exact fun z => nomatch z) a.off, g.hh _ _ a.at_⟩
theorem AccD.put {D : Addr} {F1 H1 F H : Hp} {es : List (Int × Int)} {p : Int × Int} (a : AccD D F1 H1 F H es) (h1 : H1 D = none) (hn : p.1 ∉ es.map (·.1)) : AccD D F1 H1 F (upd H D (.dK (putK (es.map ent) (.inl p.1) (.int p.2)))) (es ++ [p]) := by
  refine ⟨gr_mut a.gr h1 a.off, a.off, ?_⟩
  rw [putK_new _ (valV_off hn), List.map_append, upd_same]
  rfl
theorem AccD.done {D : Addr} {F1 H1 F H : Hp} {es : List (Int × Int)} (a : AccD D F1 H1 F H es) (h1 : H1 D = none) : ∃ F', Gr F1 H1 F' H ∧ (mp es).p F' (.ref D) :=
  ⟨upd F D (.dK (es.map ent)), gr_in a.gr h1 a.off a.at_, D, rfl, upd_same⟩
section
variable {K : PySem.W.Frag} {M : EC → Addr} {W : WX} {ps qs : Kn} {te ta tb td ty tk tv : TE} {t u : TT} {ts tu : TS} {tr : TA} {vs ws : List Nat} {r : Res}
/-- {k: v for x in .. for y in those of x if b}, the first clause without a test, no key twice -/
theorem je_dc2 {α β : Type} {wi wi1 : TI} {g g1 : TG} (xs : List α) (ys : α → List β) (enc : α → PyData) (enc1 : β → PyData) (b : α → β → Bool) (e : α → β → Int × Int) {W' : WX} (hi : JI K M W wi ps (xs.map enc))
    (hlen : (xs.flatMap fun x => ((ys x).filter (b x)).map (e x)).length ≤ 90000) (hnd : ((xs.flatMap fun x => ((ys x).filter (b x)).map (e x)).map (·.1)).Nodup)
    (hs : ∀ x ∈ xs, ∃ qs, JG vs g (wipeK ps vs) (dv K (enc x)) qs ∧ JT K M W' t qs true ∧ JI K M W' wi1 qs ((ys x).map enc1) ∧
      ∀ y ∈ ys x, ∃ rs, JG ws g1 (wipeK qs ws) (dv K (enc1 y)) rs ∧ JT K M W' u rs (b x y) ∧ (b x y = true → JD K M W' tk rs (.int (e x y).1) ∧ JD K M W' tv rs (.int (e x y).2))) :
    JV K M W (tDc2 wi g t wi1 g1 u tk tv vs ws) ps (mp (xs.flatMap fun x => ((ys x).filter (b x)).map (e x))) := fun σ F H Q fh S k => hi σ F H _ fh S fun J F1 H1 e1 it D hD => by
  let out : α → List (Int × Int) := fun x => ((ys x).filter (b x)).map (e x)
  refine ⟨fun i n H' => n = xs.length - i ∧ i ≤ xs.length ∧ ∃ F', AccD D F1 H1 F' H' ((xs.take i).flatMap out), ⟨xs.length, by omega, Nat.zero_le _, F1, AccD.start e1.fh hD⟩, ?_⟩
  rintro i n H' ⟨rfl, him, F2, A⟩
  by_cases hlt : i < xs.length
  · have hx : xs[i]? = some xs[i] := List.getElem?_eq_getElem hlt
    have hmem : xs[i] ∈ xs := List.getElem_mem hlt
    have hex : (xs.map enc)[i]? = some (enc xs[i]) := by rw [List.getElem?_map, hx] <;> rfl
    have cut : xs.flatMap out = (xs.take i).flatMap out ++ (out xs[i] ++ (xs.drop (i + 1)).flatMap out) := by
      conv => lhs; rw [← List.take_append_drop i xs, List.drop_eq_getElem_cons hlt]
      rw [List.flatMap_append, List.flatMap_cons]
    refine .inr ⟨it.go i H' (A.gr.ff.trans A.gr.fh) (by rw [List.length_map]; exact hlt), fun H3 => ∃ F3, AccD D F1 H1 F3 H3 ((xs.take (i + 1)).flatMap out), fun H3 q => ⟨xs.length - (i + 1), by omega, rfl, hlt, q⟩, fun x H3 y => ?_⟩
    obtain ⟨F3, e3, dx⟩ := it.yld i _ F2 H' x H3 A.gr.ff A.gr.fh hex y
    have A3 := A.step e3
    obtain ⟨qs, hg, ht, hi1, hin⟩ := hs xs[i] hmem
    refine hg x (wipe σ vs) F3 H3 _ e3.fh ((S.mono (e1.ff.trans A3.gr.ff)).wipe vs) dx fun σ4 F4 H4 e4 S4 u4 => ⟨wipe_upto (upto_wipe.trans u4), ht σ4 F4 H4 _ e4.fh S4 fun F5 H5 e5 => ?_⟩
    have A5 := (A3.step e4).step e5
    rw [if_pos rfl]
    refine hi1 σ4 F5 H5 _ e5.fh (S4.mono e5.ff) fun J1 F6 H6 e6 it1 => ?_
    have A6 := A5.step e6
    refine ⟨fun j n H' => n = (ys xs[i]).length - j ∧ j ≤ (ys xs[i]).length ∧ ∃ F', Ex F6 F' ∧ AccD D F1 H1 F' H' ((xs.take i).flatMap out ++ (((ys xs[i]).take j).filter (b xs[i])).map (e xs[i])), ⟨(ys xs[i]).length, by omega, Nat.zero_le _, F6, Ex.refl _, by simpa using A6⟩, ?_⟩
    rintro j n H7 ⟨rfl, hj, F7, x67, A7⟩
    by_cases hjl : j < (ys xs[i]).length
    · have hy : (ys xs[i])[j]? = some (ys xs[i])[j] := List.getElem?_eq_getElem hjl
      have ymem : (ys xs[i])[j] ∈ ys xs[i] := List.getElem_mem hjl
      have hey : ((ys xs[i]).map enc1)[j]? = some (enc1 (ys xs[i])[j]) := by rw [List.getElem?_map, hy] <;> rfl
      refine .inr ⟨it1.go j H7 (x67.trans A7.gr.fh) (by rw [List.length_map]; exact hjl), fun H8 => ∃ F8, Ex F6 F8 ∧ AccD D F1 H1 F8 H8 ((xs.take i).flatMap out ++ (((ys xs[i]).take (j + 1)).filter (b xs[i])).map (e xs[i])), fun H8 q => ⟨(ys xs[i]).length - (j + 1), by omega, rfl, hjl, q⟩, fun x1 H8 y1 => ?_⟩
      obtain ⟨F8, e8, dy⟩ := it1.yld j _ F7 H7 x1 H8 x67 A7.gr.fh hey y1
      have A8 := A7.step e8
      obtain ⟨rs, hg1, ht1, he1⟩ := hin _ ymem
      refine hg1 x1 (wipe σ4 ws) F8 H8 _ e8.fh ((S4.mono ((e5.ff.trans e6.ff).trans (x67.trans e8.ff))).wipe ws) dy fun σ9 F9 H9 e9 S9 u9 => ⟨wipe_upto (upto_wipe.trans u9), ht1 σ9 F9 H9 _ e9.fh S9 fun Fa Ha ea => ?_⟩
      have Aa := (A8.step e9).step ea
      have ff := filter_take_succ (b := b xs[i]) hy
      have rest : ∃ more, xs.flatMap out = (xs.take i).flatMap out ++ (((ys xs[i]).take (j + 1)).filter (b xs[i])).map (e xs[i]) ++ more := by
        refine ⟨(((ys xs[i]).drop (j + 1)).filter (b xs[i])).map (e xs[i]) ++ (xs.drop (i + 1)).flatMap out, ?_⟩
        rw [cut]
        have : out xs[i] = (((ys xs[i]).take (j + 1)).filter (b xs[i])).map (e xs[i]) ++ (((ys xs[i]).drop (j + 1)).filter (b xs[i])).map (e xs[i]) := by
          rw [← List.map_append, ← List.filter_append, List.take_append_drop]
        rw [this]
        simp only [List.append_assoc]
      obtain ⟨more, rest⟩ := rest
      cases hb : b xs[i] (ys xs[i])[j] with
      | true =>
        rw [hb] at ff
        rw [if_pos rfl]
        obtain ⟨hk1, hv1⟩ := he1 hb
        refine hk1.go ea.fh (S9.mono ea.ff) fun v1 Fb Hb eb p1 => hv1.go eb.fh ((S9.mono ea.ff).mono eb.ff) fun v2 Fc Hc ec p2 => ?_
        have Ac := (Aa.step eb).step ec
        rw [dp_int p1, dp_int p2]
        rw [ff, if_pos rfl, List.map_append, ← List.append_assoc] at rest
        have hn2 := hnd
        have hl2 := hlen
        rw [show (xs.flatMap fun x => ((ys x).filter (b x)).map (e x)) = xs.flatMap out from rfl, rest] at hn2 hl2
        refine ⟨_, .inl (e xs[i] (ys xs[i])[j]).1, rfl, Ac.at_, ?_, Fc, ((x67.trans e8.ff).trans e9.ff).trans ((ea.ff.trans eb.ff).trans ec.ff), ?_⟩
        · refine sz_lt ?_
          rw [List.length_map]
          simp only [List.length_append] at hl2 ⊢
          omega
        · have eq : (xs.take i).flatMap out ++ (((ys xs[i]).take (j + 1)).filter (b xs[i])).map (e xs[i]) = (xs.take i).flatMap out ++ (((ys xs[i]).take j).filter (b xs[i])).map (e xs[i]) ++ [e xs[i] (ys xs[i])[j]] := by
            rw [ff, if_pos rfl, List.map_append, List.append_assoc]
            rfl
          rw [eq]
          refine Ac.put hD fun z => ?_
          rw [List.map_append, List.map_append] at hn2
          have hd := (List.nodup_append.mp (List.nodup_append.mp hn2).1).2.2
          exact hd _ z _ (by simp) rfl
      | false =>
        rw [hb] at ff
        rw [if_neg (by decide)]
        show ∃ F8, Ex F6 F8 ∧ AccD D F1 H1 F8 Ha _
        rw [ff]
        simp only [Bool.false_eq_true, if_false, List.append_nil]
        exact ⟨Fa, ((x67.trans e8.ff).trans e9.ff).trans ea.ff, Aa⟩
    · have hem : j = (ys xs[i]).length := by omega
      subst hem
      rw [List.take_length] at A7
      refine .inl ⟨it1.stop _ H7 (x67.trans A7.gr.fh) (by rw [List.length_map]; exact Nat.le_refl _), F7, ?_⟩
      rw [flatMap_take_succ hx]
      exact A7
  · have hem : i = xs.length := by omega
    subst hem
    rw [List.take_length] at A
    obtain ⟨F3, g3, d3⟩ := A.done hD
    exact .inl ⟨it.stop _ H' (A.gr.ff.trans A.gr.fh) (by rw [List.length_map]; exact Nat.le_refl _), k _ F3 H' (e1.trans g3) d3⟩
/-- len(d), list(d), d[k] -/
def rLenD : List V → Hp → VK → Prop := fun xs H Q => ∃ a kvs, xs = [V.ref a] ∧ H a = some (.dK kvs) ∧ Q (.int kvs.length) H
theorem call_lenD1 {X : Cx} : CallR X (.builtin "len") rLenD := call_lenD
theorem je_lenM {es : List (Int × Int)} (h : JV K M W te ps (mp es)) : JD K M W (tCB rLenD (tCons te tNil)) ps (.int es.length) := je_cb (ja_cons h ja_nil) fun vs F H fh b Q k => by
  obtain ⟨v, rfl, p⟩ := allP1 b
  obtain ⟨a, rfl, ha⟩ := p
  refine ⟨a, _, rfl, fh _ _ ha, ?_⟩
  rw [List.length_map]
  exact k _ F H (Gr.refl fh) (.int _)
theorem je_listM {es : List (Int × Int)} (h : JV K M W te ps (mp es)) : JD K M W (tCB rListD (tCons te tNil)) ps (.list ((es.map (·.1)).map .int)) := je_cb (ja_cons h ja_nil) fun vs F H fh b Q k => by
  obtain ⟨v, rfl, p⟩ := allP1 b
  obtain ⟨a, rfl, ha⟩ := p
  refine ⟨a, _, rfl, fh _ _ ha, fun q hq => k _ _ _ (Gr.new fh hq) (.lst (sq_of upd_same) ?_)⟩
  have : ((es.map ent).map fun kv => kV kv.1) = (es.map (·.1)).map V.int := by
    rw [List.map_map, List.map_map]
    rfl
  rw [this]
  exact dpAll_ints _
theorem je_dget {es : List (Int × Int)} {k v : Int} (hd : JV K M W td ps (mp es)) (hk : JD K M W ty ps (.int k)) (hn : (es.map (·.1)).Nodup) (hm : (k, v) ∈ es) : JD K M W (tDGet td ty) ps (.int v) := fun σ F H Q fh S kk =>
  hd.go fh S fun x F1 H1 e1 p => hk.go e1.fh (S.mono e1.ff) fun y F2 H2 e2 q => by
    obtain ⟨a, rfl, ha⟩ := p
    refine ⟨a, .int v, rfl, ?_, kk _ F2 H2 (e1.trans e2) (.int v)⟩
    have := DGet.k (H := H2) (a := a) (k := .inl k) (e2.hh _ _ (e1.fh _ _ ha))
    rw [dp_int q, ← valV_on hn hm]
    exact this
/-! ### while -/
theorem jl_while {D : Addr} {F1 H1 : Hp} {i : Nat} {ds : List PyData} (m : Nat) (l : Nat → List PyData) (hi : ps[i]? = some (some (xv (.ref D)))) (h0 : l 0 = ds)
    (ht : ∀ j, j ≤ m → JT K M W t (ps.set i (some (dv K (.list (l j))))) (decide (j < m))) (hb : ∀ j, j < m → JL K M W D F1 H1 ts ps (l j) (.nx ps (l (j + 1)))) : JL K M W D F1 H1 (tWhile t ts) ps ds (.nx ps (l m)) := fun Dn σ F H A S k => by
  refine ⟨fun n σ' H' => ∃ j F', n = m - j ∧ j ≤ m ∧ Acc K D F1 H1 F' H' (l j) ∧ Ex F F' ∧ Sl F' σ' ps, ⟨m, 0, F, by omega, Nat.zero_le _, by rw [h0]; exact A, Ex.refl _, S⟩, ?_⟩
  rintro n σ' H' ⟨j, F', rfl, hj, A', e', S'⟩
  obtain ⟨F0, x0, x1, S0, _⟩ := acc_told A' S' hi
  refine ht j hj σ' F0 H' _ x1 S0 fun F2 H2 g => ?_
  have A2 : Acc K D F1 H1 F' H2 (l j) := by
    obtain ⟨acc, hh, hd⟩ := A'.at_
    exact ⟨⟨A'.gr.ff, A'.gr.hh.trans g.hh, A'.gr.fh.trans g.hh, A'.gr.nw⟩, A'.off, acc, g.hh _ _ hh, hd⟩
  by_cases hlt : j < m
  · rw [if_pos (decide_eq_true hlt)]
    refine ⟨fun σ3 H3 => ∃ F3, Acc K D F1 H1 F3 H3 (l (j + 1)) ∧ Ex F F3 ∧ Sl F3 σ3 ps, fun σ3 H3 ⟨F3, q1, q2, q3⟩ => ⟨m - (j + 1), by omega, j + 1, F3, rfl, hlt, q1, q2, q3⟩, ?_⟩
    exact hb j hlt _ σ' F' H2 A2 S' fun σ3 F3 H3 A3 e3 S3 => ⟨F3, A3, e'.trans e3, S3⟩
  · have : j = m := by omega
    subst this
    rw [if_neg (by simp)]
    exact k σ' F' H2 A2 e' S'
/-! ### tuples of what is known -/
def tpP (Ps : List PV) : PV := ⟨fun H v => ∃ a xs, v = .ref a ∧ H a = some (.tup xs) ∧ AllP H xs Ps, fun e h => by
  obtain ⟨a, xs, h1, h2, h3⟩ := h
  exact ⟨a, xs, h1, e _ _ h2, h3.mono e⟩⟩
theorem je_tupP {Ps : List PV} (h : JA K M W tr ps Ps) (hl : Ps.length ≤ 100000 := by decide) : JV K M W (tTup tr) ps (tpP Ps) := fun σ F H Q fh S k =>
  h σ F H _ fh S fun vs F1 H1 e1 a => ⟨sz_of (by rw [a.length]; exact hl), fun p hp => k _ _ _ (e1.trans (Gr.new e1.fh hp)) ⟨p, vs, rfl, upd_same, a.mono (Gr.new (o := .tup vs) e1.fh hp).ff⟩⟩
theorem je_ixTP {Ps : List PV} {P : PV} {j : Nat} (ha : JV K M W ta ps (tpP Ps)) (hb : JD K M W tb ps (.int (j : Nat))) (hj : Ps[j]? = some P) : JV K M W (tOp (rIxT K) ta tb) ps P := je_op ha hb fun x y F H fh p q Q k => by
  obtain ⟨a, xs, rfl, hs, al⟩ := p
  obtain ⟨v, hv, pv⟩ := al.get hj
  exact ⟨a, xs, j, v, rfl, dp_int q, st_of (fh _ _ hs), atI_nat hv, k v F H (Gr.refl fh) pv⟩
theorem je_notNone {d : PyData} {b : Bool} (ha : JD K M W ta ps d) (hn : (d ≠ .none ∧ b = true) ∨ (d = .none ∧ b = false)) : JD K M W (tOp rNotN ta (tC .non)) ps (.bool b) := fun σ F H Q fh S k => ha.go fh S fun v F' H' g p => by
  refine ⟨rfl, ?_⟩
  have e : (!decide (v = V.non)) = b := by
    rcases hn with ⟨h1, rfl⟩ | ⟨rfl, rfl⟩
    · rw [decide_eq_false fun z => ?_]
      · rfl
      · subst z
        cases p
        exact h1 rfl
    · cases p
      rfl
  rw [e]
  exact k _ F' H' g (.bl b)
/-! ### what does not lie in a list -/
def cutA (F : Hp) (D : Addr) : Hp := fun a => if a = D then none else F a
theorem cutA_ex {F : Hp} {D : Addr} : Ex (cutA F D) F := fun a o e => by
  unfold cutA at e
  by_cases z : a = D
  · rw [if_pos z] at e; cases e
  · rw [if_neg z] at e; exact e
theorem cutA_ne {F : Hp} {D a : Addr} (h : a ≠ D) : cutA F D a = F a := if_neg h
/-- known of a value without looking at any list -/
def Ro (P : PV) : Prop := ∀ (F : Hp) (D : Addr) (acc : List V) (v : V), F D = some (.lst acc) → P.p F v → P.p (cutA F D) v
theorem ro_xv {v : V} : Ro (xv v) := fun _ _ _ _ _ h => h
mutual
def noL : PyData → Bool
  | .list _ => false
  | .dict _ => false
  | .tuple ds => noLs ds
  | _ => true
def noLs : List PyData → Bool
  | [] => true
  | d :: r => noL d && noLs r
end
theorem sqT_cut {F : Hp} {D a : Addr} {acc xs : List V} (h : F D = some (.lst acc)) (s : SqT K F a xs) : SqT K (cutA F D) a xs := by
  rcases s with s | s
  · have ne : a ≠ D := fun z => by
      subst z
      rcases s with s | ⟨o, s⟩
      · rw [h] at s; cases s
      · rw [h] at s; cases s
    refine .inl ?_
    rcases s with s | ⟨o, s⟩
    · exact .inl (by rw [cutA_ne ne]; exact s)
    · exact .inr ⟨o, by rw [cutA_ne ne]; exact s⟩
  · exact .inr s
mutual
theorem dp_cut {F : Hp} {D : Addr} {acc : List V} (h : F D = some (.lst acc)) : ∀ {v : V} {d : PyData}, noL d = true → Dp K F v d → Dp K (cutA F D) v d
  | _, _, _, .non => .non
  | _, _, _, .bl b => .bl b
  | _, _, _, .int i => .int i
  | _, _, _, .str x => .str x
  | _, _, n, .lst _ _ => by simp [noL] at n
  | _, _, n, .tup s a => .tup (sqT_cut h s) (dpAll_cut h (by simpa [noL] using n) a)
theorem dpAll_cut {F : Hp} {D : Addr} {acc : List V} (h : F D = some (.lst acc)) : ∀ {vs : List V} {ds : List PyData}, noLs ds = true → DpAll K F vs ds → DpAll K (cutA F D) vs ds
  | _, _, _, .nil => .nil
  | _, _, n, .cons p r => by
    have n2 := Bool.and_eq_true_iff.mp (by simpa only [noLs] using n)
    exact .cons (dp_cut h n2.1 p) (dpAll_cut h n2.2 r)
end
theorem ro_dv {d : PyData} (n : noL d = true) : Ro (dv K d) := fun F D acc v h p => dp_cut h n p
theorem ro_ob1 {C : Addr} {f : Str} {d : PyData} (n : noL d = true) : Ro (ob1 K C f d) := fun F D acc v h p => by
  obtain ⟨a, dx, u, rfl, h2, h3⟩ := p
  refine ⟨a, dx, u, rfl, ?_, dp_cut h n h3⟩
  rw [cutA_ne fun z => by subst z; rw [h] at h2; cases h2]
  exact h2
theorem allP_cut {F : Hp} {D : Addr} {acc : List V} (h : F D = some (.lst acc)) : ∀ {vs : List V} {Ps : List PV}, (∀ P ∈ Ps, Ro P) → AllP F vs Ps → AllP (cutA F D) vs Ps
  | _, _, _, .nil => .nil
  | _, _, r, .cons p a => .cons (r _ List.mem_cons_self _ _ _ _ h p) (allP_cut h (fun P hP => r P (List.mem_cons_of_mem _ hP)) a)
theorem ro_tpP {Ps : List PV} (r : ∀ P ∈ Ps, Ro P) : Ro (tpP Ps) := fun F D acc v h p => by
  obtain ⟨a, xs, rfl, h2, h3⟩ := p
  refine ⟨a, xs, rfl, ?_, allP_cut h r h3⟩
  rw [cutA_ne fun z => by subst z; rw [h] at h2; cases h2]
  exact h2
theorem noLs_ints : ∀ ns : List Int, noLs (ns.map PyData.int) = true
  | [] => rfl
  | n :: r => by
    rw [List.map_cons, noLs, noLs_ints r]
    rfl
theorem noLs_pD : ∀ ps : List (Int × Int), noLs (ps.map pD) = true
  | [] => rfl
  | p :: r => by
    rw [List.map_cons, noLs, noLs_pD r]
    rfl
/-- out of a heap where a list of one's own is told, back to it -/
theorem acc_back {D : Addr} {F1 H1 F H F0 F2 H2 : Hp} {ds : List PyData} {acc : List V} (A : Acc K D F1 H1 F H ds) (hacc : H D = some (.lst acc)) (e0 : F0 = upd F D (.lst acc)) (g : Gr F0 H F2 H2) : Acc K D F1 H1 (cutA F2 D) H2 ds ∧ Ex F (cutA F2 D) ∧ F2 D = some (.lst acc) := by
  subst e0
  have f2 : F2 D = some (.lst acc) := g.ff _ _ upd_same
  have ne : ∀ {b : Addr} {o : HO}, F b = some o → b ≠ D := fun {b o} h z => by
    subst z
    rw [A.off] at h
    cases h
  have x : Ex F (cutA F2 D) := fun b o h => by
    rw [cutA_ne (ne h)]
    exact g.ff _ _ (by rw [upd_ne (ne h)]; exact h)
  obtain ⟨acc2, h2, hd⟩ := A.at_
  rw [hacc] at h2
  cases h2
  refine ⟨⟨⟨A.gr.ff.trans x, A.gr.hh.trans g.hh, cutA_ex.trans g.fh, fun a ha hf => ?_⟩, if_pos rfl, acc, g.hh _ _ hacc, dpAll_mono x hd⟩, x, f2⟩
  by_cases z : a = D
  · exact if_pos z
  · rw [cutA_ne z]
    refine g.nw a (fun y => ha (fresh_back A.gr.hh y)) ?_
    rw [upd_ne z]
    exact A.gr.nw a ha hf
theorem acc_told2 {D : Addr} {F1 H1 F H : Hp} {i : Nat} {σ : L2.St} {ds : List PyData} {acc : List V} (A : Acc K D F1 H1 F H ds) (hacc : H D = some (.lst acc)) (S : Sl F σ ps) (hi : ps[i]? = some (some (xv (.ref D)))) : Ex (upd F D (.lst acc)) H ∧ Sl (upd F D (.lst acc)) σ (ps.set i (some (dv K (.list ds)))) := by
  obtain ⟨acc0, h0, hd0⟩ := A.at_
  rw [hacc] at h0
  cases h0
  have fo : Ex F (upd F D (.lst acc)) := Ex.new A.off
  refine ⟨fun b o q => ?_, ⟨by rw [List.length_set]; exact S.1, fun b P hb => ?_⟩⟩
  · by_cases z : b = D
    · subst z
      rw [upd_same] at q
      cases q
      exact hacc
    · rw [upd_ne z] at q
      exact A.gr.fh b o q
  · by_cases z : b = i
    · subst z
      have hl : b < ps.length := (List.getElem?_eq_some_iff.mp hi).1
      rw [List.getElem?_set_self hl] at hb
      cases hb
      exact ⟨_, sl_at S hi, .lst (sq_of upd_same) (dpAll_mono fo hd0)⟩
    · rw [List.getElem?_set_ne (fun y => z y.symm)] at hb
      exact (S.mono fo).2 b P hb
/-! ### expressions while a list of one's own is held -/
def JLX (K : PySem.W.Frag) (D : Addr) (F1 H1 : Hp) (te : TE) (ps : Kn) (ds : List PyData) (P : PV) : Prop := ∀ σ F H Q, Acc K D F1 H1 F H ds → Sl F σ ps → (∀ v F' H', Acc K D F1 H1 F' H' ds → Ex F F' → P.p F' v → Q v H') → te σ H Q
def JLA (K : PySem.W.Frag) (D : Addr) (F1 H1 : Hp) (ta : TA) (ps : Kn) (ds : List PyData) (Ps : List PV) : Prop := ∀ σ F H Q, Acc K D F1 H1 F H ds → Sl F σ ps → (∀ vs F' H', Acc K D F1 H1 F' H' ds → Ex F F' → AllP F' vs Ps → Q vs H') → ta σ H Q
variable {D : Addr} {F1 H1 : Hp} {ds es : List PyData} {P : PV} {Ps : List PV} {R : LR} {i j : Nat}
theorem jlx_jv (h : JV K M W te ps P) : JLX K D F1 H1 te ps ds P := fun σ F H Q A S k => h.go A.gr.fh S fun v F' H' g p => k v F' H' (A.step g) g.ff p
/-- the list itself is read, the value does not lie in it -/
theorem jlx_ro (hi : ps[i]? = some (some (xv (.ref D)))) (h : JV K M W te (ps.set i (some (dv K (.list ds)))) P) (r : Ro P) : JLX K D F1 H1 te ps ds P := fun σ F H Q A S k => by
  obtain ⟨acc, hacc, _⟩ := id A.at_
  obtain ⟨x1, S0⟩ := acc_told2 A hacc S hi
  refine h.go x1 S0 fun v F2 H2 g p => ?_
  obtain ⟨A2, x2, f2⟩ := acc_back A hacc rfl g
  exact k v _ H2 A2 x2 (r _ _ _ _ f2 p)
theorem jla_nil : JLA K D F1 H1 tNil ps ds [] := fun σ F H Q A S k => k [] F H A (Ex.refl _) .nil
theorem jla_cons (h : JLX K D F1 H1 te ps ds P) (hr : JLA K D F1 H1 tr ps ds Ps) : JLA K D F1 H1 (tCons te tr) ps ds (P :: Ps) := fun σ F H Q A S k =>
  h σ F H _ A S fun v F2 H2 A2 e2 p => hr σ F2 H2 _ A2 (S.mono e2) fun vs F3 H3 A3 e3 a => k (v :: vs) F3 H3 A3 (e2.trans e3) (.cons (PV.mn _ e3 p) a)
theorem jlx_call {α : Type} {args : α → List PV} {dom : α → Prop} {out : α → Out} {E : L2.St → XK} (a : α) (h : JLA K D F1 H1 tr ps ds (args a)) (hd : dom a) (ho : out a = .ok P) : JLX K D F1 H1 (tCallS (Prm K M args dom out) E tr) ps ds P := fun σ F H Q A S k =>
  h σ F H _ A S fun vs F2 H2 A2 e2 b => ⟨a, F2, A2.gr.fh, b, hd, by
    rw [ho]
    exact fun v F3 H3 g p => k v F3 H3 (A2.step g) (e2.trans g.ff) p⟩
theorem jl_setX (h : JLX K D F1 H1 te ps ds P) : JL K M W D F1 H1 (tAsg te (gName j)) ps ds (.nx (ps.set j (some P)) ds) := fun Dn σ F H A S k => h σ F H _ A S fun v F2 H2 A2 e2 p => k _ F2 H2 A2 e2 ((S.mono e2).set j p)
/-- xs[k] = e, e read off xs itself -/
theorem jl_setXL {m : Nat} {d : PyData} (hi : ps[i]? = some (some (xv (.ref D)))) (hD : H1 D = none) (h : JLX K D F1 H1 te ps ds (dv K d)) (hk : JD K M W ty ps (.int (m : Nat))) (hm : m < ds.length) : JL K M W D F1 H1 (tAsg te (gSub (tVar i) ty rSetL)) ps ds (.nx ps (ds.set m d)) := fun Dn σ F H A S k =>
  h σ F H _ A S fun v F2 H2 A2 e2 p => by
    refine ⟨.ref D, sl_at S hi, hk.go A2.gr.fh (S.mono e2) fun u F3 H3 g3 q => ?_⟩
    have A3 := A2.step g3
    obtain ⟨acc, h3, hd⟩ := A3.at_
    exact ⟨D, acc, (m : Nat), m, rfl, dp_int q, h3, by rw [A3.len h3]; exact ixN_nat hm, k σ F3 _ (acc_set A3 hD h3 (dp_mono g3.ff p)) (e2.trans g3.ff) ((S.mono e2).mono g3.ff)⟩
theorem jl_appX {d : PyData} (hi : ps[i]? = some (some (xv (.ref D)))) (hD : H1 D = none) (h : JLX K D F1 H1 te ps ds (dv K d)) (hl : ds.length < 90000) : JL K M W D F1 H1 (tDrop (tBM K "list" rAppend (tVar i) (tCons te tNil))) ps ds (.nx ps (ds ++ [d])) := fun Dn σ F H A S k => by
  obtain ⟨acc0, h00, hd0⟩ := id A.at_
  refine ⟨.ref D, sl_at S hi, (.inl ⟨rfl, acc0, sq_of h00⟩), h σ F H _ A S fun x F2 H2 A2 e2 p => ?_⟩
  obtain ⟨acc, h2, hd⟩ := id A2.at_
  exact ⟨D, acc, x, rfl, rfl, h2, sz_lt (by rw [A2.len h2]; omega), k σ F2 _ (A2.app hD h2 p) e2 (S.mono e2)⟩
/-- nobody looks at the list any more -/
theorem jl_leave {d : PyData} (h : JS K M W ts ps (.rt (dv K d))) : JL K M W D F1 H1 ts ps ds (.rt d) := fun Dn σ F H A S k => h Dn σ F H A.gr.fh S fun v F' H' g p => k v F' H' (A.gr.trans g) p
/-- a for that may be left: m turns go on, then it ends, or the turn m returns -/
theorem jl_first {vs : List Nat} {wi : TI} {g : TG} {tb : TS} (xs : List PyData) (m : Nat) (f : Nat → Kn) (l : Nat → List PyData) (hi : JI K M W wi ps xs) (h0 : f 0 = ps) (hl0 : l 0 = ds) (hm : m < xs.length) {d0 : PyData}
    (hs : ∀ (j : Nat) (d : PyData), j < m → xs[j]? = some d → ∃ qs, JG vs g (f j) (dv K d) qs ∧ JL K M W D F1 H1 tb qs (l j) (.nx (f (j + 1)) (l (j + 1))))
    (he : ∀ d, xs[m]? = some d → ∃ qs, JG vs g (f m) (dv K d) qs ∧ JL K M W D F1 H1 tb qs (l m) (.rt d0)) : JL K M W D F1 H1 (tFor wi g tb) ps ds (.rt d0) := fun Dn σ F H A S k => hi σ F H _ A.gr.fh S fun J F2 H2 e1 it => by
  refine ⟨fun i n σ' H' => n = xs.length - i ∧ i ≤ m ∧ ∃ F', Acc K D F1 H1 F' H' (l i) ∧ Ex F2 F' ∧ Sl F' σ' (f i), ⟨xs.length, by omega, Nat.zero_le _, F2, by rw [hl0]; exact A.step e1, Ex.refl _, by rw [h0]; exact S.mono e1.ff⟩, ?_⟩
  rintro i n σ' H' ⟨rfl, him, F3, A3, e3, S3⟩
  have hlt : i < xs.length := by omega
  by_cases him2 : i < m
  · refine .inr ⟨it.go i H' (e3.trans A3.gr.fh) hlt, fun σ4 H4 => ∃ F4, Acc K D F1 H1 F4 H4 (l (i + 1)) ∧ Ex F2 F4 ∧ Sl F4 σ4 (f (i + 1)), fun σ4 H4 q => ⟨xs.length - (i + 1), by omega, rfl, him2, q⟩, fun x H4 y => ?_⟩
    obtain ⟨F4, e4, dx⟩ := it.yld i _ F3 H' x H4 e3 A3.gr.fh (List.getElem?_eq_getElem hlt) y
    obtain ⟨qs, hg, hb⟩ := hs i _ him2 (List.getElem?_eq_getElem hlt)
    have A4 := A3.step e4
    refine hg x σ' F4 H4 _ e4.fh (S3.mono e4.ff) dx fun σ5 F5 H5 e5 S5 _ => ?_
    exact hb _ σ5 F5 H5 (A4.step e5) S5 fun σ6 F6 H6 A6 e6 S6 => ⟨F6, A6, ((e3.trans e4.ff).trans e5.ff).trans e6, S6⟩
  · have hem : i = m := by omega
    subst hem
    refine .inr ⟨it.go i H' (e3.trans A3.gr.fh) hlt, fun _ _ => False, fun _ _ z => z.elim, fun x H4 y => ?_⟩
    obtain ⟨F4, e4, dx⟩ := it.yld i _ F3 H' x H4 e3 A3.gr.fh (List.getElem?_eq_getElem hlt) y
    obtain ⟨qs, hg, hb⟩ := he _ (List.getElem?_eq_getElem hlt)
    have A4 := A3.step e4
    refine hg x σ' F4 H4 _ e4.fh (S3.mono e4.ff) dx fun σ5 F5 H5 e5 S5 _ => ?_
    exact hb _ σ5 F5 H5 (A4.step e5) S5 k
/-! ### sorted ints, made anew -/
theorem sortI_one : ∀ {xs ys : List Int}, xs.Perm ys → xs.Pairwise (· ≤ ·) → ys.Pairwise (· ≤ ·) → xs = ys := fun {xs ys} h h1 h2 => h.eq_of_pairwise (fun a b _ _ => Int.le_antisymm) h1 h2
theorem jn_sortI {ns ms : List Int} (h : JD K M W te ps (.list (ns.map .int))) (hp : ms.Perm ns) (hs : ms.Pairwise (· ≤ ·)) : JN K (tCB (rSortedI K) (tCons te tNil)) ps (ms.map .int) := fun σ F H Q fh S k => h.go fh S fun v F1 H1 e p => by
  obtain ⟨a, xs, rfl, hx, hd⟩ := dp_lst p
  have e2 := dpAll_ints_eq hd
  subst e2
  refine ⟨a, ns, rfl, ex_l e.fh hx, fun ns' q h1 h2 hq => ?_⟩
  have : ns' = ms := sortI_one (h1.trans hp.symm) h2 hs
  subst this
  exact k q F1 _ ⟨gr_mut e (fresh_back e.hh hq) (fresh_back e.fh hq), fresh_back e.fh hq, _, upd_same, dpAll_ints _⟩ (fresh_back e.hh hq)
end
end EB

/-! EB23: try whose suite goes on with the slots as they were; several lists of one's own, made by calls, read by tests. -/
namespace EB
open PySem PySem.Spec PyProof.Rows L2 Evl
section
variable {K : PySem.W.Frag} {M : EC → Addr} {W : WX} {ps qs rs : Kn} {te ta tb td ty tk tv : TE} {t u : TT} {ts tu tw : TS} {tr : TA} {vs ws : List Nat} {r : Res} {e : Er}
/-- it raises e, and the slots are known then -/
def JSE (K : PySem.W.Frag) (M : EC → Addr) (W : WX) (ts : TS) (ps : Kn) (e : Er) (qs : Kn) : Prop := ∀ D σ F H, Ex F H → Sl F σ ps → (∀ d u σ' F' H', Gr F H F' H' → H d = none → H' d = some (.xd [(e.c.fld, u)]) → Dp K F' u e.val → Sl F' σ' qs → W (.ref (M e.c)) (some d) σ' H') → ts D σ H
theorem jse_set {g : TG} (h : JE K M W te ps (.er e)) : JSE K M W (tAsg te g) ps e ps := fun D σ F H fh S k => h σ F H _ fh S fun d u F' H' e1 n a b => k d u σ F' H' e1 n a b (S.mono e1.ff)
theorem jse_seq (h1 : JS K M W ts ps (.nx qs)) (h2 : JSE K M W tu qs e rs) : JSE K M W (tSeq ts tu) ps e rs := fun D σ F H fh S k => h1 { D with nx := tu D } σ F H fh S fun σ' F' H' g s => h2 D σ' F' H' g.fh s fun d u σ2 F2 H2 g2 n a b s2 => k d u σ2 F2 H2 (g.trans g2) (fresh_back g.hh n) a b s2
theorem jse_fst (h1 : JSE K M W ts ps e qs) : JSE K M W (tSeq ts tu) ps e qs := fun D σ F H fh S k => h1 { D with nx := tu D } σ F H fh S k
/-- the first clause catches it, its suite goes on -/
theorem js_try_erK {tb : WX → TS} {Wo : WX} {c : Value} {i : Nat} {tz : Addr → Value → Option Addr → TS} {l : List (Value × Nat × (Addr → Value → Option Addr → TS))} (hb : ∀ W', JSE K M W' (tb W') ps e qs) (hx : PySem.W.exmOne K (.ref (M e.c)) c = some true)
    (hs : ∀ a dd, JS K M W (tz a (.ref (M e.c)) (some dd)) (qs.set i (some (exv K a dd e.c.fld e.val))) (.nx rs)) : JS K M W (fun D σ H => tb (wClauses K Wo D ((c, i, tz) :: l)) D σ H) ps (.nx (rs.set i none)) := fun D σ F H fh S k =>
  hb _ D σ F H fh S fun d u σ' F1 H1 g hn hd dp S' => by
    refine ⟨true, hx, fun _ a ha => ?_, fun z => Bool.noConfusion z⟩
    have fo : ∀ o, F1 d = some o → o = .xd [(e.c.fld, u)] := fun o ho => by
      have := g.fh _ _ ho
      rw [hd] at this
      exact (Option.some.inj this).symm
    have F2 : Ex F1 (upd F1 d (.xd [(e.c.fld, u)])) := fun b o q => by
      by_cases z : b = d
      · subst z
        rw [upd_same, fo o q]
      · rw [upd_ne z]
        exact q
    have fh2 : Ex (upd F1 d (.xd [(e.c.fld, u)])) H1 := fun b o q => by
      by_cases z : b = d
      · subst z
        rw [upd_same] at q
        cases q
        exact hd
      · rw [upd_ne z] at q
        exact g.fh b o q
    have S0 : Sl (upd F1 d (.xd [(e.c.fld, u)])) (σ'.set i (some (.ref a))) (qs.set i (some (exv K a d e.c.fld e.val))) := (S'.mono F2).set i ⟨rfl, u, upd_same, dp_mono F2 dp⟩
    refine hs a d _ (σ'.set i (some (.ref a))) _ H1 fh2 S0 fun σ3 F3 H3 g3 S3 => ?_
    exact k _ F3 H3 ⟨g.ff.trans (F2.trans g3.ff), g.hh.trans g3.hh, g3.fh, fun b hb hf => g3.nw b (fun z => by
      have := fresh_back g.hh z
      exact hb this) (by
        by_cases z : b = d
        · subst z
          exact absurd hn hb
        · rw [upd_ne z]
          exact g.nw b hb hf)⟩ (S3.forget i none)
/-! ### several lists of one's own -/
variable {F1 H1 : Hp} {Os : Ow} {R : MR} {D : Addr} {ds : List PyData}
/-- x = e, a list made anew -/
theorem jm_callN {i : Nat} (h : JN K te ps ds) (hu : ∀ D, JM K F1 H1 tu (ps.set i (some (xv (.ref D)))) ((D, ds.map (dv K)) :: Os) R) : JM K F1 H1 (tSeq (tAsg te (gName i)) tu) ps Os R := fun Dn σ F H A S k => h σ F H _ A.gr.fh S fun D F2 H2 a hD => by
  have A2 : AccM ((D, ds.map (dv K)) :: Os) F1 H1 F2 H2 := by
    have st := A.step a.gr
    have ne : ∀ p ∈ Os, p.1 ≠ D := fun p hp z => by
      obtain ⟨acc, e, _⟩ := A.at_ p hp
      rw [z, hD] at e
      cases e
    refine ⟨st.gr, List.nodup_cons.mpr ⟨fun z => ?_, st.nd⟩, fun p hp => ?_, fun p hp => ?_, fun p hp => ?_⟩
    · obtain ⟨p, hp, e⟩ := List.mem_map.mp z
      exact ne p hp e
    · rcases List.mem_cons.mp hp with rfl | z
      · exact fresh_back A.gr.hh hD
      · exact st.fr p z
    · rcases List.mem_cons.mp hp with rfl | z
      · exact a.off
      · exact st.off p z
    · rcases List.mem_cons.mp hp with rfl | z
      · obtain ⟨acc, e, d⟩ := a.at_
        exact ⟨acc, e, AllP.of_dv d⟩
      · exact st.at_ p z
  exact hu D Dn _ F2 H2 A2 ((S.mono a.gr.ff).set i rfl) (MW.step a.gr.ff k)
/-- all of them told for a while -/
theorem accM_told {F H : Hp} (A : AccM Os F1 H1 F H) : ∃ F', Ex F F' ∧ Ex F' H ∧ ∀ p ∈ Os, ∃ acc, F' p.1 = some (.lst acc) ∧ AllP F' acc p.2 := by
  classical
  let F' : Hp := fun a => if a ∈ Os.map (·.1) then H a else F a
  have ff : Ex F F' := fun a o e => by
    by_cases z : a ∈ Os.map (·.1)
    · obtain ⟨p, hp, rfl⟩ := List.mem_map.mp z
      rw [A.off p hp] at e
      cases e
    · show (if a ∈ Os.map (·.1) then H a else F a) = some o
      rw [if_neg z]
      exact e
  have fh : Ex F' H := fun a o e => by
    by_cases z : a ∈ Os.map (·.1)
    · have e2 : (if a ∈ Os.map (·.1) then H a else F a) = some o := e
      rw [if_pos z] at e2
      exact e2
    · have e2 : (if a ∈ Os.map (·.1) then H a else F a) = some o := e
      rw [if_neg z] at e2
      exact A.gr.fh _ _ e2
  refine ⟨F', ff, fh, fun p hp => ?_⟩
  obtain ⟨acc, e, al⟩ := A.at_ p hp
  refine ⟨acc, ?_, al.mono ff⟩
  show (if p.1 ∈ Os.map (·.1) then H p.1 else F p.1) = _
  rw [if_pos (List.mem_map.mpr ⟨p, hp, rfl⟩)]
  exact e
/-- a test that reads them; it says no, and all goes on -/
theorem jm_ifRF (hq : ∀ F' σ, (∀ p ∈ Os, ∃ acc, F' p.1 = some (.lst acc) ∧ AllP F' acc p.2) → Sl F' σ ps → Sl F' σ qs) (h : JT K M W t qs false) (hu : JM K F1 H1 tu ps Os R) : JM K F1 H1 (tSeq (tIfS t ts tNext) tu) ps Os R := fun Dn σ F H A S k => by
  obtain ⟨F0, x0, x1, al⟩ := accM_told A
  refine h σ F0 H _ x1 (hq F0 σ al (S.mono x0)) fun F2 H2 g => ?_
  have A2 : AccM Os F1 H1 F H2 := ⟨⟨A.gr.ff, A.gr.hh.trans g.hh, A.gr.fh.trans g.hh, A.gr.nw⟩, A.nd, A.fr, A.off, fun p hp => by
    obtain ⟨acc, e, d⟩ := A.at_ p hp
    exact ⟨acc, g.hh _ _ e, d⟩⟩
  show (if false = true then _ else _)
  rw [if_neg (by decide)]
  exact hu Dn σ F H2 A2 S k
theorem sl_told {F : Hp} {σ : L2.St} {i : Nat} {acc : List V} (S : Sl F σ ps) (hi : ps[i]? = some (some (xv (.ref D)))) (h : F D = some (.lst acc)) (al : AllP F acc (ds.map (dv K))) : Sl F σ (ps.set i (some (dv K (.list ds)))) := by
  refine ⟨by rw [List.length_set]; exact S.1, fun b P hb => ?_⟩
  by_cases z : b = i
  · subst z
    have hl : b < ps.length := (List.getElem?_eq_some_iff.mp hi).1
    rw [List.getElem?_set_self hl] at hb
    cases hb
    exact ⟨_, sl_at S hi, .lst (sq_of h) al.dv⟩
  · rw [List.getElem?_set_ne (fun y => z y.symm)] at hb
    exact S.2 b P hb
end
end EB

/-! EB24: data that is short enough for repr; texts that differ or not. -/
namespace EB
open PySem PySem.Spec PyProof.Rows L2 Evl
/-- small data: at most n deep, of weight w at most -/
structure Sm (d : PyData) (n w : Nat) : Prop where
  sh : PyData.showable d = true
  c : PyData.canLay0 d = true
  dp : PyData.depth d ≤ n
  wt : PyData.weight d ≤ w
  si : PyData.intsShort 13 d = true
theorem log_lt {a k : Nat} (hk : 0 < k) (h : a < 2 ^ k) : a.log2 < k := by
  by_cases z : a = 0
  · subst z
    rw [show Nat.log2 0 = 0 by decide +kernel]
    exact hk
  · exact (Nat.log2_lt z).mpr h
theorem sm_int {i : Int} (h : -10000000000 < i ∧ i < 10000000000) : Sm (.int i) 1 36 := by
  have hn : i.natAbs < 2 ^ 34 := by omega
  have hl := log_lt (by decide) hn
  refine ⟨?_, by simp only [PyData.canLay0], by simp only [PyData.depth]; omega, ?_, ?_⟩
  · simp only [PyData.showable]
    exact decide_eq_true (by omega)
  · simp only [PyData.weight]
    split <;> omega
  · simp only [PyData.intsShort]
    refine decide_eq_true ?_
    show (Str.ofString (toString i)).length ≤ 13
    by_cases z : 0 ≤ i
    · have := toString_length_le z (k := 10) (by decide) (by omega)
      omega
    · have e := len_text_neg (n := i) (by omega)
      have := toString_length_le (v := 0 - i) (by omega) (k := 10) (by decide) (by omega)
      omega
theorem sm_bl {b : Bool} : Sm (.bool b) 1 36 := ⟨by simp only [PyData.showable], by simp only [PyData.canLay0], by simp only [PyData.depth]; omega, by simp only [PyData.weight]; omega, by simp only [PyData.intsShort]⟩
theorem sm_non : Sm .none 1 36 := ⟨by simp only [PyData.showable], by simp only [PyData.canLay0], by simp only [PyData.depth]; omega, by simp only [PyData.weight]; omega, by simp only [PyData.intsShort]⟩
theorem sm_str {x : Str} (h : PyData.strOk x = true) (hs : x.cps.size ≤ 36) : Sm (.str x) 1 36 := ⟨by simp only [PyData.showable], by simp only [PyData.canLay0]; exact h, by simp only [PyData.depth]; omega, by simp only [PyData.weight]; exact hs, by simp only [PyData.intsShort]⟩
theorem Sm.up {d : PyData} {n m w v : Nat} (h : Sm d n w) (a : n ≤ m) (b : w ≤ v) : Sm d m v := ⟨h.sh, h.c, Nat.le_trans h.dp a, Nat.le_trans h.wt b, h.si⟩
theorem sm_all {n w : Nat} : ∀ {ds : List PyData}, (∀ d ∈ ds, Sm d n w) → PyData.showableAll ds = true ∧ PyData.canLayAll0 ds = true ∧ PyData.depthAll ds ≤ n ∧ PyData.weightAll ds ≤ ds.length * (w + 1) ∧ PyData.intsShortAll 13 ds = true
  | [], _ => by simp [PyData.showableAll, PyData.canLayAll0, PyData.depthAll, PyData.weightAll, PyData.intsShortAll]
  | d :: r, h => by
    have a := h d List.mem_cons_self
    obtain ⟨b1, b2, b3, b4, b5⟩ := sm_all (ds := r) fun e he => h e (List.mem_cons_of_mem _ he)
    simp only [PyData.showableAll, PyData.canLayAll0, PyData.depthAll, PyData.weightAll, PyData.intsShortAll, Bool.and_eq_true, List.length_cons]
    refine ⟨⟨a.sh, b1⟩, ⟨a.c, b2⟩, Nat.max_le.mpr ⟨a.dp, b3⟩, ?_, a.si, b5⟩
    have := a.wt
    rw [Nat.succ_mul]
    omega
theorem sm_lst {n w : Nat} {ds : List PyData} (h : ∀ d ∈ ds, Sm d n w) : Sm (.list ds) (n + 1) (ds.length * (w + 1)) := by
  obtain ⟨b1, b2, b3, b4, b5⟩ := sm_all h
  exact ⟨by simp only [PyData.showable]; exact b1, by simp only [PyData.canLay0]; exact b2, by simp only [PyData.depth]; omega, by simp only [PyData.weight]; exact b4, by simp only [PyData.intsShort]; exact b5⟩
theorem sm_tup {n w : Nat} {ds : List PyData} (h : ∀ d ∈ ds, Sm d n w) : Sm (.tuple ds) (n + 1) (ds.length * (w + 1)) := by
  obtain ⟨b1, b2, b3, b4, b5⟩ := sm_all h
  exact ⟨by simp only [PyData.showable]; exact b1, by simp only [PyData.canLay0]; exact b2, by simp only [PyData.depth]; omega, by simp only [PyData.weight]; exact b4, by simp only [PyData.intsShort]; exact b5⟩
theorem Sm.len {d : PyData} {n w : Nat} (h : Sm d n w) (hn : n ≤ 60) (hw : w ≤ 1000000) : d.shown.length ≤ sizeLine := by
  have hl : PyData.layable0 d = true := by
    unfold PyData.layable0
    rw [h.c, decide_eq_true (show PyData.depth d ≤ 64 by have := h.dp; omega), decide_eq_true (show PyData.weight d ≤ 2 ^ 20 by have := h.wt; omega)]
    rfl
  have := shown_le13 hl h.si
  have e : sizeLine = 16777216 := by decide
  omega
section
variable {K : PySem.W.Frag} {M : EC → Addr} {W : WX} {ps : Kn} {te ta tb : TE}
theorem je_reprS {d : PyData} {n w : Nat} (h : JD K M W te ps d) (hr : (∃ ds, d = .list ds) ∨ ∃ ds, d = .tuple ds) (s : Sm d n w) (hn : n ≤ 60) (hw : w ≤ 1000000) : JD K M W (tCB (rRepr K) (tCons te tNil)) ps (.str d.shown) :=
  je_repr h hr s.sh (PyData.hasDict_of_canLay d s.c) (Nat.le_trans s.dp hn) (s.len hn hw)
theorem je_neS {x y : Str} (ha : JD K M W ta ps (.str x)) (hb : JD K M W tb ps (.str y)) : JD K M W (tOp rNe ta tb) ps (.bool (!decide (x = y))) := je_op ha hb fun a b F H fh p q Q k => by
  rw [dp_str p, dp_str q]
  refine ⟨rfl, ?_⟩
  have e : decide (V.str x = V.str y) = decide (x = y) := by
    by_cases h : x = y
    · subst h; simp
    · simp [h]
  rw [e]
  exact k _ F H (Gr.refl fh) (.bl _)
end
end EB

/-! EB25: gcd of three, while over ints, list.index of an int, products of long ints. -/
namespace EB
open PySem PySem.Spec PyProof.Rows L2 Evl PySem.Calls
/-! ### gcd of three -/
theorem gcd3_args (x y z : Value) : argsOk "math.gcd" ⟨[x, y, z], []⟩ := by
  unfold argsOk
  kernel_rfl
theorem gcd3_runs {i j k : Int} {ti tj tk : Tok} : Gives (PySem.Builtin.«math.gcd» ⟨[.int i ti, .int j tj, .int k tk], []⟩) (.int (((((Nat.gcd 0 i.natAbs).gcd j.natAbs).gcd k.natAbs : Nat) : Int))) := by
  refine .of_wp fun MM AA EE ss QQ hq => ?_
  obtain ⟨h0, h1, h2, h3, h4⟩ := ss
  wp_walk
  exact ⟨_, rfl, hq⟩
def rGcd3 : List V → Hp → VK → Prop := fun xs H Q => ∃ i j k : Int, xs = [.int i, .int j, .int k] ∧ Q (.int (((i.natAbs.gcd j.natAbs).gcd k.natAbs : Nat) : Int)) H
theorem cr_gcd3 {X : Cx} : CallR X (.builtin "math.gcd") rGcd3 := by
  intro pins s σ H xs us Q I rv want
  obtain ⟨i, j, k, rfl, q⟩ := want
  cases rv with
  | cons r1 rv =>
    cases rv with
    | cons r2 rv =>
      cases rv with
      | cons r3 rv =>
        cases rv
        obtain ⟨t1, rfl⟩ := r1
        obtain ⟨t2, rfl⟩ := r2
        obtain ⟨t3, rfl⟩ := r3
        have g := gcd3_runs (i := i) (j := j) (k := k) (ti := t1) (tj := t2) (tk := t3)
        rw [Nat.gcd_zero_left] at g
        exact call_function_meets PySem.W.MGF.kind_gcd PySem.W.MGF.plain_gcd PySem.W.MGF.entry_gcd (gcd3_args _ _ _) g.meets ⟨.int _, H, I.tok _, ⟨_, rfl⟩, q⟩
section
variable {K : PySem.W.Frag} {M : EC → Addr} {W : WX} {ps qs : Kn} {te ta tb tc : TE} {t : TT} {ts : TS} {tr : TA}
theorem je_gcd3 {i j k : Int} (h1 : JD K M W ta ps (.int i)) (h2 : JD K M W tb ps (.int j)) (h3 : JD K M W tc ps (.int k)) : JD K M W (tCB rGcd3 (tCons ta (tCons tb (tCons tc tNil)))) ps (.int (((i.natAbs.gcd j.natAbs).gcd k.natAbs : Nat) : Int)) := je_cb (ja_cons h1 (ja_cons h2 (ja_cons h3 ja_nil))) fun vs F H fh b Q kk => by
  cases b with
  | cons p1 b =>
    obtain ⟨v, u, rfl, p2, p3⟩ := allP2 b
    rw [dp_int p1, dp_int p2, dp_int p3]
    exact ⟨i, j, k, rfl, kk _ F H (Gr.refl fh) (.int _)⟩
theorem je_mulW {i j : Int} (ha : JD K M W ta ps (.int i)) (hb : JD K M W tb ps (.int j)) (hc : CMulW i j) : JD K M W (tOp (rI CMulW fun i j => .int (i * j)) ta tb) ps (.int (i * j)) := je_iiC ha hb hc fun _ => .int _
/-- while: m turns, what is known of the slots ahead of each told by f -/
theorem js_while (m : Nat) (f : Nat → Kn) (h0 : f 0 = ps) (ht : ∀ j, j ≤ m → JT K M W t (f j) (decide (j < m))) (hb : ∀ j, j < m → JS K M W ts (f j) (.nx (f (j + 1)))) (hf : ∀ j, (f j).length = ps.length := by intro j; first | rfl | (simp; done)) : JS K M W (tWhile t ts) ps (.nx (f m)) := fun Dn σ F H fh S k => by
  refine ⟨fun n σ' H' => ∃ j F', n = m - j ∧ j ≤ m ∧ Gr F H F' H' ∧ Sl F' σ' (f j), ⟨m, 0, F, by omega, Nat.zero_le _, Gr.refl fh, by rw [h0]; exact S⟩, ?_⟩
  rintro n σ' H' ⟨j, F', rfl, hj, g, S'⟩
  refine ht j hj σ' F' H' _ g.fh S' fun F2 H2 g2 => ?_
  by_cases hlt : j < m
  · rw [if_pos (decide_eq_true hlt)]
    refine ⟨fun σ3 H3 => ∃ F3, Gr F H F3 H3 ∧ Sl F3 σ3 (f (j + 1)), fun σ3 H3 ⟨F3, q1, q2⟩ => ⟨m - (j + 1), by omega, j + 1, F3, rfl, hlt, q1, q2⟩, ?_⟩
    exact hb j hlt _ σ' F2 H2 g2.fh (S'.mono g2.ff) fun σ3 F3 H3 g3 S3 => ⟨F3, (g.trans g2).trans g3, S3⟩
  · have : j = m := by omega
    subst this
    rw [if_neg (by simp)]
    exact k σ' F2 H2 (g.trans g2) (S'.mono g2.ff)
/-- xs.index(i), ints -/
theorem je_index {ns : List Int} {i : Int} {j : Nat} (h : JD K M W te ps (.list (ns.map .int))) (ha : JD K M W ta ps (.int i)) (hj : ns[j]? = some i) (hn : ∀ m, m < j → ns[m]? ≠ some i) : JD K M W (tBM K "list" (rIndex K) te (tCons ta tNil)) ps (.int (j : Nat)) := fun σ F H Q fh S k => h.go fh S fun v F1 H1 e p => by
  obtain ⟨a, xs, rfl, hs, hd⟩ := dp_lst p
  have e2 := dpAll_ints_eq hd
  subst e2
  refine ⟨.inl ⟨rfl, _, ex_l e.fh hs⟩, ja_cons ha ja_nil σ F1 H1 _ e.fh (S.mono e.ff) fun vs F2 H2 e2 b => ?_⟩
  obtain ⟨v, rfl, p2⟩ := allP1 b
  have q := dp_int p2
  subst q
  have eqi : ∀ x y : Int, eqV (.int x) (.int y) = decide (x = y) := fun x y => by
    unfold eqV
    by_cases z : x = y
    · subst z; simp
    · simp [z]
  refine ⟨a, ns.map .int, .int i, j, .int i, rfl, rfl, ex_l (e.fh.trans e2.hh) hs, rfl, flat_ints ns, by rw [List.getElem?_map, hj] <;> rfl, by rw [eqi]; exact decide_eq_true rfl, fun m z hm hz => ?_, k _ F2 H2 (e.trans e2) (.int _)⟩
  rw [List.getElem?_map] at hz
  cases hx : ns[m]? with
  | none => rw [hx] at hz; cases hz
  | some x =>
    rw [hx] at hz
    cases hz
    rw [eqi]
    exact decide_eq_false fun y => hn m hm (by rw [hx, y])
end
end EB

/-! EB26: data with longer ints, short enough for repr; is None. -/
namespace EB
open PySem PySem.Spec PyProof.Rows L2 Evl
/-- data with ints of up to 19 digits -/
structure Sb (d : PyData) (n w : Nat) : Prop where
  sh : PyData.showable d = true
  c : PyData.canLay0 d = true
  dp : PyData.depth d ≤ n
  wt : PyData.weight d ≤ w
  si : PyData.intsShort 20 d = true
theorem sb_int {i : Int} (h : -10000000000000000000 < i ∧ i < 10000000000000000000) : Sb (.int i) 1 66 := by
  have hn : i.natAbs < 2 ^ 64 := by omega
  have hl := log_lt (by decide) hn
  refine ⟨?_, by simp only [PyData.canLay0], by simp only [PyData.depth]; omega, ?_, ?_⟩
  · simp only [PyData.showable]
    exact decide_eq_true (by omega)
  · simp only [PyData.weight]
    split <;> omega
  · simp only [PyData.intsShort]
    refine decide_eq_true ?_
    show (Str.ofString (toString i)).length ≤ 20
    by_cases z : 0 ≤ i
    · have := toString_length_le z (k := 19) (by decide) (by omega)
      omega
    · have e := len_text_neg (n := i) (by omega)
      have := toString_length_le (v := 0 - i) (by omega) (k := 19) (by decide) (by omega)
      omega
theorem sb_bl {b : Bool} : Sb (.bool b) 1 66 := ⟨by simp only [PyData.showable], by simp only [PyData.canLay0], by simp only [PyData.depth]; omega, by simp only [PyData.weight]; omega, by simp only [PyData.intsShort]⟩
theorem sb_non : Sb .none 1 66 := ⟨by simp only [PyData.showable], by simp only [PyData.canLay0], by simp only [PyData.depth]; omega, by simp only [PyData.weight]; omega, by simp only [PyData.intsShort]⟩
theorem sb_str {x : Str} (h : PyData.strOk x = true) (hs : x.cps.size ≤ 66) : Sb (.str x) 1 66 := ⟨by simp only [PyData.showable], by simp only [PyData.canLay0]; exact h, by simp only [PyData.depth]; omega, by simp only [PyData.weight]; exact hs, by simp only [PyData.intsShort]⟩
theorem Sb.up {d : PyData} {n m w v : Nat} (h : Sb d n w) (a : n ≤ m) (b : w ≤ v) : Sb d m v := ⟨h.sh, h.c, Nat.le_trans h.dp a, Nat.le_trans h.wt b, h.si⟩
theorem sb_all {n w : Nat} : ∀ {ds : List PyData}, (∀ d ∈ ds, Sb d n w) → PyData.showableAll ds = true ∧ PyData.canLayAll0 ds = true ∧ PyData.depthAll ds ≤ n ∧ PyData.weightAll ds ≤ ds.length * (w + 1) ∧ PyData.intsShortAll 20 ds = true
  | [], _ => by simp [PyData.showableAll, PyData.canLayAll0, PyData.depthAll, PyData.weightAll, PyData.intsShortAll]
  | d :: r, h => by
    have a := h d List.mem_cons_self
    obtain ⟨b1, b2, b3, b4, b5⟩ := sb_all (ds := r) fun e he => h e (List.mem_cons_of_mem _ he)
    simp only [PyData.showableAll, PyData.canLayAll0, PyData.depthAll, PyData.weightAll, PyData.intsShortAll, Bool.and_eq_true, List.length_cons]
    refine ⟨⟨a.sh, b1⟩, ⟨a.c, b2⟩, Nat.max_le.mpr ⟨a.dp, b3⟩, ?_, a.si, b5⟩
    have := a.wt
    rw [Nat.succ_mul]
    omega
theorem sb_lst {n w : Nat} {ds : List PyData} (h : ∀ d ∈ ds, Sb d n w) : Sb (.list ds) (n + 1) (ds.length * (w + 1)) := by
  obtain ⟨b1, b2, b3, b4, b5⟩ := sb_all h
  exact ⟨by simp only [PyData.showable]; exact b1, by simp only [PyData.canLay0]; exact b2, by simp only [PyData.depth]; omega, by simp only [PyData.weight]; exact b4, by simp only [PyData.intsShort]; exact b5⟩
theorem sb_tup {n w : Nat} {ds : List PyData} (h : ∀ d ∈ ds, Sb d n w) : Sb (.tuple ds) (n + 1) (ds.length * (w + 1)) := by
  obtain ⟨b1, b2, b3, b4, b5⟩ := sb_all h
  exact ⟨by simp only [PyData.showable]; exact b1, by simp only [PyData.canLay0]; exact b2, by simp only [PyData.depth]; omega, by simp only [PyData.weight]; exact b4, by simp only [PyData.intsShort]; exact b5⟩
theorem Sb.len {d : PyData} {n w : Nat} (h : Sb d n w) (hw : w ≤ 100000) : d.shown.length ≤ sizeLine := by
  have h2 := PyData.shown_le 20 (by decide) d (PyData.leavesShort_of_canLay0 20 d h.c h.si)
  have e : sizeLine = 16777216 := by decide
  have := h.wt
  omega
section
variable {K : PySem.W.Frag} {M : EC → Addr} {W : WX} {ps : Kn} {te ta tb : TE}
theorem je_reprB {d : PyData} {n w : Nat} (h : JD K M W te ps d) (hr : (∃ ds, d = .list ds) ∨ ∃ ds, d = .tuple ds) (s : Sb d n w) (hn : n ≤ 60 := by decide) (hw : w ≤ 100000 := by decide) : JD K M W (tCB (rRepr K) (tCons te tNil)) ps (.str d.shown) :=
  je_repr h hr s.sh (PyData.hasDict_of_canLay d s.c) (Nat.le_trans s.dp hn) (s.len hw)
theorem je_isN {d : PyData} {b : Bool} (ha : JD K M W ta ps d) (hn : (d ≠ .none ∧ b = false) ∨ (d = .none ∧ b = true)) : JD K M W (tOp rIsN ta (tC .non)) ps (.bool b) := fun σ F H Q fh S k => ha.go fh S fun v F' H' g p => by
  refine ⟨rfl, ?_⟩
  have e : decide (v = V.non) = b := by
    rcases hn with ⟨h1, rfl⟩ | ⟨rfl, rfl⟩
    · refine decide_eq_false fun z => ?_
      subst z
      cases p
      exact h1 rfl
    · cases p
      rfl
  rw [e]
  exact k _ F' H' g (.bl b)
/-- a, b, c = x, y, z -/
theorem js_par3 {i j l : Nat} {P R S' : PV} {tr : TA} (h : JA K M W tr ps [P, R, S']) : JS K M W (tPar3 i j l tr) ps (.nx (((ps.set i (some P)).set j (some R)).set l (some S'))) := fun D σ F H fh S k => h σ F H _ fh S fun us F1 H1 e1 a => by
  cases a with
  | cons p a =>
    obtain ⟨v, u, rfl, q, r⟩ := allP2 a
    exact ⟨_, v, u, rfl, k _ F1 H1 e1 ((((S.mono e1.ff).set i p).set j q).set l r)⟩
/-- isinstance of a tuple -/
theorem je_isTp {ds : List PyData} {T : String} {b : Bool} (h : JD K M W te ps (.tuple ds)) (hT : kitB "tuple" T = some b) : JD K M W (tCB (rIsi K) (tCons te (tCons (tC (.ty T)) tNil))) ps (.bool b) := je_cb (ja_cons h (ja_cons je_x ja_nil)) fun vs F H fh a Q k => by
  obtain ⟨v, u, rfl, p, q⟩ := allP2 a
  obtain ⟨o, xs, rfl, hs, hd⟩ := dp_tup p
  rw [show u = V.ty T from q]
  have ty : TyX K H (.ref o) (.type "tuple") := by
    rcases ex_t fh hs with (z | ⟨ob, z⟩) | ⟨ob, its, n, z, c, _⟩
    · exact .base (.tup z)
    · exact .fTuple z
    · exact .kTuple z c
  exact ⟨.ref o, .ty T, .type "tuple", .type T, b, rfl, .ty T, ty, kit_ty hT, k _ F H (Gr.refl fh) (.bl b)⟩
end
end EB

namespace DC
section
variable {α β : Type}
/-- sums over a list -/
def S (xs : List α) (f : α → Nat) : Nat := (xs.map f).sum
theorem S_nil (f : α → Nat) : S [] f = 0 := rfl
theorem S_cons (x : α) (xs : List α) (f : α → Nat) : S (x :: xs) f = f x + S xs f := by simp [S]
theorem S_app (xs ys : List α) (f : α → Nat) : S (xs ++ ys) f = S xs f + S ys f := by simp [S]
theorem S_add (xs : List α) (f g : α → Nat) : S xs (fun x => f x + g x) = S xs f + S xs g := by
  induction xs with
  | nil => rfl
  | cons a r ih => rw [S_cons, S_cons, S_cons, ih]; omega
theorem S_congr {xs : List α} {f g : α → Nat} (h : ∀ x ∈ xs, f x = g x) : S xs f = S xs g := by
  induction xs with
  | nil => rfl
  | cons a r ih => rw [S_cons, S_cons, h a List.mem_cons_self, ih fun x hx => h x (List.mem_cons_of_mem _ hx)]
theorem S_zero (xs : List α) : S xs (fun _ => 0) = 0 := by
  induction xs with
  | nil => rfl
  | cons a r ih => rw [S_cons, ih]
theorem S_mul (c : Nat) (xs : List α) (f : α → Nat) : S xs (fun x => c * f x) = c * S xs f := by
  induction xs with
  | nil => rfl
  | cons a r ih => rw [S_cons, S_cons, ih, Nat.mul_add]
theorem S_comm (xs : List α) (ys : List β) (f : α → β → Nat) : S xs (fun x => S ys (f x)) = S ys (fun y => S xs fun x => f x y) := by
  induction xs with
  | nil => rw [S_nil, show (fun y => S [] fun x => f x y) = fun _ => 0 from rfl, S_zero]
  | cons a r ih =>
    rw [S_cons, ih, ← S_add]
    exact S_congr fun y _ => by rw [S_cons]
theorem S_one (xs : List α) : S xs (fun _ => 1) = xs.length := by
  induction xs with
  | nil => rfl
  | cons a r ih => rw [S_cons, ih, List.length_cons]; omega
theorem S_filter (xs : List α) (p : α → Bool) (f : α → Nat) : S (xs.filter p) f = S xs (fun x => if p x = true then f x else 0) := by
  induction xs with
  | nil => rfl
  | cons a r ih =>
    rw [List.filter_cons, S_cons]
    cases h : p a with
    | true => rw [if_pos rfl, if_pos rfl, S_cons, ih]
    | false => rw [if_neg (by decide), if_neg (by decide), ih, Nat.zero_add]
theorem S_len (xs : List α) (p : α → Bool) : (xs.filter p).length = S xs (fun x => if p x = true then 1 else 0) := by rw [← S_one, S_filter]
variable [DecidableEq α]
theorem S_point {xs : List α} (h : xs.Nodup) {r : α} (hr : r ∈ xs) (f : α → Nat) : S xs (fun x => if x = r then f x else 0) = f r := by
  induction xs with
  | nil => cases hr
  | cons a t ih =>
    rw [S_cons]
    obtain ⟨h1, h2⟩ := List.nodup_cons.mp h
    rcases List.mem_cons.mp hr with e | e
    · subst e
      have z0 : S t (fun x => if x = r then f x else 0) = S t fun _ => 0 := S_congr fun x hx => if_neg fun (z : x = r) => h1 (z ▸ hx)
      rw [if_pos rfl, z0, S_zero]
      rfl
    · rw [if_neg fun (z : a = r) => h1 (z ▸ e), ih h2 e, Nat.zero_add]
/-- all but one -/
def but (xs : List α) (r : α) : List α := xs.filter fun x => !decide (x = r)
theorem mem_but {xs : List α} {r x : α} : x ∈ but xs r ↔ x ∈ xs ∧ x ≠ r := by
  unfold but
  rw [List.mem_filter]
  simp
theorem S_but (xs : List α) (r : α) (f : α → Nat) : S (but xs r) f = S xs (fun x => if x ≠ r then f x else 0) := by
  unfold but
  rw [S_filter]
  exact S_congr fun x _ => by
    by_cases h : x = r <;> simp [h]
theorem S_but_add {xs : List α} (h : xs.Nodup) {r : α} (hr : r ∈ xs) (f : α → Nat) : S (but xs r) f + f r = S xs f := by
  rw [S_but]
  have := S_point h hr f
  rw [← this, ← S_add]
  exact S_congr fun x _ => by
    by_cases z : x = r <;> simp [z]
theorem but_len {xs : List α} (h : xs.Nodup) {r : α} (hr : r ∈ xs) : (but xs r).length + 1 = xs.length := by
  have := S_but_add h hr fun _ => 1
  rw [S_one, S_one] at this
  exact this
/-- what is on the left of two -/
structure Ori (xs : List α) (g : α → α → α → Bool) : Prop where
  nd : xs.Nodup
  l1 : ∀ p q, g p q p = false
  l2 : ∀ p q, g p q q = false
  op : ∀ p q r, p ∈ xs → q ∈ xs → r ∈ xs → p ≠ q → r ≠ p → r ≠ q → g q p r = !g p q r
variable {xs : List α} {g : α → α → α → Bool}
theorem Ori.but (o : Ori xs g) (r : α) : Ori (but xs r) g where
  nd := List.Pairwise.filter _ o.nd
  l1 := o.l1
  l2 := o.l2
  op := fun p q s hp hq hs => o.op p q s (mem_but.mp hp).1 (mem_but.mp hq).1 (mem_but.mp hs).1
def lf (xs : List α) (g : α → α → α → Bool) (p q : α) : Nat := S xs fun r => if g p q r = true then 1 else 0
def T (xs : List α) (g : α → α → α → Bool) (j : Nat) : Nat := S xs fun p => S xs fun q => if p ≠ q ∧ lf xs g p q = j then 1 else 0
/-- those on the right -/
theorem lf_op (o : Ori xs g) {p q : α} (hp : p ∈ xs) (hq : q ∈ xs) (h : p ≠ q) : lf xs g p q + lf xs g q p + 2 = xs.length := by
  unfold lf
  have h1 := S_point o.nd hp fun _ => 1
  have h2 := S_point o.nd hq fun _ => 1
  rw [← S_one, ← S_add]
  have e : S xs (fun _ => 1) = S xs fun r => ((if g p q r = true then 1 else 0) + (if g q p r = true then 1 else 0)) + ((if r = p then 1 else 0) + (if r = q then 1 else 0)) := S_congr fun r hr => by
    by_cases z1 : r = p
    · subst z1
      rw [o.l1, o.l2]
      simp [h]
    · by_cases z2 : r = q
      · subst z2
        rw [o.l1, o.l2]
        simp [z1]
      · rw [o.op p q r hp hq hr h z1 z2]
        cases g p q r <;> simp [z1, z2]
  rw [e, S_add xs (fun r => (if g p q r = true then 1 else 0) + (if g q p r = true then 1 else 0)), S_add xs (fun r => if r = p then 1 else 0), h1, h2, S_add]
theorem T_sym (o : Ori xs g) {j : Nat} (hj : j + 2 ≤ xs.length) : T xs g j = T xs g (xs.length - 2 - j) := by
  unfold T
  rw [S_comm]
  refine S_congr fun p hp => S_congr fun q hq => ?_
  by_cases h : p = q
  · simp [h]
  · have := lf_op o hp hq h
    have e : (q ≠ p ∧ lf xs g q p = j) ↔ (p ≠ q ∧ lf xs g p q = xs.length - 2 - j) := ⟨fun ⟨_, y⟩ => ⟨h, by omega⟩, fun ⟨_, y⟩ => ⟨fun z => h z.symm, by omega⟩⟩
    simp only [e]
theorem S_range_point {n k : Nat} (h : k < n) : S (List.range n) (fun j => if k = j then 1 else 0) = 1 := by
  have h2 := S_point (List.nodup_range (n := n)) (List.mem_range.mpr h) fun _ => 1
  refine Eq.trans (S_congr fun x _ => ?_) h2
  by_cases z : k = x
  · rw [if_pos z, if_pos z.symm]
  · rw [if_neg z, if_neg fun y => z y.symm]
theorem T_sum (o : Ori xs g) : S (List.range (xs.length - 1)) (T xs g) + xs.length = xs.length * xs.length := by
  unfold T
  rw [S_comm]
  have e : S xs (fun p => S (List.range (xs.length - 1)) fun j => S xs fun q => if p ≠ q ∧ lf xs g p q = j then 1 else 0) = S xs fun p => S xs fun q => if p ≠ q then 1 else 0 := S_congr fun p hp => by
    rw [S_comm]
    refine S_congr fun q hq => ?_
    by_cases h : p = q
    · simp [h, S_zero]
    · have := lf_op o hp hq h
      rw [if_pos h]
      refine Eq.trans (S_congr fun j _ => ?_) (S_range_point (n := xs.length - 1) (k := lf xs g p q) (by omega))
      simp [h]
  rw [e, ← S_one, ← S_add]
  have e2 : S xs (fun p => S xs (fun q => if p ≠ q then 1 else 0) + 1) = S xs fun _ => S xs (fun _ => 1) * 1 := S_congr fun p hp => by
    have := S_but_add o.nd hp fun _ => 1
    rw [S_but] at this
    rw [Nat.mul_one, ← this]
    congr 1
    exact S_congr fun q _ => by
      by_cases z : p = q
      · simp [z]
      · rw [if_pos z, if_pos fun y => z y.symm]
  rw [e2, show (fun _ : α => S xs (fun _ => 1) * 1) = fun _ => S xs (fun _ => 1) * (fun _ => 1) () from rfl]
  have := S_mul (S xs fun _ => 1) xs fun _ => 1
  rw [← this]
theorem lf_but (o : Ori xs g) {p q r : α} (hr : r ∈ xs) : lf (but xs r) g p q + (if g p q r = true then 1 else 0) = lf xs g p q := S_but_add o.nd hr _
/-- each point dropped once -/
theorem T_drop (o : Ori xs g) {j : Nat} (hj : j + 2 ≤ xs.length) : S xs (fun r => T (but xs r) g j) = (xs.length - 2 - j) * T xs g j + (j + 1) * T xs g (j + 1) := by
  have e1 : S xs (fun r => T (but xs r) g j) = S xs fun r => S xs fun p => S xs fun q => if r ≠ p ∧ r ≠ q ∧ p ≠ q ∧ lf (but xs r) g p q = j then 1 else 0 := S_congr fun r hr => by
    unfold T
    rw [S_but]
    refine S_congr fun p hp => ?_
    by_cases h : p = r
    · subst h
      simp [S_zero]
    · rw [if_pos h, S_but]
      refine S_congr fun q hq => ?_
      by_cases h2 : q = r
      · subst h2
        simp
      · have a : r ≠ p := fun z => h z.symm
        have b : r ≠ q := fun z => h2 z.symm
        rw [if_pos h2]
        simp [a, b]
  rw [e1, S_comm]
  unfold T
  rw [← S_mul, ← S_mul, ← S_add]
  refine S_congr fun p hp => ?_
  rw [S_comm, ← S_mul, ← S_mul, ← S_add]
  refine S_congr fun q hq => ?_
  by_cases h : p = q
  · subst h
    simp [S_zero]
  · have hop := lf_op o hp hq h
    have e2 : S xs (fun r => if r ≠ p ∧ r ≠ q ∧ p ≠ q ∧ lf (but xs r) g p q = j then 1 else 0) = S xs fun r => (if lf xs g p q = j then 1 else 0) * (if g q p r = true then 1 else 0) + (if lf xs g p q = j + 1 then 1 else 0) * (if g p q r = true then 1 else 0) := S_congr fun r hr => by
      have hb := lf_but o (p := p) (q := q) hr
      by_cases z1 : r = p
      · subst z1
        rw [o.l1, o.l2]
        simp
      · by_cases z2 : r = q
        · subst z2
          rw [o.l1, o.l2]
          simp
        · rw [o.op p q r hp hq hr h z1 z2]
          cases hg : g p q r with
          | true =>
            rw [hg] at hb
            simp only [if_true] at hb
            have : lf (but xs r) g p q = j ↔ lf xs g p q = j + 1 := by omega
            simp [z1, z2, h, this]
          | false =>
            rw [hg] at hb
            simp at hb
            simp [z1, z2, h, hb]
    rw [e2, S_add, S_mul, S_mul]
    show _ * lf xs g q p + _ * lf xs g p q = _
    by_cases a : lf xs g p q = j
    · have b : ¬ lf xs g p q = j + 1 := by omega
      simp [a, h]
      omega
    · by_cases b : lf xs g p q = j + 1
      · simp [b, h]
      · simp [a, b, h]
end
end DC

namespace TR
open DC
section
variable {α : Type} [DecidableEq α]
/-- a strict order, told on a list -/
structure Tr (ys : List α) (R : α → α → Bool) : Prop where
  nd : ys.Nodup
  ir : ∀ q, R q q = false
  an : ∀ q r, q ∈ ys → r ∈ ys → q ≠ r → R r q = !R q r
  tr : ∀ q r s, q ∈ ys → r ∈ ys → s ∈ ys → R q r = true → R r s = true → R q s = true
def deg (ys : List α) (R : α → α → Bool) (q : α) : Nat := S ys fun r => if R q r = true then 1 else 0
variable {ys : List α} {R : α → α → Bool}
theorem Tr.but (t : Tr ys R) (r : α) : Tr (but ys r) R := ⟨List.Pairwise.filter _ t.nd, t.ir, fun q s hq hs => t.an q s (mem_but.mp hq).1 (mem_but.mp hs).1, fun q s u hq hs hu => t.tr q s u (mem_but.mp hq).1 (mem_but.mp hs).1 (mem_but.mp hu).1⟩
theorem S_le {xs : List α} {f g : α → Nat} (h : ∀ x ∈ xs, f x ≤ g x) : S xs f ≤ S xs g := by
  induction xs with
  | nil => exact Nat.le_refl _
  | cons a r ih =>
    rw [S_cons, S_cons]
    exact Nat.add_le_add (h a List.mem_cons_self) (ih fun x hx => h x (List.mem_cons_of_mem _ hx))
theorem S_lt {xs : List α} {f g : α → Nat} (h : ∀ x ∈ xs, f x ≤ g x) {y : α} (hy : y ∈ xs) (hl : f y < g y) : S xs f < S xs g := by
  induction xs with
  | nil => cases hy
  | cons a r ih =>
    rw [S_cons, S_cons]
    have h1 := h a List.mem_cons_self
    have h2 := S_le fun x hx => h x (List.mem_cons_of_mem _ hx)
    rcases List.mem_cons.mp hy with e | e
    · subst e
      omega
    · have := ih (fun x hx => h x (List.mem_cons_of_mem _ hx)) e
      omega
theorem S_zero_iff {xs : List α} {f : α → Nat} (h : S xs f = 0) : ∀ x ∈ xs, f x = 0 := by
  induction xs with
  | nil => intro x hx; cases hx
  | cons a r ih =>
    rw [S_cons] at h
    intro x hx
    rcases List.mem_cons.mp hx with e | e
    · subst e; omega
    · exact ih (by omega) x e
theorem exists_of {xs : List α} {f : α → Nat} (h : S xs f ≠ 0) : ∃ x ∈ xs, f x ≠ 0 := by
  induction xs with
  | nil => exact absurd rfl h
  | cons a r ih =>
    rw [S_cons] at h
    by_cases z : f a = 0
    · obtain ⟨x, hx, hf⟩ := ih (by omega)
      exact ⟨x, List.mem_cons_of_mem _ hx, hf⟩
    · exact ⟨a, List.mem_cons_self, z⟩
theorem sink (t : Tr ys R) : ∀ (k : Nat) (q : α), q ∈ ys → deg ys R q = k → ∃ z ∈ ys, deg ys R z = 0 := by
  intro k
  induction k using Nat.strongRecOn with
  | _ k ih =>
    intro q hq e
    by_cases h0 : deg ys R q = 0
    · exact ⟨q, hq, h0⟩
    · obtain ⟨r, hr, hf⟩ := exists_of h0
      have hR : R q r = true := by
        by_cases z : R q r = true
        · exact z
        · rw [if_neg z] at hf
          exact absurd rfl hf
      have lt : deg ys R r < deg ys R q := by
        refine S_lt (fun x hx => ?_) hr ?_
        · by_cases z : R r x = true
          · rw [if_pos z, if_pos (t.tr q r x hq hr hx hR z)]
            exact Nat.le_refl _
          · rw [if_neg z]
            exact Nat.zero_le _
        · rw [t.ir, hR]
          decide
      exact ih _ (by omega) r hr rfl
/-- each number of followers once -/
theorem one : ∀ (m : Nat) (ys : List α), ys.length = m → Tr ys R → ∀ j, j < m → S ys (fun q => if deg ys R q = j then 1 else 0) = 1
  | 0, _, _, _, j, h => absurd h (Nat.not_lt_zero j)
  | m + 1, ys, hl, t, j, hj => by
    have ne : ys ≠ [] := fun z => by
      rw [z] at hl
      cases hl
    obtain ⟨q, hq⟩ := List.exists_mem_of_ne_nil ys ne
    obtain ⟨z, hz, h0⟩ := sink t _ q hq rfl
    have hb := but_len t.nd hz
    have up : ∀ q ∈ but ys z, deg ys R q = deg (but ys z) R q + 1 := fun q hq => by
      have h1 := mem_but.mp hq
      have hzq : R z q = false := by
        have := S_zero_iff h0 q h1.1
        by_cases y : R z q = true
        · rw [if_pos y] at this
          cases this
        · simpa using y
      have hqz : R q z = true := by
        rw [t.an z q hz h1.1 (fun y => h1.2 y.symm), hzq]
        rfl
      have := S_but_add t.nd hz fun r => if R q r = true then 1 else 0
      rw [if_pos hqz] at this
      exact this.symm
    have sp := S_but_add t.nd hz fun q => if deg ys R q = j then 1 else 0
    rw [← sp]
    cases j with
    | zero =>
      rw [if_pos h0]
      have e : S (but ys z) (fun q => if deg ys R q = 0 then 1 else 0) = S (but ys z) fun _ => 0 := S_congr fun q hq => if_neg (by rw [up q hq]; omega)
      rw [e, S_zero]
    | succ j =>
      rw [h0, if_neg (by omega)]
      have e : S (but ys z) (fun q => if deg ys R q = j + 1 then 1 else 0) = S (but ys z) fun q => if deg (but ys z) R q = j then 1 else 0 := S_congr fun q hq => by
        rw [up q hq]
        by_cases y : deg (but ys z) R q = j
        · rw [if_pos y, if_pos (by omega)]
        · rw [if_neg y, if_neg (by omega)]
      rw [e, one m (but ys z) (by omega) (t.but z) j (by omega)]
/-! around a point in no triangle -/
variable {xs : List α} {g : α → α → α → Bool}
theorem around (o : Ori xs g) {p : α} (hp : p ∈ xs) (nc : ∀ a b c, a ∈ xs → b ∈ xs → c ∈ xs → a ≠ p → b ≠ p → c ≠ p → g p a b = true → g p b c = true → g p c a = true → False) (sw : ∀ q r, q ∈ xs → r ∈ xs → q ≠ p → r ≠ p → q ≠ r → g p r q = !g p q r) :
    Tr (but xs p) (g p) := by
  refine ⟨List.Pairwise.filter _ o.nd, o.l2 p, fun q r hq hr ne => sw q r (mem_but.mp hq).1 (mem_but.mp hr).1 (mem_but.mp hq).2 (mem_but.mp hr).2 ne, fun q r s hq hr hs h1 h2 => ?_⟩
  have hq := mem_but.mp hq
  have hr := mem_but.mp hr
  have hs := mem_but.mp hs
  by_cases e : q = s
  · subst e
    have qr : q ≠ r := fun z => by
      subst z
      rw [o.l2] at h1
      cases h1
    rw [sw q r hq.1 hr.1 hq.2 hr.2 qr, h1] at h2
    cases h2
  · cases h : g p q s with
    | true => rfl
    | false =>
      have : g p s q = true := by
        rw [sw q s hq.1 hs.1 hq.2 hs.2 e, h]
        rfl
      exact (nc q r s hq.1 hr.1 hs.1 hq.2 hr.2 hs.2 h1 h2 this).elim
theorem around_one (o : Ori xs g) {p : α} (hp : p ∈ xs) (t : Tr (but xs p) (g p)) {j : Nat} (hj : j + 1 < xs.length) : S xs (fun q => if p ≠ q ∧ lf xs g p q = j then 1 else 0) = 1 := by
  have hb := but_len o.nd hp
  have h1 := one (R := g p) _ (but xs p) rfl t j (by omega)
  refine Eq.trans ?_ h1
  rw [S_but]
  refine S_congr fun q hq => ?_
  by_cases e : q = p
  · rw [if_neg fun z => z.1 e.symm, if_neg fun z => z e]
  · have hd : deg (but xs p) (g p) q = lf xs g p q := by
      unfold deg lf
      have := S_but_add o.nd hp fun r => if g p q r = true then 1 else 0
      rw [← this, o.l1]
      simp
    rw [if_pos e, hd]
    have e2 : p ≠ q := fun z => e z.symm
    by_cases y : lf xs g p q = j
    · rw [if_pos ⟨e2, y⟩, if_pos y]
    · rw [if_neg fun z => y z.2, if_neg y]
end
end TR

/-! KM: shifts of rows (Horner), sums, second differences, Pascal's triangle: plain lists of integers, no kit. -/
namespace KM
/-- (x + t) * s + c -/
def hz (t c : Int) : List Int → List Int
  | [] => [c]
  | a :: s => (c + t * a) :: hz t a s
/-- the row's polynomial at x + t -/
def mv (t : Int) : List Int → List Int
  | [] => []
  | c :: p => hz t c (mv t p)
theorem hz_len (t : Int) : ∀ (s : List Int) (c : Int), (hz t c s).length = s.length + 1
  | [], _ => rfl
  | a :: s, c => by show (hz t a s).length + 1 = _; rw [hz_len t s a]; rfl
theorem mv_len (t : Int) : ∀ p : List Int, (mv t p).length = p.length
  | [] => rfl
  | c :: p => by show (hz t c (mv t p)).length = _; rw [hz_len, mv_len t p]; rfl
theorem hz_zero : ∀ (s : List Int) (c : Int), hz 0 c s = c :: s
  | [], _ => rfl
  | a :: s, c => by show (c + 0 * a) :: hz 0 a s = _; rw [hz_zero s a, Int.zero_mul, Int.add_zero]
theorem hz_comm (t u : Int) : ∀ (z : List Int) (a c : Int), hz u (c + t * a) (hz (t + u) a z) = hz (t + u) c (hz u a z)
  | [], a, c => by
    show [c + t * a + u * a, a] = [c + (t + u) * a, a]
    rw [Int.add_mul, Int.add_assoc]
  | b :: z, a, c => by
    have ih := hz_comm t u z b (a + u * b)
    have e : a + u * b + t * b = a + (t + u) * b := by rw [Int.add_mul]; omega
    rw [e] at ih
    show (c + t * a + u * (a + (t + u) * b)) :: hz u (a + (t + u) * b) (hz (t + u) b z) = (c + (t + u) * (a + u * b)) :: hz (t + u) (a + u * b) (hz u b z)
    rw [ih]
    congr 1
    have h1 : u * ((t + u) * b) = (t + u) * (u * b) := by rw [← Int.mul_assoc, ← Int.mul_assoc, Int.mul_comm u (t + u)]
    rw [Int.mul_add, Int.mul_add, h1, Int.add_mul t u a]
    omega
theorem mv_hz (t u : Int) : ∀ (s : List Int) (c : Int), mv u (hz t c s) = hz (t + u) c (mv u s)
  | [], c => rfl
  | a :: s, c => by
    show hz u (c + t * a) (mv u (hz t a s)) = hz (t + u) c (hz u a (mv u s))
    rw [mv_hz t u s a, hz_comm]
theorem mv_mv (t u : Int) (h : t + u = 0) : ∀ p : List Int, mv u (mv t p) = p
  | [] => rfl
  | c :: p => by
    show mv u (hz t c (mv t p)) = _
    rw [mv_hz, mv_mv t u h p, h, hz_zero]
/-! ### entries -/
theorem getD_cons_succ (a : Int) (s : List Int) (i : Nat) : (a :: s).getD (i + 1) 0 = s.getD i 0 := by simp
theorem getD_cons_zero (a : Int) (s : List Int) : (a :: s).getD 0 0 = a := by simp
theorem hz_get (t : Int) : ∀ (s : List Int) (c : Int) (i : Nat), (hz t c s).getD i 0 = (c :: s).getD i 0 + t * s.getD i 0
  | [], c, i => by
    show [c].getD i 0 = [c].getD i 0 + t * ([] : List Int).getD i 0
    simp
  | a :: s, c, 0 => by
    show ((c + t * a) :: hz t a s).getD 0 0 = _
    simp
  | a :: s, c, i + 1 => by
    show ((c + t * a) :: hz t a s).getD (i + 1) 0 = _
    rw [getD_cons_succ, hz_get t s a i, getD_cons_succ, getD_cons_succ]
/-- the kernel -/
def kt (t : Int) : Nat → Nat → Int
  | 0, 0 => 1
  | 0, _ + 1 => 0
  | m + 1, 0 => t * kt t m 0
  | m + 1, s + 1 => t * kt t m (s + 1) + kt t m s
/-- Σ f i for i < n -/
def Z (n : Nat) (f : Nat → Int) : Int := ((List.range n).map f).sum
theorem Z_zero (f : Nat → Int) : Z 0 f = 0 := rfl
theorem Z_succ (n : Nat) (f : Nat → Int) : Z (n + 1) f = Z n f + f n := by
  unfold Z
  rw [List.range_succ, List.map_append, List.sum_append]
  simp
theorem Z_front (n : Nat) (f : Nat → Int) : Z (n + 1) f = f 0 + Z n (fun i => f (i + 1)) := by
  induction n with
  | zero => rw [Z_succ, Z_zero, Z_zero]; omega
  | succ n ih => rw [Z_succ, ih, Z_succ]; omega
theorem Z_congr {n : Nat} {f g : Nat → Int} (h : ∀ i, i < n → f i = g i) : Z n f = Z n g := by
  unfold Z
  rw [List.map_congr_left fun i hi => h i (List.mem_range.mp hi)]
theorem Z_add (n : Nat) (f g : Nat → Int) : Z n (fun i => f i + g i) = Z n f + Z n g := by
  induction n with
  | zero => rfl
  | succ n ih => rw [Z_succ, Z_succ, Z_succ, ih]; omega
theorem Z_mul (n : Nat) (c : Int) (f : Nat → Int) : Z n (fun i => c * f i) = c * Z n f := by
  induction n with
  | zero => rw [Z_zero, Z_zero, Int.mul_zero]
  | succ n ih => rw [Z_succ, Z_succ, ih, Int.mul_add]
theorem Z_nil (n : Nat) : Z n (fun _ => 0) = 0 := by
  induction n with
  | zero => rfl
  | succ n ih => rw [Z_succ, ih]; rfl
theorem Z_split (a b : Nat) (f : Nat → Int) : Z (a + b) f = Z a f + Z b (fun i => f (a + i)) := by
  induction b with
  | zero => rw [Nat.add_zero, Z_zero, Int.add_zero]
  | succ b ih => rw [← Nat.add_assoc, Z_succ, ih, Z_succ]; omega
theorem mv_get (t : Int) : ∀ (p : List Int) (s : Nat), (mv t p).getD s 0 = Z p.length (fun m => p.getD m 0 * kt t m s)
  | [], s => by show ([] : List Int).getD s 0 = _; simp [Z]
  | c :: p, s => by
    show (hz t c (mv t p)).getD s 0 = Z (p.length + 1) _
    rw [hz_get, Z_front, mv_get t p s]
    cases s with
    | zero =>
      rw [getD_cons_zero, getD_cons_zero, show kt t 0 0 = 1 from rfl, Int.mul_one, ← Z_mul]
      congr 1
      refine Z_congr fun i _ => ?_
      show t * (p.getD i 0 * kt t i 0) = (c :: p).getD (i + 1) 0 * (t * kt t i 0)
      rw [getD_cons_succ, ← Int.mul_assoc, ← Int.mul_assoc, Int.mul_comm t]
    | succ s =>
      rw [getD_cons_succ, mv_get t p s, show kt t 0 (s + 1) = 0 from rfl, Int.mul_zero, Int.zero_add, ← Z_mul, ← Z_add]
      refine Z_congr fun i _ => ?_
      show p.getD i 0 * kt t i s + t * (p.getD i 0 * kt t i (s + 1)) = (c :: p).getD (i + 1) 0 * (t * kt t i (s + 1) + kt t i s)
      rw [getD_cons_succ, Int.mul_add, ← Int.mul_assoc, ← Int.mul_assoc, Int.mul_comm t]
      omega
/-! ### Pascal -/
def ch : Nat → Nat → Int
  | _, 0 => 1
  | 0, _ + 1 => 0
  | n + 1, k + 1 => ch n k + ch n (k + 1)
theorem ch_above : ∀ (n k : Nat), n < k → ch n k = 0
  | _, 0, h => by omega
  | 0, _ + 1, _ => rfl
  | n + 1, k + 1, h => by show ch n k + ch n (k + 1) = 0; rw [ch_above n k (by omega), ch_above n (k + 1) (by omega)]; rfl
theorem kt_one : ∀ (m s : Nat), kt 1 m s = ch m s
  | 0, 0 => rfl
  | 0, _ + 1 => rfl
  | m + 1, 0 => by show 1 * kt 1 m 0 = 1; rw [kt_one m 0, Int.one_mul]; cases m <;> rfl
  | m + 1, s + 1 => by show 1 * kt 1 m (s + 1) + kt 1 m s = ch m s + ch m (s + 1); rw [kt_one m (s + 1), kt_one m s]; omega
def sg (n : Nat) : Int := if n % 2 = 1 then -1 else 1
theorem sg_succ (n : Nat) : sg (n + 1) = -sg n := by
  unfold sg
  by_cases h : n % 2 = 1
  · rw [if_pos h, if_neg (by omega)]; rfl
  · rw [if_neg h, if_pos (by omega)]
theorem kt_neg : ∀ (m s : Nat), kt (-1) m s = sg (m + s) * ch m s
  | 0, 0 => rfl
  | 0, _ + 1 => by show (0 : Int) = _ * 0; rw [Int.mul_zero]
  | m + 1, 0 => by
    show -1 * kt (-1) m 0 = _
    rw [kt_neg m 0, show m + 1 + 0 = (m + 0) + 1 by omega, sg_succ, show ch (m + 1) 0 = 1 from rfl, show ch m 0 = 1 by cases m <;> rfl, Nat.add_zero]
    omega
  | m + 1, s + 1 => by
    show -1 * kt (-1) m (s + 1) + kt (-1) m s = _ * (ch m s + ch m (s + 1))
    rw [kt_neg m (s + 1), kt_neg m s, show m + (s + 1) = (m + s) + 1 by omega, show m + 1 + (s + 1) = (m + s) + 1 + 1 by omega, sg_succ, sg_succ, sg_succ, Int.neg_neg, Int.mul_add, Int.neg_mul, Int.one_mul, Int.neg_mul, Int.neg_neg]
    omega
/-! ### totals and differences -/
def tots : Int → List Int → List Int
  | _, [] => []
  | t, a :: r => (t + a) :: tots (t + a) r
theorem tots_len : ∀ (r : List Int) (t : Int), (tots t r).length = r.length
  | [], _ => rfl
  | a :: r, t => by show (tots (t + a) r).length + 1 = _; rw [tots_len r (t + a)]; rfl
theorem tots_app : ∀ (r : List Int) (t a : Int), tots t (r ++ [a]) = tots t r ++ [t + r.sum + a]
  | [], t, a => by simp [tots]
  | b :: r, t, a => by
    show (t + b) :: tots (t + b) (r ++ [a]) = (t + b) :: tots (t + b) r ++ _
    rw [tots_app r (t + b) a, List.sum_cons, show t + b + r.sum + a = t + (b + r.sum) + a by omega]
    rfl
/-- x[k] - x[k - 1], from a first one -/
def difs : Int → List Int → List Int
  | p, [] => [0 - p]
  | p, a :: r => (a - p) :: difs a r
theorem difs_len : ∀ (r : List Int) (p : Int), (difs p r).length = r.length + 1
  | [], _ => rfl
  | a :: r, p => by show (difs a r).length + 1 = _; rw [difs_len r a]; rfl
theorem tots_difs : ∀ (r : List Int) (p : Int), tots p (difs p r) = r ++ [0]
  | [], p => by show [p + (0 - p)] = [0]; rw [show p + (0 - p) = 0 by omega]
  | a :: r, p => by
    show (p + (a - p)) :: tots (p + (a - p)) (difs a r) = a :: r ++ [0]
    rw [show p + (a - p) = a by omega, tots_difs r a]
    rfl
theorem difs_sum : ∀ (r : List Int) (p : Int), (difs p r).sum = -p
  | [], p => by show (0 - p) + 0 = -p; omega
  | a :: r, p => by rw [show difs p (a :: r) = (a - p) :: difs a r from rfl, List.sum_cons, difs_sum r a]; omega
theorem difs_get : ∀ (r : List Int) (p : Int) (i : Nat), i ≤ r.length → (difs p r).getD i 0 = r.getD i 0 - (p :: r).getD i 0
  | [], p, i, h => by
    have : i = 0 := by simpa using h
    subst this
    show [0 - p].getD 0 0 = ([] : List Int).getD 0 0 - [p].getD 0 0
    simp
  | a :: r, p, 0, _ => by show ((a - p) :: difs a r).getD 0 0 = _; simp
  | a :: r, p, i + 1, h => by
    show ((a - p) :: difs a r).getD (i + 1) 0 = _
    rw [getD_cons_succ, difs_get r a i (by simpa using h), getD_cons_succ, getD_cons_succ]
/-- the weighted sum Σ (k + i) r[i] -/
def wt : Nat → List Int → Int
  | _, [] => 0
  | k, a :: r => (k : Int) * a + wt (k + 1) r
theorem wt_Z : ∀ (r : List Int) (k : Nat), wt k r = Z r.length (fun i => ((k + i : Nat) : Int) * r.getD i 0)
  | [], _ => rfl
  | a :: r, k => by
    show (k : Int) * a + wt (k + 1) r = Z (r.length + 1) _
    rw [Z_front, wt_Z r (k + 1), getD_cons_zero, Nat.add_zero]
    congr 1
    refine Z_congr fun i _ => ?_
    rw [getD_cons_succ, show k + 1 + i = k + (i + 1) by omega]
theorem wt_succ : ∀ (r : List Int) (k : Nat), wt (k + 1) r = wt k r + r.sum
  | [], _ => rfl
  | a :: r, k => by
    show ((k + 1 : Nat) : Int) * a + wt (k + 1 + 1) r = (k : Int) * a + wt (k + 1) r + (a :: r).sum
    rw [wt_succ r (k + 1), List.sum_cons, Int.natCast_add, Int.add_mul]
    omega
/-- the sum of all totals: Σ (n - i) r[i] -/
theorem tots_sum : ∀ (r : List Int) (t : Int), (tots t r).sum = (r.length : Int) * t + ((r.length : Int) * r.sum - wt 0 r)
  | [], t => by show (0 : Int) = (0 : Int) * t + ((0 : Int) * 0 - 0); omega
  | a :: r, t => by
    show (t + a) + (tots (t + a) r).sum = ((r.length + 1 : Nat) : Int) * t + (((r.length + 1 : Nat) : Int) * (a :: r).sum - (((0 : Nat) : Int) * a + wt (0 + 1) r))
    rw [tots_sum r (t + a), wt_succ, List.sum_cons, Int.natCast_add, Int.add_mul, Int.add_mul, Int.mul_add, Int.mul_add]
    simp only [Int.natCast_zero, Int.zero_mul]
    have : ((1 : Nat) : Int) = 1 := rfl
    rw [this]
    omega

/-! ### the two ways of unbend -/
/-- found after the bends r, from the last two ones -/
def unb : Int → Int → List Int → List Int
  | _, _, [] => []
  | x, y, b :: r => (b + 2 * y - x) :: unb y (b + 2 * y - x) r
theorem unb_len : ∀ (r : List Int) (x y : Int), (unb x y r).length = r.length
  | [], _, _ => rfl
  | b :: r, x, y => by show (unb _ _ r).length + 1 = _; rw [unb_len r]; rfl
theorem unb_tots : ∀ (r : List Int) (x y : Int), unb x y r = tots y (tots (y - x) r)
  | [], _, _ => rfl
  | b :: r, x, y => by
    show (b + 2 * y - x) :: unb y (b + 2 * y - x) r = (y + (y - x + b)) :: tots (y + (y - x + b)) (tots (y - x + b) r)
    rw [unb_tots r y (b + 2 * y - x), show b + 2 * y - x - y = y - x + b by omega, show b + 2 * y - x = y + (y - x + b) by omega]
theorem unb_app : ∀ (r : List Int) (x y b : Int), unb x y (r ++ [b]) = unb x y r ++ [b + 2 * ([x, y] ++ unb x y r).getD (r.length + 1) 0 - ([x, y] ++ unb x y r).getD r.length 0]
  | [], x, y, b => by simp [unb]
  | a :: r, x, y, b => by
    show (a + 2 * y - x) :: unb y (a + 2 * y - x) (r ++ [b]) = (a + 2 * y - x) :: unb y (a + 2 * y - x) r ++ _
    rw [unb_app r y (a + 2 * y - x) b]
    simp [unb]
/-- the last entry of the totals -/
theorem tots_last : ∀ (r : List Int) (t : Int), r ≠ [] → (tots t r).getD (r.length - 1) 0 = t + r.sum
  | [], _, h => absurd rfl h
  | [a], t, _ => by simp [tots]
  | a :: b :: r, t, _ => by
    have := tots_last (b :: r) (t + a) (by simp)
    show ((t + a) :: tots (t + a) (b :: r)).getD ((b :: r).length - 1 + 1) 0 = _
    rw [getD_cons_succ, this, List.sum_cons (a := a)]
    omega
theorem tots_get_succ : ∀ (r : List Int) (t : Int) (i : Nat), i + 1 < r.length → (tots t r).getD (i + 1) 0 = (tots t r).getD i 0 + r.getD (i + 1) 0
  | [], _, _, h => by simp at h
  | [a], _, _, h => by simp at h
  | a :: b :: r, t, 0, _ => by simp [tots]
  | a :: b :: r, t, i + 1, h => by
    have := tots_get_succ (b :: r) (t + a) i (by simpa using h)
    show ((t + a) :: tots (t + a) (b :: r)).getD (i + 1 + 1) 0 = ((t + a) :: tots (t + a) (b :: r)).getD (i + 1) 0 + _
    rw [getD_cons_succ, this, getD_cons_succ, getD_cons_succ, getD_cons_succ, getD_cons_succ]
/-- both last ones are 0 exactly if the sum and the weighted sum are -/
theorem last_two {r : List Int} (h : 2 ≤ r.length) : ((tots 0 (tots 0 r)).getD (r.length - 2) 0 = 0 ∧ (tots 0 (tots 0 r)).getD (r.length - 1) 0 = 0) ↔ (r.sum = 0 ∧ wt 0 r = 0) := by
  have hl := tots_len r 0
  have e1 : (tots 0 (tots 0 r)).getD (r.length - 1) 0 = (r.length : Int) * r.sum - wt 0 r := by
    have := tots_last (tots 0 r) 0 (fun z => by rw [z] at hl; simp at hl; omega)
    rw [hl] at this
    rw [this, tots_sum]
    omega
  have e2 : (tots 0 (tots 0 r)).getD (r.length - 1) 0 = (tots 0 (tots 0 r)).getD (r.length - 2) 0 + r.sum := by
    have := tots_get_succ (tots 0 r) 0 (r.length - 2) (by omega)
    rw [show r.length - 2 + 1 = r.length - 1 by omega] at this
    rw [this]
    have h3 := tots_last r 0 (fun z => by rw [z] at h; simp at h)
    rw [h3]
    omega
  constructor
  · rintro ⟨a, b⟩
    have hs : r.sum = 0 := by omega
    refine ⟨hs, ?_⟩
    rw [b, hs, Int.mul_zero] at e1
    omega
  · rintro ⟨a, b⟩
    rw [a, b, Int.mul_zero] at e1
    omega
/-- unbend undoes bends -/
theorem back (r : List Int) : tots 0 (tots 0 (difs 0 (difs 0 r))) = r ++ [0] ++ [0] := by
  rw [tots_difs, tots_app, tots_difs, difs_sum]
  rfl
theorem back_sum (r : List Int) : (difs 0 (difs 0 r)).sum = 0 := by rw [difs_sum]; rfl
theorem back_wt (r : List Int) : wt 0 (difs 0 (difs 0 r)) = 0 := by
  have h := tots_sum (difs 0 (difs 0 r)) 0
  rw [tots_difs, List.sum_append, difs_sum, back_sum] at h
  simp at h
  omega
end KM

/-! RM: the rim of points in general position, by the areas of threes alone. Plain Lean, no kit. -/
namespace RM
structure Pl (n : Nat) (A : Nat → Nat → Nat → Int) : Prop where
  cy : ∀ a b c, A b c a = A a b c
  an : ∀ a b c, A b a c = -A a b c
  ne : ∀ a b c, a < n → b < n → c < n → a ≠ b → a ≠ c → b ≠ c → A a b c ≠ 0
  p4 : ∀ a b c d, A b c d - A a c d + A a b d - A a b c = 0
  p5 : ∀ a b c d e, A a b c * A a d e - A a b d * A a c e + A a b e * A a c d = 0
section
variable {n : Nat} {A : Nat → Nat → Nat → Int}
theorem Pl.a2 (P : Pl n A) (a b c : Nat) : A a c b = -A a b c := by
  rw [← P.cy a c b, P.an b c a, P.cy a b c]
theorem Pl.z1 (P : Pl n A) (a b : Nat) : A a a b = 0 := by
  have := P.an a a b
  omega
theorem Pl.z2 (P : Pl n A) (a b : Nat) : A a b b = 0 := by
  have := P.a2 a b b
  omega
theorem Pl.z3 (P : Pl n A) (a b : Nat) : A a b a = 0 := by
  rw [P.cy a a b]
  exact P.z1 a b
/-- a is within a triangle of others, told in the direction that is positive -/
def Inn (n : Nat) (A : Nat → Nat → Nat → Int) (a : Nat) : Prop := ∃ q r s, q < n ∧ r < n ∧ s < n ∧ q ≠ a ∧ r ≠ a ∧ s ≠ a ∧ 0 < A a q r ∧ 0 < A a r s ∧ 0 < A a s q
/-- all others are on the left of the way from a to b -/
def Fol (n : Nat) (A : Nat → Nat → Nat → Int) (a b : Nat) : Prop := b < n ∧ a ≠ b ∧ ∀ c, c < n → c ≠ a → c ≠ b → 0 < A a b c
theorem fol_corner (P : Pl n A) {a b : Nat} (h : Fol n A a b) : ¬ Inn n A a := by
  rintro ⟨q, r, s, hq, hr, hs, qa, ra, sa, h1, h2, h3⟩
  obtain ⟨_, _, hb⟩ := h
  have k2 := P.a2 a s q
  by_cases bq : b = q
  · subst bq
    have sb : s ≠ b := fun z => by subst z; rw [P.z2] at h3; omega
    have := hb s hs sa sb
    omega
  by_cases br : b = r
  · subst br
    have qb : q ≠ b := fun z => bq z.symm
    have := hb q hq qa qb
    have := P.a2 a b q
    omega
  by_cases bs : b = s
  · subst bs
    have rb : r ≠ b := fun z => br z.symm
    have := hb r hr ra rb
    have := P.a2 a b r
    omega
  have e := P.p5 a b q r s
  have m1 := Int.mul_pos (hb q hq qa (fun z => bq z.symm)) h2
  have m2 := Int.mul_pos (hb r hr ra (fun z => br z.symm)) h3
  have m3 := Int.mul_pos (hb s hs sa (fun z => bs z.symm)) h1
  rw [k2, Int.mul_neg] at e
  omega
theorem fol_corner2 (P : Pl n A) {a b : Nat} (ha : a < n) (h : Fol n A a b) : ¬ Inn n A b := by
  rintro ⟨q, r, s, hq, hr, hs, qb, rb, sb, h1, h2, h3⟩
  obtain ⟨_, ab, hc⟩ := h
  have up : ∀ c, c < n → c ≠ a → c ≠ b → 0 < A b c a := fun c h1 h2 h3 => by rw [P.cy a b c]; exact hc c h1 h2 h3
  have k2 := P.a2 b s q
  by_cases aq : a = q
  · subst aq
    have ra : r ≠ a := fun z => by subst z; rw [P.z2] at h1; omega
    have := up r hr ra rb
    have := P.a2 b a r
    omega
  by_cases ar : a = r
  · subst ar
    have sa : s ≠ a := fun z => by subst z; rw [P.z2] at h2; omega
    have := up s hs sa sb
    have := P.a2 b a s
    omega
  by_cases as_ : a = s
  · subst as_
    have qa : q ≠ a := fun z => aq z.symm
    have := up q hq qa qb
    omega
  have e := P.p5 b a q r s
  have m1 := Int.mul_pos (up q hq (fun z => aq z.symm) qb) h2
  have m2 := Int.mul_pos (up r hr (fun z => ar z.symm) rb) h3
  have m3 := Int.mul_pos (up s hs (fun z => as_ z.symm) sb) h1
  have e1 := P.a2 b q a
  have e2 := P.a2 b r a
  have e3 := P.a2 b s a
  rw [e1, e2, e3, k2, Int.neg_mul, Int.neg_mul, Int.neg_mul, Int.mul_neg] at e
  omega
theorem fol_one (P : Pl n A) {a b c : Nat} (h1 : Fol n A a b) (h2 : Fol n A a c) : b = c := by
  by_cases z : b = c
  · exact z
  · have e1 := h1.2.2 c h2.1 (fun y => h2.2.1 y.symm) (fun y => z y.symm)
    have e2 := h2.2.2 b h1.1 (fun y => h1.2.1 y.symm) z
    have := P.a2 a b c
    omega
theorem fol_inj (P : Pl n A) {a b c : Nat} (ha : a < n) (hb : b < n) (h1 : Fol n A a c) (h2 : Fol n A b c) : a = b := by
  by_cases z : a = b
  · exact z
  · have e1 := h1.2.2 b hb (fun y => z y.symm) h2.2.1
    have e2 := h2.2.2 a ha z h1.2.1
    rw [← P.cy a c b] at e1
    rw [← P.cy b c a] at e2
    have := P.a2 c a b
    have k1 : A c b a = A a c b := P.cy a c b
    have k2 : A c a b = A b c a := P.cy b c a
    omega
theorem fol_ex (P : Pl n A) (h3 : 3 ≤ n) {a : Nat} (ha : a < n) (h : ¬ Inn n A a) : ∃ b, Fol n A a b := by
  let ys := (List.range n).filter fun q => decide (q ≠ a)
  let R : Nat → Nat → Bool := fun q r => decide (A a q r < 0)
  have my : ∀ q, q ∈ ys ↔ q < n ∧ q ≠ a := fun q => by
    show q ∈ (List.range n).filter _ ↔ _
    rw [List.mem_filter, List.mem_range, decide_eq_true_eq]
  have an : ∀ q r, q ∈ ys → r ∈ ys → q ≠ r → R r q = !R q r := fun q r hq hr ne => by
    have hq := (my q).mp hq
    have hr := (my r).mp hr
    have n0 := P.ne a q r ha hq.1 hr.1 (fun z => hq.2 z.symm) (fun z => hr.2 z.symm) ne
    have e := P.a2 a q r
    show decide (A a r q < 0) = !decide (A a q r < 0)
    by_cases z : A a q r < 0
    · rw [decide_eq_true z, decide_eq_false (by omega)]; rfl
    · rw [decide_eq_false z, decide_eq_true (by omega)]; rfl
  have t : TR.Tr ys R := by
    refine ⟨List.Pairwise.filter _ List.nodup_range, fun q => decide_eq_false (by rw [P.z2]; omega), an, fun q r s hq hr hs h1 h2 => ?_⟩
    have h1 : A a q r < 0 := of_decide_eq_true h1
    have h2 : A a r s < 0 := of_decide_eq_true h2
    have hq := (my q).mp hq
    have hr := (my r).mp hr
    have hs := (my s).mp hs
    refine decide_eq_true ?_
    by_cases e : q = s
    · subst e
      have := P.a2 a q r
      omega
    · have n0 := P.ne a q s ha hq.1 hs.1 (fun z => hq.2 z.symm) (fun z => hs.2 z.symm) e
      by_cases z : A a q s < 0
      · exact z
      · have e1 := P.a2 a q r
        have e2 := P.a2 a r s
        exact (h ⟨s, r, q, hs.1, hr.1, hq.1, hs.2, hr.2, hq.2, by omega, by omega, by omega⟩).elim
  have q0 : ∃ q, q ∈ ys := by
    by_cases z : a = 0
    · exact ⟨1, (my 1).mpr ⟨by omega, by omega⟩⟩
    · exact ⟨0, (my 0).mpr ⟨by omega, fun y => z y.symm⟩⟩
  obtain ⟨q, hq⟩ := q0
  obtain ⟨b, hb, hd⟩ := TR.sink t _ q hq rfl
  have hb2 := (my b).mp hb
  refine ⟨b, hb2.1, fun z => hb2.2 z.symm, fun c hc ca cb => ?_⟩
  have hc2 : c ∈ ys := (my c).mpr ⟨hc, ca⟩
  have z := TR.S_zero_iff hd c hc2
  have n0 := P.ne a b c ha hb2.1 hc (fun z => hb2.2 z.symm) (fun z => ca z.symm) (fun z => cb z.symm)
  have nl : ¬ A a b c < 0 := fun y => by
    rw [if_pos (decide_eq_true y)] at z
    omega
  omega
/-! ### the way around -/
/-- w leads on from each point to its follower -/
def Way (n : Nat) (A : Nat → Nat → Nat → Int) (w : Nat → Nat) : Prop := w 0 < n ∧ ∀ i, Fol n A (w i) (w (i + 1))
theorem way_lt {w : Nat → Nat} (h : Way n A w) : ∀ i, w i < n
  | 0 => h.1
  | i + 1 => (h.2 i).1
theorem way_back (P : Pl n A) {w : Nat → Nat} (h : Way n A w) : ∀ (i k : Nat), w i = w (k + i) → w 0 = w k
  | 0, k, e => e
  | i + 1, k, e => by
    refine way_back P h i k (fol_inj P (c := w (i + 1)) (way_lt h i) (way_lt h (k + i)) (h.2 i) ?_)
    have := h.2 (k + i)
    rw [show k + i + 1 = k + (i + 1) by omega, ← e] at this
    exact this
theorem nodup_le : ∀ {l d : List Nat}, l.Nodup → (∀ x ∈ l, x ∈ d) → l.length ≤ d.length
  | [], _, _, _ => Nat.zero_le _
  | x :: l, d, hn, hs => by
    have hx := hs x List.mem_cons_self
    have hn2 := List.nodup_cons.mp hn
    have := nodup_le (l := l) (d := d.erase x) hn2.2 fun y hy => (List.mem_erase_of_ne (fun z => hn2.1 (by rw [← z]; exact hy))).mpr (hs y (List.mem_cons_of_mem _ hy))
    rw [List.length_erase_of_mem hx] at this
    have : 0 < d.length := List.length_pos_of_mem hx
    show l.length + 1 ≤ d.length
    omega
theorem least {Q : Nat → Prop} : ∀ m, Q m → ∃ p, p ≤ m ∧ Q p ∧ ∀ k, k < p → ¬ Q k := by
  intro m
  induction m using Nat.strongRecOn with
  | ind m ih =>
    intro hm
    by_cases z : ∃ k, k < m ∧ Q k
    · obtain ⟨k, hk, hq⟩ := z
      obtain ⟨p, h1, h2, h3⟩ := ih k hk hq
      exact ⟨p, by omega, h2, h3⟩
    · exact ⟨m, Nat.le_refl _, hm, fun k hk hq => z ⟨k, hk, hq⟩⟩
theorem switch {g : Nat → Prop} : ∀ (k i : Nat), g i → ¬ g (i + k) → ∃ j, i ≤ j ∧ j < i + k ∧ g j ∧ ¬ g (j + 1)
  | 0, i, h1, h2 => (h2 h1).elim
  | k + 1, i, h1, h2 => by
    by_cases z : g (i + k)
    · exact ⟨i + k, by omega, by omega, z, h2⟩
    · obtain ⟨j, a, b, c⟩ := switch k i h1 z
      exact ⟨j, a, by omega, c⟩
/-- one way leads over all corners, each once, and back -/
theorem cycle (P : Pl n A) (h3 : 3 ≤ n) {w : Nat → Nat} (h : Way n A w) {due : List Nat} (dn : due.Nodup) (dm : ∀ x, x ∈ due ↔ x < n ∧ ¬ Inn n A x) :
    w due.length = w 0 ∧ ((List.range due.length).map w).Nodup ∧ (∀ x, x ∈ due ↔ x ∈ (List.range due.length).map w) ∧ 3 ≤ due.length := by
  have wd : ∀ i, w i ∈ due := fun i => (dm _).mpr ⟨way_lt h i, fol_corner P (h.2 i)⟩
  -- it comes back
  have ret : ∃ p, 0 < p ∧ p ≤ due.length ∧ w p = w 0 := by
    by_cases z : ∃ i k, 0 < k ∧ k + i ≤ due.length ∧ w i = w (k + i)
    · obtain ⟨i, k, hk, hl, e⟩ := z
      exact ⟨k, hk, by omega, (way_back P h i k e).symm⟩
    · have nd : ((List.range (due.length + 1)).map w).Nodup := by
        refine List.pairwise_map.mpr (List.Pairwise.imp_of_mem (fun {i j} hi hj hij => ?_) (List.pairwise_lt_range (n := due.length + 1)))
        intro e
        have hj2 := List.mem_range.mp hj
        exact z ⟨i, j - i, by omega, by omega, by rw [show j - i + i = j by omega]; exact e⟩
      have := nodup_le nd (d := due) fun x hx => by
        obtain ⟨i, _, rfl⟩ := List.mem_map.mp hx
        exact wd i
      rw [List.length_map, List.length_range] at this
      omega
  obtain ⟨p0, q1, q2, q3⟩ := ret
  obtain ⟨p, hp0, ⟨hp, hw⟩, hmin⟩ := least (Q := fun p => 0 < p ∧ w p = w 0) p0 ⟨q1, q3⟩
  have dis : ((List.range p).map w).Nodup := by
    refine List.pairwise_map.mpr (List.Pairwise.imp_of_mem (fun {i j} hi hj hij => ?_) (List.pairwise_lt_range (n := p)))
    intro e
    have hj2 := List.mem_range.mp hj
    exact hmin (j - i) (by omega) ⟨by omega, (way_back P h i (j - i) (by rw [show j - i + i = j by omega]; exact e)).symm⟩
  have all : ∀ d, d ∈ due → d ∈ (List.range p).map w := fun d hd => by
    by_cases z : d ∈ (List.range p).map w
    · exact z
    · exfalso
      have off : ∀ i, i < p → d ≠ w i := fun i hi e => z (List.mem_map.mpr ⟨i, List.mem_range.mpr hi, e.symm⟩)
      obtain ⟨dl, dc⟩ := (dm d).mp hd
      have o0 := off 0 hp
      have off' : ∀ i, i ≤ p → d ≠ w i := fun i hi => by
        by_cases e : i = p
        · subst e; rw [hw]; exact o0
        · exact off i (by omega)
      have p2 : 2 ≤ p := by
        by_cases e : p = 1
        · subst e
          exact ((h.2 0).2.1 hw.symm).elim
        · omega
      have g1 : 0 < A (w 0) (w 1) d := (h.2 0).2.2 d dl (off 0 hp) (off 1 (by omega))
      have gl : ¬ 0 < A (w 0) (w (1 + (p - 2))) d := fun y => by
        have k := (h.2 (p - 1)).2.2 d dl (off (p - 1) (by omega)) (by rw [show p - 1 + 1 = p by omega]; exact off' p (Nat.le_refl _))
        rw [show p - 1 + 1 = p by omega, hw, P.an (w 0) (w (p - 1)) d] at k
        rw [show 1 + (p - 2) = p - 1 by omega] at y
        omega
      obtain ⟨j, j1, j2, gj, gj2⟩ := switch (g := fun i => 0 < A (w 0) (w i) d) (p - 2) 1 g1 gl
      have e2 := (h.2 j).2.2 d dl (off j (by omega)) (off (j + 1) (by omega))
      have n0 : w 0 ≠ w (j + 1) := fun e => hmin (j + 1) (by omega) ⟨by omega, e.symm⟩
      have n1 := P.ne (w 0) (w (j + 1)) d h.1 (way_lt h _) dl n0 (fun e => o0 e.symm) (fun e => off (j + 1) (by omega) e.symm)
      refine dc ⟨w 0, w j, w (j + 1), h.1, way_lt h _, way_lt h _, fun e => o0 e.symm, fun e => off j (by omega) e.symm, fun e => off (j + 1) (by omega) e.symm, ?_, ?_, ?_⟩
      · have : A d (w 0) (w j) = A (w 0) (w j) d := (P.cy d (w 0) (w j)).symm
        rw [this]
        exact gj
      · rw [← P.cy d (w j) (w (j + 1))]
        exact e2
      · rw [← P.cy d (w (j + 1)) (w 0), P.an (w 0) (w (j + 1)) d]
        have gj2 : ¬ 0 < A (w 0) (w (j + 1)) d := gj2
        omega
  have pl : p = due.length := by
    have l1 := nodup_le dn all
    have l2 := nodup_le dis (d := due) fun x hx => by
      obtain ⟨i, _, rfl⟩ := List.mem_map.mp hx
      exact wd i
    rw [List.length_map, List.length_range] at l1 l2
    omega
  subst pl
  refine ⟨hw, dis, fun x => ⟨all x, fun hx => by
    obtain ⟨i, _, rfl⟩ := List.mem_map.mp hx
    exact wd i⟩, ?_⟩
  -- three at least
  generalize due.length = p at *
  have p1 : p ≠ 1 := fun e => by subst e; exact (h.2 0).2.1 hw.symm
  have p2 : p ≠ 2 := fun e => by
    subst e
    have x : ∃ c, c < n ∧ c ≠ w 0 ∧ c ≠ w 1 := by
      by_cases z0 : 0 ≠ w 0 ∧ 0 ≠ w 1
      · exact ⟨0, by omega, z0⟩
      by_cases z1 : 1 ≠ w 0 ∧ 1 ≠ w 1
      · exact ⟨1, by omega, z1⟩
      exact ⟨2, by omega, by omega, by omega⟩
    obtain ⟨c, c1, c2, c3⟩ := x
    have e1 : 0 < A (w 0) (w 1) c := (h.2 0).2.2 c c1 c2 c3
    have e2 := (h.2 1).2.2 c c1 c3 (by rw [show 1 + 1 = 2 by rfl, hw]; exact c2)
    rw [show 1 + 1 = 2 by rfl, hw, P.an (w 0) (w 1) c] at e2
    omega
  omega
/-! ### fans -/
theorem fan (P : Pl n A) (w : Nat → Nat) (s : Nat) : ∀ m, KM.Z m (fun i => A s (w i) (w (i + 1))) = KM.Z m (fun i => A (w 0) (w i) (w (i + 1))) + A s (w 0) (w m)
  | 0 => by rw [KM.Z_zero, KM.Z_zero, P.z2]; rfl
  | m + 1 => by
    have := P.p4 s (w 0) (w m) (w (m + 1))
    rw [KM.Z_succ, KM.Z_succ, fan P w s m]
    omega
end
end RM

namespace K13
open PySem PySem.Spec PyProof.Rows L2 Evl EB
def topS (i : Nat) : Stmt := PySem.Challenge.pw_everybowl_k13_corner_or_within.main.body.getD i (.Pass ⟨0, 0, 0, 0⟩)
abbrev s_Repeated : Stmt := inClass (topS 7) 0
theorem sc_Repeated : FnScope ["self", "number"] ["self", "number"] (defScope s_Repeated) := ⟨rfl, rfl, rfl, by decide +kernel, rfl, by decide +kernel, by decide +kernel⟩
abbrev s_NoPoint : Stmt := inClass (topS 6) 0
theorem sc_NoPoint : FnScope ["self", "number"] ["self", "number"] (defScope s_NoPoint) := ⟨rfl, rfl, rfl, by decide +kernel, rfl, by decide +kernel, by decide +kernel⟩
abbrev s_Within : Stmt := inClass (topS 9) 0
theorem sc_Within : FnScope ["self", "triangle"] ["self", "triangle"] (defScope s_Within) := ⟨rfl, rfl, rfl, by decide +kernel, rfl, by decide +kernel, by decide +kernel⟩
abbrev s_OnLine : Stmt := inClass (topS 8) 0
theorem sc_OnLine : FnScope ["self", "numbers"] ["self", "numbers"] (defScope s_OnLine) := ⟨rfl, rfl, rfl, by decide +kernel, rfl, by decide +kernel, by decide +kernel⟩
abbrev s_TooFar : Stmt := inClass (topS 5) 0
theorem sc_TooFar : FnScope ["self", "value"] ["self", "value"] (defScope s_TooFar) := ⟨rfl, rfl, rfl, by decide +kernel, rfl, by decide +kernel, by decide +kernel⟩
abbrev s_WrongCount : Stmt := inClass (topS 4) 0
theorem sc_WrongCount : FnScope ["self", "count"] ["self", "count"] (defScope s_WrongCount) := ⟨rfl, rfl, rfl, by decide +kernel, rfl, by decide +kernel, by decide +kernel⟩
abbrev s__law_gcd : Stmt := topS 46
abbrev N__law_gcd : List Str := ["a", "b", "rest"]
theorem sc__law_gcd : FnScope N__law_gcd ["a", "b"] (defScope s__law_gcd) := ⟨rfl, rfl, rfl, by decide +kernel, rfl, by decide +kernel, by decide +kernel⟩
abbrev s__law_area : Stmt := topS 38
abbrev N__law_area : List Str := ["p", "q", "r"]
theorem sc__law_area : FnScope N__law_area ["p", "q", "r"] (defScope s__law_area) := ⟨rfl, rfl, rfl, by decide +kernel, rfl, by decide +kernel, by decide +kernel⟩
abbrev s__law_weights : Stmt := topS 47
abbrev N__law_weights : List Str := ["points", "t", "d", "a", "b", "c", "u", "v", "w", "g"]
theorem sc__law_weights : FnScope N__law_weights ["points", "t", "d"] (defScope s__law_weights) := ⟨rfl, rfl, rfl, by decide +kernel, rfl, by decide +kernel, by decide +kernel⟩
abbrev s__law_parts : Stmt := topS 50
abbrev N__law_parts : List Str := ["line", "points", "d", "one", "i", "p", "value"]
theorem sc__law_parts : FnScope N__law_parts ["line", "points", "d"] (defScope s__law_parts) := ⟨rfl, rfl, rfl, by decide +kernel, rfl, by decide +kernel, by decide +kernel⟩
abbrev s_bare_area : Stmt := topS 20
abbrev N_bare_area : List Str := ["p", "q", "r"]
theorem sc_bare_area : FnScope N_bare_area ["p", "q", "r"] (defScope s_bare_area) := ⟨rfl, rfl, rfl, by decide +kernel, rfl, by decide +kernel, by decide +kernel⟩
abbrev s_check_number : Stmt := topS 13
abbrev N_check_number : List Str := ["number", "n"]
theorem sc_check_number : FnScope N_check_number ["number", "n"] (defScope s_check_number) := ⟨rfl, rfl, rfl, by decide +kernel, rfl, by decide +kernel, by decide +kernel⟩
abbrev s_check_numbers : Stmt := topS 14
abbrev N_check_numbers : List Str := ["numbers", "n", "place", "number"]
theorem sc_check_numbers : FnScope N_check_numbers ["numbers", "n"] (defScope s_check_numbers) := ⟨rfl, rfl, rfl, by decide +kernel, rfl, by decide +kernel, by decide +kernel⟩
abbrev s_Floor_left_of : Stmt := inClass (topS 32) 12
abbrev N_Floor_left_of : List Str := ["self", "a", "b", "start", "end", "c", "point"]
theorem sc_Floor_left_of : FnScope N_Floor_left_of ["self", "a", "b"] (defScope s_Floor_left_of) := ⟨rfl, rfl, rfl, by decide +kernel, rfl, by decide +kernel, by decide +kernel⟩
abbrev s_Floor___len__ : Stmt := inClass (topS 32) 5
abbrev N_Floor___len__ : List Str := ["self"]
theorem sc_Floor___len__ : FnScope N_Floor___len__ ["self"] (defScope s_Floor___len__) := ⟨rfl, rfl, rfl, by decide +kernel, rfl, by decide +kernel, by decide +kernel⟩
abbrev s_followers : Stmt := topS 26
abbrev N_followers : List Str := ["floor", "n", "a", "b"]
theorem sc_followers : FnScope N_followers ["floor"] (defScope s_followers) := ⟨rfl, rfl, rfl, by decide +kernel, rfl, by decide +kernel, by decide +kernel⟩
abbrev s_rim : Stmt := topS 25
abbrev N_rim : List Str := ["floor", "follower", "found"]
theorem sc_rim : FnScope N_rim ["floor"] (defScope s_rim) := ⟨rfl, rfl, rfl, by decide +kernel, rfl, by decide +kernel, by decide +kernel⟩
abbrev s_first_behind : Stmt := topS 17
abbrev N_first_behind : List Str := ["part"]
theorem sc_first_behind : FnScope N_first_behind ["part"] (defScope s_first_behind) := ⟨rfl, rfl, rfl, by decide +kernel, rfl, by decide +kernel, by decide +kernel⟩
abbrev s_subset_list : Stmt := topS 16
abbrev N_subset_list : List Str := ["n", "size", "found", "_", "part", "k"]
theorem sc_subset_list : FnScope N_subset_list ["n", "size"] (defScope s_subset_list) := ⟨rfl, rfl, rfl, by decide +kernel, rfl, by decide +kernel, by decide +kernel⟩
abbrev s_is_within : Stmt := topS 21
abbrev N_is_within : List Str := ["p", "q", "r", "s"]
theorem sc_is_within : FnScope N_is_within ["p", "q", "r", "s"] (defScope s_is_within) := ⟨rfl, rfl, rfl, by decide +kernel, rfl, by decide +kernel, by decide +kernel⟩
abbrev s_is_around : Stmt := topS 23
abbrev N_is_around : List Str := ["floor", "three", "number", "a", "b", "c"]
theorem sc_is_around : FnScope N_is_around ["floor", "three", "number"] (defScope s_is_around) := ⟨rfl, rfl, rfl, by decide +kernel, rfl, by decide +kernel, by decide +kernel⟩
abbrev s_weights : Stmt := topS 29
abbrev N_weights : List Str := ["floor", "three", "number", "p", "q", "r", "corner", "place", "u", "v", "w", "divisor"]
theorem sc_weights : FnScope N_weights ["floor", "three", "number"] (defScope s_weights) := ⟨rfl, rfl, rfl, by decide +kernel, rfl, by decide +kernel, by decide +kernel⟩
abbrev s_held_by : Stmt := topS 28
abbrev N_held_by : List Str := ["floor", "number", "three"]
theorem sc_held_by : FnScope N_held_by ["floor", "number"] (defScope s_held_by) := ⟨rfl, rfl, rfl, by decide +kernel, rfl, by decide +kernel, by decide +kernel⟩
abbrev s_line_past : Stmt := topS 30
abbrev N_line_past : List Str := ["floor", "number", "held", "found", "place", "before", "corner", "behind", "step", "p", "q"]
theorem sc_line_past : FnScope N_line_past ["floor", "number"] (defScope s_line_past) := ⟨rfl, rfl, rfl, by decide +kernel, rfl, by decide +kernel, by decide +kernel⟩
abbrev s__law_past : Stmt := topS 49
abbrev N__law_past : List Str := ["floor", "number", "e"]
theorem sc__law_past : FnScope N__law_past ["floor", "number"] (defScope s__law_past) := ⟨rfl, rfl, rfl, by decide +kernel, rfl, by decide +kernel, by decide +kernel⟩
abbrev s__law_held : Stmt := topS 48
abbrev N__law_held : List Str := ["floor", "number", "e"]
theorem sc__law_held : FnScope N__law_held ["floor", "number"] (defScope s__law_held) := ⟨rfl, rfl, rfl, by decide +kernel, rfl, by decide +kernel, by decide +kernel⟩
abbrev s__law_threes : Stmt := topS 41
abbrev N__law_threes : List Str := ["many", "out", "a", "b", "c"]
theorem sc__law_threes : FnScope N__law_threes ["many"] (defScope s__law_threes) := ⟨rfl, rfl, rfl, by decide +kernel, rfl, by decide +kernel, by decide +kernel⟩
abbrev s__law_around : Stmt := topS 44
abbrev N__law_around : List Str := ["points", "t", "d", "one", "two", "three"]
theorem sc__law_around : FnScope N__law_around ["points", "t", "d"] (defScope s__law_around) := ⟨rfl, rfl, rfl, by decide +kernel, rfl, by decide +kernel, by decide +kernel⟩
abbrev s__law_first : Stmt := topS 45
abbrev N__law_first : List Str := ["points", "d", "t"]
theorem sc__law_first : FnScope N__law_first ["points", "d"] (defScope s__law_first) := ⟨rfl, rfl, rfl, by decide +kernel, rfl, by decide +kernel, by decide +kernel⟩
abbrev s__law_right : Stmt := topS 51
abbrev N__law_right : List Str := ["floor", "points", "d", "t", "told", "line", "due"]
theorem sc__law_right : FnScope N__law_right ["floor", "points", "d"] (defScope s__law_right) := ⟨rfl, rfl, rfl, by decide +kernel, rfl, by decide +kernel, by decide +kernel⟩
abbrev s__law_cell : Stmt := topS 37
abbrev N__law_cell : List Str := ["cells", "i"]
theorem sc__law_cell : FnScope N__law_cell ["cells", "i"] (defScope s__law_cell) := ⟨rfl, rfl, rfl, by decide +kernel, rfl, by decide +kernel, by decide +kernel⟩
abbrev s_check_turns : Stmt := topS 34
abbrev N_check_turns : List Str := ["points", "a", "b", "c"]
theorem sc_check_turns : FnScope N_check_turns ["points"] (defScope s_check_turns) := ⟨rfl, rfl, rfl, by decide +kernel, rfl, by decide +kernel, by decide +kernel⟩
abbrev s_check_range : Stmt := topS 12
abbrev N_check_range : List Str := ["value", "least", "most"]
theorem sc_check_range : FnScope N_check_range ["value", "least", "most"] (defScope s_check_range) := ⟨rfl, rfl, rfl, by decide +kernel, rfl, by decide +kernel, by decide +kernel⟩
abbrev s_check_point : Stmt := topS 33
abbrev N_check_point : List Str := ["point", "value"]
theorem sc_check_point : FnScope N_check_point ["point"] (defScope s_check_point) := ⟨rfl, rfl, rfl, by decide +kernel, rfl, by decide +kernel, by decide +kernel⟩
abbrev s_check_count : Stmt := topS 11
abbrev N_check_count : List Str := ["members", "least", "most"]
theorem sc_check_count : FnScope N_check_count ["members", "least", "most"] (defScope s_check_count) := ⟨rfl, rfl, rfl, by decide +kernel, rfl, by decide +kernel, by decide +kernel⟩
abbrev s_Floor___init__ : Stmt := inClass (topS 32) 3
abbrev N_Floor___init__ : List Str := ["self", "points", "point"]
theorem sc_Floor___init__ : FnScope N_Floor___init__ ["self", "points"] (defScope s_Floor___init__) := ⟨rfl, rfl, rfl, by decide +kernel, rfl, by decide +kernel, by decide +kernel⟩
abbrev s__law_floor : Stmt := topS 43
abbrev N__law_floor : List Str := ["handed", "floor", "flaw", "e"]
theorem sc__law_floor : FnScope N__law_floor ["handed"] (defScope s__law_floor) := ⟨rfl, rfl, rfl, by decide +kernel, rfl, by decide +kernel, by decide +kernel⟩
abbrev s__law_flaw : Stmt := topS 42
abbrev N__law_flaw : List Str := ["points", "point", "one", "t"]
theorem sc__law_flaw : FnScope N__law_flaw ["points"] (defScope s__law_flaw) := ⟨rfl, rfl, rfl, by decide +kernel, rfl, by decide +kernel, by decide +kernel⟩
abbrev s__law_point : Stmt := topS 39
abbrev N__law_point : List Str := ["c", "i", "wide", "dx", "dy", "x"]
theorem sc__law_point : FnScope N__law_point ["c", "i", "wide"] (defScope s__law_point) := ⟨rfl, rfl, rfl, by decide +kernel, rfl, by decide +kernel, by decide +kernel⟩
abbrev s__law_points : Stmt := topS 40
abbrev N__law_points : List Str := ["cells", "c", "many", "wide", "points", "i", "k", "one", "two", "last"]
theorem sc__law_points : FnScope N__law_points ["cells"] (defScope s__law_points) := ⟨rfl, rfl, rfl, by decide +kernel, rfl, by decide +kernel, by decide +kernel⟩
abbrev s_law : Stmt := topS 52
abbrev N_law : List Str := ["script", "cells", "points", "many", "handed", "made", "flaw", "turned", "i", "other", "d", "c", "off", "due"]
theorem sc_law : FnScope N_law ["script"] (defScope s_law) := ⟨rfl, rfl, rfl, by decide +kernel, rfl, by decide +kernel, by decide +kernel⟩
/-- what the top has written -/
structure Tx (K : PySem.W.Frag) (mg : Str → Option Value) where
  a_Repeated : Addr
  i_Repeated : Addr
  fd_Repeated : FuncData
  g_Repeated : mg "Repeated" = some (.ref a_Repeated)
  X_Repeated : ErT K a_Repeated i_Repeated "number"
  F_Repeated : Fun K "__init__" "Repeated.__init__" s_Repeated i_Repeated fd_Repeated
  a_NoPoint : Addr
  i_NoPoint : Addr
  fd_NoPoint : FuncData
  g_NoPoint : mg "NoPoint" = some (.ref a_NoPoint)
  X_NoPoint : ErT K a_NoPoint i_NoPoint "number"
  F_NoPoint : Fun K "__init__" "NoPoint.__init__" s_NoPoint i_NoPoint fd_NoPoint
  a_Within : Addr
  i_Within : Addr
  fd_Within : FuncData
  g_Within : mg "Within" = some (.ref a_Within)
  X_Within : ErT K a_Within i_Within "triangle"
  F_Within : Fun K "__init__" "Within.__init__" s_Within i_Within fd_Within
  a_OnLine : Addr
  i_OnLine : Addr
  fd_OnLine : FuncData
  g_OnLine : mg "OnLine" = some (.ref a_OnLine)
  X_OnLine : ErT K a_OnLine i_OnLine "numbers"
  F_OnLine : Fun K "__init__" "OnLine.__init__" s_OnLine i_OnLine fd_OnLine
  a_TooFar : Addr
  i_TooFar : Addr
  fd_TooFar : FuncData
  g_TooFar : mg "TooFar" = some (.ref a_TooFar)
  X_TooFar : ErT K a_TooFar i_TooFar "value"
  F_TooFar : Fun K "__init__" "TooFar.__init__" s_TooFar i_TooFar fd_TooFar
  a_WrongCount : Addr
  i_WrongCount : Addr
  fd_WrongCount : FuncData
  g_WrongCount : mg "WrongCount" = some (.ref a_WrongCount)
  X_WrongCount : ErT K a_WrongCount i_WrongCount "count"
  F_WrongCount : Fun K "__init__" "WrongCount.__init__" s_WrongCount i_WrongCount fd_WrongCount
  a_BowlError : Addr
  g_BowlError : mg "BowlError" = some (.ref a_BowlError)
  a_Floor : Addr
  mc_Floor : Value
  g_Floor : mg "Floor" = some (.ref a_Floor)
  C_Floor : Cls K a_Floor
  cr_Floor : ClX.CRead K a_Floor mc_Floor
  n_Floor_points : NoAttr K a_Floor "points"
  u_Floor_LEAST : Value
  cv_Floor_LEAST : ClX.CVal K a_Floor mc_Floor "LEAST" (.int 3) u_Floor_LEAST
  u_Floor_MOST : Value
  cv_Floor_MOST : ClX.CVal K a_Floor mc_Floor "MOST" (.int 10) u_Floor_MOST
  u_Floor_FAR : Value
  cv_Floor_FAR : ClX.CVal K a_Floor mc_Floor "FAR" (.int 1000000) u_Floor_FAR
  ca_Floor : PySem.W.findIn K (.ref a_Floor) "__class__" = some (some (.builtin "object.__class__"))
  mo_Floor : PySem.W.mroIn K a_Floor (.type "object") = some true
  ki_Floor : PySem.W.kitOne K (.ref a_Floor) (.ref a_Floor) = some true
  gn : PySem.W.specialIn K (.builtin "object.__class__") "__get__" = some (some (.builtin "getset_descriptor.__get__"))
  tkc : PySem.W.takesIn K (.builtin "object.__class__") = some true
  a__law_gcd : Addr
  fd__law_gcd : FuncData
  F__law_gcd : Fun K "_law_gcd" "_law_gcd" s__law_gcd a__law_gcd fd__law_gcd
  g__law_gcd : mg "_law_gcd" = some (.ref a__law_gcd)
  a__law_area : Addr
  fd__law_area : FuncData
  F__law_area : Fun K "_law_area" "_law_area" s__law_area a__law_area fd__law_area
  g__law_area : mg "_law_area" = some (.ref a__law_area)
  a__law_weights : Addr
  fd__law_weights : FuncData
  F__law_weights : Fun K "_law_weights" "_law_weights" s__law_weights a__law_weights fd__law_weights
  g__law_weights : mg "_law_weights" = some (.ref a__law_weights)
  a__law_parts : Addr
  fd__law_parts : FuncData
  F__law_parts : Fun K "_law_parts" "_law_parts" s__law_parts a__law_parts fd__law_parts
  g__law_parts : mg "_law_parts" = some (.ref a__law_parts)
  a_bare_area : Addr
  fd_bare_area : FuncData
  F_bare_area : Fun K "bare_area" "bare_area" s_bare_area a_bare_area fd_bare_area
  g_bare_area : mg "bare_area" = some (.ref a_bare_area)
  a_check_number : Addr
  fd_check_number : FuncData
  F_check_number : Fun K "check_number" "check_number" s_check_number a_check_number fd_check_number
  g_check_number : mg "check_number" = some (.ref a_check_number)
  a_check_numbers : Addr
  fd_check_numbers : FuncData
  F_check_numbers : Fun K "check_numbers" "check_numbers" s_check_numbers a_check_numbers fd_check_numbers
  g_check_numbers : mg "check_numbers" = some (.ref a_check_numbers)
  a_Floor_left_of : Addr
  fd_Floor_left_of : FuncData
  F_Floor_left_of : Fun K "left_of" "Floor.left_of" s_Floor_left_of a_Floor_left_of fd_Floor_left_of
  m_Floor_left_of : Meth K a_Floor "left_of" a_Floor_left_of
  a_Floor___len__ : Addr
  fd_Floor___len__ : FuncData
  F_Floor___len__ : Fun K "__len__" "Floor.__len__" s_Floor___len__ a_Floor___len__ fd_Floor___len__
  m_Floor___len__ : Meth K a_Floor "__len__" a_Floor___len__
  a_followers : Addr
  fd_followers : FuncData
  F_followers : Fun K "followers" "followers" s_followers a_followers fd_followers
  g_followers : mg "followers" = some (.ref a_followers)
  a_rim : Addr
  fd_rim : FuncData
  F_rim : Fun K "rim" "rim" s_rim a_rim fd_rim
  g_rim : mg "rim" = some (.ref a_rim)
  a_first_behind : Addr
  fd_first_behind : FuncData
  F_first_behind : Fun K "first_behind" "first_behind" s_first_behind a_first_behind fd_first_behind
  g_first_behind : mg "first_behind" = some (.ref a_first_behind)
  a_subset_list : Addr
  fd_subset_list : FuncData
  F_subset_list : Fun K "subset_list" "subset_list" s_subset_list a_subset_list fd_subset_list
  g_subset_list : mg "subset_list" = some (.ref a_subset_list)
  a_is_within : Addr
  fd_is_within : FuncData
  F_is_within : Fun K "is_within" "is_within" s_is_within a_is_within fd_is_within
  g_is_within : mg "is_within" = some (.ref a_is_within)
  a_is_around : Addr
  fd_is_around : FuncData
  F_is_around : Fun K "is_around" "is_around" s_is_around a_is_around fd_is_around
  g_is_around : mg "is_around" = some (.ref a_is_around)
  a_weights : Addr
  fd_weights : FuncData
  F_weights : Fun K "weights" "weights" s_weights a_weights fd_weights
  g_weights : mg "weights" = some (.ref a_weights)
  a_held_by : Addr
  fd_held_by : FuncData
  F_held_by : Fun K "held_by" "held_by" s_held_by a_held_by fd_held_by
  g_held_by : mg "held_by" = some (.ref a_held_by)
  a_line_past : Addr
  fd_line_past : FuncData
  F_line_past : Fun K "line_past" "line_past" s_line_past a_line_past fd_line_past
  g_line_past : mg "line_past" = some (.ref a_line_past)
  a__law_past : Addr
  fd__law_past : FuncData
  F__law_past : Fun K "_law_past" "_law_past" s__law_past a__law_past fd__law_past
  g__law_past : mg "_law_past" = some (.ref a__law_past)
  a__law_held : Addr
  fd__law_held : FuncData
  F__law_held : Fun K "_law_held" "_law_held" s__law_held a__law_held fd__law_held
  g__law_held : mg "_law_held" = some (.ref a__law_held)
  a__law_threes : Addr
  fd__law_threes : FuncData
  F__law_threes : Fun K "_law_threes" "_law_threes" s__law_threes a__law_threes fd__law_threes
  g__law_threes : mg "_law_threes" = some (.ref a__law_threes)
  a__law_around : Addr
  fd__law_around : FuncData
  F__law_around : Fun K "_law_around" "_law_around" s__law_around a__law_around fd__law_around
  g__law_around : mg "_law_around" = some (.ref a__law_around)
  a__law_first : Addr
  fd__law_first : FuncData
  F__law_first : Fun K "_law_first" "_law_first" s__law_first a__law_first fd__law_first
  g__law_first : mg "_law_first" = some (.ref a__law_first)
  a__law_right : Addr
  fd__law_right : FuncData
  F__law_right : Fun K "_law_right" "_law_right" s__law_right a__law_right fd__law_right
  g__law_right : mg "_law_right" = some (.ref a__law_right)
  a__law_cell : Addr
  fd__law_cell : FuncData
  F__law_cell : Fun K "_law_cell" "_law_cell" s__law_cell a__law_cell fd__law_cell
  g__law_cell : mg "_law_cell" = some (.ref a__law_cell)
  a_check_turns : Addr
  fd_check_turns : FuncData
  F_check_turns : Fun K "check_turns" "check_turns" s_check_turns a_check_turns fd_check_turns
  g_check_turns : mg "check_turns" = some (.ref a_check_turns)
  a_check_range : Addr
  fd_check_range : FuncData
  F_check_range : Fun K "check_range" "check_range" s_check_range a_check_range fd_check_range
  g_check_range : mg "check_range" = some (.ref a_check_range)
  a_check_point : Addr
  fd_check_point : FuncData
  F_check_point : Fun K "check_point" "check_point" s_check_point a_check_point fd_check_point
  g_check_point : mg "check_point" = some (.ref a_check_point)
  a_check_count : Addr
  fd_check_count : FuncData
  F_check_count : Fun K "check_count" "check_count" s_check_count a_check_count fd_check_count
  g_check_count : mg "check_count" = some (.ref a_check_count)
  a_Floor___init__ : Addr
  fd_Floor___init__ : FuncData
  F_Floor___init__ : Fun K "__init__" "Floor.__init__" s_Floor___init__ a_Floor___init__ fd_Floor___init__
  M_Floor : Mk K a_Floor a_Floor___init__
  a__law_floor : Addr
  fd__law_floor : FuncData
  F__law_floor : Fun K "_law_floor" "_law_floor" s__law_floor a__law_floor fd__law_floor
  g__law_floor : mg "_law_floor" = some (.ref a__law_floor)
  a__law_flaw : Addr
  fd__law_flaw : FuncData
  F__law_flaw : Fun K "_law_flaw" "_law_flaw" s__law_flaw a__law_flaw fd__law_flaw
  g__law_flaw : mg "_law_flaw" = some (.ref a__law_flaw)
  a__law_point : Addr
  fd__law_point : FuncData
  F__law_point : Fun K "_law_point" "_law_point" s__law_point a__law_point fd__law_point
  g__law_point : mg "_law_point" = some (.ref a__law_point)
  a__law_points : Addr
  fd__law_points : FuncData
  F__law_points : Fun K "_law_points" "_law_points" s__law_points a__law_points fd__law_points
  g__law_points : mg "_law_points" = some (.ref a__law_points)
  a_law : Addr
  fd_law : FuncData
  F_law : Fun K "law" "law" s_law a_law fd_law
  g_law : mg "law" = some (.ref a_law)
  g_gcd : mg "gcd" = some (.builtin "math.gcd")
  z_ValueError : mg "ValueError" = none
  z_abs : mg "abs" = none
  z_bool : mg "bool" = none
  z_enumerate : mg "enumerate" = none
  z_int : mg "int" = none
  z_isinstance : mg "isinstance" = none
  z_len : mg "len" = none
  z_list : mg "list" = none
  z_min : mg "min" = none
  z_range : mg "range" = none
  z_repr : mg "repr" = none
  z_tuple : mg "tuple" = none
  k_TooFar_BowlError : PySem.W.kitOne K (.ref a_TooFar) (.ref a_BowlError) = some true
  k_TooFar_ValueError : PySem.W.kitOne K (.ref a_TooFar) (.type "ValueError") = some true
  k_OnLine_BowlError : PySem.W.kitOne K (.ref a_OnLine) (.ref a_BowlError) = some true
  k_OnLine_ValueError : PySem.W.kitOne K (.ref a_OnLine) (.type "ValueError") = some true
  k_NoPoint_BowlError : PySem.W.kitOne K (.ref a_NoPoint) (.ref a_BowlError) = some true
  k_NoPoint_ValueError : PySem.W.kitOne K (.ref a_NoPoint) (.type "ValueError") = some true
  k_Within_BowlError : PySem.W.kitOne K (.ref a_Within) (.ref a_BowlError) = some true
  k_Within_ValueError : PySem.W.kitOne K (.ref a_Within) (.type "ValueError") = some true
  k0_TooFar_OnLine : PySem.W.kitOne K (.ref a_TooFar) (.ref a_OnLine) = some false
  k0_OnLine_TooFar : PySem.W.kitOne K (.ref a_OnLine) (.ref a_TooFar) = some false
  k0_NoPoint_Within : PySem.W.kitOne K (.ref a_NoPoint) (.ref a_Within) = some false
  k0_Within_NoPoint : PySem.W.kitOne K (.ref a_Within) (.ref a_NoPoint) = some false
  x_TooFar_BowlError : PySem.W.exmOne K (.ref a_TooFar) (.ref a_BowlError) = some true
  x_OnLine_BowlError : PySem.W.exmOne K (.ref a_OnLine) (.ref a_BowlError) = some true
  x_NoPoint_BowlError : PySem.W.exmOne K (.ref a_NoPoint) (.ref a_BowlError) = some true
  x_Within_BowlError : PySem.W.exmOne K (.ref a_Within) (.ref a_BowlError) = some true
def Tx.M {K : PySem.W.Frag} {mg : Str → Option Value} (T : Tx K mg) : EC → Addr
  | .Repeated => T.a_Repeated
  | .NoPoint => T.a_NoPoint
  | .Within => T.a_Within
  | .OnLine => T.a_OnLine
  | .TooFar => T.a_TooFar
  | .WrongCount => T.a_WrongCount
  | _ => 0
theorem b_Repeated {K : PySem.W.Frag} {mg : Str → Option Value} (T : Tx K mg) : Binds K T.fd_Repeated ["self", "number"] [] := T.F_Repeated.binds (ps := ["self", "number"]) fun _ _ _ _ _ _ us hl => match us, hl with | [_, _], _ => rfl
theorem b_NoPoint {K : PySem.W.Frag} {mg : Str → Option Value} (T : Tx K mg) : Binds K T.fd_NoPoint ["self", "number"] [] := T.F_NoPoint.binds (ps := ["self", "number"]) fun _ _ _ _ _ _ us hl => match us, hl with | [_, _], _ => rfl
theorem b_Within {K : PySem.W.Frag} {mg : Str → Option Value} (T : Tx K mg) : Binds K T.fd_Within ["self", "triangle"] [] := T.F_Within.binds (ps := ["self", "triangle"]) fun _ _ _ _ _ _ us hl => match us, hl with | [_, _], _ => rfl
theorem b_OnLine {K : PySem.W.Frag} {mg : Str → Option Value} (T : Tx K mg) : Binds K T.fd_OnLine ["self", "numbers"] [] := T.F_OnLine.binds (ps := ["self", "numbers"]) fun _ _ _ _ _ _ us hl => match us, hl with | [_, _], _ => rfl
theorem b_TooFar {K : PySem.W.Frag} {mg : Str → Option Value} (T : Tx K mg) : Binds K T.fd_TooFar ["self", "value"] [] := T.F_TooFar.binds (ps := ["self", "value"]) fun _ _ _ _ _ _ us hl => match us, hl with | [_, _], _ => rfl
theorem b_WrongCount {K : PySem.W.Frag} {mg : Str → Option Value} (T : Tx K mg) : Binds K T.fd_WrongCount ["self", "count"] [] := T.F_WrongCount.binds (ps := ["self", "count"]) fun _ _ _ _ _ _ us hl => match us, hl with | [_, _], _ => rfl
theorem b__law_gcd {K : PySem.W.Frag} {mg : Str → Option Value} (T : Tx K mg) : Binds K T.fd__law_gcd ["a", "b"] [] := T.F__law_gcd.binds (ps := ["a", "b"]) fun _ _ _ _ _ _ us hl => match us, hl with | [_, _], _ => rfl
theorem b__law_area {K : PySem.W.Frag} {mg : Str → Option Value} (T : Tx K mg) : Binds K T.fd__law_area ["p", "q", "r"] [] := T.F__law_area.binds (ps := ["p", "q", "r"]) fun _ _ _ _ _ _ us hl => match us, hl with | [_, _, _], _ => rfl
theorem b__law_weights {K : PySem.W.Frag} {mg : Str → Option Value} (T : Tx K mg) : Binds K T.fd__law_weights ["points", "t", "d"] [] := T.F__law_weights.binds (ps := ["points", "t", "d"]) fun _ _ _ _ _ _ us hl => match us, hl with | [_, _, _], _ => rfl
theorem b__law_parts {K : PySem.W.Frag} {mg : Str → Option Value} (T : Tx K mg) : Binds K T.fd__law_parts ["line", "points", "d"] [] := T.F__law_parts.binds (ps := ["line", "points", "d"]) fun _ _ _ _ _ _ us hl => match us, hl with | [_, _, _], _ => rfl
theorem b_bare_area {K : PySem.W.Frag} {mg : Str → Option Value} (T : Tx K mg) : Binds K T.fd_bare_area ["p", "q", "r"] [] := T.F_bare_area.binds (ps := ["p", "q", "r"]) fun _ _ _ _ _ _ us hl => match us, hl with | [_, _, _], _ => rfl
theorem b_check_number {K : PySem.W.Frag} {mg : Str → Option Value} (T : Tx K mg) : Binds K T.fd_check_number ["number", "n"] [] := T.F_check_number.binds (ps := ["number", "n"]) fun _ _ _ _ _ _ us hl => match us, hl with | [_, _], _ => rfl
theorem b_check_numbers {K : PySem.W.Frag} {mg : Str → Option Value} (T : Tx K mg) : Binds K T.fd_check_numbers ["numbers", "n"] [] := T.F_check_numbers.binds (ps := ["numbers", "n"]) fun _ _ _ _ _ _ us hl => match us, hl with | [_, _], _ => rfl
theorem b_Floor_left_of {K : PySem.W.Frag} {mg : Str → Option Value} (T : Tx K mg) : Binds K T.fd_Floor_left_of ["self", "a", "b"] [] := T.F_Floor_left_of.binds (ps := ["self", "a", "b"]) fun _ _ _ _ _ _ us hl => match us, hl with | [_, _, _], _ => rfl
theorem b_Floor___len__ {K : PySem.W.Frag} {mg : Str → Option Value} (T : Tx K mg) : Binds K T.fd_Floor___len__ ["self"] [] := T.F_Floor___len__.binds (ps := ["self"]) fun _ _ _ _ _ _ us hl => match us, hl with | [_], _ => rfl
theorem b_followers {K : PySem.W.Frag} {mg : Str → Option Value} (T : Tx K mg) : Binds K T.fd_followers ["floor"] [] := T.F_followers.binds (ps := ["floor"]) fun _ _ _ _ _ _ us hl => match us, hl with | [_], _ => rfl
theorem b_rim {K : PySem.W.Frag} {mg : Str → Option Value} (T : Tx K mg) : Binds K T.fd_rim ["floor"] [] := T.F_rim.binds (ps := ["floor"]) fun _ _ _ _ _ _ us hl => match us, hl with | [_], _ => rfl
theorem b_first_behind {K : PySem.W.Frag} {mg : Str → Option Value} (T : Tx K mg) : Binds K T.fd_first_behind ["part"] [] := T.F_first_behind.binds (ps := ["part"]) fun _ _ _ _ _ _ us hl => match us, hl with | [_], _ => rfl
theorem b_subset_list {K : PySem.W.Frag} {mg : Str → Option Value} (T : Tx K mg) : Binds K T.fd_subset_list ["n", "size"] [] := T.F_subset_list.binds (ps := ["n", "size"]) fun _ _ _ _ _ _ us hl => match us, hl with | [_, _], _ => rfl
theorem b_is_within {K : PySem.W.Frag} {mg : Str → Option Value} (T : Tx K mg) : Binds K T.fd_is_within ["p", "q", "r", "s"] [] := T.F_is_within.binds (ps := ["p", "q", "r", "s"]) fun _ _ _ _ _ _ us hl => match us, hl with | [_, _, _, _], _ => rfl
theorem b_is_around {K : PySem.W.Frag} {mg : Str → Option Value} (T : Tx K mg) : Binds K T.fd_is_around ["floor", "three", "number"] [] := T.F_is_around.binds (ps := ["floor", "three", "number"]) fun _ _ _ _ _ _ us hl => match us, hl with | [_, _, _], _ => rfl
theorem b_weights {K : PySem.W.Frag} {mg : Str → Option Value} (T : Tx K mg) : Binds K T.fd_weights ["floor", "three", "number"] [] := T.F_weights.binds (ps := ["floor", "three", "number"]) fun _ _ _ _ _ _ us hl => match us, hl with | [_, _, _], _ => rfl
theorem b_held_by {K : PySem.W.Frag} {mg : Str → Option Value} (T : Tx K mg) : Binds K T.fd_held_by ["floor", "number"] [] := T.F_held_by.binds (ps := ["floor", "number"]) fun _ _ _ _ _ _ us hl => match us, hl with | [_, _], _ => rfl
theorem b_line_past {K : PySem.W.Frag} {mg : Str → Option Value} (T : Tx K mg) : Binds K T.fd_line_past ["floor", "number"] [] := T.F_line_past.binds (ps := ["floor", "number"]) fun _ _ _ _ _ _ us hl => match us, hl with | [_, _], _ => rfl
theorem b__law_past {K : PySem.W.Frag} {mg : Str → Option Value} (T : Tx K mg) : Binds K T.fd__law_past ["floor", "number"] [] := T.F__law_past.binds (ps := ["floor", "number"]) fun _ _ _ _ _ _ us hl => match us, hl with | [_, _], _ => rfl
theorem b__law_held {K : PySem.W.Frag} {mg : Str → Option Value} (T : Tx K mg) : Binds K T.fd__law_held ["floor", "number"] [] := T.F__law_held.binds (ps := ["floor", "number"]) fun _ _ _ _ _ _ us hl => match us, hl with | [_, _], _ => rfl
theorem b__law_threes {K : PySem.W.Frag} {mg : Str → Option Value} (T : Tx K mg) : Binds K T.fd__law_threes ["many"] [] := T.F__law_threes.binds (ps := ["many"]) fun _ _ _ _ _ _ us hl => match us, hl with | [_], _ => rfl
theorem b__law_around {K : PySem.W.Frag} {mg : Str → Option Value} (T : Tx K mg) : Binds K T.fd__law_around ["points", "t", "d"] [] := T.F__law_around.binds (ps := ["points", "t", "d"]) fun _ _ _ _ _ _ us hl => match us, hl with | [_, _, _], _ => rfl
theorem b__law_first {K : PySem.W.Frag} {mg : Str → Option Value} (T : Tx K mg) : Binds K T.fd__law_first ["points", "d"] [] := T.F__law_first.binds (ps := ["points", "d"]) fun _ _ _ _ _ _ us hl => match us, hl with | [_, _], _ => rfl
theorem b__law_right {K : PySem.W.Frag} {mg : Str → Option Value} (T : Tx K mg) : Binds K T.fd__law_right ["floor", "points", "d"] [] := T.F__law_right.binds (ps := ["floor", "points", "d"]) fun _ _ _ _ _ _ us hl => match us, hl with | [_, _, _], _ => rfl
theorem b__law_cell {K : PySem.W.Frag} {mg : Str → Option Value} (T : Tx K mg) : Binds K T.fd__law_cell ["cells", "i"] [] := T.F__law_cell.binds (ps := ["cells", "i"]) fun _ _ _ _ _ _ us hl => match us, hl with | [_, _], _ => rfl
theorem b_check_turns {K : PySem.W.Frag} {mg : Str → Option Value} (T : Tx K mg) : Binds K T.fd_check_turns ["points"] [] := T.F_check_turns.binds (ps := ["points"]) fun _ _ _ _ _ _ us hl => match us, hl with | [_], _ => rfl
theorem b_check_range {K : PySem.W.Frag} {mg : Str → Option Value} (T : Tx K mg) : Binds K T.fd_check_range ["value", "least", "most"] [] := T.F_check_range.binds (ps := ["value", "least", "most"]) fun _ _ _ _ _ _ us hl => match us, hl with | [_, _, _], _ => rfl
theorem b_check_point {K : PySem.W.Frag} {mg : Str → Option Value} (T : Tx K mg) : Binds K T.fd_check_point ["point"] [] := T.F_check_point.binds (ps := ["point"]) fun _ _ _ _ _ _ us hl => match us, hl with | [_], _ => rfl
theorem b_check_count {K : PySem.W.Frag} {mg : Str → Option Value} (T : Tx K mg) : Binds K T.fd_check_count ["members", "least", "most"] [] := T.F_check_count.binds (ps := ["members", "least", "most"]) fun _ _ _ _ _ _ us hl => match us, hl with | [_, _, _], _ => rfl
theorem b_Floor___init__ {K : PySem.W.Frag} {mg : Str → Option Value} (T : Tx K mg) : Binds K T.fd_Floor___init__ ["self", "points"] [] := T.F_Floor___init__.binds (ps := ["self", "points"]) fun _ _ _ _ _ _ us hl => match us, hl with | [_, _], _ => rfl
theorem b__law_floor {K : PySem.W.Frag} {mg : Str → Option Value} (T : Tx K mg) : Binds K T.fd__law_floor ["handed"] [] := T.F__law_floor.binds (ps := ["handed"]) fun _ _ _ _ _ _ us hl => match us, hl with | [_], _ => rfl
theorem b__law_flaw {K : PySem.W.Frag} {mg : Str → Option Value} (T : Tx K mg) : Binds K T.fd__law_flaw ["points"] [] := T.F__law_flaw.binds (ps := ["points"]) fun _ _ _ _ _ _ us hl => match us, hl with | [_], _ => rfl
theorem b__law_point {K : PySem.W.Frag} {mg : Str → Option Value} (T : Tx K mg) : Binds K T.fd__law_point ["c", "i", "wide"] [] := T.F__law_point.binds (ps := ["c", "i", "wide"]) fun _ _ _ _ _ _ us hl => match us, hl with | [_, _, _], _ => rfl
theorem b__law_points {K : PySem.W.Frag} {mg : Str → Option Value} (T : Tx K mg) : Binds K T.fd__law_points ["cells"] [] := T.F__law_points.binds (ps := ["cells"]) fun _ _ _ _ _ _ us hl => match us, hl with | [_], _ => rfl
theorem b_law {K : PySem.W.Frag} {mg : Str → Option Value} (T : Tx K mg) : Binds K T.fd_law ["script"] [] := T.F_law.binds (ps := ["script"]) fun _ _ _ _ _ _ us hl => match us, hl with | [_], _ => rfl
theorem mk_tx {K : PySem.W.Frag} {h : Heap} {mg : Str → Option Value} {a_Repeated i_Repeated a_NoPoint i_NoPoint a_Within i_Within a_OnLine i_OnLine a_TooFar i_TooFar a_WrongCount i_WrongCount a_BowlError a_Floor a__law_gcd a__law_area a__law_weights a__law_parts a_bare_area a_check_number a_check_numbers a_Floor_left_of a_Floor___len__ a_followers a_rim a_first_behind a_subset_list a_is_within a_is_around a_weights a_held_by a_line_past a__law_past a__law_held a__law_threes a__law_around a__law_first a__law_right a__law_cell a_check_turns a_check_range a_check_point a_check_count a_Floor___init__ a__law_floor a__law_flaw a__law_point a__law_points a_law : Addr} (X : K.In h) (G : h.Ns mainGlobals mg)
    {nm_Repeated q_Repeated : Str} {N_Repeated : Addr} {bs_Repeated bm_Repeated : List Value} {sn_Repeated : List Str} {sub_Repeated : List Value} {ab_Repeated : Bool} {col_Repeated : Option Bool} {dd_Repeated : Option Addr} {m0_Repeated m1_Repeated m2_Repeated m3_Repeated m5_Repeated : Option Value}
    {od_Repeated an_Repeated : Option Addr} {sl_Repeated : Array (Option Value)} {oc_Repeated kV_Repeated dc_Repeated pm_Repeated cd_Repeated ct_Repeated : Value}
    {nm_NoPoint q_NoPoint : Str} {N_NoPoint : Addr} {bs_NoPoint bm_NoPoint : List Value} {sn_NoPoint : List Str} {sub_NoPoint : List Value} {ab_NoPoint : Bool} {col_NoPoint : Option Bool} {dd_NoPoint : Option Addr} {m0_NoPoint m1_NoPoint m2_NoPoint m3_NoPoint m5_NoPoint : Option Value}
    {od_NoPoint an_NoPoint : Option Addr} {sl_NoPoint : Array (Option Value)} {oc_NoPoint kV_NoPoint dc_NoPoint pm_NoPoint cd_NoPoint ct_NoPoint : Value}
    {nm_Within q_Within : Str} {N_Within : Addr} {bs_Within bm_Within : List Value} {sn_Within : List Str} {sub_Within : List Value} {ab_Within : Bool} {col_Within : Option Bool} {dd_Within : Option Addr} {m0_Within m1_Within m2_Within m3_Within m5_Within : Option Value}
    {od_Within an_Within : Option Addr} {sl_Within : Array (Option Value)} {oc_Within kV_Within dc_Within pm_Within cd_Within ct_Within : Value}
    {nm_OnLine q_OnLine : Str} {N_OnLine : Addr} {bs_OnLine bm_OnLine : List Value} {sn_OnLine : List Str} {sub_OnLine : List Value} {ab_OnLine : Bool} {col_OnLine : Option Bool} {dd_OnLine : Option Addr} {m0_OnLine m1_OnLine m2_OnLine m3_OnLine m5_OnLine : Option Value}
    {od_OnLine an_OnLine : Option Addr} {sl_OnLine : Array (Option Value)} {oc_OnLine kV_OnLine dc_OnLine pm_OnLine cd_OnLine ct_OnLine : Value}
    {nm_TooFar q_TooFar : Str} {N_TooFar : Addr} {bs_TooFar bm_TooFar : List Value} {sn_TooFar : List Str} {sub_TooFar : List Value} {ab_TooFar : Bool} {col_TooFar : Option Bool} {dd_TooFar : Option Addr} {m0_TooFar m1_TooFar m2_TooFar m3_TooFar m5_TooFar : Option Value}
    {od_TooFar an_TooFar : Option Addr} {sl_TooFar : Array (Option Value)} {oc_TooFar kV_TooFar dc_TooFar pm_TooFar cd_TooFar ct_TooFar : Value}
    {nm_WrongCount q_WrongCount : Str} {N_WrongCount : Addr} {bs_WrongCount bm_WrongCount : List Value} {sn_WrongCount : List Str} {sub_WrongCount : List Value} {ab_WrongCount : Bool} {col_WrongCount : Option Bool} {dd_WrongCount : Option Addr} {m0_WrongCount m1_WrongCount m2_WrongCount m3_WrongCount m5_WrongCount : Option Value}
    {od_WrongCount an_WrongCount : Option Addr} {sl_WrongCount : Array (Option Value)} {oc_WrongCount kV_WrongCount dc_WrongCount pm_WrongCount cd_WrongCount ct_WrongCount : Value}
    {mc_Floor : Value}
    {tk_Floor_LEAST : Tok}
    {tk_Floor_MOST : Tok}
    {tk_Floor_FAR : Tok}
    {od__law_gcd an__law_gcd : Option Addr} {sl__law_gcd : Array (Option Value)} {oc__law_gcd kV__law_gcd dc__law_gcd pm__law_gcd cd__law_gcd ct__law_gcd : Value}
    {od__law_area an__law_area : Option Addr} {sl__law_area : Array (Option Value)} {oc__law_area kV__law_area dc__law_area pm__law_area cd__law_area ct__law_area : Value}
    {od__law_weights an__law_weights : Option Addr} {sl__law_weights : Array (Option Value)} {oc__law_weights kV__law_weights dc__law_weights pm__law_weights cd__law_weights ct__law_weights : Value}
    {od__law_parts an__law_parts : Option Addr} {sl__law_parts : Array (Option Value)} {oc__law_parts kV__law_parts dc__law_parts pm__law_parts cd__law_parts ct__law_parts : Value}
    {od_bare_area an_bare_area : Option Addr} {sl_bare_area : Array (Option Value)} {oc_bare_area kV_bare_area dc_bare_area pm_bare_area cd_bare_area ct_bare_area : Value}
    {od_check_number an_check_number : Option Addr} {sl_check_number : Array (Option Value)} {oc_check_number kV_check_number dc_check_number pm_check_number cd_check_number ct_check_number : Value}
    {od_check_numbers an_check_numbers : Option Addr} {sl_check_numbers : Array (Option Value)} {oc_check_numbers kV_check_numbers dc_check_numbers pm_check_numbers cd_check_numbers ct_check_numbers : Value}
    {od_Floor_left_of an_Floor_left_of : Option Addr} {sl_Floor_left_of : Array (Option Value)} {oc_Floor_left_of kV_Floor_left_of dc_Floor_left_of pm_Floor_left_of cd_Floor_left_of ct_Floor_left_of : Value}
    {od_Floor___len__ an_Floor___len__ : Option Addr} {sl_Floor___len__ : Array (Option Value)} {oc_Floor___len__ kV_Floor___len__ dc_Floor___len__ pm_Floor___len__ cd_Floor___len__ ct_Floor___len__ : Value}
    {od_followers an_followers : Option Addr} {sl_followers : Array (Option Value)} {oc_followers kV_followers dc_followers pm_followers cd_followers ct_followers : Value}
    {od_rim an_rim : Option Addr} {sl_rim : Array (Option Value)} {oc_rim kV_rim dc_rim pm_rim cd_rim ct_rim : Value}
    {od_first_behind an_first_behind : Option Addr} {sl_first_behind : Array (Option Value)} {oc_first_behind kV_first_behind dc_first_behind pm_first_behind cd_first_behind ct_first_behind : Value}
    {od_subset_list an_subset_list : Option Addr} {sl_subset_list : Array (Option Value)} {oc_subset_list kV_subset_list dc_subset_list pm_subset_list cd_subset_list ct_subset_list : Value}
    {od_is_within an_is_within : Option Addr} {sl_is_within : Array (Option Value)} {oc_is_within kV_is_within dc_is_within pm_is_within cd_is_within ct_is_within : Value}
    {od_is_around an_is_around : Option Addr} {sl_is_around : Array (Option Value)} {oc_is_around kV_is_around dc_is_around pm_is_around cd_is_around ct_is_around : Value}
    {od_weights an_weights : Option Addr} {sl_weights : Array (Option Value)} {oc_weights kV_weights dc_weights pm_weights cd_weights ct_weights : Value}
    {od_held_by an_held_by : Option Addr} {sl_held_by : Array (Option Value)} {oc_held_by kV_held_by dc_held_by pm_held_by cd_held_by ct_held_by : Value}
    {od_line_past an_line_past : Option Addr} {sl_line_past : Array (Option Value)} {oc_line_past kV_line_past dc_line_past pm_line_past cd_line_past ct_line_past : Value}
    {od__law_past an__law_past : Option Addr} {sl__law_past : Array (Option Value)} {oc__law_past kV__law_past dc__law_past pm__law_past cd__law_past ct__law_past : Value}
    {od__law_held an__law_held : Option Addr} {sl__law_held : Array (Option Value)} {oc__law_held kV__law_held dc__law_held pm__law_held cd__law_held ct__law_held : Value}
    {od__law_threes an__law_threes : Option Addr} {sl__law_threes : Array (Option Value)} {oc__law_threes kV__law_threes dc__law_threes pm__law_threes cd__law_threes ct__law_threes : Value}
    {od__law_around an__law_around : Option Addr} {sl__law_around : Array (Option Value)} {oc__law_around kV__law_around dc__law_around pm__law_around cd__law_around ct__law_around : Value}
    {od__law_first an__law_first : Option Addr} {sl__law_first : Array (Option Value)} {oc__law_first kV__law_first dc__law_first pm__law_first cd__law_first ct__law_first : Value}
    {od__law_right an__law_right : Option Addr} {sl__law_right : Array (Option Value)} {oc__law_right kV__law_right dc__law_right pm__law_right cd__law_right ct__law_right : Value}
    {od__law_cell an__law_cell : Option Addr} {sl__law_cell : Array (Option Value)} {oc__law_cell kV__law_cell dc__law_cell pm__law_cell cd__law_cell ct__law_cell : Value}
    {od_check_turns an_check_turns : Option Addr} {sl_check_turns : Array (Option Value)} {oc_check_turns kV_check_turns dc_check_turns pm_check_turns cd_check_turns ct_check_turns : Value}
    {od_check_range an_check_range : Option Addr} {sl_check_range : Array (Option Value)} {oc_check_range kV_check_range dc_check_range pm_check_range cd_check_range ct_check_range : Value}
    {od_check_point an_check_point : Option Addr} {sl_check_point : Array (Option Value)} {oc_check_point kV_check_point dc_check_point pm_check_point cd_check_point ct_check_point : Value}
    {od_check_count an_check_count : Option Addr} {sl_check_count : Array (Option Value)} {oc_check_count kV_check_count dc_check_count pm_check_count cd_check_count ct_check_count : Value}
    {od_Floor___init__ an_Floor___init__ : Option Addr} {sl_Floor___init__ : Array (Option Value)} {oc_Floor___init__ kV_Floor___init__ dc_Floor___init__ pm_Floor___init__ cd_Floor___init__ ct_Floor___init__ : Value}
    {od__law_floor an__law_floor : Option Addr} {sl__law_floor : Array (Option Value)} {oc__law_floor kV__law_floor dc__law_floor pm__law_floor cd__law_floor ct__law_floor : Value}
    {od__law_flaw an__law_flaw : Option Addr} {sl__law_flaw : Array (Option Value)} {oc__law_flaw kV__law_flaw dc__law_flaw pm__law_flaw cd__law_flaw ct__law_flaw : Value}
    {od__law_point an__law_point : Option Addr} {sl__law_point : Array (Option Value)} {oc__law_point kV__law_point dc__law_point pm__law_point cd__law_point ct__law_point : Value}
    {od__law_points an__law_points : Option Addr} {sl__law_points : Array (Option Value)} {oc__law_points kV__law_points dc__law_points pm__law_points cd__law_points ct__law_points : Value}
    {od_law an_law : Option Addr} {sl_law : Array (Option Value)} {oc_law kV_law dc_law pm_law cd_law ct_law : Value}
    
    (n_Repeated : PySem.W.nsIn K mainGlobals "Repeated" = some (some (.ref a_Repeated)))
    (o_Repeated : K.lookup a_Repeated = some (excClassObj nm_Repeated q_Repeated a_Repeated N_Repeated bs_Repeated bm_Repeated true sn_Repeated sub_Repeated ab_Repeated col_Repeated dd_Repeated m0_Repeated m1_Repeated m2_Repeated m3_Repeated m5_Repeated "ValueError.__new__"))
    (v_Repeated : PySem.HandSPX.refsVE bm_Repeated = true)
    (sa_Repeated : PySem.W.findIn K (.ref a_Repeated) "__setattr__" = some (some (.builtin "object.__setattr__")))
    (sb_Repeated : PySem.W.subIn K (.ref a_Repeated) (.type "BaseException") = some true)
    (ty_Repeated : PySem.W.typeIn K (.ref a_Repeated) = some (.type "type"))
    (kc_Repeated : PySem.W.keepIn K (.ref a_Repeated) = true)
    (ii_Repeated : PySem.W.findIn K (.ref a_Repeated) "__init__" = some (some (.ref i_Repeated)))
    (ti_Repeated : PySem.W.typeIn K (.ref i_Repeated) = some (.type "function"))
    (nf_Repeated : PySem.W.findIn K (.ref a_Repeated) "number" = some none)
    (ga_Repeated : PySem.W.findIn K (.ref a_Repeated) "__getattribute__" = some (some (.builtin "BaseException.__getattribute__")))
    (gt_Repeated : PySem.W.findIn K (.ref a_Repeated) "__getattr__" = some none)
    (hd_Repeated : PySem.W.hasDictIn K a_Repeated = true)
    (is_Repeated : PySem.W.isClsIn K a_Repeated = true)
    (ca_Repeated : PySem.W.findIn K (.ref a_Repeated) "__class__" = some (some (.builtin "object.__class__")))
    (mo_Repeated : PySem.W.mroIn K a_Repeated (.type "object") = some true)
    (l_Repeated : K.lookup i_Repeated = some ⟨oc_Repeated, od_Repeated, .func (PySem.W.fnOf "__init__" "Repeated.__init__" (defArgs s_Repeated) (defBody s_Repeated) (defScope s_Repeated) .none kV_Repeated dc_Repeated pm_Repeated an_Repeated cd_Repeated ct_Repeated), sl_Repeated⟩)
    (c_Repeated : PySem.W.codeIn K cd_Repeated "Repeated.__init__" = true)
    (kp_Repeated : PySem.W.keepIn K (.ref i_Repeated) = true)
    (n_NoPoint : PySem.W.nsIn K mainGlobals "NoPoint" = some (some (.ref a_NoPoint)))
    (o_NoPoint : K.lookup a_NoPoint = some (excClassObj nm_NoPoint q_NoPoint a_NoPoint N_NoPoint bs_NoPoint bm_NoPoint true sn_NoPoint sub_NoPoint ab_NoPoint col_NoPoint dd_NoPoint m0_NoPoint m1_NoPoint m2_NoPoint m3_NoPoint m5_NoPoint "ValueError.__new__"))
    (v_NoPoint : PySem.HandSPX.refsVE bm_NoPoint = true)
    (sa_NoPoint : PySem.W.findIn K (.ref a_NoPoint) "__setattr__" = some (some (.builtin "object.__setattr__")))
    (sb_NoPoint : PySem.W.subIn K (.ref a_NoPoint) (.type "BaseException") = some true)
    (ty_NoPoint : PySem.W.typeIn K (.ref a_NoPoint) = some (.type "type"))
    (kc_NoPoint : PySem.W.keepIn K (.ref a_NoPoint) = true)
    (ii_NoPoint : PySem.W.findIn K (.ref a_NoPoint) "__init__" = some (some (.ref i_NoPoint)))
    (ti_NoPoint : PySem.W.typeIn K (.ref i_NoPoint) = some (.type "function"))
    (nf_NoPoint : PySem.W.findIn K (.ref a_NoPoint) "number" = some none)
    (ga_NoPoint : PySem.W.findIn K (.ref a_NoPoint) "__getattribute__" = some (some (.builtin "BaseException.__getattribute__")))
    (gt_NoPoint : PySem.W.findIn K (.ref a_NoPoint) "__getattr__" = some none)
    (hd_NoPoint : PySem.W.hasDictIn K a_NoPoint = true)
    (is_NoPoint : PySem.W.isClsIn K a_NoPoint = true)
    (ca_NoPoint : PySem.W.findIn K (.ref a_NoPoint) "__class__" = some (some (.builtin "object.__class__")))
    (mo_NoPoint : PySem.W.mroIn K a_NoPoint (.type "object") = some true)
    (l_NoPoint : K.lookup i_NoPoint = some ⟨oc_NoPoint, od_NoPoint, .func (PySem.W.fnOf "__init__" "NoPoint.__init__" (defArgs s_NoPoint) (defBody s_NoPoint) (defScope s_NoPoint) .none kV_NoPoint dc_NoPoint pm_NoPoint an_NoPoint cd_NoPoint ct_NoPoint), sl_NoPoint⟩)
    (c_NoPoint : PySem.W.codeIn K cd_NoPoint "NoPoint.__init__" = true)
    (kp_NoPoint : PySem.W.keepIn K (.ref i_NoPoint) = true)
    (n_Within : PySem.W.nsIn K mainGlobals "Within" = some (some (.ref a_Within)))
    (o_Within : K.lookup a_Within = some (excClassObj nm_Within q_Within a_Within N_Within bs_Within bm_Within true sn_Within sub_Within ab_Within col_Within dd_Within m0_Within m1_Within m2_Within m3_Within m5_Within "ValueError.__new__"))
    (v_Within : PySem.HandSPX.refsVE bm_Within = true)
    (sa_Within : PySem.W.findIn K (.ref a_Within) "__setattr__" = some (some (.builtin "object.__setattr__")))
    (sb_Within : PySem.W.subIn K (.ref a_Within) (.type "BaseException") = some true)
    (ty_Within : PySem.W.typeIn K (.ref a_Within) = some (.type "type"))
    (kc_Within : PySem.W.keepIn K (.ref a_Within) = true)
    (ii_Within : PySem.W.findIn K (.ref a_Within) "__init__" = some (some (.ref i_Within)))
    (ti_Within : PySem.W.typeIn K (.ref i_Within) = some (.type "function"))
    (nf_Within : PySem.W.findIn K (.ref a_Within) "triangle" = some none)
    (ga_Within : PySem.W.findIn K (.ref a_Within) "__getattribute__" = some (some (.builtin "BaseException.__getattribute__")))
    (gt_Within : PySem.W.findIn K (.ref a_Within) "__getattr__" = some none)
    (hd_Within : PySem.W.hasDictIn K a_Within = true)
    (is_Within : PySem.W.isClsIn K a_Within = true)
    (ca_Within : PySem.W.findIn K (.ref a_Within) "__class__" = some (some (.builtin "object.__class__")))
    (mo_Within : PySem.W.mroIn K a_Within (.type "object") = some true)
    (l_Within : K.lookup i_Within = some ⟨oc_Within, od_Within, .func (PySem.W.fnOf "__init__" "Within.__init__" (defArgs s_Within) (defBody s_Within) (defScope s_Within) .none kV_Within dc_Within pm_Within an_Within cd_Within ct_Within), sl_Within⟩)
    (c_Within : PySem.W.codeIn K cd_Within "Within.__init__" = true)
    (kp_Within : PySem.W.keepIn K (.ref i_Within) = true)
    (n_OnLine : PySem.W.nsIn K mainGlobals "OnLine" = some (some (.ref a_OnLine)))
    (o_OnLine : K.lookup a_OnLine = some (excClassObj nm_OnLine q_OnLine a_OnLine N_OnLine bs_OnLine bm_OnLine true sn_OnLine sub_OnLine ab_OnLine col_OnLine dd_OnLine m0_OnLine m1_OnLine m2_OnLine m3_OnLine m5_OnLine "ValueError.__new__"))
    (v_OnLine : PySem.HandSPX.refsVE bm_OnLine = true)
    (sa_OnLine : PySem.W.findIn K (.ref a_OnLine) "__setattr__" = some (some (.builtin "object.__setattr__")))
    (sb_OnLine : PySem.W.subIn K (.ref a_OnLine) (.type "BaseException") = some true)
    (ty_OnLine : PySem.W.typeIn K (.ref a_OnLine) = some (.type "type"))
    (kc_OnLine : PySem.W.keepIn K (.ref a_OnLine) = true)
    (ii_OnLine : PySem.W.findIn K (.ref a_OnLine) "__init__" = some (some (.ref i_OnLine)))
    (ti_OnLine : PySem.W.typeIn K (.ref i_OnLine) = some (.type "function"))
    (nf_OnLine : PySem.W.findIn K (.ref a_OnLine) "numbers" = some none)
    (ga_OnLine : PySem.W.findIn K (.ref a_OnLine) "__getattribute__" = some (some (.builtin "BaseException.__getattribute__")))
    (gt_OnLine : PySem.W.findIn K (.ref a_OnLine) "__getattr__" = some none)
    (hd_OnLine : PySem.W.hasDictIn K a_OnLine = true)
    (is_OnLine : PySem.W.isClsIn K a_OnLine = true)
    (ca_OnLine : PySem.W.findIn K (.ref a_OnLine) "__class__" = some (some (.builtin "object.__class__")))
    (mo_OnLine : PySem.W.mroIn K a_OnLine (.type "object") = some true)
    (l_OnLine : K.lookup i_OnLine = some ⟨oc_OnLine, od_OnLine, .func (PySem.W.fnOf "__init__" "OnLine.__init__" (defArgs s_OnLine) (defBody s_OnLine) (defScope s_OnLine) .none kV_OnLine dc_OnLine pm_OnLine an_OnLine cd_OnLine ct_OnLine), sl_OnLine⟩)
    (c_OnLine : PySem.W.codeIn K cd_OnLine "OnLine.__init__" = true)
    (kp_OnLine : PySem.W.keepIn K (.ref i_OnLine) = true)
    (n_TooFar : PySem.W.nsIn K mainGlobals "TooFar" = some (some (.ref a_TooFar)))
    (o_TooFar : K.lookup a_TooFar = some (excClassObj nm_TooFar q_TooFar a_TooFar N_TooFar bs_TooFar bm_TooFar true sn_TooFar sub_TooFar ab_TooFar col_TooFar dd_TooFar m0_TooFar m1_TooFar m2_TooFar m3_TooFar m5_TooFar "ValueError.__new__"))
    (v_TooFar : PySem.HandSPX.refsVE bm_TooFar = true)
    (sa_TooFar : PySem.W.findIn K (.ref a_TooFar) "__setattr__" = some (some (.builtin "object.__setattr__")))
    (sb_TooFar : PySem.W.subIn K (.ref a_TooFar) (.type "BaseException") = some true)
    (ty_TooFar : PySem.W.typeIn K (.ref a_TooFar) = some (.type "type"))
    (kc_TooFar : PySem.W.keepIn K (.ref a_TooFar) = true)
    (ii_TooFar : PySem.W.findIn K (.ref a_TooFar) "__init__" = some (some (.ref i_TooFar)))
    (ti_TooFar : PySem.W.typeIn K (.ref i_TooFar) = some (.type "function"))
    (nf_TooFar : PySem.W.findIn K (.ref a_TooFar) "value" = some none)
    (ga_TooFar : PySem.W.findIn K (.ref a_TooFar) "__getattribute__" = some (some (.builtin "BaseException.__getattribute__")))
    (gt_TooFar : PySem.W.findIn K (.ref a_TooFar) "__getattr__" = some none)
    (hd_TooFar : PySem.W.hasDictIn K a_TooFar = true)
    (is_TooFar : PySem.W.isClsIn K a_TooFar = true)
    (ca_TooFar : PySem.W.findIn K (.ref a_TooFar) "__class__" = some (some (.builtin "object.__class__")))
    (mo_TooFar : PySem.W.mroIn K a_TooFar (.type "object") = some true)
    (l_TooFar : K.lookup i_TooFar = some ⟨oc_TooFar, od_TooFar, .func (PySem.W.fnOf "__init__" "TooFar.__init__" (defArgs s_TooFar) (defBody s_TooFar) (defScope s_TooFar) .none kV_TooFar dc_TooFar pm_TooFar an_TooFar cd_TooFar ct_TooFar), sl_TooFar⟩)
    (c_TooFar : PySem.W.codeIn K cd_TooFar "TooFar.__init__" = true)
    (kp_TooFar : PySem.W.keepIn K (.ref i_TooFar) = true)
    (n_WrongCount : PySem.W.nsIn K mainGlobals "WrongCount" = some (some (.ref a_WrongCount)))
    (o_WrongCount : K.lookup a_WrongCount = some (excClassObj nm_WrongCount q_WrongCount a_WrongCount N_WrongCount bs_WrongCount bm_WrongCount true sn_WrongCount sub_WrongCount ab_WrongCount col_WrongCount dd_WrongCount m0_WrongCount m1_WrongCount m2_WrongCount m3_WrongCount m5_WrongCount "ValueError.__new__"))
    (v_WrongCount : PySem.HandSPX.refsVE bm_WrongCount = true)
    (sa_WrongCount : PySem.W.findIn K (.ref a_WrongCount) "__setattr__" = some (some (.builtin "object.__setattr__")))
    (sb_WrongCount : PySem.W.subIn K (.ref a_WrongCount) (.type "BaseException") = some true)
    (ty_WrongCount : PySem.W.typeIn K (.ref a_WrongCount) = some (.type "type"))
    (kc_WrongCount : PySem.W.keepIn K (.ref a_WrongCount) = true)
    (ii_WrongCount : PySem.W.findIn K (.ref a_WrongCount) "__init__" = some (some (.ref i_WrongCount)))
    (ti_WrongCount : PySem.W.typeIn K (.ref i_WrongCount) = some (.type "function"))
    (nf_WrongCount : PySem.W.findIn K (.ref a_WrongCount) "count" = some none)
    (ga_WrongCount : PySem.W.findIn K (.ref a_WrongCount) "__getattribute__" = some (some (.builtin "BaseException.__getattribute__")))
    (gt_WrongCount : PySem.W.findIn K (.ref a_WrongCount) "__getattr__" = some none)
    (hd_WrongCount : PySem.W.hasDictIn K a_WrongCount = true)
    (is_WrongCount : PySem.W.isClsIn K a_WrongCount = true)
    (ca_WrongCount : PySem.W.findIn K (.ref a_WrongCount) "__class__" = some (some (.builtin "object.__class__")))
    (mo_WrongCount : PySem.W.mroIn K a_WrongCount (.type "object") = some true)
    (l_WrongCount : K.lookup i_WrongCount = some ⟨oc_WrongCount, od_WrongCount, .func (PySem.W.fnOf "__init__" "WrongCount.__init__" (defArgs s_WrongCount) (defBody s_WrongCount) (defScope s_WrongCount) .none kV_WrongCount dc_WrongCount pm_WrongCount an_WrongCount cd_WrongCount ct_WrongCount), sl_WrongCount⟩)
    (c_WrongCount : PySem.W.codeIn K cd_WrongCount "WrongCount.__init__" = true)
    (kp_WrongCount : PySem.W.keepIn K (.ref i_WrongCount) = true)
    (n_BowlError : PySem.W.nsIn K mainGlobals "BowlError" = some (some (.ref a_BowlError)))
    (is_BowlError : PySem.W.isClsIn K a_BowlError = true)
    (ty_BowlError : PySem.W.typeIn K (.ref a_BowlError) = some (.type "type"))
    (gn : PySem.W.specialIn K (.builtin "object.__class__") "__get__" = some (some (.builtin "getset_descriptor.__get__")))
    (tkc : PySem.W.takesIn K (.builtin "object.__class__") = some true)
    (n_Floor : PySem.W.nsIn K mainGlobals "Floor" = some (some (.ref a_Floor)))
    (pg_Floor : PySem.W.plainGet K a_Floor Str.empty = true)
    (hd_Floor : PySem.W.hasDictIn K a_Floor = true)
    (po_Floor : PySem.W.plainOver K a_Floor = true)
    (sa_Floor : PySem.W.findIn K (.ref a_Floor) "__setattr__" = some (some (.builtin "object.__setattr__")))
    (tc_Floor : PySem.W.typeIn K (.ref a_Floor) = some mc_Floor)
    (rd_Floor : PySem.W.readsIn K a_Floor mc_Floor = true)
    (gc_Floor : PySem.W.specialIn K (.ref a_Floor) "__getattribute__" = some (some (.builtin "type.__getattribute__")))
    (na_Floor_points : PySem.W.findIn K (.ref a_Floor) "points" = some none)
    (cv_Floor_LEAST : PySem.W.findCls K (.ref a_Floor) mc_Floor "LEAST" = some (.val (.int 3 tk_Floor_LEAST)))
    (cv_Floor_MOST : PySem.W.findCls K (.ref a_Floor) mc_Floor "MOST" = some (.val (.int 10 tk_Floor_MOST)))
    (cv_Floor_FAR : PySem.W.findCls K (.ref a_Floor) mc_Floor "FAR" = some (.val (.int 1000000 tk_Floor_FAR)))
    (ca_Floor : PySem.W.findIn K (.ref a_Floor) "__class__" = some (some (.builtin "object.__class__")))
    (mo_Floor : PySem.W.mroIn K a_Floor (.type "object") = some true)
    (n__law_gcd : PySem.W.nsIn K mainGlobals "_law_gcd" = some (some (.ref a__law_gcd)))
    (l__law_gcd : K.lookup a__law_gcd = some ⟨oc__law_gcd, od__law_gcd, .func (PySem.W.fnOf "_law_gcd" "_law_gcd" (defArgs s__law_gcd) (defBody s__law_gcd) (defScope s__law_gcd) .none kV__law_gcd dc__law_gcd pm__law_gcd an__law_gcd cd__law_gcd ct__law_gcd), sl__law_gcd⟩)
    (c__law_gcd : PySem.W.codeIn K cd__law_gcd "_law_gcd" = true)
    (kp__law_gcd : PySem.W.keepIn K (.ref a__law_gcd) = true)
    (n__law_area : PySem.W.nsIn K mainGlobals "_law_area" = some (some (.ref a__law_area)))
    (l__law_area : K.lookup a__law_area = some ⟨oc__law_area, od__law_area, .func (PySem.W.fnOf "_law_area" "_law_area" (defArgs s__law_area) (defBody s__law_area) (defScope s__law_area) .none kV__law_area dc__law_area pm__law_area an__law_area cd__law_area ct__law_area), sl__law_area⟩)
    (c__law_area : PySem.W.codeIn K cd__law_area "_law_area" = true)
    (kp__law_area : PySem.W.keepIn K (.ref a__law_area) = true)
    (n__law_weights : PySem.W.nsIn K mainGlobals "_law_weights" = some (some (.ref a__law_weights)))
    (l__law_weights : K.lookup a__law_weights = some ⟨oc__law_weights, od__law_weights, .func (PySem.W.fnOf "_law_weights" "_law_weights" (defArgs s__law_weights) (defBody s__law_weights) (defScope s__law_weights) .none kV__law_weights dc__law_weights pm__law_weights an__law_weights cd__law_weights ct__law_weights), sl__law_weights⟩)
    (c__law_weights : PySem.W.codeIn K cd__law_weights "_law_weights" = true)
    (kp__law_weights : PySem.W.keepIn K (.ref a__law_weights) = true)
    (n__law_parts : PySem.W.nsIn K mainGlobals "_law_parts" = some (some (.ref a__law_parts)))
    (l__law_parts : K.lookup a__law_parts = some ⟨oc__law_parts, od__law_parts, .func (PySem.W.fnOf "_law_parts" "_law_parts" (defArgs s__law_parts) (defBody s__law_parts) (defScope s__law_parts) .none kV__law_parts dc__law_parts pm__law_parts an__law_parts cd__law_parts ct__law_parts), sl__law_parts⟩)
    (c__law_parts : PySem.W.codeIn K cd__law_parts "_law_parts" = true)
    (kp__law_parts : PySem.W.keepIn K (.ref a__law_parts) = true)
    (n_bare_area : PySem.W.nsIn K mainGlobals "bare_area" = some (some (.ref a_bare_area)))
    (l_bare_area : K.lookup a_bare_area = some ⟨oc_bare_area, od_bare_area, .func (PySem.W.fnOf "bare_area" "bare_area" (defArgs s_bare_area) (defBody s_bare_area) (defScope s_bare_area) .none kV_bare_area dc_bare_area pm_bare_area an_bare_area cd_bare_area ct_bare_area), sl_bare_area⟩)
    (c_bare_area : PySem.W.codeIn K cd_bare_area "bare_area" = true)
    (kp_bare_area : PySem.W.keepIn K (.ref a_bare_area) = true)
    (n_check_number : PySem.W.nsIn K mainGlobals "check_number" = some (some (.ref a_check_number)))
    (l_check_number : K.lookup a_check_number = some ⟨oc_check_number, od_check_number, .func (PySem.W.fnOf "check_number" "check_number" (defArgs s_check_number) (defBody s_check_number) (defScope s_check_number) .none kV_check_number dc_check_number pm_check_number an_check_number cd_check_number ct_check_number), sl_check_number⟩)
    (c_check_number : PySem.W.codeIn K cd_check_number "check_number" = true)
    (kp_check_number : PySem.W.keepIn K (.ref a_check_number) = true)
    (n_check_numbers : PySem.W.nsIn K mainGlobals "check_numbers" = some (some (.ref a_check_numbers)))
    (l_check_numbers : K.lookup a_check_numbers = some ⟨oc_check_numbers, od_check_numbers, .func (PySem.W.fnOf "check_numbers" "check_numbers" (defArgs s_check_numbers) (defBody s_check_numbers) (defScope s_check_numbers) .none kV_check_numbers dc_check_numbers pm_check_numbers an_check_numbers cd_check_numbers ct_check_numbers), sl_check_numbers⟩)
    (c_check_numbers : PySem.W.codeIn K cd_check_numbers "check_numbers" = true)
    (kp_check_numbers : PySem.W.keepIn K (.ref a_check_numbers) = true)
    (f_Floor_left_of : PySem.W.findIn K (.ref a_Floor) "left_of" = some (some (.ref a_Floor_left_of)))
    (fi_Floor_left_of : PySem.W.isFn K (.ref a_Floor_left_of) = true)
    (l_Floor_left_of : K.lookup a_Floor_left_of = some ⟨oc_Floor_left_of, od_Floor_left_of, .func (PySem.W.fnOf "left_of" "Floor.left_of" (defArgs s_Floor_left_of) (defBody s_Floor_left_of) (defScope s_Floor_left_of) .none kV_Floor_left_of dc_Floor_left_of pm_Floor_left_of an_Floor_left_of cd_Floor_left_of ct_Floor_left_of), sl_Floor_left_of⟩)
    (c_Floor_left_of : PySem.W.codeIn K cd_Floor_left_of "Floor.left_of" = true)
    (kp_Floor_left_of : PySem.W.keepIn K (.ref a_Floor_left_of) = true)
    (f_Floor___len__ : PySem.W.findIn K (.ref a_Floor) "__len__" = some (some (.ref a_Floor___len__)))
    (fi_Floor___len__ : PySem.W.isFn K (.ref a_Floor___len__) = true)
    (l_Floor___len__ : K.lookup a_Floor___len__ = some ⟨oc_Floor___len__, od_Floor___len__, .func (PySem.W.fnOf "__len__" "Floor.__len__" (defArgs s_Floor___len__) (defBody s_Floor___len__) (defScope s_Floor___len__) .none kV_Floor___len__ dc_Floor___len__ pm_Floor___len__ an_Floor___len__ cd_Floor___len__ ct_Floor___len__), sl_Floor___len__⟩)
    (c_Floor___len__ : PySem.W.codeIn K cd_Floor___len__ "Floor.__len__" = true)
    (kp_Floor___len__ : PySem.W.keepIn K (.ref a_Floor___len__) = true)
    (n_followers : PySem.W.nsIn K mainGlobals "followers" = some (some (.ref a_followers)))
    (l_followers : K.lookup a_followers = some ⟨oc_followers, od_followers, .func (PySem.W.fnOf "followers" "followers" (defArgs s_followers) (defBody s_followers) (defScope s_followers) .none kV_followers dc_followers pm_followers an_followers cd_followers ct_followers), sl_followers⟩)
    (c_followers : PySem.W.codeIn K cd_followers "followers" = true)
    (kp_followers : PySem.W.keepIn K (.ref a_followers) = true)
    (n_rim : PySem.W.nsIn K mainGlobals "rim" = some (some (.ref a_rim)))
    (l_rim : K.lookup a_rim = some ⟨oc_rim, od_rim, .func (PySem.W.fnOf "rim" "rim" (defArgs s_rim) (defBody s_rim) (defScope s_rim) .none kV_rim dc_rim pm_rim an_rim cd_rim ct_rim), sl_rim⟩)
    (c_rim : PySem.W.codeIn K cd_rim "rim" = true)
    (kp_rim : PySem.W.keepIn K (.ref a_rim) = true)
    (n_first_behind : PySem.W.nsIn K mainGlobals "first_behind" = some (some (.ref a_first_behind)))
    (l_first_behind : K.lookup a_first_behind = some ⟨oc_first_behind, od_first_behind, .func (PySem.W.fnOf "first_behind" "first_behind" (defArgs s_first_behind) (defBody s_first_behind) (defScope s_first_behind) .none kV_first_behind dc_first_behind pm_first_behind an_first_behind cd_first_behind ct_first_behind), sl_first_behind⟩)
    (c_first_behind : PySem.W.codeIn K cd_first_behind "first_behind" = true)
    (kp_first_behind : PySem.W.keepIn K (.ref a_first_behind) = true)
    (n_subset_list : PySem.W.nsIn K mainGlobals "subset_list" = some (some (.ref a_subset_list)))
    (l_subset_list : K.lookup a_subset_list = some ⟨oc_subset_list, od_subset_list, .func (PySem.W.fnOf "subset_list" "subset_list" (defArgs s_subset_list) (defBody s_subset_list) (defScope s_subset_list) .none kV_subset_list dc_subset_list pm_subset_list an_subset_list cd_subset_list ct_subset_list), sl_subset_list⟩)
    (c_subset_list : PySem.W.codeIn K cd_subset_list "subset_list" = true)
    (kp_subset_list : PySem.W.keepIn K (.ref a_subset_list) = true)
    (n_is_within : PySem.W.nsIn K mainGlobals "is_within" = some (some (.ref a_is_within)))
    (l_is_within : K.lookup a_is_within = some ⟨oc_is_within, od_is_within, .func (PySem.W.fnOf "is_within" "is_within" (defArgs s_is_within) (defBody s_is_within) (defScope s_is_within) .none kV_is_within dc_is_within pm_is_within an_is_within cd_is_within ct_is_within), sl_is_within⟩)
    (c_is_within : PySem.W.codeIn K cd_is_within "is_within" = true)
    (kp_is_within : PySem.W.keepIn K (.ref a_is_within) = true)
    (n_is_around : PySem.W.nsIn K mainGlobals "is_around" = some (some (.ref a_is_around)))
    (l_is_around : K.lookup a_is_around = some ⟨oc_is_around, od_is_around, .func (PySem.W.fnOf "is_around" "is_around" (defArgs s_is_around) (defBody s_is_around) (defScope s_is_around) .none kV_is_around dc_is_around pm_is_around an_is_around cd_is_around ct_is_around), sl_is_around⟩)
    (c_is_around : PySem.W.codeIn K cd_is_around "is_around" = true)
    (kp_is_around : PySem.W.keepIn K (.ref a_is_around) = true)
    (n_weights : PySem.W.nsIn K mainGlobals "weights" = some (some (.ref a_weights)))
    (l_weights : K.lookup a_weights = some ⟨oc_weights, od_weights, .func (PySem.W.fnOf "weights" "weights" (defArgs s_weights) (defBody s_weights) (defScope s_weights) .none kV_weights dc_weights pm_weights an_weights cd_weights ct_weights), sl_weights⟩)
    (c_weights : PySem.W.codeIn K cd_weights "weights" = true)
    (kp_weights : PySem.W.keepIn K (.ref a_weights) = true)
    (n_held_by : PySem.W.nsIn K mainGlobals "held_by" = some (some (.ref a_held_by)))
    (l_held_by : K.lookup a_held_by = some ⟨oc_held_by, od_held_by, .func (PySem.W.fnOf "held_by" "held_by" (defArgs s_held_by) (defBody s_held_by) (defScope s_held_by) .none kV_held_by dc_held_by pm_held_by an_held_by cd_held_by ct_held_by), sl_held_by⟩)
    (c_held_by : PySem.W.codeIn K cd_held_by "held_by" = true)
    (kp_held_by : PySem.W.keepIn K (.ref a_held_by) = true)
    (n_line_past : PySem.W.nsIn K mainGlobals "line_past" = some (some (.ref a_line_past)))
    (l_line_past : K.lookup a_line_past = some ⟨oc_line_past, od_line_past, .func (PySem.W.fnOf "line_past" "line_past" (defArgs s_line_past) (defBody s_line_past) (defScope s_line_past) .none kV_line_past dc_line_past pm_line_past an_line_past cd_line_past ct_line_past), sl_line_past⟩)
    (c_line_past : PySem.W.codeIn K cd_line_past "line_past" = true)
    (kp_line_past : PySem.W.keepIn K (.ref a_line_past) = true)
    (n__law_past : PySem.W.nsIn K mainGlobals "_law_past" = some (some (.ref a__law_past)))
    (l__law_past : K.lookup a__law_past = some ⟨oc__law_past, od__law_past, .func (PySem.W.fnOf "_law_past" "_law_past" (defArgs s__law_past) (defBody s__law_past) (defScope s__law_past) .none kV__law_past dc__law_past pm__law_past an__law_past cd__law_past ct__law_past), sl__law_past⟩)
    (c__law_past : PySem.W.codeIn K cd__law_past "_law_past" = true)
    (kp__law_past : PySem.W.keepIn K (.ref a__law_past) = true)
    (n__law_held : PySem.W.nsIn K mainGlobals "_law_held" = some (some (.ref a__law_held)))
    (l__law_held : K.lookup a__law_held = some ⟨oc__law_held, od__law_held, .func (PySem.W.fnOf "_law_held" "_law_held" (defArgs s__law_held) (defBody s__law_held) (defScope s__law_held) .none kV__law_held dc__law_held pm__law_held an__law_held cd__law_held ct__law_held), sl__law_held⟩)
    (c__law_held : PySem.W.codeIn K cd__law_held "_law_held" = true)
    (kp__law_held : PySem.W.keepIn K (.ref a__law_held) = true)
    (n__law_threes : PySem.W.nsIn K mainGlobals "_law_threes" = some (some (.ref a__law_threes)))
    (l__law_threes : K.lookup a__law_threes = some ⟨oc__law_threes, od__law_threes, .func (PySem.W.fnOf "_law_threes" "_law_threes" (defArgs s__law_threes) (defBody s__law_threes) (defScope s__law_threes) .none kV__law_threes dc__law_threes pm__law_threes an__law_threes cd__law_threes ct__law_threes), sl__law_threes⟩)
    (c__law_threes : PySem.W.codeIn K cd__law_threes "_law_threes" = true)
    (kp__law_threes : PySem.W.keepIn K (.ref a__law_threes) = true)
    (n__law_around : PySem.W.nsIn K mainGlobals "_law_around" = some (some (.ref a__law_around)))
    (l__law_around : K.lookup a__law_around = some ⟨oc__law_around, od__law_around, .func (PySem.W.fnOf "_law_around" "_law_around" (defArgs s__law_around) (defBody s__law_around) (defScope s__law_around) .none kV__law_around dc__law_around pm__law_around an__law_around cd__law_around ct__law_around), sl__law_around⟩)
    (c__law_around : PySem.W.codeIn K cd__law_around "_law_around" = true)
    (kp__law_around : PySem.W.keepIn K (.ref a__law_around) = true)
    (n__law_first : PySem.W.nsIn K mainGlobals "_law_first" = some (some (.ref a__law_first)))
    (l__law_first : K.lookup a__law_first = some ⟨oc__law_first, od__law_first, .func (PySem.W.fnOf "_law_first" "_law_first" (defArgs s__law_first) (defBody s__law_first) (defScope s__law_first) .none kV__law_first dc__law_first pm__law_first an__law_first cd__law_first ct__law_first), sl__law_first⟩)
    (c__law_first : PySem.W.codeIn K cd__law_first "_law_first" = true)
    (kp__law_first : PySem.W.keepIn K (.ref a__law_first) = true)
    (n__law_right : PySem.W.nsIn K mainGlobals "_law_right" = some (some (.ref a__law_right)))
    (l__law_right : K.lookup a__law_right = some ⟨oc__law_right, od__law_right, .func (PySem.W.fnOf "_law_right" "_law_right" (defArgs s__law_right) (defBody s__law_right) (defScope s__law_right) .none kV__law_right dc__law_right pm__law_right an__law_right cd__law_right ct__law_right), sl__law_right⟩)
    (c__law_right : PySem.W.codeIn K cd__law_right "_law_right" = true)
    (kp__law_right : PySem.W.keepIn K (.ref a__law_right) = true)
    (n__law_cell : PySem.W.nsIn K mainGlobals "_law_cell" = some (some (.ref a__law_cell)))
    (l__law_cell : K.lookup a__law_cell = some ⟨oc__law_cell, od__law_cell, .func (PySem.W.fnOf "_law_cell" "_law_cell" (defArgs s__law_cell) (defBody s__law_cell) (defScope s__law_cell) .none kV__law_cell dc__law_cell pm__law_cell an__law_cell cd__law_cell ct__law_cell), sl__law_cell⟩)
    (c__law_cell : PySem.W.codeIn K cd__law_cell "_law_cell" = true)
    (kp__law_cell : PySem.W.keepIn K (.ref a__law_cell) = true)
    (n_check_turns : PySem.W.nsIn K mainGlobals "check_turns" = some (some (.ref a_check_turns)))
    (l_check_turns : K.lookup a_check_turns = some ⟨oc_check_turns, od_check_turns, .func (PySem.W.fnOf "check_turns" "check_turns" (defArgs s_check_turns) (defBody s_check_turns) (defScope s_check_turns) .none kV_check_turns dc_check_turns pm_check_turns an_check_turns cd_check_turns ct_check_turns), sl_check_turns⟩)
    (c_check_turns : PySem.W.codeIn K cd_check_turns "check_turns" = true)
    (kp_check_turns : PySem.W.keepIn K (.ref a_check_turns) = true)
    (n_check_range : PySem.W.nsIn K mainGlobals "check_range" = some (some (.ref a_check_range)))
    (l_check_range : K.lookup a_check_range = some ⟨oc_check_range, od_check_range, .func (PySem.W.fnOf "check_range" "check_range" (defArgs s_check_range) (defBody s_check_range) (defScope s_check_range) .none kV_check_range dc_check_range pm_check_range an_check_range cd_check_range ct_check_range), sl_check_range⟩)
    (c_check_range : PySem.W.codeIn K cd_check_range "check_range" = true)
    (kp_check_range : PySem.W.keepIn K (.ref a_check_range) = true)
    (n_check_point : PySem.W.nsIn K mainGlobals "check_point" = some (some (.ref a_check_point)))
    (l_check_point : K.lookup a_check_point = some ⟨oc_check_point, od_check_point, .func (PySem.W.fnOf "check_point" "check_point" (defArgs s_check_point) (defBody s_check_point) (defScope s_check_point) .none kV_check_point dc_check_point pm_check_point an_check_point cd_check_point ct_check_point), sl_check_point⟩)
    (c_check_point : PySem.W.codeIn K cd_check_point "check_point" = true)
    (kp_check_point : PySem.W.keepIn K (.ref a_check_point) = true)
    (n_check_count : PySem.W.nsIn K mainGlobals "check_count" = some (some (.ref a_check_count)))
    (l_check_count : K.lookup a_check_count = some ⟨oc_check_count, od_check_count, .func (PySem.W.fnOf "check_count" "check_count" (defArgs s_check_count) (defBody s_check_count) (defScope s_check_count) .none kV_check_count dc_check_count pm_check_count an_check_count cd_check_count ct_check_count), sl_check_count⟩)
    (c_check_count : PySem.W.codeIn K cd_check_count "check_count" = true)
    (kp_check_count : PySem.W.keepIn K (.ref a_check_count) = true)
    (f_Floor___init__ : PySem.W.findIn K (.ref a_Floor) "__init__" = some (some (.ref a_Floor___init__)))
    (fi_Floor___init__ : PySem.W.isFn K (.ref a_Floor___init__) = true)
    (l_Floor___init__ : K.lookup a_Floor___init__ = some ⟨oc_Floor___init__, od_Floor___init__, .func (PySem.W.fnOf "__init__" "Floor.__init__" (defArgs s_Floor___init__) (defBody s_Floor___init__) (defScope s_Floor___init__) .none kV_Floor___init__ dc_Floor___init__ pm_Floor___init__ an_Floor___init__ cd_Floor___init__ ct_Floor___init__), sl_Floor___init__⟩)
    (c_Floor___init__ : PySem.W.codeIn K cd_Floor___init__ "Floor.__init__" = true)
    (kp_Floor___init__ : PySem.W.keepIn K (.ref a_Floor___init__) = true)
    (mk_Floor : PySem.W.makesIn K a_Floor = true)
    (kc_Floor : PySem.W.keepIn K (.ref a_Floor) = true)
    (n__law_floor : PySem.W.nsIn K mainGlobals "_law_floor" = some (some (.ref a__law_floor)))
    (l__law_floor : K.lookup a__law_floor = some ⟨oc__law_floor, od__law_floor, .func (PySem.W.fnOf "_law_floor" "_law_floor" (defArgs s__law_floor) (defBody s__law_floor) (defScope s__law_floor) .none kV__law_floor dc__law_floor pm__law_floor an__law_floor cd__law_floor ct__law_floor), sl__law_floor⟩)
    (c__law_floor : PySem.W.codeIn K cd__law_floor "_law_floor" = true)
    (kp__law_floor : PySem.W.keepIn K (.ref a__law_floor) = true)
    (n__law_flaw : PySem.W.nsIn K mainGlobals "_law_flaw" = some (some (.ref a__law_flaw)))
    (l__law_flaw : K.lookup a__law_flaw = some ⟨oc__law_flaw, od__law_flaw, .func (PySem.W.fnOf "_law_flaw" "_law_flaw" (defArgs s__law_flaw) (defBody s__law_flaw) (defScope s__law_flaw) .none kV__law_flaw dc__law_flaw pm__law_flaw an__law_flaw cd__law_flaw ct__law_flaw), sl__law_flaw⟩)
    (c__law_flaw : PySem.W.codeIn K cd__law_flaw "_law_flaw" = true)
    (kp__law_flaw : PySem.W.keepIn K (.ref a__law_flaw) = true)
    (n__law_point : PySem.W.nsIn K mainGlobals "_law_point" = some (some (.ref a__law_point)))
    (l__law_point : K.lookup a__law_point = some ⟨oc__law_point, od__law_point, .func (PySem.W.fnOf "_law_point" "_law_point" (defArgs s__law_point) (defBody s__law_point) (defScope s__law_point) .none kV__law_point dc__law_point pm__law_point an__law_point cd__law_point ct__law_point), sl__law_point⟩)
    (c__law_point : PySem.W.codeIn K cd__law_point "_law_point" = true)
    (kp__law_point : PySem.W.keepIn K (.ref a__law_point) = true)
    (n__law_points : PySem.W.nsIn K mainGlobals "_law_points" = some (some (.ref a__law_points)))
    (l__law_points : K.lookup a__law_points = some ⟨oc__law_points, od__law_points, .func (PySem.W.fnOf "_law_points" "_law_points" (defArgs s__law_points) (defBody s__law_points) (defScope s__law_points) .none kV__law_points dc__law_points pm__law_points an__law_points cd__law_points ct__law_points), sl__law_points⟩)
    (c__law_points : PySem.W.codeIn K cd__law_points "_law_points" = true)
    (kp__law_points : PySem.W.keepIn K (.ref a__law_points) = true)
    (n_law : PySem.W.nsIn K mainGlobals "law" = some (some (.ref a_law)))
    (l_law : K.lookup a_law = some ⟨oc_law, od_law, .func (PySem.W.fnOf "law" "law" (defArgs s_law) (defBody s_law) (defScope s_law) .none kV_law dc_law pm_law an_law cd_law ct_law), sl_law⟩)
    (c_law : PySem.W.codeIn K cd_law "law" = true)
    (kp_law : PySem.W.keepIn K (.ref a_law) = true)
    (n_gcd : PySem.W.nsIn K mainGlobals "gcd" = some (some (.builtin "math.gcd")))
    (z_ValueError : PySem.W.nsIn K mainGlobals "ValueError" = some none)
    (z_abs : PySem.W.nsIn K mainGlobals "abs" = some none)
    (z_bool : PySem.W.nsIn K mainGlobals "bool" = some none)
    (z_enumerate : PySem.W.nsIn K mainGlobals "enumerate" = some none)
    (z_int : PySem.W.nsIn K mainGlobals "int" = some none)
    (z_isinstance : PySem.W.nsIn K mainGlobals "isinstance" = some none)
    (z_len : PySem.W.nsIn K mainGlobals "len" = some none)
    (z_list : PySem.W.nsIn K mainGlobals "list" = some none)
    (z_min : PySem.W.nsIn K mainGlobals "min" = some none)
    (z_range : PySem.W.nsIn K mainGlobals "range" = some none)
    (z_repr : PySem.W.nsIn K mainGlobals "repr" = some none)
    (z_tuple : PySem.W.nsIn K mainGlobals "tuple" = some none)
    (s_TooFar_BowlError : PySem.W.subIn K (.ref a_TooFar) (.ref a_BowlError) = some true)
    (s_TooFar_ValueError : PySem.W.subIn K (.ref a_TooFar) (.type "ValueError") = some true)
    (s_OnLine_BowlError : PySem.W.subIn K (.ref a_OnLine) (.ref a_BowlError) = some true)
    (s_OnLine_ValueError : PySem.W.subIn K (.ref a_OnLine) (.type "ValueError") = some true)
    (s_NoPoint_BowlError : PySem.W.subIn K (.ref a_NoPoint) (.ref a_BowlError) = some true)
    (s_NoPoint_ValueError : PySem.W.subIn K (.ref a_NoPoint) (.type "ValueError") = some true)
    (s_Within_BowlError : PySem.W.subIn K (.ref a_Within) (.ref a_BowlError) = some true)
    (s_Within_ValueError : PySem.W.subIn K (.ref a_Within) (.type "ValueError") = some true)
    (sb_BowlError : PySem.W.subIn K (.ref a_BowlError) (.type "BaseException") = some true)
    (s_TooFar_TooFar : PySem.W.subIn K (.ref a_TooFar) (.ref a_TooFar) = some true)
    (s_TooFar_OnLine : PySem.W.subIn K (.ref a_TooFar) (.ref a_OnLine) = some false)
    (s_OnLine_OnLine : PySem.W.subIn K (.ref a_OnLine) (.ref a_OnLine) = some true)
    (s_OnLine_TooFar : PySem.W.subIn K (.ref a_OnLine) (.ref a_TooFar) = some false)
    (s_NoPoint_NoPoint : PySem.W.subIn K (.ref a_NoPoint) (.ref a_NoPoint) = some true)
    (s_NoPoint_Within : PySem.W.subIn K (.ref a_NoPoint) (.ref a_Within) = some false)
    (s_Within_Within : PySem.W.subIn K (.ref a_Within) (.ref a_Within) = some true)
    (s_Within_NoPoint : PySem.W.subIn K (.ref a_Within) (.ref a_NoPoint) = some false) :
    ∃ T : Tx K mg, mg "law" = some (.ref T.a_law) :=
  ⟨{ a_Repeated := a_Repeated,
     i_Repeated := i_Repeated,
     fd_Repeated := _,
     g_Repeated := PySem.W.mg_of X G n_Repeated,
     F_Repeated := fun_mk (st := s_Repeated) l_Repeated c_Repeated kp_Repeated,
     X_Repeated := ⟨⟨⟨_, _, _, _, _, _, _, _, _, _, _, _, _, _, _, o_Repeated, v_Repeated⟩, sa_Repeated, sb_Repeated, ty_Repeated, kc_Repeated⟩, ii_Repeated, ti_Repeated, nf_Repeated, ⟨ga_Repeated, gt_Repeated, sb_Repeated, hd_Repeated⟩, ⟨is_Repeated, ga_Repeated, gt_Repeated, sb_Repeated, ca_Repeated, gn, tkc, mo_Repeated⟩⟩,
     a_NoPoint := a_NoPoint,
     i_NoPoint := i_NoPoint,
     fd_NoPoint := _,
     g_NoPoint := PySem.W.mg_of X G n_NoPoint,
     F_NoPoint := fun_mk (st := s_NoPoint) l_NoPoint c_NoPoint kp_NoPoint,
     X_NoPoint := ⟨⟨⟨_, _, _, _, _, _, _, _, _, _, _, _, _, _, _, o_NoPoint, v_NoPoint⟩, sa_NoPoint, sb_NoPoint, ty_NoPoint, kc_NoPoint⟩, ii_NoPoint, ti_NoPoint, nf_NoPoint, ⟨ga_NoPoint, gt_NoPoint, sb_NoPoint, hd_NoPoint⟩, ⟨is_NoPoint, ga_NoPoint, gt_NoPoint, sb_NoPoint, ca_NoPoint, gn, tkc, mo_NoPoint⟩⟩,
     a_Within := a_Within,
     i_Within := i_Within,
     fd_Within := _,
     g_Within := PySem.W.mg_of X G n_Within,
     F_Within := fun_mk (st := s_Within) l_Within c_Within kp_Within,
     X_Within := ⟨⟨⟨_, _, _, _, _, _, _, _, _, _, _, _, _, _, _, o_Within, v_Within⟩, sa_Within, sb_Within, ty_Within, kc_Within⟩, ii_Within, ti_Within, nf_Within, ⟨ga_Within, gt_Within, sb_Within, hd_Within⟩, ⟨is_Within, ga_Within, gt_Within, sb_Within, ca_Within, gn, tkc, mo_Within⟩⟩,
     a_OnLine := a_OnLine,
     i_OnLine := i_OnLine,
     fd_OnLine := _,
     g_OnLine := PySem.W.mg_of X G n_OnLine,
     F_OnLine := fun_mk (st := s_OnLine) l_OnLine c_OnLine kp_OnLine,
     X_OnLine := ⟨⟨⟨_, _, _, _, _, _, _, _, _, _, _, _, _, _, _, o_OnLine, v_OnLine⟩, sa_OnLine, sb_OnLine, ty_OnLine, kc_OnLine⟩, ii_OnLine, ti_OnLine, nf_OnLine, ⟨ga_OnLine, gt_OnLine, sb_OnLine, hd_OnLine⟩, ⟨is_OnLine, ga_OnLine, gt_OnLine, sb_OnLine, ca_OnLine, gn, tkc, mo_OnLine⟩⟩,
     a_TooFar := a_TooFar,
     i_TooFar := i_TooFar,
     fd_TooFar := _,
     g_TooFar := PySem.W.mg_of X G n_TooFar,
     F_TooFar := fun_mk (st := s_TooFar) l_TooFar c_TooFar kp_TooFar,
     X_TooFar := ⟨⟨⟨_, _, _, _, _, _, _, _, _, _, _, _, _, _, _, o_TooFar, v_TooFar⟩, sa_TooFar, sb_TooFar, ty_TooFar, kc_TooFar⟩, ii_TooFar, ti_TooFar, nf_TooFar, ⟨ga_TooFar, gt_TooFar, sb_TooFar, hd_TooFar⟩, ⟨is_TooFar, ga_TooFar, gt_TooFar, sb_TooFar, ca_TooFar, gn, tkc, mo_TooFar⟩⟩,
     a_WrongCount := a_WrongCount,
     i_WrongCount := i_WrongCount,
     fd_WrongCount := _,
     g_WrongCount := PySem.W.mg_of X G n_WrongCount,
     F_WrongCount := fun_mk (st := s_WrongCount) l_WrongCount c_WrongCount kp_WrongCount,
     X_WrongCount := ⟨⟨⟨_, _, _, _, _, _, _, _, _, _, _, _, _, _, _, o_WrongCount, v_WrongCount⟩, sa_WrongCount, sb_WrongCount, ty_WrongCount, kc_WrongCount⟩, ii_WrongCount, ti_WrongCount, nf_WrongCount, ⟨ga_WrongCount, gt_WrongCount, sb_WrongCount, hd_WrongCount⟩, ⟨is_WrongCount, ga_WrongCount, gt_WrongCount, sb_WrongCount, ca_WrongCount, gn, tkc, mo_WrongCount⟩⟩,
     a_BowlError := a_BowlError,
     g_BowlError := PySem.W.mg_of X G n_BowlError,
     gn := gn,
     tkc := tkc,
     a_Floor := a_Floor,
     mc_Floor := mc_Floor,
     g_Floor := PySem.W.mg_of X G n_Floor,
     C_Floor := ⟨pg_Floor, hd_Floor, po_Floor, sa_Floor⟩,
     cr_Floor := ⟨rd_Floor, gc_Floor⟩,
     n_Floor_points := na_Floor_points,
     u_Floor_LEAST := _,
     cv_Floor_LEAST := ⟨cv_Floor_LEAST, ⟨_, rfl⟩⟩,
     u_Floor_MOST := _,
     cv_Floor_MOST := ⟨cv_Floor_MOST, ⟨_, rfl⟩⟩,
     u_Floor_FAR := _,
     cv_Floor_FAR := ⟨cv_Floor_FAR, ⟨_, rfl⟩⟩,
     ca_Floor := ca_Floor,
     mo_Floor := mo_Floor,
     ki_Floor := EB.kit_refl,
     fd__law_gcd := _,
     F__law_gcd := fun_mk (st := s__law_gcd) l__law_gcd c__law_gcd kp__law_gcd,
     g__law_gcd := PySem.W.mg_of X G n__law_gcd,
     a__law_gcd := a__law_gcd,
     fd__law_area := _,
     F__law_area := fun_mk (st := s__law_area) l__law_area c__law_area kp__law_area,
     g__law_area := PySem.W.mg_of X G n__law_area,
     a__law_area := a__law_area,
     fd__law_weights := _,
     F__law_weights := fun_mk (st := s__law_weights) l__law_weights c__law_weights kp__law_weights,
     g__law_weights := PySem.W.mg_of X G n__law_weights,
     a__law_weights := a__law_weights,
     fd__law_parts := _,
     F__law_parts := fun_mk (st := s__law_parts) l__law_parts c__law_parts kp__law_parts,
     g__law_parts := PySem.W.mg_of X G n__law_parts,
     a__law_parts := a__law_parts,
     fd_bare_area := _,
     F_bare_area := fun_mk (st := s_bare_area) l_bare_area c_bare_area kp_bare_area,
     g_bare_area := PySem.W.mg_of X G n_bare_area,
     a_bare_area := a_bare_area,
     fd_check_number := _,
     F_check_number := fun_mk (st := s_check_number) l_check_number c_check_number kp_check_number,
     g_check_number := PySem.W.mg_of X G n_check_number,
     a_check_number := a_check_number,
     fd_check_numbers := _,
     F_check_numbers := fun_mk (st := s_check_numbers) l_check_numbers c_check_numbers kp_check_numbers,
     g_check_numbers := PySem.W.mg_of X G n_check_numbers,
     a_check_numbers := a_check_numbers,
     fd_Floor_left_of := _,
     F_Floor_left_of := fun_mk (st := s_Floor_left_of) l_Floor_left_of c_Floor_left_of kp_Floor_left_of,
     m_Floor_left_of := ⟨f_Floor_left_of, fi_Floor_left_of, kp_Floor_left_of⟩,
     a_Floor_left_of := a_Floor_left_of,
     fd_Floor___len__ := _,
     F_Floor___len__ := fun_mk (st := s_Floor___len__) l_Floor___len__ c_Floor___len__ kp_Floor___len__,
     m_Floor___len__ := ⟨f_Floor___len__, fi_Floor___len__, kp_Floor___len__⟩,
     a_Floor___len__ := a_Floor___len__,
     fd_followers := _,
     F_followers := fun_mk (st := s_followers) l_followers c_followers kp_followers,
     g_followers := PySem.W.mg_of X G n_followers,
     a_followers := a_followers,
     fd_rim := _,
     F_rim := fun_mk (st := s_rim) l_rim c_rim kp_rim,
     g_rim := PySem.W.mg_of X G n_rim,
     a_rim := a_rim,
     fd_first_behind := _,
     F_first_behind := fun_mk (st := s_first_behind) l_first_behind c_first_behind kp_first_behind,
     g_first_behind := PySem.W.mg_of X G n_first_behind,
     a_first_behind := a_first_behind,
     fd_subset_list := _,
     F_subset_list := fun_mk (st := s_subset_list) l_subset_list c_subset_list kp_subset_list,
     g_subset_list := PySem.W.mg_of X G n_subset_list,
     a_subset_list := a_subset_list,
     fd_is_within := _,
     F_is_within := fun_mk (st := s_is_within) l_is_within c_is_within kp_is_within,
     g_is_within := PySem.W.mg_of X G n_is_within,
     a_is_within := a_is_within,
     fd_is_around := _,
     F_is_around := fun_mk (st := s_is_around) l_is_around c_is_around kp_is_around,
     g_is_around := PySem.W.mg_of X G n_is_around,
     a_is_around := a_is_around,
     fd_weights := _,
     F_weights := fun_mk (st := s_weights) l_weights c_weights kp_weights,
     g_weights := PySem.W.mg_of X G n_weights,
     a_weights := a_weights,
     fd_held_by := _,
     F_held_by := fun_mk (st := s_held_by) l_held_by c_held_by kp_held_by,
     g_held_by := PySem.W.mg_of X G n_held_by,
     a_held_by := a_held_by,
     fd_line_past := _,
     F_line_past := fun_mk (st := s_line_past) l_line_past c_line_past kp_line_past,
     g_line_past := PySem.W.mg_of X G n_line_past,
     a_line_past := a_line_past,
     fd__law_past := _,
     F__law_past := fun_mk (st := s__law_past) l__law_past c__law_past kp__law_past,
     g__law_past := PySem.W.mg_of X G n__law_past,
     a__law_past := a__law_past,
     fd__law_held := _,
     F__law_held := fun_mk (st := s__law_held) l__law_held c__law_held kp__law_held,
     g__law_held := PySem.W.mg_of X G n__law_held,
     a__law_held := a__law_held,
     fd__law_threes := _,
     F__law_threes := fun_mk (st := s__law_threes) l__law_threes c__law_threes kp__law_threes,
     g__law_threes := PySem.W.mg_of X G n__law_threes,
     a__law_threes := a__law_threes,
     fd__law_around := _,
     F__law_around := fun_mk (st := s__law_around) l__law_around c__law_around kp__law_around,
     g__law_around := PySem.W.mg_of X G n__law_around,
     a__law_around := a__law_around,
     fd__law_first := _,
     F__law_first := fun_mk (st := s__law_first) l__law_first c__law_first kp__law_first,
     g__law_first := PySem.W.mg_of X G n__law_first,
     a__law_first := a__law_first,
     fd__law_right := _,
     F__law_right := fun_mk (st := s__law_right) l__law_right c__law_right kp__law_right,
     g__law_right := PySem.W.mg_of X G n__law_right,
     a__law_right := a__law_right,
     fd__law_cell := _,
     F__law_cell := fun_mk (st := s__law_cell) l__law_cell c__law_cell kp__law_cell,
     g__law_cell := PySem.W.mg_of X G n__law_cell,
     a__law_cell := a__law_cell,
     fd_check_turns := _,
     F_check_turns := fun_mk (st := s_check_turns) l_check_turns c_check_turns kp_check_turns,
     g_check_turns := PySem.W.mg_of X G n_check_turns,
     a_check_turns := a_check_turns,
     fd_check_range := _,
     F_check_range := fun_mk (st := s_check_range) l_check_range c_check_range kp_check_range,
     g_check_range := PySem.W.mg_of X G n_check_range,
     a_check_range := a_check_range,
     fd_check_point := _,
     F_check_point := fun_mk (st := s_check_point) l_check_point c_check_point kp_check_point,
     g_check_point := PySem.W.mg_of X G n_check_point,
     a_check_point := a_check_point,
     fd_check_count := _,
     F_check_count := fun_mk (st := s_check_count) l_check_count c_check_count kp_check_count,
     g_check_count := PySem.W.mg_of X G n_check_count,
     a_check_count := a_check_count,
     fd_Floor___init__ := _,
     F_Floor___init__ := fun_mk (st := s_Floor___init__) l_Floor___init__ c_Floor___init__ kp_Floor___init__,
     M_Floor := ⟨mk_Floor, f_Floor___init__, fi_Floor___init__, kc_Floor⟩,
     a_Floor___init__ := a_Floor___init__,
     fd__law_floor := _,
     F__law_floor := fun_mk (st := s__law_floor) l__law_floor c__law_floor kp__law_floor,
     g__law_floor := PySem.W.mg_of X G n__law_floor,
     a__law_floor := a__law_floor,
     fd__law_flaw := _,
     F__law_flaw := fun_mk (st := s__law_flaw) l__law_flaw c__law_flaw kp__law_flaw,
     g__law_flaw := PySem.W.mg_of X G n__law_flaw,
     a__law_flaw := a__law_flaw,
     fd__law_point := _,
     F__law_point := fun_mk (st := s__law_point) l__law_point c__law_point kp__law_point,
     g__law_point := PySem.W.mg_of X G n__law_point,
     a__law_point := a__law_point,
     fd__law_points := _,
     F__law_points := fun_mk (st := s__law_points) l__law_points c__law_points kp__law_points,
     g__law_points := PySem.W.mg_of X G n__law_points,
     a__law_points := a__law_points,
     fd_law := _,
     F_law := fun_mk (st := s_law) l_law c_law kp_law,
     g_law := PySem.W.mg_of X G n_law,
     a_law := a_law,
     g_gcd := PySem.W.mg_of X G n_gcd,
     z_ValueError := PySem.W.mg_none_of X G z_ValueError,
     z_abs := PySem.W.mg_none_of X G z_abs,
     z_bool := PySem.W.mg_none_of X G z_bool,
     z_enumerate := PySem.W.mg_none_of X G z_enumerate,
     z_int := PySem.W.mg_none_of X G z_int,
     z_isinstance := PySem.W.mg_none_of X G z_isinstance,
     z_len := PySem.W.mg_none_of X G z_len,
     z_list := PySem.W.mg_none_of X G z_list,
     z_min := PySem.W.mg_none_of X G z_min,
     z_range := PySem.W.mg_none_of X G z_range,
     z_repr := PySem.W.mg_none_of X G z_repr,
     z_tuple := PySem.W.mg_none_of X G z_tuple,
     k_TooFar_BowlError := EB.kit_sub is_BowlError ty_BowlError s_TooFar_BowlError fun _ => rfl,
     k_TooFar_ValueError := EB.kit_val s_TooFar_ValueError,
     k_OnLine_BowlError := EB.kit_sub is_BowlError ty_BowlError s_OnLine_BowlError fun _ => rfl,
     k_OnLine_ValueError := EB.kit_val s_OnLine_ValueError,
     k_NoPoint_BowlError := EB.kit_sub is_BowlError ty_BowlError s_NoPoint_BowlError fun _ => rfl,
     k_NoPoint_ValueError := EB.kit_val s_NoPoint_ValueError,
     k_Within_BowlError := EB.kit_sub is_BowlError ty_BowlError s_Within_BowlError fun _ => rfl,
     k_Within_ValueError := EB.kit_val s_Within_ValueError,
     k0_TooFar_OnLine := EB.kit_off is_OnLine ty_OnLine s_TooFar_TooFar s_TooFar_OnLine,
     k0_OnLine_TooFar := EB.kit_off is_TooFar ty_TooFar s_OnLine_OnLine s_OnLine_TooFar,
     k0_NoPoint_Within := EB.kit_off is_Within ty_Within s_NoPoint_NoPoint s_NoPoint_Within,
     k0_Within_NoPoint := EB.kit_off is_NoPoint ty_NoPoint s_Within_Within s_Within_NoPoint,
     x_TooFar_BowlError := EB.exm_sub sb_BowlError is_BowlError ty_BowlError s_TooFar_BowlError,
     x_OnLine_BowlError := EB.exm_sub sb_BowlError is_BowlError ty_BowlError s_OnLine_BowlError,
     x_NoPoint_BowlError := EB.exm_sub sb_BowlError is_BowlError ty_BowlError s_NoPoint_BowlError,
     x_Within_BowlError := EB.exm_sub sb_BowlError is_BowlError ty_BowlError s_Within_BowlError }, PySem.W.mg_of X G n_law⟩
end K13

namespace K13
open PySem PySem.Spec PyProof.Rows L2 Evl EB
theorem ok_WrongCount {P : Program} {w : World} {K : PySem.W.Frag} {mg : Str → Option Value} {base : Heap} (T : Tx K mg) : FnOk P w K mg base CX0 1 T.i_WrongCount T.fd_WrongCount ["self", "count"] (spErr T.a_WrongCount "count") := by
  refine T.F_WrongCount.ok sc_WrongCount (fun vs H Q E h => by obtain ⟨a, u, rfl, _⟩ := h; rfl) (fun cdv A outer s H vs Q E hr h => ?_)
  obtain ⟨a, u, rfl, ha, k⟩ := h
  refine ⟨_, pss_one (ps_ost (pv 0) (pv 1)), ?_⟩
  exact ⟨_, rfl, _, rfl, a, T.a_WrongCount, rfl, T.X_WrongCount.ox, T.X_WrongCount.nf, .inl ⟨ha, k⟩⟩
theorem ok_TooFar {P : Program} {w : World} {K : PySem.W.Frag} {mg : Str → Option Value} {base : Heap} (T : Tx K mg) : FnOk P w K mg base CX0 1 T.i_TooFar T.fd_TooFar ["self", "value"] (spErr T.a_TooFar "value") := by
  refine T.F_TooFar.ok sc_TooFar (fun vs H Q E h => by obtain ⟨a, u, rfl, _⟩ := h; rfl) (fun cdv A outer s H vs Q E hr h => ?_)
  obtain ⟨a, u, rfl, ha, k⟩ := h
  refine ⟨_, pss_one (ps_ost (pv 0) (pv 1)), ?_⟩
  exact ⟨_, rfl, _, rfl, a, T.a_TooFar, rfl, T.X_TooFar.ox, T.X_TooFar.nf, .inl ⟨ha, k⟩⟩
theorem ok_NoPoint {P : Program} {w : World} {K : PySem.W.Frag} {mg : Str → Option Value} {base : Heap} (T : Tx K mg) : FnOk P w K mg base CX0 1 T.i_NoPoint T.fd_NoPoint ["self", "number"] (spErr T.a_NoPoint "number") := by
  refine T.F_NoPoint.ok sc_NoPoint (fun vs H Q E h => by obtain ⟨a, u, rfl, _⟩ := h; rfl) (fun cdv A outer s H vs Q E hr h => ?_)
  obtain ⟨a, u, rfl, ha, k⟩ := h
  refine ⟨_, pss_one (ps_ost (pv 0) (pv 1)), ?_⟩
  exact ⟨_, rfl, _, rfl, a, T.a_NoPoint, rfl, T.X_NoPoint.ox, T.X_NoPoint.nf, .inl ⟨ha, k⟩⟩
theorem ok_Repeated {P : Program} {w : World} {K : PySem.W.Frag} {mg : Str → Option Value} {base : Heap} (T : Tx K mg) : FnOk P w K mg base CX0 1 T.i_Repeated T.fd_Repeated ["self", "number"] (spErr T.a_Repeated "number") := by
  refine T.F_Repeated.ok sc_Repeated (fun vs H Q E h => by obtain ⟨a, u, rfl, _⟩ := h; rfl) (fun cdv A outer s H vs Q E hr h => ?_)
  obtain ⟨a, u, rfl, ha, k⟩ := h
  refine ⟨_, pss_one (ps_ost (pv 0) (pv 1)), ?_⟩
  exact ⟨_, rfl, _, rfl, a, T.a_Repeated, rfl, T.X_Repeated.ox, T.X_Repeated.nf, .inl ⟨ha, k⟩⟩
theorem ok_OnLine {P : Program} {w : World} {K : PySem.W.Frag} {mg : Str → Option Value} {base : Heap} (T : Tx K mg) : FnOk P w K mg base CX0 1 T.i_OnLine T.fd_OnLine ["self", "numbers"] (spErr T.a_OnLine "numbers") := by
  refine T.F_OnLine.ok sc_OnLine (fun vs H Q E h => by obtain ⟨a, u, rfl, _⟩ := h; rfl) (fun cdv A outer s H vs Q E hr h => ?_)
  obtain ⟨a, u, rfl, ha, k⟩ := h
  refine ⟨_, pss_one (ps_ost (pv 0) (pv 1)), ?_⟩
  exact ⟨_, rfl, _, rfl, a, T.a_OnLine, rfl, T.X_OnLine.ox, T.X_OnLine.nf, .inl ⟨ha, k⟩⟩
def inR (lo v hi : Int) : Bool := decide (lo ≤ v) && decide (v ≤ hi)
def sq (b : Bool) (ds : List PyData) : PyData := if b then .list ds else .tuple ds
section
variable {K : PySem.W.Frag}
def args_check_range {K : PySem.W.Frag} {mg : Str → Option Value} (T : Tx K mg) : Int × Int × Int → List PV := fun a => [dv K (.int a.1), dv K (.int a.2.1), dv K (.int a.2.2)]
def dom_check_range : Int × Int × Int → Prop := fun _ => True
def out_check_range {K : PySem.W.Frag} {mg : Str → Option Value} (T : Tx K mg) : Int × Int × Int → Out := fun a => match inR a.2.1 a.1 a.2.2 with | true => .ok (dv K .none) | false => .er ⟨.TooFar, .int a.1⟩
end
theorem ok_check_range {P : Program} {w : World} {K : PySem.W.Frag} {mg : Str → Option Value} {base : Heap} (T : Tx K mg) : FnOk P w K mg base (L2.CX P w) 3 T.a_check_range T.fd_check_range ["value", "least", "most"] (Prm K T.M (args_check_range T) dom_check_range (out_check_range T)) := by
  refine T.F_check_range.okX sc_check_range (fun vs H Q E h => by obtain ⟨a, F, _, al, _⟩ := h; exact al.length) (fun cdv A outer s H vs Q E hr h => ?_)
  have tk : Takes (cxOf (L2.CX P w) P w K mg base N_check_range "check_range" (defScope s_check_range) T.a_check_range cdv A outer s H E) (fun cls d _ H => E cls d H) := takes_of rfl rfl rfl rfl
  obtain ⟨a, F, fh, al, hd, th⟩ := h
  refine ⟨_, (pss_one (ps_if (pt_not (pt_chain op_le op_le (pv 1) (pv 0) (pv 2))) (pss_one (ps_raise rfl tk (pmk_oex (T.X_TooFar).ox (T.X_TooFar).iC (T.X_TooFar).tI (ok_TooFar T) (hr.mono (by decide)) (b_TooFar T) .nil pass0 (by rfl) T.g_TooFar (pa_cons (pv 0) pa_nil)))) pss_nil)), ?_⟩
  cases hb : inR a.2.1 a.1 a.2.2 with
  | true =>
    refine fin_ok (r := .nx _) (js_if (b := false) (jt_is (jt_not (jt_test (je_chainI (je_var rfl) (je_var rfl) (je_var rfl)))) ?_) (fun z => Bool.noConfusion z) (fun _ => js_next)) ?_ fh al th
    · show (!inR a.2.1 a.1 a.2.2) = false
      rw [hb] <;> rfl
    · show Fin K _ (out_check_range T a)
      unfold out_check_range
      rw [hb] <;> rfl
  | false =>
    refine fin_ok (r := .er ⟨.TooFar, .int a.1⟩) (js_if (b := true) (jt_is (jt_not (jt_test (je_chainI (je_var rfl) (je_var rfl) (je_var rfl)))) ?_) (fun _ => js_raise (M := T.M) (c := .TooFar) (ja_cons (je_var rfl) ja_nil)) (fun z => Bool.noConfusion z)) ?_ fh al th
    · show (!inR a.2.1 a.1 a.2.2) = true
      rw [hb] <;> rfl
    · show Fin K _ (out_check_range T a)
      unfold out_check_range
      rw [hb] <;> rfl
end K13

namespace K13
open PySem PySem.Spec PyProof.Rows L2 Evl EB
/-! ### check_count -/
def args_check_count {K : PySem.W.Frag} {mg : Str → Option Value} (T : Tx K mg) : Bool × List PyData × Int × Int → List PV := fun a => [dv K (sq a.1 a.2.1), dv K (.int a.2.2.1), dv K (.int a.2.2.2)]
def dom_check_count : Bool × List PyData × Int × Int → Prop := fun _ => True
def out_check_count {K : PySem.W.Frag} {mg : Str → Option Value} (T : Tx K mg) : Bool × List PyData × Int × Int → Out := fun a => match inR a.2.2.1 a.2.1.length a.2.2.2 with | true => .ok (dv K .none) | false => .er ⟨.WrongCount, .int a.2.1.length⟩
theorem je_lenQ {K : PySem.W.Frag} {M : EC → Addr} {W : WX} {ps : Kn} {te : TE} {b : Bool} {ds : List PyData} (h : JD K M W te ps (sq b ds)) : JD K M W (tCB (rLenS K) (tCons te tNil)) ps (.int ds.length) := by
  cases b with
  | true => exact je_lenL h
  | false => exact je_lenT h
theorem ok_check_count {P : Program} {w : World} {K : PySem.W.Frag} {mg : Str → Option Value} {base : Heap} (T : Tx K mg) : FnOk P w K mg base (L2.CX P w) 3 T.a_check_count T.fd_check_count ["members", "least", "most"] (Prm K T.M (args_check_count T) dom_check_count (out_check_count T)) := by
  refine T.F_check_count.okX sc_check_count (fun vs H Q E h => by obtain ⟨a, F, _, al, _⟩ := h; exact al.length) (fun cdv A outer s H vs Q E hr h => ?_)
  have tk : Takes (cxOf (L2.CX P w) P w K mg base N_check_count "check_count" (defScope s_check_count) T.a_check_count cdv A outer s H E) (fun cls d _ H => E cls d H) := takes_of rfl rfl rfl rfl
  obtain ⟨a, F, fh, al, hd, th⟩ := h
  refine ⟨_, (pss_one (ps_if (pt_not (pt_chain op_le op_le (pv 1) (pe_callB call_len_seq (by rfl) T.z_len PySem.boot_len (pa_cons (pv 0) pa_nil)) (pv 2))) (pss_one (ps_raise rfl tk (pmk_oex (T.X_WrongCount).ox (T.X_WrongCount).iC (T.X_WrongCount).tI (ok_WrongCount T) (hr.mono (by decide)) (b_WrongCount T) .nil pass0 (by rfl) T.g_WrongCount (pa_cons (pe_callB call_len_seq (by rfl) T.z_len PySem.boot_len (pa_cons (pv 0) pa_nil)) pa_nil)))) pss_nil)), ?_⟩
  cases hb : inR a.2.2.1 a.2.1.length a.2.2.2 with
  | true =>
    refine fin_ok (r := .nx _) (js_if (b := false) (jt_is (jt_not (jt_test (je_chainI (je_var rfl) (je_lenQ (je_var rfl)) (je_var rfl)))) ?_) (fun z => Bool.noConfusion z) (fun _ => js_next)) ?_ fh al th
    · show (!inR a.2.2.1 a.2.1.length a.2.2.2) = false
      rw [hb] <;> rfl
    · show Fin K _ (out_check_count T a)
      unfold out_check_count
      rw [hb] <;> rfl
  | false =>
    refine fin_ok (r := .er ⟨.WrongCount, .int a.2.1.length⟩) (js_if (b := true) (jt_is (jt_not (jt_test (je_chainI (je_var rfl) (je_lenQ (je_var rfl)) (je_var rfl)))) ?_) (fun _ => js_raise (M := T.M) (c := .WrongCount) (ja_cons (je_lenQ (je_var rfl)) ja_nil)) (fun z => Bool.noConfusion z)) ?_ fh al th
    · show (!inR a.2.2.1 a.2.1.length a.2.2.2) = true
      rw [hb] <;> rfl
    · show Fin K _ (out_check_count T a)
      unfold out_check_count
      rw [hb] <;> rfl
/-! ### check_number -/
def isNo (k : Int) (n : Int) : Bool := decide (0 ≤ k) && decide (k < n)
def args_check_number {K : PySem.W.Frag} {mg : Str → Option Value} (T : Tx K mg) : Int × Int → List PV := fun a => [dv K (.int a.1), dv K (.int a.2)]
def dom_check_number : Int × Int → Prop := fun _ => True
def out_check_number {K : PySem.W.Frag} {mg : Str → Option Value} (T : Tx K mg) : Int × Int → Out := fun a => match isNo a.1 a.2 with | true => .ok (dv K .none) | false => .er ⟨.NoPoint, .int a.1⟩
theorem ok_check_number {P : Program} {w : World} {K : PySem.W.Frag} {mg : Str → Option Value} {base : Heap} (T : Tx K mg) : FnOk P w K mg base (L2.CX P w) 3 T.a_check_number T.fd_check_number ["number", "n"] (Prm K T.M (args_check_number T) dom_check_number (out_check_number T)) := by
  refine T.F_check_number.okX sc_check_number (fun vs H Q E h => by obtain ⟨a, F, _, al, _⟩ := h; exact al.length) (fun cdv A outer s H vs Q E hr h => ?_)
  have tk : Takes (cxOf (L2.CX P w) P w K mg base N_check_number "check_number" (defScope s_check_number) T.a_check_number cdv A outer s H E) (fun cls d _ H => E cls d H) := takes_of rfl rfl rfl rfl
  obtain ⟨a, F, fh, al, hd, th⟩ := h
  refine ⟨_, (pss_one (ps_if (pt_not (pt_chain op_le op_lt pe_int (pv 0) (pv 1))) (pss_one (ps_raise rfl tk (pmk_oex (T.X_NoPoint).ox (T.X_NoPoint).iC (T.X_NoPoint).tI (ok_NoPoint T) (hr.mono (by decide)) (b_NoPoint T) .nil pass0 (by rfl) T.g_NoPoint (pa_cons (pv 0) pa_nil)))) pss_nil)), ?_⟩
  cases hb : isNo a.1 a.2 with
  | true =>
    refine fin_ok (r := .nx _) (js_if (b := false) (jt_is (jt_not (jt_test (je_chainI je_int (je_var rfl) (je_var rfl)))) ?_) (fun z => Bool.noConfusion z) (fun _ => js_next)) ?_ fh al th
    · show (!isNo a.1 a.2) = false
      rw [hb] <;> rfl
    · show Fin K _ (out_check_number T a)
      unfold out_check_number
      rw [hb] <;> rfl
  | false =>
    refine fin_ok (r := .er ⟨.NoPoint, .int a.1⟩) (js_if (b := true) (jt_is (jt_not (jt_test (je_chainI je_int (je_var rfl) (je_var rfl)))) ?_) (fun _ => js_raise (M := T.M) (c := .NoPoint) (ja_cons (je_var rfl) ja_nil)) (fun z => Bool.noConfusion z)) ?_ fh al th
    · show (!isNo a.1 a.2) = true
      rw [hb] <;> rfl
    · show Fin K _ (out_check_number T a)
      unfold out_check_number
      rw [hb] <;> rfl
/-! ### sign_of, bare_area -/
def sgn (v : Int) : Int := if v > 0 then 1 else if v < 0 then -1 else 0
def args_sign_of {K : PySem.W.Frag} {mg : Str → Option Value} (T : Tx K mg) : Int → List PV := fun a => [dv K (.int a)]
def dom_sign_of : Int → Prop := fun _ => True
def out_sign_of {K : PySem.W.Frag} {mg : Str → Option Value} (T : Tx K mg) : Int → Out := fun a => .ok (dv K (.int (sgn a)))
def area (p q r : Int × Int) : Int := (q.1 - p.1) * (r.2 - p.2) - (q.2 - p.2) * (r.1 - p.1)
def near (p : Int × Int) : Prop := (-(2 ^ 62) ≤ p.1 ∧ p.1 ≤ 2 ^ 62) ∧ (-(2 ^ 62) ≤ p.2 ∧ p.2 ≤ 2 ^ 62)
def args_bare_area {K : PySem.W.Frag} {mg : Str → Option Value} (T : Tx K mg) : (Int × Int) × (Int × Int) × (Int × Int) → List PV := fun a => [dv K (pD a.1), dv K (pD a.2.1), dv K (pD a.2.2)]
def dom_bare_area : (Int × Int) × (Int × Int) × (Int × Int) → Prop := fun a => near a.1 ∧ near a.2.1 ∧ near a.2.2
def out_bare_area {K : PySem.W.Frag} {mg : Str → Option Value} (T : Tx K mg) : (Int × Int) × (Int × Int) × (Int × Int) → Out := fun a => .ok (dv K (.int (area a.1 a.2.1 a.2.2)))
theorem je_x0 {K : PySem.W.Frag} {M : EC → Addr} {W : WX} {ps : Kn} {te : TE} {p : Int × Int} (h : JD K M W te ps (pD p)) : JD K M W (tOp (rIxT K) te (tC (.int 0))) ps (.int p.1) := je_ixT h je_int rfl
theorem je_y1 {K : PySem.W.Frag} {M : EC → Addr} {W : WX} {ps : Kn} {te : TE} {p : Int × Int} (h : JD K M W te ps (pD p)) : JD K M W (tOp (rIxT K) te (tC (.int 1))) ps (.int p.2) := je_ixT h je_int rfl
theorem near_mul {a b : Int} (h : -(2 ^ 63) ≤ a ∧ a ≤ 2 ^ 63) : CMul a b := .inl ⟨by omega, by omega⟩
theorem ok_bare_area {P : Program} {w : World} {K : PySem.W.Frag} {mg : Str → Option Value} {base : Heap} (T : Tx K mg) : FnOk P w K mg base (L2.CX P w) 1 T.a_bare_area T.fd_bare_area ["p", "q", "r"] (Prm K T.M (args_bare_area T) dom_bare_area (out_bare_area T)) := by
  refine T.F_bare_area.okX sc_bare_area (fun vs H Q E h => by obtain ⟨a, F, _, al, _⟩ := h; exact al.length) (fun cdv A outer s H vs Q E hr h => ?_)
  have tk : Takes (cxOf (L2.CX P w) P w K mg base N_bare_area "bare_area" (defScope s_bare_area) T.a_bare_area cdv A outer s H E) (fun cls d _ H => E cls d H) := takes_of rfl rfl rfl rfl
  obtain ⟨a, F, fh, al, hd, th⟩ := h
  refine ⟨_, (pss_one (ps_ret (pe_op op_sub (pe_op op_mul (pe_op op_sub (pe_ix ix_tup (pv 1) pe_int (fun _ _ => rfl)) (pe_ix ix_tup (pv 0) pe_int (fun _ _ => rfl))) (pe_op op_sub (pe_ix ix_tup (pv 2) pe_int (fun _ _ => rfl)) (pe_ix ix_tup (pv 0) pe_int (fun _ _ => rfl)))) (pe_op op_mul (pe_op op_sub (pe_ix ix_tup (pv 1) pe_int (fun _ _ => rfl)) (pe_ix ix_tup (pv 0) pe_int (fun _ _ => rfl))) (pe_op op_sub (pe_ix ix_tup (pv 2) pe_int (fun _ _ => rfl)) (pe_ix ix_tup (pv 0) pe_int (fun _ _ => rfl))))))), ?_⟩
  obtain ⟨p, q, r⟩ := a
  obtain ⟨⟨hp1, hp2⟩, ⟨hq1, hq2⟩, hr1, hr2⟩ := hd
  simp only at hp1 hp2 hq1 hq2 hr1 hr2
  exact fin_ok (r := .rt _) (js_ret (je_sub (je_mul (je_sub (je_x0 (je_var rfl)) (je_x0 (je_var rfl))) (je_sub (je_y1 (je_var rfl)) (je_y1 (je_var rfl))) (near_mul (by first | omega | (dsimp only; omega)))) (je_mul (je_sub (je_y1 (je_var rfl)) (je_y1 (je_var rfl))) (je_sub (je_x0 (je_var rfl)) (je_x0 (je_var rfl))) (near_mul (by first | omega | (dsimp only; omega)))))) (by exact rfl) fh al th
end K13

namespace K13
open PySem PySem.Spec PyProof.Rows L2 Evl EB
/-! ### subset_list -/
def fb (x : List Int) : Int := match x.getLast? with
  | some k => k + 1
  | none => 0
def subsL (n : Int) : Nat → List (List Int)
  | 0 => [[]]
  | s + 1 => (subsL n s).flatMap fun x => (rg (fb x) (n - fb x).toNat).map fun k => x ++ [k]
def tupI (x : List Int) : PyData := .tuple (x.map .int)
def args_first_behind {K : PySem.W.Frag} {mg : Str → Option Value} (T : Tx K mg) : List Int → List PV := fun x => [dv K (tupI x)]
def dom_first_behind : List Int → Prop := fun _ => True
def out_first_behind {K : PySem.W.Frag} {mg : Str → Option Value} (T : Tx K mg) : List Int → Out := fun x => .ok (dv K (.int (fb x)))
theorem last_at (x : List Int) (k : Int) (h : x.getLast? = some k) : atI (x.map PyData.int) (-1) = some (.int k) := by
  have hx : x = x.dropLast ++ [k] := by
    have hne : x ≠ [] := fun z => by subst z; cases h
    rw [List.getLast?_eq_some_getLast hne] at h
    have := List.dropLast_concat_getLast hne
    rw [Option.some.inj h] at this
    exact this.symm
  rw [hx, List.map_append]
  exact atI_last _ _
theorem ok_first_behind {P : Program} {w : World} {K : PySem.W.Frag} {mg : Str → Option Value} {base : Heap} (T : Tx K mg) : FnOk P w K mg base (L2.CX P w) 1 T.a_first_behind T.fd_first_behind ["part"] (Prm K T.M (args_first_behind T) dom_first_behind (out_first_behind T)) := by
  refine T.F_first_behind.okX sc_first_behind (fun vs H Q E h => by obtain ⟨a, F, _, al, _⟩ := h; exact al.length) (fun cdv A outer s H vs Q E hr h => ?_)
  have tk : Takes (cxOf (L2.CX P w) P w K mg base N_first_behind "first_behind" (defScope s_first_behind) T.a_first_behind cdv A outer s H E) (fun cls d _ H => E cls d H) := takes_of rfl rfl rfl rfl
  obtain ⟨a, F, fh, al, hd, th⟩ := h
  refine ⟨_, (pss_one (ps_ret (pe_ifExp (pt_truth (pv 0) (by intro _; rfl)) (pe_op op_add (pe_ix ix_tup (pv 0) (pe_un un_neg pe_int) (fun _ _ => rfl)) pe_int) pe_int))), ?_⟩
  refine fin_ok (r := .rt (dv K (.int (fb a)))) (js_ret (je_if (jt_truT (ds := a.map .int) (je_var rfl)) (fun z => ?_) (fun z => ?_))) (by exact rfl) fh al th
  · cases hl : a.getLast? with
    | none =>
      rw [List.getLast?_eq_none_iff] at hl
      subst hl
      simp at z
    | some k =>
      rw [show fb a = k + 1 by unfold fb; rw [hl]]
      exact je_add (je_ixT (ds := a.map .int) (je_var rfl) (je_neg je_int) (last_at a k hl)) je_int
  · have e : a = [] := by
      cases a with
      | nil => rfl
      | cons x r => simp at z
    subst e
    exact je_int
def args_subset_list {K : PySem.W.Frag} {mg : Str → Option Value} (T : Tx K mg) : Nat × Nat → List PV := fun a => [dv K (.int a.1), dv K (.int a.2)]
def dom_subset_list : Nat × Nat → Prop := fun a => a.1 ≤ 10 ∧ a.2 ≤ 4
def out_subset_list {K : PySem.W.Frag} {mg : Str → Option Value} (T : Tx K mg) : Nat × Nat → Out := fun a => .ok (dv K (.list ((subsL a.1 a.2).map tupI)))
theorem subs_len {n : Int} : ∀ {s : Nat} {x : List Int}, x ∈ subsL n s → x.length = s
  | 0, x, h => by
    have e : x = [] := by simpa [subsL] using h
    subst e
    rfl
  | s + 1, x, h => by
    obtain ⟨y, hy, hx⟩ := List.mem_flatMap.mp h
    obtain ⟨k, _, e⟩ := List.mem_map.mp hx
    rw [← e, List.length_append, subs_len hy]
    rfl
theorem subs_small : ∀ n : Nat, n < 11 → ∀ s : Nat, s < 5 → ((subsL n s).length ≤ 300 ∧ (subsL n s).all (fun x => decide (0 ≤ fb x ∧ fb x ≤ n)) = true) := by decide +kernel
theorem subs_next (n : Int) (s : Nat) : ((subsL n s).flatMap fun x => ((rg (fb x) (n - fb x).toNat).filter fun _ => true).map fun k => tupI (x ++ [k])) = (subsL n (s + 1)).map tupI := by
  show _ = ((subsL n s).flatMap fun x => (rg (fb x) (n - fb x).toNat).map fun k => x ++ [k]).map tupI
  rw [List.map_flatMap]
  congr 1
  funext x
  rw [List.map_map, List.filter_eq_self.mpr (fun _ _ => rfl)]
  rfl
theorem ok_subset_list {P : Program} {w : World} {K : PySem.W.Frag} {mg : Str → Option Value} {base : Heap} (T : Tx K mg) : FnOk P w K mg base (L2.CX P w) 2 T.a_subset_list T.fd_subset_list ["n", "size"] (Prm K T.M (args_subset_list T) dom_subset_list (out_subset_list T)) := by
  refine T.F_subset_list.okX sc_subset_list (fun vs H Q E h => by obtain ⟨a, F, _, al, _⟩ := h; exact al.length) (fun cdv A outer s H vs Q E hr h => ?_)
  have tk : Takes (cxOf (L2.CX P w) P w K mg base N_subset_list "subset_list" (defScope s_subset_list) T.a_subset_list cdv A outer s H E) (fun cls d _ H => E cls d H) := takes_of rfl rfl rfl rfl
  obtain ⟨a, F, fh, al, hd, th⟩ := h
  refine ⟨_, (pss_cons (ps_set (i := 2) sc_subset_list.nd rfl (by first | exact Or.inl rfl | exact Or.inr rfl) (pe_lst (pa_cons (pe_tup pa_nil) pa_nil)))
      (pss_cons (ps_for (passes_of rfl) rfl (pi_range1 (by rfl) T.z_range (pa_cons (pv 1) pa_nil)) (pg_name (i := 3) sc_subset_list.nd rfl (by first | exact Or.inl rfl | exact Or.inr rfl)) (pss_one (ps_setLc2 (i := 2) (own := [("part", 4), ("k", 5)]) (g := (gName 4)) (tt := tYes) (te := (tTup (StX.tStar K (tVar 4) (tCons (tVar 5) tNil)))) (wi1 := (iRng2 (tCons (tCallS (Prm K T.M (args_first_behind T) dom_first_behind (out_first_behind T)) (WE fun _ _ _ _ => False) (tCons (tVar 4) tNil)) (tCons (tVar 0) tNil)))) (g1 := (gName 5)) (tt1 := tYes) (vs1 := [5]) rfl sc_subset_list.nd rfl rfl (sw_true rfl rfl rfl (by decide +kernel)) (pi_list (pv 2)) (blkOk_by (N := N_subset_list) (sc := defScope s_subset_list) (own := [("part", 4), ("k", 5)]) (by decide +kernel)) (by decide) (fun _ _ _ _ _ => (pg_name (i := 4) sc_subset_list.nd rfl (by first | exact Or.inl rfl | exact Or.inr rfl))) (fun _ _ _ _ _ => by exact pts_nil) (fun _ _ _ _ _ => by exact (pi_range2 (by rfl) T.z_range (pa_cons (pe_callS (ok_first_behind T) (hr.mono (by decide)) (by rfl) T.g_first_behind T.F_first_behind.kp (b_first_behind T) (fun σ => passAt takes0 σ) (pa_cons (pv 4) pa_nil)) (pa_cons (pv 0) pa_nil)))) (fun _ _ _ _ _ => (pg_name (i := 5) sc_subset_list.nd rfl (by first | exact Or.inl rfl | exact Or.inr rfl))) (fun _ _ _ _ _ => pts_nil) (fun _ _ _ _ _ => by exact (pe_tup (StX.pa_star (pv 4) (pa_cons (pv 5) pa_nil)))))))
      (pss_one (ps_ret (pv 2))))), ?_⟩
  obtain ⟨n, size⟩ := a
  obtain ⟨hn, hs⟩ := hd
  simp only at hn hs
  refine fin_ok (r := .rt (dv K (.list ((subsL n size).map tupI)))) (js_seq (js_set (P := dv K (.list ((subsL n 0).map tupI))) (je_lst (ds := [tupI []]) (ja_cons (je_tup (ds := []) ja_nil) ja_nil))) (js_seq
    (js_for (vs := [3]) (fun i => [some (dv K (.int n)), some (dv K (.int size)), some (dv K (.list ((subsL n i).map tupI))), none, none, none]) size (ji_is (ji_rng1 (ja_cons (je_var rfl) ja_nil) ⟨by omega, by omega⟩) (es := (rg 0 size).map PyData.int) (by simp)) rfl (by rw [List.length_map, rg_length]; exact Nat.le_refl _) (fun i d hi hd => ?_) (.inl ⟨by rw [List.length_map, rg_length], rfl⟩))
    (js_ret (je_var rfl)))) (by exact rfl) fh al th
  have hb := subs_small n (by omega) i (by omega)
  have hb2 := subs_small n (by omega) (i + 1) (by omega)
  refine ⟨_, jg_name, .inl (js_weak (js_set (P := dv K (.list ((subsL n (i + 1)).map tupI))) ?_) ⟨.inr rfl, .inr rfl, .inr rfl, .inl rfl, .inr rfl, .inr rfl, trivial⟩)⟩
  rw [← subs_next]
  refine je_lc2 (W' := fun _ _ _ _ => False) (subsL n i) (fun x => rg (fb x) ((n : Int) - fb x).toNat) tupI .int (fun _ _ => true) (fun x k => tupI (x ++ [k])) (ji_list (je_var rfl)) ?_ fun x hx => ?_
  · rw [subs_next, List.length_map]
    omega
  · have hx2 := of_decide_eq_true (List.all_eq_true.mp hb.2 x hx)
    refine ⟨_, jg_name, jt_yes, ji_rng2 (ja_cons (je_call x (ja_cons (je_var rfl) ja_nil) trivial) (ja_cons (je_var rfl) ja_nil)) ⟨by omega, by omega, by omega, by omega⟩, fun k hk => ⟨_, jg_name, jt_yes, fun _ => ?_⟩⟩
    refine je_tup (ds := (x ++ [k]).map .int) (ja_is (ja_starT (ds := x.map .int) (je_var rfl) (ja_cons (je_var rfl) ja_nil)) ?_) ?_
    · simp
    · have hx3 : x.length = i := subs_len hx
      rw [List.length_map, List.length_append]
      simp
      omega
theorem ji_enumQ {K : PySem.W.Frag} {M : EC → Addr} {W : WX} {ps : Kn} {te : TE} {b : Bool} {ds : List PyData} (h : JD K M W te ps (sq b ds)) : JI K M W (iEnumQ K (tCons te tNil)) ps (nb ds) := by
  cases b with
  | true => exact fun σ F H R fh S k => .inl (ji_enum h σ F H R fh S k)
  | false => exact fun σ F H R fh S k => .inr (ji_enumT h σ F H R fh S k)
theorem je_inQ {K : PySem.W.Frag} {M : EC → Addr} {W : WX} {ps : Kn} {ta tb : TE} {b : Bool} {i : Int} {ns : List Int} (ha : JD K M W ta ps (.int i)) (hb : JD K M W tb ps (sq b (ns.map .int))) : JD K M W (tOp (rIn K false) ta tb) ps (.bool (ns.contains i)) := by
  cases b with
  | true => exact je_inL ha hb
  | false => exact je_inT ha hb
theorem je_slQ {K : PySem.W.Frag} {M : EC → Addr} {W : WX} {ps : Kn} {te : TE} {tl th : TO} {lo hi : Option Int} {b : Bool} {ds : List PyData} (h : JD K M W te ps (sq b ds)) (h1 : JO K M W tl ps lo) (h2 : JO K M W th ps hi) : JD K M W (tSl (rSlQ K) te tl th) ps (sq b (cutD ds lo hi)) := by
  cases b with
  | true => exact je_slQL h h1 h2
  | false => exact je_slQT h h1 h2
/-! ### check_numbers, check_point, check_turns -/
/-- what the check says of the k-th number -/
def badNo (n : Int) (ns : List Int) (k : Nat) : Option Er := match ns[k]? with
  | none => none
  | some i => match isNo i n with
    | false => some ⟨.NoPoint, .int i⟩
    | true => match (ns.take k).contains i with
      | true => some ⟨.Repeated, .int i⟩
      | false => none
def badNos (n : Int) (ns : List Int) : Option Er := (List.range ns.length).findSome? (badNo n ns)
def outE (K : PySem.W.Frag) : Option Er → Out
  | none => .ok (dv K .none)
  | some e => .er e
def args_check_numbers {K : PySem.W.Frag} {mg : Str → Option Value} (T : Tx K mg) : Bool × List Int × Int → List PV := fun a => [dv K (sq a.1 (a.2.1.map .int)), dv K (.int a.2.2)]
def dom_check_numbers : Bool × List Int × Int → Prop := fun a => a.2.1.length ≤ 1000
def out_check_numbers {K : PySem.W.Frag} {mg : Str → Option Value} (T : Tx K mg) : Bool × List Int × Int → Out := fun a => outE K (badNos a.2.2 a.2.1)
theorem first_er {n : Nat} {c : Nat → Option Er} : (List.range n).findSome? (fun i => (c i).map Out.er) = ((List.range n).findSome? c).map Out.er := by
  induction n with
  | zero => rfl
  | succ n ih =>
    rw [List.range_succ, List.findSome?_append, List.findSome?_append, ih]
    cases (List.range n).findSome? c with
    | some e => rfl
    | none =>
      simp only [Option.map_none, Option.none_or, List.findSome?_cons, List.findSome?_nil]
      cases c n <;> rfl
/-- the end of a def that only checks -/
theorem fin_chk {K : PySem.W.Frag} {ps : Kn} : ∀ o : Option Er, Fin K (ends ps (o.map Out.er)) (outE K o)
  | none => rfl
  | some _ => rfl
theorem ok_check_numbers {P : Program} {w : World} {K : PySem.W.Frag} {mg : Str → Option Value} {base : Heap} (T : Tx K mg) : FnOk P w K mg base (L2.CX P w) 4 T.a_check_numbers T.fd_check_numbers ["numbers", "n"] (Prm K T.M (args_check_numbers T) dom_check_numbers (out_check_numbers T)) := by
  refine T.F_check_numbers.okX sc_check_numbers (fun vs H Q E h => by obtain ⟨a, F, _, al, _⟩ := h; exact al.length) (fun cdv A outer s H vs Q E hr h => ?_)
  have tk : Takes (cxOf (L2.CX P w) P w K mg base N_check_numbers "check_numbers" (defScope s_check_numbers) T.a_check_numbers cdv A outer s H E) (fun cls d _ H => E cls d H) := takes_of rfl rfl rfl rfl
  obtain ⟨a, F, fh, al, hd, th⟩ := h
  refine ⟨_, (pss_one (ps_for (passes_of rfl) rfl (pi_enumQ (by rfl) T.z_enumerate (pa_cons (pv 0) pa_nil)) (pg_tup rfl (pgs_cons (pg_name (i := 2) sc_check_numbers.nd rfl (by first | exact Or.inl rfl | exact Or.inr rfl)) (pgs_cons (pg_name (i := 3) sc_check_numbers.nd rfl (by first | exact Or.inl rfl | exact Or.inr rfl)) pgs_nil))) (pss_cons (ps_expr (pe_callS (ok_check_number T) (hr.mono (by decide)) (by rfl) T.g_check_number T.F_check_number.kp (b_check_number T) (fun σ => passAt tk σ) (pa_cons (pv 3) (pa_cons (pv 1) pa_nil))))
      (pss_one (ps_if (pt_cmpR op_in_seq (pv 3) (pe_slice (SlR.or sl_list sl_tupA) (pv 0) po_none (po_some (pv 2))) (by rfl)) (pss_one (ps_raise rfl tk (pmk_oex (T.X_Repeated).ox (T.X_Repeated).iC (T.X_Repeated).tI (ok_Repeated T) (hr.mono (by decide)) (b_Repeated T) .nil pass0 (by rfl) T.g_Repeated (pa_cons (pv 3) pa_nil)))) pss_nil))))), ?_⟩
  obtain ⟨sb, ns, n⟩ := a
  refine fin_ok (r := ends (entry N_check_numbers (args_check_numbers T (sb, ns, n))) ((badNos n ns).map Out.er)) ?_ (fin_chk _) fh al th
  unfold badNos
  rw [← first_er, show ns.length = (nb (ns.map PyData.int)).length by rw [nb_length, List.length_map]]
  refine js_search (vs := [2, 3]) (fun i => (badNo n ns i).map Out.er) (ji_enumQ (b := sb) (ds := ns.map .int) (je_var rfl)) fun i d hi => ?_
  have hl : i < ns.length := by
    have := (List.getElem?_eq_some_iff.mp hi).1
    rw [nb_length, List.length_map] at this
    exact this
  have hg : ns[i]? = some ns[i] := List.getElem?_eq_getElem hl
  rw [nb_get (d := .int ns[i]) (by rw [List.getElem?_map, hg]; rfl)] at hi
  cases hi
  refine ⟨_, jg_tup (jgs_cons jg_name (jgs_cons jg_name jgs_nil)), .inl ?_⟩
  have w : ∀ ps : Kn, ps = [some (dv K (sq sb (ns.map .int))), some (dv K (.int n)), some (dv K (.int (i : Nat))), some (dv K (.int ns[i]))] → Weak ps [some (dv K (sq sb (ns.map .int))), some (dv K (.int n)), none, none] := fun ps e => by
    subst e
    exact ⟨.inr rfl, .inr rfl, .inl rfl, .inl rfl, trivial⟩
  have hc := je_call (K := K) (M := T.M) (W := fun cls d _ H => E cls d H) (ps := [some (dv K (sq sb (ns.map .int))), some (dv K (.int n)), some (dv K (.int (i : Nat))), some (dv K (.int ns[i]))]) (args := args_check_number T) (dom := dom_check_number) (out := out_check_number T) (ns[i], n) (ja_cons (je_var (i := 3) rfl) (ja_cons (je_var (i := 1) rfl) ja_nil)) trivial
  unfold badNo
  rw [hg]
  dsimp only
  cases h1 : isNo ns[i] n with
  | false =>
    have e : out_check_number T (ns[i], n) = .er ⟨.NoPoint, .int ns[i]⟩ := by
      unfold out_check_number
      dsimp only
      rw [h1]
    rw [e] at hc
    exact js_er (js_drop hc)
  | true =>
    have e : out_check_number T (ns[i], n) = .ok (dv K .none) := by
      unfold out_check_number
      dsimp only
      rw [h1]
    rw [e] at hc
    dsimp only
    have hin := je_inQ (b := sb) (K := K) (M := T.M) (W := fun cls d _ H => E cls d H) (ps := [some (dv K (sq sb (ns.map .int))), some (dv K (.int n)), some (dv K (.int (i : Nat))), some (dv K (.int ns[i]))]) (ns := ns.take i) (je_var (i := 3) rfl) (je_is (je_slQ (b := sb) (ds := ns.map .int) (je_var (i := 0) rfl) jo_none (jo_some (je_var (i := 2) rfl))) (by rw [cutD_map]))
    cases h2 : (ns.take i).contains ns[i] with
    | true =>
      rw [h2] at hin
      exact js_seq (js_drop hc) (js_if (jt_test hin) (fun _ => js_raise (M := T.M) (c := .Repeated) (ja_cons (je_var rfl) ja_nil)) (fun z => Bool.noConfusion z))
    | false =>
      rw [h2] at hin
      exact js_seq (js_drop hc) (js_if (jt_test hin) (fun z => Bool.noConfusion z) (fun _ => js_weak js_next (w _ rfl)))
/-! ### check_point -/
def FAR : Int := 1000000
def badXY (p : Int × Int) : Option Er := match inR (-FAR) p.1 FAR with
  | false => some ⟨.TooFar, .int p.1⟩
  | true => match inR (-FAR) p.2 FAR with
    | false => some ⟨.TooFar, .int p.2⟩
    | true => none
def args_check_point {K : PySem.W.Frag} {mg : Str → Option Value} (T : Tx K mg) : Int × Int → List PV := fun a => [dv K (pD a)]
def dom_check_point : Int × Int → Prop := fun _ => True
def out_check_point {K : PySem.W.Frag} {mg : Str → Option Value} (T : Tx K mg) : Int × Int → Out := fun a => outE K (badXY a)
theorem je_FAR {K : PySem.W.Frag} {mg : Str → Option Value} (T : Tx K mg) {M : EC → Addr} {W : WX} {ps : Kn} : JD K M W (ClX.tCVal K (tC (.ref T.a_Floor)) "FAR") ps (.int FAR) := je_cval je_x T.cr_Floor T.cv_Floor_FAR fun _ => .int _
def tf (v : Int) : Option Er := match inR (-FAR) v FAR with
  | false => some ⟨.TooFar, .int v⟩
  | true => none
theorem badXY_eq (p : Int × Int) : badXY p = (List.range 2).findSome? (fun i => match i with | 0 => tf p.1 | _ => tf p.2) := by
  show badXY p = [0, 1].findSome? _
  unfold badXY
  simp only [List.findSome?_cons, List.findSome?_nil]
  unfold tf
  cases inR (-FAR) p.1 FAR <;> cases inR (-FAR) p.2 FAR <;> rfl
theorem ok_check_point {P : Program} {w : World} {K : PySem.W.Frag} {mg : Str → Option Value} {base : Heap} (T : Tx K mg) : FnOk P w K mg base (L2.CX P w) 4 T.a_check_point T.fd_check_point ["point"] (Prm K T.M (args_check_point T) dom_check_point (out_check_point T)) := by
  refine T.F_check_point.okX sc_check_point (fun vs H Q E h => by obtain ⟨a, F, _, al, _⟩ := h; exact al.length) (fun cdv A outer s H vs Q E hr h => ?_)
  have tk : Takes (cxOf (L2.CX P w) P w K mg base N_check_point "check_point" (defScope s_check_point) T.a_check_point cdv A outer s H E) (fun cls d _ H => E cls d H) := takes_of rfl rfl rfl rfl
  obtain ⟨a, F, fh, al, hd, th⟩ := h
  refine ⟨_, (pss_one (ps_for (passes_of rfl) rfl (pi_tup (pv 0)) (pg_name (i := 1) sc_check_point.nd rfl (by first | exact Or.inl rfl | exact Or.inr rfl)) (pss_one (ps_expr (pe_callS (ok_check_range T) (hr.mono (by decide)) (by rfl) T.g_check_range T.F_check_range.kp (b_check_range T) (fun σ => passAt tk σ) (pa_cons (pv 1) (pa_cons (pe_un un_neg (ClX.pe_cval (pe_glob (v := .ref T.a_Floor) (by rfl) T.g_Floor rfl))) (pa_cons (ClX.pe_cval (pe_glob (v := .ref T.a_Floor) (by rfl) T.g_Floor rfl)) pa_nil)))))))), ?_⟩
  refine fin_ok (r := ends (entry N_check_point (args_check_point T a)) ((badXY a).map Out.er)) ?_ (fin_chk _) fh al th
  rw [badXY_eq, ← first_er]
  refine js_search (vs := [1]) (ds := [.int a.1, .int a.2]) (fun i => ((match i with | 0 => tf a.1 | _ => tf a.2 : Option Er)).map Out.er) (ji_tup (je_var rfl)) fun i d hi => ?_
  have key : ∀ v : Int, JS K T.M (fun cls d _ H => E cls d H) (tDrop (tCallS (Prm K T.M (args_check_range T) dom_check_range (out_check_range T)) (WE fun cls d _ H => E cls d H) (tCons (tVar 1) (tCons (tUn (rU fun i => .int (-i)) (ClX.tCVal K (tC (.ref T.a_Floor)) "FAR")) (tCons (ClX.tCVal K (tC (.ref T.a_Floor)) "FAR") tNil))))) [some (dv K (pD a)), some (dv K (.int v))] (ends [some (dv K (pD a)), none] ((tf v).map Out.er)) := fun v => by
    have hc := je_call (K := K) (M := T.M) (W := fun cls d _ H => E cls d H) (ps := [some (dv K (pD a)), some (dv K (.int v))]) (args := args_check_range T) (dom := dom_check_range) (out := out_check_range T) (v, -FAR, FAR) (ja_cons (je_var (i := 1) rfl) (ja_cons (je_neg (je_FAR T)) (ja_cons (je_FAR T) ja_nil))) trivial
    cases h1 : inR (-FAR) v FAR with
    | false =>
      rw [show out_check_range T (v, -FAR, FAR) = .er ⟨.TooFar, .int v⟩ by unfold out_check_range; dsimp only; rw [h1]] at hc
      rw [show tf v = some ⟨.TooFar, .int v⟩ by unfold tf; rw [h1]]
      exact js_drop hc
    | true =>
      rw [show out_check_range T (v, -FAR, FAR) = .ok (dv K .none) by unfold out_check_range; dsimp only; rw [h1]] at hc
      rw [show tf v = none by unfold tf; rw [h1]]
      exact js_weak (js_drop hc) ⟨.inr rfl, .inl rfl, trivial⟩
  match i, hi with
  | 0, hi =>
    cases hi
    exact ⟨_, jg_name, .inl (key a.1)⟩
  | 1, hi =>
    cases hi
    exact ⟨_, jg_name, .inl (key a.2)⟩
end K13

namespace K13
open PySem PySem.Spec PyProof.Rows L2 Evl EB
/-! ### check_turns -/
def pt (pts : List (Int × Int)) (i : Int) : Int × Int := pts.getD i.toNat (0, 0)
def lineOf (pts : List (Int × Int)) (x : List Int) : Option Er := match x with
  | [a, b, c] => if area (pt pts a) (pt pts b) (pt pts c) = 0 then some ⟨.OnLine, tupI [a, b, c]⟩ else none
  | _ => none
def onLine (pts : List (Int × Int)) : Option Er := (subsL pts.length 3).findSome? (lineOf pts)
theorem subs3 : ∀ n : Nat, n < 11 → (subsL n 3).all (fun x => match x with
  | [a, b, c] => isNo a n && isNo b n && isNo c n
  | _ => false) = true := by decide +kernel
theorem first_ix {α β : Type} (f : α → Option β) (xs : List α) : (List.range xs.length).findSome? (fun i => xs[i]?.bind f) = xs.findSome? f := by
  induction xs with
  | nil => rfl
  | cons a r ih =>
    rw [List.length_cons, List.range_succ_eq_map, List.findSome?_cons, List.findSome?_map, List.findSome?_cons]
    have : ((fun i => (a :: r)[i]?.bind f) ∘ Nat.succ) = fun i => r[i]?.bind f := by
      funext i
      simp
    rw [this, ih]
    simp
theorem at_pt {pts : List (Int × Int)} {i : Int} (h : isNo i pts.length = true) : atI (pts.map pD) i = some (pD (pt pts i)) := by
  unfold isNo at h
  have h1 : 0 ≤ i := of_decide_eq_true (Bool.and_eq_true_iff.mp h).1
  have h2 : i < pts.length := of_decide_eq_true (Bool.and_eq_true_iff.mp h).2
  obtain ⟨j, rfl⟩ := Int.eq_ofNat_of_zero_le h1
  have h3 : j < pts.length := by omega
  refine atI_nat ?_
  rw [List.getElem?_map, List.getElem?_eq_getElem h3]
  unfold pt
  simp [h3]
theorem near_pt {pts : List (Int × Int)} (h : ∀ p ∈ pts, near p) (i : Int) : near (pt pts i) := by
  unfold pt
  by_cases hl : i.toNat < pts.length
  · rw [List.getD_eq_getElem?_getD, List.getElem?_eq_getElem hl]
    exact h _ (List.getElem_mem hl)
  · rw [List.getD_eq_getElem?_getD, List.getElem?_eq_none (by omega)]
    exact ⟨by decide, by decide⟩
theorem je_ixQ {K : PySem.W.Frag} {M : EC → Addr} {W : WX} {ps : Kn} {ta tb : TE} {b : Bool} {ds : List PyData} {i : Int} {d : PyData} (ha : JD K M W ta ps (sq b ds)) (hb : JD K M W tb ps (.int i)) (hi : atI ds i = some d) : JD K M W (tOp (rIx K) ta tb) ps d := by
  cases b with
  | true => exact je_ixQL ha hb hi
  | false => exact je_ixQT ha hb hi
def args_check_turns {K : PySem.W.Frag} {mg : Str → Option Value} (T : Tx K mg) : Bool × List (Int × Int) → List PV := fun a => [dv K (sq a.1 (a.2.map pD))]
def dom_check_turns : Bool × List (Int × Int) → Prop := fun a => a.2.length ≤ 10 ∧ ∀ p ∈ a.2, near p
def out_check_turns {K : PySem.W.Frag} {mg : Str → Option Value} (T : Tx K mg) : Bool × List (Int × Int) → Out := fun a => outE K (onLine a.2)
theorem ok_check_turns {P : Program} {w : World} {K : PySem.W.Frag} {mg : Str → Option Value} {base : Heap} (T : Tx K mg) : FnOk P w K mg base (L2.CX P w) 3 T.a_check_turns T.fd_check_turns ["points"] (Prm K T.M (args_check_turns T) dom_check_turns (out_check_turns T)) := by
  refine T.F_check_turns.okX sc_check_turns (fun vs H Q E h => by obtain ⟨a, F, _, al, _⟩ := h; exact al.length) (fun cdv A outer s H vs Q E hr h => ?_)
  have tk : Takes (cxOf (L2.CX P w) P w K mg base N_check_turns "check_turns" (defScope s_check_turns) T.a_check_turns cdv A outer s H E) (fun cls d _ H => E cls d H) := takes_of rfl rfl rfl rfl
  obtain ⟨a, F, fh, al, hd, th⟩ := h
  refine ⟨_, (pss_one (ps_for (passes_of rfl) rfl (pi_list (pe_callS (ok_subset_list T) (hr.mono (by decide)) (by rfl) T.g_subset_list T.F_subset_list.kp (b_subset_list T) (fun σ => passAt tk σ) (pa_cons (pe_callB call_len_seq (by rfl) T.z_len PySem.boot_len (pa_cons (pv 0) pa_nil)) (pa_cons pe_int pa_nil)))) (pg_tup rfl (pgs_cons (pg_name (i := 1) sc_check_turns.nd rfl (by first | exact Or.inl rfl | exact Or.inr rfl)) (pgs_cons (pg_name (i := 2) sc_check_turns.nd rfl (by first | exact Or.inl rfl | exact Or.inr rfl)) (pgs_cons (pg_name (i := 3) sc_check_turns.nd rfl (by first | exact Or.inl rfl | exact Or.inr rfl)) pgs_nil)))) (pss_one (ps_if (pt_cmpR op_eq (pe_callS (ok_bare_area T) (hr.mono (by decide)) (by rfl) T.g_bare_area T.F_bare_area.kp (b_bare_area T) (fun σ => passAt tk σ) (pa_cons (pe_ix ix_seq (pv 0) (pv 1) (fun _ _ => rfl)) (pa_cons (pe_ix ix_seq (pv 0) (pv 2) (fun _ _ => rfl)) (pa_cons (pe_ix ix_seq (pv 0) (pv 3) (fun _ _ => rfl)) pa_nil)))) pe_int (nomark _)) (pss_one (ps_raise rfl tk (pmk_oex (T.X_OnLine).ox (T.X_OnLine).iC (T.X_OnLine).tI (ok_OnLine T) (hr.mono (by decide)) (b_OnLine T) .nil pass0 (by rfl) T.g_OnLine (pa_cons (pe_tup (pa_cons (pv 1) (pa_cons (pv 2) (pa_cons (pv 3) pa_nil)))) pa_nil)))) pss_nil)))), ?_⟩
  obtain ⟨b, pts⟩ := a
  obtain ⟨hl, hnear⟩ := hd
  simp only at hl hnear
  refine fin_ok (r := ends (entry N_check_turns (args_check_turns T (b, pts))) ((onLine pts).map Out.er)) ?_ (fin_chk _) fh al th
  unfold onLine
  rw [← first_ix, ← first_er, show (subsL pts.length 3).length = ((subsL (pts.length : Nat) 3).map tupI).length by rw [List.length_map]]
  have hcall := je_call (K := K) (M := T.M) (W := fun cls d _ H => E cls d H) (ps := entry N_check_turns (args_check_turns T (b, pts))) (args := args_subset_list T) (dom := dom_subset_list) (out := out_subset_list T) (pts.length, 3) (ja_cons (je_is (je_lenQ (je_var (i := 0) rfl)) (by rw [List.length_map])) (ja_cons je_int ja_nil)) ⟨hl, (show (3:Nat) ≤ 4 by decide)⟩
  refine js_search (vs := [1, 2, 3]) (fun i => (((subsL pts.length 3)[i]?).bind (lineOf pts)).map Out.er) (ji_list hcall) fun i d hi => ?_
  have hlt : i < (subsL pts.length 3).length := by
    have := (List.getElem?_eq_some_iff.mp hi).1
    rw [List.length_map] at this
    exact this
  rw [List.getElem?_map, List.getElem?_eq_getElem hlt] at hi
  cases hi
  have hx := List.all_eq_true.mp (subs3 pts.length (by omega)) _ (List.getElem_mem hlt)
  rw [List.getElem?_eq_getElem hlt]
  generalize (subsL pts.length 3)[i] = x at hx
  match x, hx with
  | [u, v, z], hx =>
    simp only [Bool.and_eq_true] at hx
    obtain ⟨⟨h1, h2⟩, h3⟩ := hx
    refine ⟨_, jg_tup (ds := [.int u, .int v, .int z]) (jgs_cons jg_name (jgs_cons jg_name (jgs_cons jg_name jgs_nil))), .inl ?_⟩
    have hb := je_call (K := K) (M := T.M) (W := fun cls d _ H => E cls d H) (ps := [some (dv K (sq b (pts.map pD))), some (dv K (.int u)), some (dv K (.int v)), some (dv K (.int z))]) (args := args_bare_area T) (dom := dom_bare_area) (out := out_bare_area T) (pt pts u, pt pts v, pt pts z)
      (ja_cons (je_ixQ (je_var (i := 0) rfl) (je_var (i := 1) rfl) (at_pt h1)) (ja_cons (je_ixQ (je_var (i := 0) rfl) (je_var (i := 2) rfl) (at_pt h2)) (ja_cons (je_ixQ (je_var (i := 0) rfl) (je_var (i := 3) rfl) (at_pt h3)) ja_nil))) ⟨near_pt hnear _, near_pt hnear _, near_pt hnear _⟩
    show JS K T.M _ _ _ (ends _ ((lineOf pts [u, v, z]).map Out.er))
    by_cases h0 : area (pt pts u) (pt pts v) (pt pts z) = 0
    · rw [show lineOf pts [u, v, z] = some ⟨.OnLine, tupI [u, v, z]⟩ from if_pos h0]
      exact js_if (b := true) (jt_is (jt_test (je_eqI hb je_int)) (decide_eq_true h0)) (fun _ => js_raise (M := T.M) (c := .OnLine) (ja_cons (je_tup (ds := [.int u, .int v, .int z]) (ja_cons (je_var rfl) (ja_cons (je_var rfl) (ja_cons (je_var rfl) ja_nil)))) ja_nil)) (fun q => Bool.noConfusion q)
    · rw [show lineOf pts [u, v, z] = none from if_neg h0]
      exact js_if (b := false) (jt_is (jt_test (je_eqI hb je_int)) (decide_eq_false h0)) (fun q => Bool.noConfusion q) (fun _ => js_weak js_next ⟨.inr rfl, .inl rfl, .inl rfl, .inl rfl, trivial⟩)
/-! ### Floor(points) -/
def badPts (pts : List (Int × Int)) : Option Er := pts.findSome? badXY
def floorE (pts : List (Int × Int)) : Option Er := match inR 3 pts.length 10 with
  | false => some ⟨.WrongCount, .int pts.length⟩
  | true => match badPts pts with
    | some e => some e
    | none => onLine pts
def args_Floor___init__ {K : PySem.W.Frag} {mg : Str → Option Value} (T : Tx K mg) : Bool × List (Int × Int) → List PV := fun a => [dv K (sq a.1 (a.2.map pD))]
def dom_Floor___init__ : Bool × List (Int × Int) → Prop := fun _ => True
def out_Floor___init__ : Bool × List (Int × Int) → Except Er PyData := fun a => match floorE a.2 with
  | none => .ok (.tuple (a.2.map pD))
  | some e => .error e
theorem near_of {pts : List (Int × Int)} (h : badPts pts = none) : ∀ p ∈ pts, near p := fun p hp => by
  have := List.findSome?_eq_none_iff.mp h p hp
  unfold badXY at this
  cases h1 : inR (-FAR) p.1 FAR with
  | false => rw [h1] at this; cases this
  | true =>
    rw [h1] at this
    cases h2 : inR (-FAR) p.2 FAR with
    | false => rw [h2] at this; cases this
    | true =>
      unfold inR FAR at h1 h2
      simp only [Bool.and_eq_true, decide_eq_true_eq] at h1 h2
      exact ⟨by omega, by omega⟩
end K13

namespace K13
open PySem PySem.Spec PyProof.Rows L2 Evl EB
theorem js_pre3 {K : PySem.W.Frag} {M : EC → Addr} {W : WX} {A B C L : TS} {ps : Kn} {r : Res} {D : Ends} {σ : L2.St} {F H : Hp} (h : JS K M W (tSeq A (tSeq B C)) ps r) (fh : Ex F H) (S : Sl F σ ps) (k : Wsh K M W ps.length { D with nx := L D } F H r) : tSeq A (tSeq B (tSeq C L)) D σ H := h _ σ F H fh S k
theorem js_out {K : PySem.W.Frag} {M : EC → Addr} {W : WX} {ps : Kn} {te : TE} {o : Option Er} (h : JE K M W te ps (outE K o)) : JS K M W (tDrop te) ps (ends ps (o.map Out.er)) := by
  cases o with
  | none => exact js_drop h
  | some e => exact js_drop h
theorem js_seqE {K : PySem.W.Frag} {M : EC → Addr} {W : WX} {ps : Kn} {ts tu : TS} {o o2 : Option Er} (h : JS K M W ts ps (ends ps (o.map Out.er))) (h2 : o = none → JS K M W tu ps (ends ps (o2.map Out.er))) : JS K M W (tSeq ts tu) ps (ends ps ((o.or o2).map Out.er)) := by
  cases o with
  | none => exact js_seq h (h2 rfl)
  | some e => exact js_er h
theorem floorE_eq (pts : List (Int × Int)) : floorE pts = ((if inR 3 pts.length 10 then none else some ⟨.WrongCount, .int pts.length⟩ : Option Er).or ((badPts pts).or (onLine pts))) := by
  unfold floorE
  cases inR 3 pts.length 10 with
  | false => rfl
  | true => cases badPts pts <;> rfl
theorem ji_seqQ {K : PySem.W.Frag} {M : EC → Addr} {W : WX} {ps : Kn} {te : TE} {b : Bool} {ds : List PyData} (h : JD K M W te ps (sq b ds)) : JI K M W (iSeqQ K te) ps ds := by
  cases b with
  | true => exact fun σ F H R fh S k => .inl (ji_list h σ F H R fh S k)
  | false => exact fun σ F H R fh S k => .inr (ji_tup h σ F H R fh S k)
theorem je_tupQ {K : PySem.W.Frag} {M : EC → Addr} {W : WX} {ps : Kn} {te : TE} {b : Bool} {ds : List PyData} (h : JD K M W te ps (sq b ds)) : JD K M W (tCB (rTupS K) (tCons te tNil)) ps (.tuple ds) := by
  cases b with
  | true => exact je_tupL h
  | false => exact je_tupT h
theorem ok_Floor___init__ {P : Program} {w : World} {K : PySem.W.Frag} {mg : Str → Option Value} {base : Heap} (T : Tx K mg) : FnOk P w K mg base (L2.CX P w) 5 T.a_Floor___init__ T.fd_Floor___init__ ["self", "points"] (spMake K T.M T.a_Floor "points" (args_Floor___init__ T) dom_Floor___init__ out_Floor___init__) := by
  refine T.F_Floor___init__.okX sc_Floor___init__ (fun vs H Q E h => by obtain ⟨a, F, x, dx, us, rfl, _, _, _, al, _⟩ := h; exact congrArg (· + 1) al.length) (fun cdv A outer s H vs Q E hr h => ?_)
  have tk : Takes (cxOf (L2.CX P w) P w K mg base N_Floor___init__ "Floor.__init__" (defScope s_Floor___init__) T.a_Floor___init__ cdv A outer s H E) (fun cls d _ H => E cls d H) := takes_of rfl rfl rfl rfl
  obtain ⟨a, F, x, dx, us, rfl, fh, hx, fx, al, hd, th⟩ := h
  refine ⟨_, (pss_cons (ps_expr (pe_callS (ok_check_count T) (hr.mono (by decide)) (by rfl) T.g_check_count T.F_check_count.kp (b_check_count T) (fun σ => passAt tk σ) (pa_cons (pv 1) (pa_cons (ClX.pe_cval (pe_glob (v := .ref T.a_Floor) (by rfl) T.g_Floor rfl)) (pa_cons (ClX.pe_cval (pe_glob (v := .ref T.a_Floor) (by rfl) T.g_Floor rfl)) pa_nil)))))
      (pss_cons (ps_for (passes_of rfl) rfl (pi_seqQ (pv 1)) (pg_name (i := 2) sc_Floor___init__.nd rfl (by first | exact Or.inl rfl | exact Or.inr rfl)) (pss_one (ps_expr (pe_callS (ok_check_point T) (hr.mono (by decide)) (by rfl) T.g_check_point T.F_check_point.kp (b_check_point T) (fun σ => passAt tk σ) (pa_cons (pv 2) pa_nil)))))
      (pss_cons (ps_expr (pe_callS (ok_check_turns T) (hr.mono (by decide)) (by rfl) T.g_check_turns T.F_check_turns.kp (b_check_turns T) (fun σ => passAt tk σ) (pa_cons (pv 1) pa_nil)))
      (pss_one (ps_fld (pv 0) (pe_callTy call_tuple_of (by rfl) T.z_tuple PyProof.Rows.boot_tuple (pa_cons (pv 1) pa_nil)) rfl))))), ?_⟩
  obtain ⟨b, pts⟩ := a
  have S0 : Sl F (L2.start N_Floor___init__ (.ref x :: us)) (entry N_Floor___init__ (xv (.ref x) :: args_Floor___init__ T (b, pts))) := Sl.start (.cons rfl al)
  have c1 := je_call (K := K) (M := T.M) (W := fun cls d _ H => E cls d H) (ps := entry N_Floor___init__ (xv (.ref x) :: args_Floor___init__ T (b, pts))) (args := args_check_count T) (dom := dom_check_count) (out := out_check_count T) (b, pts.map pD, 3, 10) (ja_cons (je_var (i := 1) rfl) (ja_cons (je_cval je_x T.cr_Floor T.cv_Floor_LEAST fun _ => .int _) (ja_cons (je_cval je_x T.cr_Floor T.cv_Floor_MOST fun _ => .int _) ja_nil))) trivial
  have e1 : out_check_count T (b, pts.map pD, 3, 10) = outE K (if inR 3 pts.length 10 then none else some ⟨.WrongCount, .int pts.length⟩) := by
    unfold out_check_count
    dsimp only
    rw [List.length_map]
    cases inR 3 pts.length 10 <;> rfl
  rw [e1] at c1
  refine js_pre3 (K := K) (r := ends (entry N_Floor___init__ (xv (.ref x) :: args_Floor___init__ T (b, pts))) ((floorE pts).map Out.er)) (M := T.M) (W := fun cls d _ H => E cls d H) ?_ fh S0 ?_
  · rw [floorE_eq]
    refine js_seqE (js_out c1) fun h1 => js_seqE ?_ fun h2 => ?_
    · unfold badPts
      rw [← first_ix, ← first_er, show pts.length = (pts.map pD).length by rw [List.length_map]]
      refine js_search (vs := [2]) (fun i => ((pts[i]?).bind badXY).map Out.er) (ji_seqQ (je_var (i := 1) rfl)) fun i d hi => ?_
      have hlt : i < pts.length := by
        have := (List.getElem?_eq_some_iff.mp hi).1
        rw [List.length_map] at this
        exact this
      rw [List.getElem?_map, List.getElem?_eq_getElem hlt] at hi
      cases hi
      rw [List.getElem?_eq_getElem hlt]
      refine ⟨_, jg_name, .inl ?_⟩
      have hc := je_call (K := K) (M := T.M) (W := fun cls d _ H => E cls d H) (ps := [some (xv (.ref x)), some (dv K (sq b (pts.map pD))), some (dv K (pD pts[i]))]) (args := args_check_point T) (dom := dom_check_point) (out := out_check_point T) pts[i] (ja_cons (je_var (i := 2) rfl) ja_nil) trivial
      have hj := js_out hc
      show JS K T.M _ _ _ (ends _ ((badXY pts[i]).map Out.er))
      cases hb : badXY pts[i] with
      | none =>
        rw [hb] at hj
        exact js_weak hj ⟨.inr rfl, .inr rfl, .inl rfl, trivial⟩
      | some e =>
        rw [hb] at hj
        exact hj
    · have hl : inR 3 pts.length 10 = true := by
        cases q : inR 3 pts.length 10 with
        | true => rfl
        | false => rw [q] at h1; cases h1
      unfold inR at hl
      simp only [Bool.and_eq_true, decide_eq_true_eq] at hl
      exact js_out (je_call (args := args_check_turns T) (dom := dom_check_turns) (out := out_check_turns T) (b, pts) (ja_cons (je_var (i := 1) rfl) ja_nil) ⟨(by have := hl.2; show pts.length ≤ 10; omega), near_of h2⟩)
  · unfold out_Floor___init__ at th
    dsimp only at th
    cases hf : floorE pts with
    | some e =>
      rw [hf] at th
      exact fun d u σ' F' H' g hn hd2 dp _ => th d u F' H' g hn hd2 dp
    | none =>
      rw [hf] at th
      intro σ' F' H' g S'
      dsimp only
      unfold L2.sFld
      refine JE.go (K := K) (M := T.M) (W := fun cls d _ H => E cls d H) (je_tupQ (je_var (i := 1) rfl)) g.fh S' fun y F1 H1 g1 p => ?_
      obtain ⟨v, hv, hxv⟩ := (S'.mono g1.ff).2 0 _ rfl
      cases hxv
      have hx1 : H1 x = some (.ins T.a_Floor dx []) := g1.hh _ _ (g.hh _ _ hx)
      have f0 : F' x = none := g.nw x (by rw [hx]; exact fun z => nomatch z) fx
      have f1 : F1 x = none := g1.nw x (by rw [g.hh _ _ hx]; exact fun z => nomatch z) f0
      exact ⟨.ref x, hv, x, T.a_Floor, dx, [], rfl, hx1, T.C_Floor, T.n_Floor_points, by decide, th F1 H1 y (g.trans g1) p f1⟩
end K13

namespace K13
open PySem PySem.Spec PyProof.Rows L2 Evl EB
def outV (K : PySem.W.Frag) (o : Option Er) (d : PyData) : Out := match o with
  | none => .ok (dv K d)
  | some e => .er e
theorem two_eq (a b : Option Er) : a.or b = (List.range 2).findSome? (fun i => match i with | 0 => a | _ => b) := by
  show _ = [0, 1].findSome? _
  simp only [List.findSome?_cons, List.findSome?_nil]
  cases a <;> cases b <;> rfl
theorem three_eq (a b c : Option Er) : a.or (b.or c) = (List.range 3).findSome? (fun i => match i with | 0 => a | 1 => b | _ => c) := by
  show _ = [0, 1, 2].findSome? _
  simp only [List.findSome?_cons, List.findSome?_nil]
  cases a <;> cases b <;> cases c <;> rfl
theorem js_ends {K : PySem.W.Frag} {M : EC → Addr} {W : WX} {ts : TS} {ps rs qs : Kn} {o : Option Er} (h : JS K M W ts ps (ends rs (o.map Out.er))) (w : Weak rs qs) : JS K M W ts ps (ends qs (o.map Out.er)) := by
  cases o with
  | none => exact js_weak h w
  | some e => exact h
/-- a def that checks, then answers -/
theorem fin_then {K : PySem.W.Frag} {M : EC → Addr} {W : WX} {ts tu : TS} {ps : Kn} {o : Option Er} {d : PyData} (h : JS K M W ts ps (ends ps (o.map Out.er))) (h2 : o = none → JS K M W tu ps (.rt (dv K d))) : ∃ r, JS K M W (tSeq ts tu) ps r ∧ Fin K r (outV K o d) := by
  cases o with
  | none => exact ⟨_, js_seq h (h2 rfl), rfl⟩
  | some e => exact ⟨_, js_er h, rfl⟩
/-! ### area, turn -/
def args_Floor_area {K : PySem.W.Frag} {mg : Str → Option Value} (T : Tx K mg) : List (Int × Int) × Int × Int × Int → List PV := fun a => [ob1 K T.a_Floor "points" (.tuple (a.1.map pD)), dv K (.int a.2.1), dv K (.int a.2.2.1), dv K (.int a.2.2.2)]
def dom_Floor_area : List (Int × Int) × Int × Int × Int → Prop := fun a => a.1.length ≤ 10 ∧ ∀ p ∈ a.1, near p
def ar (pts : List (Int × Int)) (a b c : Int) : Int := area (pt pts a) (pt pts b) (pt pts c)
def out_Floor_area {K : PySem.W.Frag} {mg : Str → Option Value} (T : Tx K mg) : List (Int × Int) × Int × Int × Int → Out := fun a => outV K (badNos a.1.length [a.2.1, a.2.2.1, a.2.2.2]) (.int (ar a.1 a.2.1 a.2.2.1 a.2.2.2))
theorem no3 {n : Int} {a b c : Int} (h : badNos n [a, b, c] = none) : isNo a n = true ∧ isNo b n = true ∧ isNo c n = true := by
  have key : ∀ k i, k < 3 → [a, b, c][k]? = some i → isNo i n = true := fun k i hk hi => by
    have := List.findSome?_eq_none_iff.mp h k (List.mem_range.mpr hk)
    unfold badNo at this
    rw [hi] at this
    dsimp only at this
    cases h1 : isNo i n with
    | true => rfl
    | false => rw [h1] at this; cases this
  exact ⟨key 0 a (by decide) rfl, key 1 b (by decide) rfl, key 2 c (by decide) rfl⟩
theorem je_call_er {K : PySem.W.Frag} {M : EC → Addr} {W : WX} {ps : Kn} {te : TE} {tr : TA} {e : Er} {sp : Sp} (h : JE K M W te ps (.er e)) : JE K M W (tCallS sp (WE W) (tCons te tr)) ps (.er e) := fun σ F H Q fh S k => h σ F H _ fh S k
def args_Floor_turn {K : PySem.W.Frag} {mg : Str → Option Value} (T : Tx K mg) : List (Int × Int) × Int × Int × Int → List PV := args_Floor_area T
def dom_Floor_turn : List (Int × Int) × Int × Int × Int → Prop := dom_Floor_area
def out_Floor_turn {K : PySem.W.Frag} {mg : Str → Option Value} (T : Tx K mg) : List (Int × Int) × Int × Int × Int → Out := fun a => outV K (badNos a.1.length [a.2.1, a.2.2.1, a.2.2.2]) (.int (sgn (ar a.1 a.2.1 a.2.2.1 a.2.2.2)))
end K13

namespace K13
open PySem PySem.Spec PyProof.Rows L2 Evl EB
/-! ### cell, area, whole -/
def cell (ns : List Int) (i : Nat) : Int := match ns[i]? with
  | some v => if v < 0 then -v else v
  | none => 0
def intsD (ns : List Int) : List PyData := ns.map .int
def args__law_cell {K : PySem.W.Frag} {mg : Str → Option Value} (T : Tx K mg) : List Int × Nat → List PV := fun a => [dv K (.list (intsD a.1)), dv K (.int a.2)]
def dom__law_cell : List Int × Nat → Prop := fun _ => True
def out__law_cell {K : PySem.W.Frag} {mg : Str → Option Value} (T : Tx K mg) : List Int × Nat → Out := fun a => .ok (dv K (.int (cell a.1 a.2)))
theorem ok__law_cell {P : Program} {w : World} {K : PySem.W.Frag} {mg : Str → Option Value} {base : Heap} (T : Tx K mg) : FnOk P w K mg base (L2.CX P w) 1 T.a__law_cell T.fd__law_cell ["cells", "i"] (Prm K T.M (args__law_cell T) dom__law_cell (out__law_cell T)) := by
  refine T.F__law_cell.okX sc__law_cell (fun vs H Q E h => by obtain ⟨a, F, _, al, _⟩ := h; exact al.length) (fun cdv A outer s H vs Q E hr h => ?_)
  have tk : Takes (cxOf (L2.CX P w) P w K mg base N__law_cell "_law_cell" (defScope s__law_cell) T.a__law_cell cdv A outer s H E) (fun cls d _ H => E cls d H) := takes_of rfl rfl rfl rfl
  obtain ⟨a, F, fh, al, hd, th⟩ := h
  refine ⟨_, (pss_cons (ps_if (pt_cmpR op_lt (pv 1) (pe_callB call_len_seq (by rfl) T.z_len PySem.boot_len (pa_cons (pv 0) pa_nil)) (nomark _)) (pss_one (ps_ret (pe_callB call_abs (by rfl) T.z_abs (by decide +kernel) (pa_cons (pe_ix ix_list (pv 0) (pv 1) (fun _ _ => rfl)) pa_nil)))) pss_nil)
      (pss_one (ps_ret pe_int))), ?_⟩
  obtain ⟨ns, i⟩ := a
  by_cases h : i < ns.length
  · refine fin_ok (r := .rt (dv K (.int (cell ns i)))) (js_rt (js_if (b := true) (jt_is (jt_test (je_lt (je_var (i := 1) rfl) (je_lenL (je_var (i := 0) rfl)))) ?_) (fun _ => js_ret ?_) (fun z => Bool.noConfusion z))) (by exact rfl) fh al th
    · unfold intsD
      rw [List.length_map]
      exact decide_eq_true (by dsimp only; omega)
    · have e : cell ns i = if ns[i] < 0 then -ns[i] else ns[i] := by
        unfold cell
        rw [List.getElem?_eq_getElem h]
      rw [e]
      refine je_abs (je_ixL (je_var (i := 0) rfl) (je_var (i := 1) rfl) (atI_nat ?_))
      unfold intsD
      rw [List.getElem?_map, List.getElem?_eq_getElem h]
      rfl
  · refine fin_ok (r := .rt (dv K (.int (cell ns i)))) (js_seq (js_if (b := false) (jt_is (jt_test (je_lt (je_var (i := 1) rfl) (je_lenL (je_var (i := 0) rfl)))) ?_) (fun z => Bool.noConfusion z) (fun _ => js_next)) (js_ret ?_)) (by exact rfl) fh al th
    · unfold intsD
      rw [List.length_map]
      exact decide_eq_false (by dsimp only; omega)
    · rw [show cell ns i = 0 by unfold cell; rw [List.getElem?_eq_none (by omega)]]
      exact je_int
def args__law_area {K : PySem.W.Frag} {mg : Str → Option Value} (T : Tx K mg) : (Int × Int) × (Int × Int) × (Int × Int) → List PV := args_bare_area T
def dom__law_area : (Int × Int) × (Int × Int) × (Int × Int) → Prop := dom_bare_area
def out__law_area {K : PySem.W.Frag} {mg : Str → Option Value} (T : Tx K mg) : (Int × Int) × (Int × Int) × (Int × Int) → Out := out_bare_area T
theorem ok__law_area {P : Program} {w : World} {K : PySem.W.Frag} {mg : Str → Option Value} {base : Heap} (T : Tx K mg) : FnOk P w K mg base (L2.CX P w) 1 T.a__law_area T.fd__law_area ["p", "q", "r"] (Prm K T.M (args__law_area T) dom__law_area (out__law_area T)) := by
  refine T.F__law_area.okX sc__law_area (fun vs H Q E h => by obtain ⟨a, F, _, al, _⟩ := h; exact al.length) (fun cdv A outer s H vs Q E hr h => ?_)
  have tk : Takes (cxOf (L2.CX P w) P w K mg base N__law_area "_law_area" (defScope s__law_area) T.a__law_area cdv A outer s H E) (fun cls d _ H => E cls d H) := takes_of rfl rfl rfl rfl
  obtain ⟨a, F, fh, al, hd, th⟩ := h
  refine ⟨_, (pss_one (ps_ret (pe_op op_sub (pe_op op_mul (pe_op op_sub (pe_ix ix_tup (pv 1) pe_int (fun _ _ => rfl)) (pe_ix ix_tup (pv 0) pe_int (fun _ _ => rfl))) (pe_op op_sub (pe_ix ix_tup (pv 2) pe_int (fun _ _ => rfl)) (pe_ix ix_tup (pv 0) pe_int (fun _ _ => rfl)))) (pe_op op_mul (pe_op op_sub (pe_ix ix_tup (pv 1) pe_int (fun _ _ => rfl)) (pe_ix ix_tup (pv 0) pe_int (fun _ _ => rfl))) (pe_op op_sub (pe_ix ix_tup (pv 2) pe_int (fun _ _ => rfl)) (pe_ix ix_tup (pv 0) pe_int (fun _ _ => rfl))))))), ?_⟩
  obtain ⟨p, q, r⟩ := a
  obtain ⟨⟨hp1, hp2⟩, ⟨hq1, hq2⟩, hr1, hr2⟩ := hd
  simp only at hp1 hp2 hq1 hq2 hr1 hr2
  exact fin_ok (r := .rt _) (js_ret (je_sub (je_mul (je_sub (je_x0 (je_var rfl)) (je_x0 (je_var rfl))) (je_sub (je_y1 (je_var rfl)) (je_y1 (je_var rfl))) (near_mul (by first | omega | (dsimp only; omega)))) (je_mul (je_sub (je_y1 (je_var rfl)) (je_y1 (je_var rfl))) (je_sub (je_x0 (je_var rfl)) (je_x0 (je_var rfl))) (near_mul (by first | omega | (dsimp only; omega)))))) (by exact rfl) fh al th
def dxs : List Int := [0, 61, 17, 35, 52, 8, 44, 27, 70, 13]
def dys : List Int := [0, 7, 58, 23, 41, 31, 12, 66, 29, 47]
def atN (xs : List Int) (k : Nat) : Int := xs.getD k 0
theorem at_N {xs : List Int} {k : Nat} (h : k < xs.length) : atI (xs.map PyData.int) (k : Int) = some (.int (atN xs k)) := by
  refine atI_nat ?_
  rw [List.getElem?_map, List.getElem?_eq_getElem h]
  unfold atN
  simp [h]
theorem mul_c {a b : Int} (h : -2 ^ 64 < a ∧ a < 2 ^ 64) : CMul a b := .inl h
/-- a drawn point -/
def ptC (c : Int) (i : Nat) (w : Bool) : Int × Int := cond w ((14000 * atN dxs i + c) % 2000001 - 1000000, (14000 * atN dys i + c / 2000001) % 2000001 - 1000000) (atN dxs i - 30 + c % 97, atN dys i - 30 + c / 97 % 97)
def args__law_point {K : PySem.W.Frag} {mg : Str → Option Value} (T : Tx K mg) : Int × Nat × Bool → List PV := fun a => [dv K (.int a.1), dv K (.int a.2.1), dv K (.bool a.2.2)]
def dom__law_point : Int × Nat × Bool → Prop := fun a => a.2.1 < 10
def out__law_point {K : PySem.W.Frag} {mg : Str → Option Value} (T : Tx K mg) : Int × Nat × Bool → Out := fun a => .ok (dv K (pD (ptC a.1 a.2.1 a.2.2)))
theorem ok__law_point {P : Program} {w : World} {K : PySem.W.Frag} {mg : Str → Option Value} {base : Heap} (T : Tx K mg) : FnOk P w K mg base (L2.CX P w) 1 T.a__law_point T.fd__law_point ["c", "i", "wide"] (Prm K T.M (args__law_point T) dom__law_point (out__law_point T)) := by
  refine T.F__law_point.okX sc__law_point (fun vs H Q E h => by obtain ⟨a, F, _, al, _⟩ := h; exact al.length) (fun cdv A outer s H vs Q E hr h => ?_)
  have tk : Takes (cxOf (L2.CX P w) P w K mg base N__law_point "_law_point" (defScope s__law_point) T.a__law_point cdv A outer s H E) (fun cls d _ H => E cls d H) := takes_of rfl rfl rfl rfl
  obtain ⟨a, F, fh, al, hd, th⟩ := h
  refine ⟨_, (pss_cons (ps_set (i := 3) sc__law_point.nd rfl (by first | exact Or.inl rfl | exact Or.inr rfl) (pe_ix ix_tup (pe_tup (pa_cons pe_int (pa_cons pe_int (pa_cons pe_int (pa_cons pe_int (pa_cons pe_int (pa_cons pe_int (pa_cons pe_int (pa_cons pe_int (pa_cons pe_int (pa_cons pe_int pa_nil))))))))))) (pv 1) (fun _ _ => rfl)))
      (pss_cons (ps_set (i := 4) sc__law_point.nd rfl (by first | exact Or.inl rfl | exact Or.inr rfl) (pe_ix ix_tup (pe_tup (pa_cons pe_int (pa_cons pe_int (pa_cons pe_int (pa_cons pe_int (pa_cons pe_int (pa_cons pe_int (pa_cons pe_int (pa_cons pe_int (pa_cons pe_int (pa_cons pe_int pa_nil))))))))))) (pv 1) (fun _ _ => rfl)))
      (pss_cons (ps_if (pt_val (pv 2)) (pss_cons (ps_set (i := 5) sc__law_point.nd rfl (by first | exact Or.inl rfl | exact Or.inr rfl) (pe_op op_sub (pe_op op_mod (pe_callTy call_int1 (by rfl) T.z_int PyProof.Rows.boot_int (pa_cons (pe_op op_add (pe_op op_mul pe_int (pv 3)) (pv 0)) pa_nil)) pe_int) pe_int))
      (pss_one (ps_ret (pe_tup (pa_cons (pv 5) (pa_cons (pe_op op_sub (pe_op op_mod (pe_callTy call_int1 (by rfl) T.z_int PyProof.Rows.boot_int (pa_cons (pe_op op_add (pe_op op_mul pe_int (pv 4)) (pe_op op_fdiv (pv 0) pe_int)) pa_nil)) pe_int) pe_int) pa_nil)))))) pss_nil)
      (pss_one (ps_ret (pe_tup (pa_cons (pe_op op_add (pe_op op_sub (pv 3) pe_int) (pe_op op_mod (pe_callTy call_int1 (by rfl) T.z_int PyProof.Rows.boot_int (pa_cons (pv 0) pa_nil)) pe_int)) (pa_cons (pe_op op_add (pe_op op_sub (pv 4) pe_int) (pe_op op_mod (pe_op op_fdiv (pe_callTy call_int1 (by rfl) T.z_int PyProof.Rows.boot_int (pa_cons (pv 0) pa_nil)) pe_int) pe_int)) pa_nil)))))))), ?_⟩
  obtain ⟨c, i, w⟩ := a
  have hi : i < 10 := hd
  let W0 : WX := fun cls d _ H => E cls d H
  have ja10 : ∀ (ps : Kn) (a0 a1 a2 a3 a4 a5 a6 a7 a8 a9 : Int), JA K T.M W0 (tCons (tC (.int a0)) (tCons (tC (.int a1)) (tCons (tC (.int a2)) (tCons (tC (.int a3)) (tCons (tC (.int a4)) (tCons (tC (.int a5)) (tCons (tC (.int a6)) (tCons (tC (.int a7)) (tCons (tC (.int a8)) (tCons (tC (.int a9)) tNil)))))))))) ps (([a0, a1, a2, a3, a4, a5, a6, a7, a8, a9].map PyData.int).map (dv K)) := fun ps a0 a1 a2 a3 a4 a5 a6 a7 a8 a9 =>
    ja_cons je_int (ja_cons je_int (ja_cons je_int (ja_cons je_int (ja_cons je_int (ja_cons je_int (ja_cons je_int (ja_cons je_int (ja_cons je_int (ja_cons je_int ja_nil)))))))))
  refine fin_ok (r := .rt (dv K (pD (ptC c i w)))) (js_seq (js_set (i := 3) (P := dv K (.int (atN dxs i))) (je_ixT (ds := dxs.map .int) (je_tup (ja10 _ _ _ _ _ _ _ _ _ _ _) (by decide)) (je_var (i := 1) rfl) (at_N (by show i < 10; exact hi))))
    (js_seq (js_set (i := 4) (P := dv K (.int (atN dys i))) (je_ixT (ds := dys.map .int) (je_tup (ja10 _ _ _ _ _ _ _ _ _ _ _) (by decide)) (je_var (i := 1) rfl) (at_N (by show i < 10; exact hi)))) ?_)) (by exact rfl) fh al th
  cases w with
  | true =>
    exact js_rt (js_if (b := true) (jt_B (je_var (i := 2) rfl)) (fun _ => js_seq (js_set (i := 5) (je_sub (je_mod (je_intI (je_add (je_mul je_int (je_var (i := 3) rfl) (mul_c (by decide))) (je_var (i := 0) rfl))) je_int (by decide)) je_int))
      (js_ret (je_tup (ds := [.int ((14000 * atN dxs i + c) % 2000001 - 1000000), .int ((14000 * atN dys i + c / 2000001) % 2000001 - 1000000)]) (ja_cons (je_var (i := 5) rfl) (ja_cons (je_sub (je_mod (je_intI (je_add (je_mul je_int (je_var (i := 4) rfl) (mul_c (by decide))) (je_div (je_var (i := 0) rfl) je_int ⟨by decide, by decide⟩))) je_int (by decide)) je_int) ja_nil))))) (fun z => Bool.noConfusion z))
  | false =>
    exact js_seq (js_if (b := false) (jt_B (je_var (i := 2) rfl)) (fun z => Bool.noConfusion z) (fun _ => js_next)) (js_ret (je_tup (ds := [.int (atN dxs i - 30 + c % 97), .int (atN dys i - 30 + c / 97 % 97)]) (ja_cons (je_add (je_sub (je_var (i := 3) rfl) je_int) (je_mod (je_intI (je_var (i := 0) rfl)) je_int (by decide))) (ja_cons (je_add (je_sub (je_var (i := 4) rfl) je_int) (je_mod (je_div (je_intI (je_var (i := 0) rfl)) je_int ⟨by decide, by decide⟩) je_int (by decide))) ja_nil))))
end K13

namespace K13
open PySem PySem.Spec PyProof.Rows L2 Evl EB
theorem rg_int {n i : Nat} {d : PyData} (h : ((rg 0 n).map PyData.int)[i]? = some d) : i < n ∧ d = .int (i : Nat) := by
  have hl := (List.getElem?_eq_some_iff.mp h).1
  rw [List.length_map, rg_length] at hl
  rw [List.getElem?_map, rg_get hl] at h
  cases h
  exact ⟨hl, by simp⟩
theorem nat_pt {pts : List (Int × Int)} {i : Nat} (h : i < pts.length) : atI (pts.map pD) (i : Int) = some (pD (pt pts i)) := at_pt (by
  unfold isNo
  simp
  omega)
theorem badXY_c {p : Int × Int} {e : Er} (h : badXY p = some e) : ∃ v, e = ⟨.TooFar, .int v⟩ := by
  unfold badXY at h
  cases h1 : inR (-FAR) p.1 FAR with
  | false => rw [h1] at h; cases h; exact ⟨_, rfl⟩
  | true =>
    rw [h1] at h
    cases h2 : inR (-FAR) p.2 FAR with
    | false => rw [h2] at h; cases h; exact ⟨_, rfl⟩
    | true => rw [h2] at h; cases h
theorem onLine_c {pts : List (Int × Int)} {e : Er} (h : onLine pts = some e) : ∃ xs, e = ⟨.OnLine, tupI xs⟩ := by
  obtain ⟨x, _, hx⟩ := List.exists_of_findSome?_eq_some h
  unfold lineOf at hx
  match x, hx with
  | [a, b, c], hx =>
    dsimp only at hx
    by_cases h0 : area (pt pts a) (pt pts b) (pt pts c) = 0
    · rw [if_pos h0] at hx
      cases hx
      exact ⟨_, rfl⟩
    · rw [if_neg h0] at hx
      cases hx
theorem floorE_c {pts : List (Int × Int)} {e : Er} (h : floorE pts = some e) : (∃ v, e = ⟨.WrongCount, .int v⟩) ∨ (∃ v, e = ⟨.TooFar, .int v⟩) ∨ ∃ xs, e = ⟨.OnLine, tupI xs⟩ := by
  unfold floorE at h
  cases h1 : inR 3 pts.length 10 with
  | false => rw [h1] at h; cases h; exact .inl ⟨_, rfl⟩
  | true =>
    rw [h1] at h
    cases h2 : badPts pts with
    | some e2 =>
      rw [h2] at h
      cases h
      obtain ⟨p, _, hp⟩ := List.exists_of_findSome?_eq_some h2
      exact .inr (.inl (badXY_c hp))
    | none =>
      rw [h2] at h
      exact .inr (.inr (onLine_c h))
theorem ok_pD {n : Nat} (p : Int × Int) : Ok (pD p) (n + 1) := ok_tup (ds := [p.1, p.2].map .int) (ok_ints _)
theorem ok_pts {n : Nat} (pts : List (Int × Int)) : ∀ d ∈ pts.map pD, Ok d (n + 1) := fun d hd => by
  obtain ⟨p, _, rfl⟩ := List.mem_map.mp hd
  exact ok_pD p
def outO (K : PySem.W.Frag) (C : Addr) (o : Option Er) (d : PyData) : Out := match o with
  | none => .ok (ob1 K C "points" d)
  | some e => .er e
theorem mk_floor {K : PySem.W.Frag} {mg : Str → Option Value} (T : Tx K mg) {W : WX} {ps : Kn} {tr : TA} {b : Bool} {pts : List (Int × Int)} (h : JA K T.M W tr ps [dv K (sq b (pts.map pD))]) : JE K T.M W (tMakeS T.a_Floor (spMake K T.M T.a_Floor "points" (args_Floor___init__ T) dom_Floor___init__ out_Floor___init__) (WE W) tr) ps (outO K T.a_Floor (floorE pts) (.tuple (pts.map pD))) := by
  have := je_make (args := args_Floor___init__ T) (dom := dom_Floor___init__) (out := out_Floor___init__) (C := T.a_Floor) (f := "points") (b, pts) h trivial
  have e : mkOut K T.a_Floor "points" (out_Floor___init__ (b, pts)) = outO K T.a_Floor (floorE pts) (.tuple (pts.map pD)) := by
    unfold out_Floor___init__
    cases floorE pts <;> rfl
  rw [← e]
  exact this
theorem fin_go {K : PySem.W.Frag} {M : EC → Addr} {ts tu : TS} {N : List Str} {Ps : List PV} {vs : List V} {F H : Hp} {Q : VK} {E : XK} {o : Option Er} {d : PyData} (h : JS K M (fun cls d _ H => E cls d H) ts (entry N Ps) (ends (entry N Ps) (o.map Out.er))) (h2 : o = none → JS K M (fun cls d _ H => E cls d H) tu (entry N Ps) (.rt (dv K d))) (fh : Ex F H) (al : AllP F vs Ps) (th : Then K M F H Q E (outV K o d)) : tSeq ts tu { nx := fun _ H' => Q .non H', rt := Q } (start N vs) H := by
  obtain ⟨r, hz, hf⟩ := fin_then h h2
  exact fin_ok hz hf fh al th
theorem je_pts {K : PySem.W.Frag} {mg : Str → Option Value} (T : Tx K mg) {M : EC → Addr} {W : WX} {ps : Kn} {te : TE} {pts : List (Int × Int)} (h : JV K M W te ps (ob1 K T.a_Floor "points" (.tuple (pts.map pD)))) : JD K M W (tFld K te "points") ps (.tuple (pts.map pD)) := je_fld (C := T.a_Floor) h T.C_Floor T.n_Floor_points
theorem je_many {K : PySem.W.Frag} {mg : Str → Option Value} (T : Tx K mg) {M : EC → Addr} {W : WX} {ps : Kn} {te : TE} {pts : List (Int × Int)} (h : JV K M W te ps (ob1 K T.a_Floor "points" (.tuple (pts.map pD)))) : JD K M W (tCB (rLenS K) (tCons (tFld K te "points") tNil)) ps (.int pts.length) := je_is (je_lenT (je_pts T h)) (by rw [List.length_map])
def args_Floor___len__ {K : PySem.W.Frag} {mg : Str → Option Value} (T : Tx K mg) : List (Int × Int) → List PV := fun a => [ob1 K T.a_Floor "points" (.tuple (a.map pD))]
def dom_Floor___len__ : List (Int × Int) → Prop := fun _ => True
def out_Floor___len__ {K : PySem.W.Frag} {mg : Str → Option Value} (T : Tx K mg) : List (Int × Int) → Out := fun a => .ok (dv K (.int a.length))
theorem ok_Floor___len__ {P : Program} {w : World} {K : PySem.W.Frag} {mg : Str → Option Value} {base : Heap} (T : Tx K mg) : FnOk P w K mg base (L2.CX P w) 1 T.a_Floor___len__ T.fd_Floor___len__ ["self"] (Prm K T.M (args_Floor___len__ T) dom_Floor___len__ (out_Floor___len__ T)) := by
  refine T.F_Floor___len__.okX sc_Floor___len__ (fun vs H Q E h => by obtain ⟨a, F, _, al, _⟩ := h; exact al.length) (fun cdv A outer s H vs Q E hr h => ?_)
  have tk : Takes (cxOf (L2.CX P w) P w K mg base N_Floor___len__ "Floor.__len__" (defScope s_Floor___len__) T.a_Floor___len__ cdv A outer s H E) (fun cls d _ H => E cls d H) := takes_of rfl rfl rfl rfl
  obtain ⟨a, F, fh, al, hd, th⟩ := h
  refine ⟨_, (pss_one (ps_ret (pe_callB call_len_seq (by rfl) T.z_len PySem.boot_len (pa_cons (pe_fld (pv 0) rfl) pa_nil)))), ?_⟩
  exact fin_ok (r := .rt (dv K (.int a.length))) (js_ret (je_many T (je_var (i := 0) rfl))) (by exact rfl) fh al th
theorem je_lenF {K : PySem.W.Frag} {mg : Str → Option Value} (T : Tx K mg) {W : WX} {ps : Kn} {te : TE} {pts : List (Int × Int)} (h : JV K T.M W te ps (ob1 K T.a_Floor "points" (.tuple (pts.map pD)))) (hl : pts.length ≤ 1000) : JD K T.M W (tCB (rLenO T.a_Floor (Prm K T.M (args_Floor___len__ T) dom_Floor___len__ (out_Floor___len__ T)) fun _ _ _ => False) (tCons te tNil)) ps (.int pts.length) :=
  je_lenO pts h rfl trivial rfl (by omega) (by omega)
theorem ji_upto {K : PySem.W.Frag} {M : EC → Addr} {W : WX} {ps : Kn} {te : TE} {n : Nat} (h : JD K M W te ps (.int n)) (hn : n ≤ 1000) : JI K M W (iRng1 (tCons te tNil)) ps ((rg 0 n).map PyData.int) := by
  have := ji_rng1 (ja_cons h ja_nil) ⟨by omega, by omega⟩
  rw [Int.toNat_natCast] at this
  exact this
def leftN (pts : List (Int × Int)) (a b : Int) : List Nat := (List.range pts.length).filter fun c => decide (0 < area (pt pts a) (pt pts b) (pt pts c))
def leftD (pts : List (Int × Int)) (a b : Int) : PyData := .list ((leftN pts a b).map fun c : Nat => .int (c : Int))
def args_Floor_left_of {K : PySem.W.Frag} {mg : Str → Option Value} (T : Tx K mg) : List (Int × Int) × Int × Int → List PV := fun a => [ob1 K T.a_Floor "points" (.tuple (a.1.map pD)), dv K (.int a.2.1), dv K (.int a.2.2)]
def dom_Floor_left_of : List (Int × Int) × Int × Int → Prop := fun a => a.1.length ≤ 10 ∧ ∀ p ∈ a.1, near p
def out_Floor_left_of {K : PySem.W.Frag} {mg : Str → Option Value} (T : Tx K mg) : List (Int × Int) × Int × Int → Out := fun a => outV K (badNos a.1.length [a.2.1, a.2.2]) (leftD a.1 a.2.1 a.2.2)
theorem no2 {n : Int} {a b : Int} (h : badNos n [a, b] = none) : isNo a n = true ∧ isNo b n = true := by
  have key : ∀ k i, k < 2 → [a, b][k]? = some i → isNo i n = true := fun k i hk hi => by
    have := List.findSome?_eq_none_iff.mp h k (List.mem_range.mpr hk)
    unfold badNo at this
    rw [hi] at this
    dsimp only at this
    cases h1 : isNo i n with
    | true => rfl
    | false => rw [h1] at this; cases this
  exact ⟨key 0 a (by decide) rfl, key 1 b (by decide) rfl⟩
theorem nb_pts (pts : List (Int × Int)) : nb (pts.map pD) = (List.range pts.length).map fun c : Nat => .tuple [.int (c : Int), pD (pt pts c)] := by
  apply List.ext_getElem?
  intro i
  by_cases h : i < pts.length
  · rw [nb_get (d := pD (pt pts i)) (by rw [List.getElem?_map, List.getElem?_eq_getElem h]; unfold pt; simp [h]), List.getElem?_map, List.getElem?_range h]
    rfl
  · rw [List.getElem?_eq_none (by rw [nb_length, List.length_map]; omega), List.getElem?_eq_none (by rw [List.length_map, List.length_range]; omega)]
theorem ok_Floor_left_of {P : Program} {w : World} {K : PySem.W.Frag} {mg : Str → Option Value} {base : Heap} (T : Tx K mg) : FnOk P w K mg base (L2.CX P w) 5 T.a_Floor_left_of T.fd_Floor_left_of ["self", "a", "b"] (Prm K T.M (args_Floor_left_of T) dom_Floor_left_of (out_Floor_left_of T)) := by
  refine T.F_Floor_left_of.okX sc_Floor_left_of (fun vs H Q E h => by obtain ⟨a, F, _, al, _⟩ := h; exact al.length) (fun cdv A outer s H vs Q E hr h => ?_)
  have tk : Takes (cxOf (L2.CX P w) P w K mg base N_Floor_left_of "Floor.left_of" (defScope s_Floor_left_of) T.a_Floor_left_of cdv A outer s H E) (fun cls d _ H => E cls d H) := takes_of rfl rfl rfl rfl
  obtain ⟨a, F, fh, al, hd, th⟩ := h
  refine ⟨_, (pss_cons (ps_expr (pe_callS (ok_check_numbers T) (hr.mono (by decide)) (by rfl) T.g_check_numbers T.F_check_numbers.kp (b_check_numbers T) (fun σ => passAt tk σ) (pa_cons (pe_tup (pa_cons (pv 1) (pa_cons (pv 2) pa_nil))) (pa_cons (pe_callB call_len_seq (by rfl) T.z_len PySem.boot_len (pa_cons (pe_fld (pv 0) rfl) pa_nil)) pa_nil))))
      (pss_cons (ps_asg (pe_tup (pa_cons (pe_ix ix_tup (pe_fld (pv 0) rfl) (pv 1) (fun _ _ => rfl)) (pa_cons (pe_ix ix_tup (pe_fld (pv 0) rfl) (pv 2) (fun _ _ => rfl)) pa_nil))) (pg_tup rfl (pgs_cons (pg_name (i := 3) sc_Floor_left_of.nd rfl (by first | exact Or.inl rfl | exact Or.inr rfl)) (pgs_cons (pg_name (i := 4) sc_Floor_left_of.nd rfl (by first | exact Or.inl rfl | exact Or.inr rfl)) pgs_nil))))
      (pss_one (ps_ret (pe_lc (own := [("c", 5), ("point", 6)]) (g := (gTup K 2 (gCons (gName 5) (gCons (gName 6) gNil)))) (tt := (tTest (tOp (rI0 fun i j => .bl (decide (j < i))) (tCallS (Prm K T.M (args_bare_area T) dom_bare_area (out_bare_area T)) (WE fun _ _ _ _ => False) (tCons (tVar 3) (tCons (tVar 4) (tCons (tVar 6) tNil)))) (tC (.int 0))))) (te := (tVar 5)) rfl sc_Floor_left_of.nd (pi_enumT (by rfl) T.z_enumerate (pa_cons (pe_fld (pv 0) rfl) pa_nil)) (blkOk_by (N := N_Floor_left_of) (sc := defScope s_Floor_left_of) (own := [("c", 5), ("point", 6)]) (by decide +kernel)) (fun _ _ _ _ _ => (pg_tup rfl (pgs_cons (pg_name (i := 5) sc_Floor_left_of.nd rfl (by first | exact Or.inl rfl | exact Or.inr rfl)) (pgs_cons (pg_name (i := 6) sc_Floor_left_of.nd rfl (by first | exact Or.inl rfl | exact Or.inr rfl)) pgs_nil)))) (fun _ _ _ _ _ => by exact pts_one (pt_cmpR op_gt (pe_callS (ok_bare_area T) (hr.mono (by decide)) (by rfl) T.g_bare_area T.F_bare_area.kp (b_bare_area T) (fun σ => passAt takes0 σ) (pa_cons (pv 3) (pa_cons (pv 4) (pa_cons (pv 6) pa_nil)))) pe_int (nomark _))) (fun _ _ _ _ _ => by exact (pv 5))))))), ?_⟩
  obtain ⟨pts, u, v⟩ := a
  obtain ⟨hl, hnear⟩ := hd
  simp only at hl
  let W0 : WX := fun cls d _ H => E cls d H
  have pf : ∀ ps : Kn, ps[0]? = some (some (ob1 K T.a_Floor "points" (.tuple (pts.map pD)))) → JD K T.M W0 (tFld K (tVar 0) "points") ps (.tuple (pts.map pD)) := fun ps h => je_pts T (je_var (i := 0) h)
  have c1 := js_out (je_call (K := K) (M := T.M) (W := W0) (ps := entry N_Floor_left_of (args_Floor_left_of T (pts, u, v))) (args := args_check_numbers T) (dom := dom_check_numbers) (out := out_check_numbers T) (false, [u, v], pts.length) (ja_cons (je_tup (ds := [.int u, .int v]) (ja_cons (je_var (i := 1) rfl) (ja_cons (je_var (i := 2) rfl) ja_nil))) (ja_cons (je_many T (je_var (i := 0) rfl)) ja_nil)) (show 2 ≤ 1000 by decide))
  refine fin_go (o := badNos pts.length [u, v]) c1 (fun h => js_seq (js_asg (vs := [3, 4]) (je_tup (ds := [pD (pt pts u), pD (pt pts v)]) (ja_cons (je_ixT (pf _ rfl) (je_var (i := 1) rfl) (at_pt (no2 h).1)) (ja_cons (je_ixT (pf _ rfl) (je_var (i := 2) rfl) (at_pt (no2 h).2)) ja_nil))) (jg_tup (jgs_cons jg_name (jgs_cons jg_name jgs_nil))))
    (js_ret (je_lc (W' := fun _ _ _ _ => False) (List.range pts.length) (fun c : Nat => .tuple [.int (c : Int), pD (pt pts c)]) (fun c => decide (0 < area (pt pts u) (pt pts v) (pt pts c))) (fun c : Nat => .int (c : Int)) (ji_is (ji_enumT (pf _ rfl)) (nb_pts pts)) (by rw [List.length_range]; omega)
      fun c hc => ⟨_, jg_tup (ds := [.int (c : Int), pD (pt pts c)]) (jgs_cons jg_name (jgs_cons jg_name jgs_nil)), jt_test (je_gt (je_call (args := args_bare_area T) (dom := dom_bare_area) (out := out_bare_area T) (pt pts u, pt pts v, pt pts c) (ja_cons (je_var (i := 3) rfl) (ja_cons (je_var (i := 4) rfl) (ja_cons (je_var (i := 6) rfl) ja_nil))) ⟨near_pt hnear _, near_pt hnear _, near_pt hnear _⟩) je_int), fun _ => je_var (i := 5) rfl⟩))) fh al th
end K13

namespace K13
open PySem PySem.Spec PyProof.Rows L2 Evl EB
/-! ### the drawn points -/
theorem jl_ifE {K : PySem.W.Frag} {M : EC → Addr} {W : WX} {D : Addr} {F1 H1 : Hp} {ts tu : TS} {t : TT} {ps qs : Kn} {ds e1 e2 : List PyData} {b : Bool} (h : JT K M W t ps b) (h1 : b = true → JL K M W D F1 H1 ts ps ds (.nx qs e1)) (h2 : b = false → JL K M W D F1 H1 tu ps ds (.nx qs e2)) : JL K M W D F1 H1 (tIfS t ts tu) ps ds (.nx qs (cond b e1 e2)) := by
  cases b with
  | true => exact jl_if h h1 (fun z => Bool.noConfusion z)
  | false => exact jl_if h (fun z => Bool.noConfusion z) h2
theorem jl_next {K : PySem.W.Frag} {M : EC → Addr} {W : WX} {D : Addr} {F1 H1 : Hp} {ps : Kn} {ds : List PyData} : JL K M W D F1 H1 tNext ps ds (.nx ps ds) := jl_js js_next
theorem jl_c {K : PySem.W.Frag} {M : EC → Addr} {W : WX} {D : Addr} {F1 H1 : Hp} {ts : TS} {ps qs : Kn} {ds es es' : List PyData} (h : JL K M W D F1 H1 ts ps ds (.nx qs es)) (e : es = es') : JL K M W D F1 H1 ts ps ds (.nx qs es') := jl_is h e
def manyA : List Int := [5, 4, 6, 7, 3]
def manyB : List Int := [10, 8, 9]
def c0 (ns : List Int) : Int := cell ns 0
def c24 (ns : List Int) : Int := cell ns 24
def manyI (ns : List Int) : Int := cond (decide (c24 ns % 16 = 5)) (atN manyB (c24 ns / 16 % 3).toNat) (atN manyA (c0 ns % 5).toNat)
def manyN (ns : List Int) : Nat := (manyI ns).toNat
def wideB (ns : List Int) : Bool := decide (c0 ns / 25 % 4 = 1)
def pt0 (ns : List Int) : List (Int × Int) := (List.range (manyN ns)).map fun i => ptC (cell ns (1 + i)) i (wideB ns)
def kk (ns : List Int) (j : Nat) : Nat := ((c0 ns / 100 % 7 % (manyN ns : Nat) + j) % (manyN ns : Nat)).toNat
def kz (ns : List Int) : Nat := (c0 ns / 100 % 7 % (manyN ns : Nat)).toNat
def ptN (l : List (Int × Int)) (j : Nat) : Int × Int := l.getD j (0, 0)
def pOne (ns : List Int) : Int × Int := ptN (pt0 ns) (kk ns 1)
def pTwo (ns : List Int) : Int × Int := ptN (pt0 ns) (kk ns 2)
def pLast (ns : List Int) : Int × Int := ptN (pt0 ns) (kk ns 3)
def pt1 (ns : List Int) : List (Int × Int) := cond (decide (c0 ns / 5 % 5 = 2)) (cond (decide (c0 ns / 700 % 2 = 1)) (((pt0 ns).set (kz ns) (2 * (pOne ns).1 - (pTwo ns).1, 2 * (pOne ns).2 - (pTwo ns).2)).set (kz ns) (pOne ns)) ((pt0 ns).set (kz ns) (2 * (pOne ns).1 - (pTwo ns).1, 2 * (pOne ns).2 - (pTwo ns).2))) (pt0 ns)
def pt2a (ns : List Int) : List (Int × Int) := (pt1 ns).set (kk ns 1) ((pLast ns).1, (ptN (pt1 ns) (kz ns)).2)
def pt2 (ns : List Int) : List (Int × Int) := cond (decide (c0 ns / 5 % 5 = 3) && decide (3 < manyI ns)) ((pt2a ns).set (kk ns 2) ((ptN (pt2a ns) (kz ns)).1, (pLast ns).2)) (pt1 ns)
theorem cell_nn (ns : List Int) (i : Nat) : 0 ≤ cell ns i := by
  unfold cell
  cases ns[i]? with
  | none => exact Int.le_refl _
  | some v =>
    dsimp only
    by_cases h : v < 0
    · rw [if_pos h]; omega
    · rw [if_neg h]; omega
theorem manyA_b : ∀ k : Nat, k < 5 → 3 ≤ atN manyA k ∧ atN manyA k ≤ 10 := by decide
theorem manyB_b : ∀ k : Nat, k < 3 → 3 ≤ atN manyB k ∧ atN manyB k ≤ 10 := by decide
theorem many_b (ns : List Int) : 3 ≤ manyI ns ∧ manyI ns ≤ 10 := by
  unfold manyI
  cases decide (c24 ns % 16 = 5) with
  | true => exact manyB_b _ (by omega)
  | false => exact manyA_b _ (by omega)
theorem many_n (ns : List Int) : manyI ns = (manyN ns : Nat) := by
  have := many_b ns
  unfold manyN
  omega
theorem many_nb (ns : List Int) : 3 ≤ manyN ns ∧ manyN ns ≤ 10 := by
  have := many_b ns
  unfold manyN
  omega
theorem pt0_len (ns : List Int) : (pt0 ns).length = manyN ns := by
  unfold pt0
  rw [List.length_map, List.length_range]
theorem pt1_len (ns : List Int) : (pt1 ns).length = manyN ns := by
  unfold pt1
  cases decide (c0 ns / 5 % 5 = 2) <;> cases decide (c0 ns / 700 % 2 = 1) <;> simp only [cond_true, cond_false, List.length_set, pt0_len]
theorem pt2a_len (ns : List Int) : (pt2a ns).length = manyN ns := by
  unfold pt2a
  rw [List.length_set, pt1_len]
theorem pt2_len (ns : List Int) : (pt2 ns).length = manyN ns := by
  unfold pt2
  cases (decide (c0 ns / 5 % 5 = 3) && decide (3 < manyI ns))
  · exact pt1_len ns
  · show (List.set _ _ _).length = _
    rw [List.length_set, pt2a_len]
theorem kk_lt (ns : List Int) (j : Nat) : kk ns j < manyN ns := by
  have h := many_nb ns
  unfold kk
  have := Int.emod_lt_of_pos (c0 ns / 100 % 7 % (manyN ns : Nat) + j) (b := (manyN ns : Nat)) (by omega)
  omega
theorem kz_lt (ns : List Int) : kz ns < manyN ns := by
  have h := many_nb ns
  unfold kz
  have := Int.emod_lt_of_pos (c0 ns / 100 % 7) (b := (manyN ns : Nat)) (by omega)
  omega
theorem kk_int (ns : List Int) (j : Nat) : (c0 ns / 100 % 7 % (manyN ns : Nat) + j) % (manyN ns : Nat) = (kk ns j : Nat) := by
  have h := many_nb ns
  have := Int.emod_nonneg (c0 ns / 100 % 7 % (manyN ns : Nat) + j) (b := (manyN ns : Nat)) (by omega)
  unfold kk
  omega
theorem kz_int (ns : List Int) : c0 ns / 100 % 7 % (manyN ns : Nat) = (kz ns : Nat) := by
  have h := many_nb ns
  have := Int.emod_nonneg (c0 ns / 100 % 7) (b := (manyN ns : Nat)) (by omega)
  unfold kz
  omega
theorem ptN_at {l : List (Int × Int)} {j : Nat} (h : j < l.length) : atI (l.map pD) (j : Int) = some (pD (ptN l j)) := by
  refine atI_nat ?_
  rw [List.getElem?_map, List.getElem?_eq_getElem h]
  unfold ptN
  simp [h]
theorem set_pD (l : List (Int × Int)) (j : Nat) (p : Int × Int) : (l.map pD).set j (pD p) = (l.set j p).map pD := by rw [List.map_set]
def args__law_points {K : PySem.W.Frag} {mg : Str → Option Value} (T : Tx K mg) : List Int → List PV := fun a => [dv K (.list (intsD a))]
def dom__law_points : List Int → Prop := fun _ => True
def out__law_points {K : PySem.W.Frag} {mg : Str → Option Value} (T : Tx K mg) : List Int → Out := fun a => .ok (dv K (.list ((pt2 a).map pD)))
theorem je_p1 {K : PySem.W.Frag} {M : EC → Addr} {W : WX} {ps : Kn} {te : TE} {p : Int × Int} (h : JD K M W te ps (pD p)) : JD K M W (tOp (rIxT K) te (tC (.int 0))) ps (.int p.1) := je_ixT (ds := [.int p.1, .int p.2]) h je_int rfl
theorem je_p2 {K : PySem.W.Frag} {M : EC → Addr} {W : WX} {ps : Kn} {te : TE} {p : Int × Int} (h : JD K M W te ps (pD p)) : JD K M W (tOp (rIxT K) te (tC (.int 1))) ps (.int p.2) := je_ixT (ds := [.int p.1, .int p.2]) h je_int rfl
theorem je_pair {K : PySem.W.Frag} {M : EC → Addr} {W : WX} {ps : Kn} {ta tb : TE} {i j : Int} (h1 : JD K M W ta ps (.int i)) (h2 : JD K M W tb ps (.int j)) : JD K M W (tTup (tCons ta (tCons tb tNil))) ps (pD (i, j)) := je_tup (ds := [.int i, .int j]) (ja_cons h1 (ja_cons h2 ja_nil))
theorem ok__law_points {P : Program} {w : World} {K : PySem.W.Frag} {mg : Str → Option Value} {base : Heap} (T : Tx K mg) : FnOk P w K mg base (L2.CX P w) 2 T.a__law_points T.fd__law_points ["cells"] (Prm K T.M (args__law_points T) dom__law_points (out__law_points T)) := by
  refine T.F__law_points.okX sc__law_points (fun vs H Q E h => by obtain ⟨a, F, _, al, _⟩ := h; exact al.length) (fun cdv A outer s H vs Q E hr h => ?_)
  have tk : Takes (cxOf (L2.CX P w) P w K mg base N__law_points "_law_points" (defScope s__law_points) T.a__law_points cdv A outer s H E) (fun cls d _ H => E cls d H) := takes_of rfl rfl rfl rfl
  obtain ⟨a, F, fh, al, hd, th⟩ := h
  refine ⟨_, (pss_cons (ps_set (i := 1) sc__law_points.nd rfl (by first | exact Or.inl rfl | exact Or.inr rfl) (pe_callS (ok__law_cell T) (hr.mono (by decide)) (by rfl) T.g__law_cell T.F__law_cell.kp (b__law_cell T) (fun σ => passAt tk σ) (pa_cons (pv 0) (pa_cons pe_int pa_nil))))
      (pss_cons (ps_set (i := 2) sc__law_points.nd rfl (by first | exact Or.inl rfl | exact Or.inr rfl) (pe_ix ix_tup (pe_tup (pa_cons pe_int (pa_cons pe_int (pa_cons pe_int (pa_cons pe_int (pa_cons pe_int pa_nil)))))) (pe_op op_mod (pe_callTy call_int1 (by rfl) T.z_int PyProof.Rows.boot_int (pa_cons (pv 1) pa_nil)) pe_int) (fun _ _ => rfl)))
      (pss_cons (ps_if (pt_cmpR op_eq (pe_op op_mod (pe_callTy call_int1 (by rfl) T.z_int PyProof.Rows.boot_int (pa_cons (pe_callS (ok__law_cell T) (hr.mono (by decide)) (by rfl) T.g__law_cell T.F__law_cell.kp (b__law_cell T) (fun σ => passAt tk σ) (pa_cons (pv 0) (pa_cons pe_int pa_nil))) pa_nil)) pe_int) pe_int (nomark _)) (pss_one (ps_set (i := 2) sc__law_points.nd rfl (by first | exact Or.inl rfl | exact Or.inr rfl) (pe_ix ix_tup (pe_tup (pa_cons pe_int (pa_cons pe_int (pa_cons pe_int pa_nil)))) (pe_op op_mod (pe_op op_fdiv (pe_callTy call_int1 (by rfl) T.z_int PyProof.Rows.boot_int (pa_cons (pe_callS (ok__law_cell T) (hr.mono (by decide)) (by rfl) T.g__law_cell T.F__law_cell.kp (b__law_cell T) (fun σ => passAt tk σ) (pa_cons (pv 0) (pa_cons pe_int pa_nil))) pa_nil)) pe_int) pe_int) (fun _ _ => rfl)))) pss_nil)
      (pss_cons (ps_set (i := 3) sc__law_points.nd rfl (by first | exact Or.inl rfl | exact Or.inr rfl) (pe_cmpR op_eq (pe_op op_mod (pe_op op_fdiv (pe_callTy call_int1 (by rfl) T.z_int PyProof.Rows.boot_int (pa_cons (pv 1) pa_nil)) pe_int) pe_int) pe_int (nomark _)))
      (pss_cons (ps_set (i := 4) sc__law_points.nd rfl (by first | exact Or.inl rfl | exact Or.inr rfl) (pe_lst pa_nil))
      (pss_cons (ps_for (passes_of rfl) rfl (pi_range1 (by rfl) T.z_range (pa_cons (pv 2) pa_nil)) (pg_name (i := 5) sc__law_points.nd rfl (by first | exact Or.inl rfl | exact Or.inr rfl)) (pss_one (ps_expr (pe_bm PySem.F.plainAttrs_list PySem.F.slot_list_append PySem.F.type_list_append mt_append (pv 4) (pa_cons (pe_callS (ok__law_point T) (hr.mono (by decide)) (by rfl) T.g__law_point T.F__law_point.kp (b__law_point T) (fun σ => passAt tk σ) (pa_cons (pe_callS (ok__law_cell T) (hr.mono (by decide)) (by rfl) T.g__law_cell T.F__law_cell.kp (b__law_cell T) (fun σ => passAt tk σ) (pa_cons (pv 0) (pa_cons (pe_op op_add pe_int (pv 5)) pa_nil))) (pa_cons (pv 5) (pa_cons (pv 3) pa_nil)))) pa_nil)))))
      (pss_cons (ps_set (i := 6) sc__law_points.nd rfl (by first | exact Or.inl rfl | exact Or.inr rfl) (pe_op op_mod (pe_op op_mod (pe_op op_fdiv (pe_callTy call_int1 (by rfl) T.z_int PyProof.Rows.boot_int (pa_cons (pv 1) pa_nil)) pe_int) pe_int) (pv 2)))
      (pss_cons (ps_set (i := 7) sc__law_points.nd rfl (by first | exact Or.inl rfl | exact Or.inr rfl) (pe_ix ix_list (pv 4) (pe_op op_mod (pe_callTy call_int1 (by rfl) T.z_int PyProof.Rows.boot_int (pa_cons (pe_op op_add (pv 6) pe_int) pa_nil)) (pv 2)) (fun _ _ => rfl)))
      (pss_cons (ps_set (i := 8) sc__law_points.nd rfl (by first | exact Or.inl rfl | exact Or.inr rfl) (pe_ix ix_list (pv 4) (pe_op op_mod (pe_callTy call_int1 (by rfl) T.z_int PyProof.Rows.boot_int (pa_cons (pe_op op_add (pv 6) pe_int) pa_nil)) (pv 2)) (fun _ _ => rfl)))
      (pss_cons (ps_set (i := 9) sc__law_points.nd rfl (by first | exact Or.inl rfl | exact Or.inr rfl) (pe_ix ix_list (pv 4) (pe_op op_mod (pe_callTy call_int1 (by rfl) T.z_int PyProof.Rows.boot_int (pa_cons (pe_op op_add (pv 6) pe_int) pa_nil)) (pv 2)) (fun _ _ => rfl)))
      (pss_cons (ps_if (pt_cmpR op_eq (pe_op op_mod (pe_op op_fdiv (pe_callTy call_int1 (by rfl) T.z_int PyProof.Rows.boot_int (pa_cons (pv 1) pa_nil)) pe_int) pe_int) pe_int (nomark _)) (pss_cons (ps_asg (pe_tup (pa_cons (pe_op op_sub (pe_op op_mul pe_int (pe_ix ix_tup (pv 7) pe_int (fun _ _ => rfl))) (pe_ix ix_tup (pv 8) pe_int (fun _ _ => rfl))) (pa_cons (pe_op op_sub (pe_op op_mul pe_int (pe_ix ix_tup (pv 7) pe_int (fun _ _ => rfl))) (pe_ix ix_tup (pv 8) pe_int (fun _ _ => rfl))) pa_nil))) (pg_sub (pv 4) (pv 6) set_list))
      (pss_one (ps_if (pt_cmpR op_eq (pe_op op_mod (pe_op op_fdiv (pe_callTy call_int1 (by rfl) T.z_int PyProof.Rows.boot_int (pa_cons (pv 1) pa_nil)) pe_int) pe_int) pe_int (nomark _)) (pss_one (ps_asg (pv 7) (pg_sub (pv 4) (pv 6) set_list))) pss_nil))) pss_nil)
      (pss_cons (ps_if (PW.pt (pw_and (pt_cmpR op_eq (pe_op op_mod (pe_op op_fdiv (pe_callTy call_int1 (by rfl) T.z_int PyProof.Rows.boot_int (pa_cons (pv 1) pa_nil)) pe_int) pe_int) pe_int (nomark _)) (pw_and1 (pt_cmpR op_gt (pv 2) pe_int (nomark _))))) (pss_cons (ps_asg (pe_tup (pa_cons (pe_ix ix_tup (pv 9) pe_int (fun _ _ => rfl)) (pa_cons (pe_ix ix_tup (pe_ix ix_list (pv 4) (pv 6) (fun _ _ => rfl)) pe_int (fun _ _ => rfl)) pa_nil))) (pg_sub (pv 4) (pe_op op_mod (pe_callTy call_int1 (by rfl) T.z_int PyProof.Rows.boot_int (pa_cons (pe_op op_add (pv 6) pe_int) pa_nil)) (pv 2)) set_list))
      (pss_one (ps_asg (pe_tup (pa_cons (pe_ix ix_tup (pe_ix ix_list (pv 4) (pv 6) (fun _ _ => rfl)) pe_int (fun _ _ => rfl)) (pa_cons (pe_ix ix_tup (pv 9) pe_int (fun _ _ => rfl)) pa_nil))) (pg_sub (pv 4) (pe_op op_mod (pe_callTy call_int1 (by rfl) T.z_int PyProof.Rows.boot_int (pa_cons (pe_op op_add (pv 6) pe_int) pa_nil)) (pv 2)) set_list)))) pss_nil)
      (pss_one (ps_ret (pv 4))))))))))))))), ?_⟩
  let W0 : WX := fun cls d _ H => E cls d H
  have hm := many_nb a
  have hc : ∀ (ps : Kn) (j : Nat) (te : TE), ps[0]? = some (some (dv K (.list (intsD a)))) → JD K T.M W0 te ps (.int j) → JD K T.M W0 (tCallS (Prm K T.M (args__law_cell T) dom__law_cell (out__law_cell T)) (WE W0) (tCons (tVar 0) (tCons te tNil))) ps (.int (cell a j)) := fun ps j te h h2 => je_call (args := args__law_cell T) (dom := dom__law_cell) (out := out__law_cell T) (a, j) (ja_cons (je_var (i := 0) h) (ja_cons h2 ja_nil)) trivial
  have hA : ∀ ps : Kn, JD K T.M W0 (tTup (tCons (tC (.int 5)) (tCons (tC (.int 4)) (tCons (tC (.int 6)) (tCons (tC (.int 7)) (tCons (tC (.int 3)) tNil)))))) ps (.tuple (manyA.map .int)) := fun ps => je_tup (ds := manyA.map .int) (ja_cons je_int (ja_cons je_int (ja_cons je_int (ja_cons je_int (ja_cons je_int ja_nil))))) (by decide)
  refine fin_ok (r := .rt (dv K (.list ((pt2 a).map pD)))) (js_seq (js_set (i := 1) (P := dv K (.int (c0 a))) (hc _ 0 _ rfl je_int)) (js_seq (js_set (i := 2) (P := dv K (.int (atN manyA (c0 a % 5).toNat))) (je_ixT (hA _) (je_mod (je_intI (je_var (i := 1) rfl)) je_int (by decide)) ?_)) (js_seq (qs := [some (dv K (.list (intsD a))), some (dv K (.int (c0 a))), some (dv K (.int (manyN a))), none, none, none, none, none, none, none]) (js_if (b := decide (c24 a % 16 = 5)) (jt_test (je_eqI (je_mod (je_intI (hc _ 24 _ rfl je_int)) je_int (by decide)) je_int)) (fun hb => ?_) (fun hb => ?_)) ?_))) (by exact rfl) fh al th
  · have : c0 a % 5 = ((c0 a % 5).toNat : Nat) := by omega
    show atI _ (c0 a % 5) = _
    rw [this]
    exact at_N (by show _ < 5; omega)
  · have e : (manyN a : Int) = atN manyB (c24 a / 16 % 3).toNat := by
      rw [← many_n]
      unfold manyI
      rw [hb] <;> rfl
    rw [e]
    refine js_set (i := 2) (je_ixT (ds := manyB.map .int) (je_tup (ja_cons je_int (ja_cons je_int (ja_cons je_int ja_nil))) (by decide)) (je_mod (je_div (je_intI (hc _ 24 _ rfl je_int)) je_int ⟨by decide, by decide⟩) je_int (by decide)) ?_)
    have : c24 a / 16 % 3 = ((c24 a / 16 % 3).toNat : Nat) := by omega
    show atI _ (c24 a / 16 % 3) = _
    rw [this]
    exact at_N (by show _ < 3; omega)
  · have e : (manyN a : Int) = atN manyA (c0 a % 5).toNat := by
      rw [← many_n]
      unfold manyI
      rw [hb] <;> rfl
    rw [e]
    exact js_next
  refine js_seq (js_set (i := 3) (P := dv K (.bool (wideB a))) (je_eqI (je_mod (je_div (je_intI (je_var (i := 1) rfl)) je_int ⟨by decide, by decide⟩) je_int (by decide)) je_int)) (jl_new fun D F1 H1 hD => ?_)
  let psX : Option PV → Option PV → Option PV → Option PV → Kn := fun x6 x7 x8 x9 => [some (dv K (.list (intsD a))), some (dv K (.int (c0 a))), some (dv K (.int (manyN a))), some (dv K (.bool (wideB a))), some (xv (.ref D)), none, x6, x7, x8, x9]
  refine jl_seq (qs := psX none none none none) (es := (pt0 a).map pD) (jl_is (jl_for (vs := [5]) ((rg 0 (manyN a)).map .int) (fun _ => psX none none none none) (fun j => ((List.range j).map fun i => ptC (cell a (1 + i)) i (wideB a)).map pD) (ji_is (ji_rng1 (n := (manyN a : Nat)) (ja_cons (je_var (i := 2) rfl) ja_nil) ⟨by omega, by omega⟩) (by rw [Int.toNat_natCast])) rfl rfl fun j d hj => ?_) (by rw [List.length_map, rg_length]; rfl)) ?_
  · obtain ⟨hj1, rfl⟩ := rg_int hj
    refine ⟨_, jg_name, jl_weak (jl_is (jl_app (d := pD (ptC (cell a (1 + j)) j (wideB a))) rfl hD (ja_cons (je_call (args := args__law_point T) (dom := dom__law_point) (out := out__law_point T) (cell a (1 + j), j, wideB a) (ja_cons (hc _ (1 + j) _ rfl (je_is (je_add je_int (je_var (i := 5) rfl)) (show PyData.int _ = PyData.int _ by push_cast; rfl))) (ja_cons (je_var (i := 5) rfl) (ja_cons (je_var (i := 3) rfl) ja_nil))) (show j < 10 by omega)) ja_nil) ?_) ?_) ⟨.inr rfl, .inr rfl, .inr rfl, .inr rfl, .inr rfl, .inl rfl, .inr rfl, .inr rfl, .inr rfl, .inr rfl, trivial⟩⟩
    · rw [List.length_map, List.length_map, List.length_range]
      omega
    · rw [List.range_succ, List.map_append, List.map_append]
      rfl
  have hk : ∀ (j : Nat) (x7 x8 x9 : Option PV), JD K T.M W0 (tOp (rI (fun _ j => 0 < j) fun i j => .int (i % j)) (tCB rInt1 (tCons (tOp (rI0 fun i j => .int (i + j)) (tVar 6) (tC (.int j))) tNil)) (tVar 2)) (psX (some (dv K (.int (kz a)))) x7 x8 x9) (.int (kk a j)) := fun j x7 x8 x9 => je_is (je_mod (je_intI (je_add (je_var (i := 6) rfl) je_int)) (je_var (i := 2) rfl) (by show (0 : Int) < (manyN a : Nat); omega)) (by rw [← kz_int, kk_int])
  have hk4 : ∀ (j : Nat) (x7 x8 x9 : Option PV), JD K T.M W0 (tOp (rI (fun _ j => 0 < j) fun i j => .int (i % j)) (tCB rInt1 (tCons (tOp (rI0 fun i j => .int (i + j)) (tVar 6) (tC (.int j))) tNil)) (tVar 2)) ((psX (some (dv K (.int (kz a)))) x7 x8 x9).set 4 (some (dv K (.list ((pt0 a).map pD))))) (.int (kk a j)) := fun j x7 x8 x9 => je_is (je_mod (je_intI (je_add (je_var (i := 6) rfl) je_int)) (je_var (i := 2) rfl) (by show (0 : Int) < (manyN a : Nat); omega)) (by rw [← kz_int, kk_int])
  have kl : ∀ (j : Nat) {l : List (Int × Int)}, l.length = manyN a → kk a j < l.length := fun j l h => by rw [h]; exact kk_lt a j
  have kzl : ∀ {l : List (Int × Int)}, l.length = manyN a → kz a < l.length := fun {l} h => by rw [h]; exact kz_lt a
  have r2 : ∀ p : Int × Int, Ro (dv K (pD p)) := fun p => ro_dv rfl
  refine jl_seq (jl_js (js_set (i := 6) (P := dv K (.int (kz a))) (je_is (je_mod (je_mod (je_div (je_intI (je_var (i := 1) rfl)) je_int ⟨by decide, by decide⟩) je_int (by decide)) (je_var (i := 2) rfl) (by show (0 : Int) < (manyN a : Nat); omega)) (by rw [kz_int]))))
    (jl_seq (jl_setX (j := 7) (P := dv K (pD (pOne a))) (jlx_ro (M := T.M) (W := W0) (i := 4) rfl (je_ixL (je_var (i := 4) rfl) (hk4 1 _ _ _) (ptN_at (kl 1 (pt0_len a)))) (r2 _)))
    (jl_seq (jl_setX (j := 8) (P := dv K (pD (pTwo a))) (jlx_ro (M := T.M) (W := W0) (i := 4) rfl (je_ixL (je_var (i := 4) rfl) (hk4 2 _ _ _) (ptN_at (kl 2 (pt0_len a)))) (r2 _)))
    (jl_seq (jl_setX (j := 9) (P := dv K (pD (pLast a))) (jlx_ro (M := T.M) (W := W0) (i := 4) rfl (je_ixL (je_var (i := 4) rfl) (hk4 3 _ _ _) (ptN_at (kl 3 (pt0_len a)))) (r2 _))) ?_)))
  let psY : Kn := psX (some (dv K (.int (kz a)))) (some (dv K (pD (pOne a)))) (some (dv K (pD (pTwo a)))) (some (dv K (pD (pLast a))))
  have j5 : ∀ ps : Kn, ps[1]? = some (some (dv K (.int (c0 a)))) → JD K T.M W0 (tOp (rI (fun _ j => 0 < j) fun i j => .int (i % j)) (tOp (rI CDiv fun i j => .int (i / j)) (tCB rInt1 (tCons (tVar 1) tNil)) (tC (.int 5))) (tC (.int 5))) ps (.int (c0 a / 5 % 5)) := fun ps h => je_mod (je_div (je_intI (je_var (i := 1) h)) je_int ⟨by decide, by decide⟩) je_int (by decide)
  refine jl_seq (qs := psY) (es := (pt1 a).map pD) (jl_c (jl_ifE (e1 := (cond (decide (c0 a / 700 % 2 = 1)) (((pt0 a).set (kz a) (2 * (pOne a).1 - (pTwo a).1, 2 * (pOne a).2 - (pTwo a).2)).set (kz a) (pOne a)) ((pt0 a).set (kz a) (2 * (pOne a).1 - (pTwo a).1, 2 * (pOne a).2 - (pTwo a).2))).map pD) (e2 := (pt0 a).map pD) (b := decide (c0 a / 5 % 5 = 2)) (jt_test (je_eqI (j5 _ rfl) je_int)) (fun _ => ?_) (fun _ => jl_next)) ?_) ?_
  · refine jl_seq (jl_set (j := kz a) (d := pD (2 * (pOne a).1 - (pTwo a).1, 2 * (pOne a).2 - (pTwo a).2)) rfl hD (je_pair (je_sub (je_mul je_int (je_p1 (je_var (i := 7) rfl)) (mul_c (by decide))) (je_p1 (je_var (i := 8) rfl))) (je_sub (je_mul je_int (je_p2 (je_var (i := 7) rfl)) (mul_c (by decide))) (je_p2 (je_var (i := 8) rfl)))) (je_var (i := 6) rfl) (by rw [List.length_map]; exact kzl (pt0_len a))) ?_
    rw [set_pD]
    refine jl_c (jl_ifE (e1 := (((pt0 a).set (kz a) (2 * (pOne a).1 - (pTwo a).1, 2 * (pOne a).2 - (pTwo a).2)).set (kz a) (pOne a)).map pD) (b := decide (c0 a / 700 % 2 = 1)) (jt_test (je_eqI (je_mod (je_div (je_intI (je_var (i := 1) rfl)) je_int ⟨by decide, by decide⟩) je_int (by decide)) je_int)) (fun _ => jl_c (jl_set (j := kz a) (d := pD (pOne a)) rfl hD (je_var (i := 7) rfl) (je_var (i := 6) rfl) (by rw [List.length_map, List.length_set]; exact kzl (pt0_len a))) (set_pD _ _ _)) (fun _ => jl_next)) ?_
    cases decide (c0 a / 700 % 2 = 1) <;> rfl
  · unfold pt1
    cases decide (c0 a / 5 % 5 = 2) <;> rfl
  refine jl_seq (qs := psY) (es := (pt2 a).map pD) (jl_c (jl_ifE (e1 := ((pt2a a).set (kk a 2) ((ptN (pt2a a) (kz a)).1, (pLast a).2)).map pD) (e2 := (pt1 a).map pD) (b := decide (c0 a / 5 % 5 = 3) && decide (3 < manyI a)) (jt_and (jt_test (je_eqI (j5 _ rfl) je_int)) (fun _ => jt_is (jt_test (je_gt (je_var (i := 2) rfl) je_int)) (by rw [many_n]))) (fun _ => ?_) (fun _ => jl_next)) ?_) (jl_ret rfl hD)
  · refine jl_seq (jl_c (jl_setXL (m := kk a 1) (d := pD ((pLast a).1, (ptN (pt1 a) (kz a)).2)) rfl hD (jlx_ro (M := T.M) (W := W0) (i := 4) rfl (je_pair (je_p1 (je_var (i := 9) rfl)) (je_p2 (je_ixL (je_var (i := 4) rfl) (je_var (i := 6) rfl) (ptN_at (kzl (pt1_len a)))))) (r2 _)) (hk 1 _ _ _) (by rw [List.length_map]; exact kl 1 (pt1_len a))) (set_pD _ _ _)) ?_
    exact jl_c (jl_setXL (m := kk a 2) (d := pD ((ptN (pt2a a) (kz a)).1, (pLast a).2)) rfl hD (jlx_ro (M := T.M) (W := W0) (i := 4) rfl (je_pair (je_p1 (je_ixL (je_var (i := 4) rfl) (je_var (i := 6) rfl) (ptN_at (kzl (pt2a_len a))))) (je_p2 (je_var (i := 9) rfl))) (r2 _)) (hk 2 _ _ _) (by rw [List.length_map]; exact kl 2 (pt2a_len a))) (set_pD _ _ _)
  · unfold pt2
    cases (decide (c0 a / 5 % 5 = 3) && decide (3 < manyI a)) <;> rfl
end K13

namespace K13
open PySem PySem.Spec PyProof.Rows L2 Evl EB
theorem first_map {α β γ : Type} (f : β → γ) (c : α → Option β) : ∀ l : List α, l.findSome? (fun i => (c i).map f) = (l.findSome? c).map f
  | [] => rfl
  | x :: l => by
    rw [List.findSome?_cons, List.findSome?_cons, first_map f c l]
    cases c x <;> rfl
theorem js_endsO {K : PySem.W.Frag} {M : EC → Addr} {W : WX} {ts : TS} {ps rs qs : Kn} {o : Option Out} (h : JS K M W ts ps (ends rs o)) (w : Weak rs qs) : JS K M W ts ps (ends qs o) := by
  cases o with
  | none => exact js_weak h w
  | some e => exact h
/-- a loop over L that is left at the first x with f x -/
theorem js_first {K : PySem.W.Frag} {M : EC → Addr} {W : WX} {ps : Kn} {vs : List Nat} {wi : TI} {g : TG} {tb : TS} {α β : Type} (L : List α) (enc : α → PyData) (f : α → Option β) (h : β → Out) (hi : JI K M W wi ps (L.map enc))
    (hs : ∀ x ∈ L, ∃ qs, JG vs g ps (dv K (enc x)) qs ∧ JS K M W tb qs (ends ps ((f x).map h))) : JS K M W (tFor wi g tb) ps (ends ps ((L.findSome? f).map h)) := by
  have key := js_search (M := M) (W := W) (g := g) (tb := tb) (vs := vs) (fun i => (L[i]?.bind f).map h) hi fun (i : Nat) (d : PyData) (hd : (L.map enc)[i]? = some d) => by
    have hlt : i < L.length := by
      have := (List.getElem?_eq_some_iff.mp hd).1
      rw [List.length_map] at this
      exact this
    rw [List.getElem?_map, List.getElem?_eq_getElem hlt] at hd
    cases hd
    obtain ⟨qs, hg, hb⟩ := hs L[i] (List.getElem_mem hlt)
    refine ⟨qs, hg, .inl ?_⟩
    show JS K M W tb qs (ends ps ((L[i]?.bind f).map h))
    rw [List.getElem?_eq_getElem hlt]
    exact hb
  rw [List.length_map, first_map, first_ix] at key
  exact key
theorem rg_mem {lo x : Int} {m : Nat} (h : x ∈ rg lo m) : lo ≤ x ∧ x < lo + m := by
  unfold rg at h
  obtain ⟨i, hi, rfl⟩ := List.mem_map.mp h
  have := List.mem_range.mp hi
  omega
theorem first_flat {α β γ : Type} (g : α → List β) (f : β → Option γ) : ∀ L : List α, (L.flatMap g).findSome? f = L.findSome? fun x => (g x).findSome? f
  | [] => rfl
  | x :: r => by
    rw [List.flatMap_cons, List.findSome?_append, List.findSome?_cons, first_flat g f r]
    cases (g x).findSome? f <;> rfl
abbrev beh (a : Int) (n : Nat) : List Int := rg (a + 1) ((n : Int) - (a + 1)).toNat
theorem subs3_eq : ∀ n : Nat, n < 11 → subsL n 3 = (rg 0 n).flatMap fun a => (beh a n).flatMap fun b => (beh b n).map fun c => [a, b, c] := by decide +kernel
theorem badXY_two (p : Int × Int) : badXY p = [p.1, p.2].findSome? tf := by
  unfold badXY tf
  simp only [List.findSome?_cons, List.findSome?_nil]
  cases inR (-FAR) p.1 FAR <;> cases inR (-FAR) p.2 FAR <;> rfl
theorem far_not (v : Int) : decide (1000000 < if v < 0 then -v else v) = !inR (-FAR) v FAR := by
  unfold inR FAR
  by_cases h0 : v < 0
  · rw [if_pos h0]
    have h1 : v ≤ 1000000 := by omega
    by_cases h2 : -1000000 ≤ v
    · have h3 : ¬ 1000000 < -v := by omega
      simp [h1, h2, h3]
    · have h3 : 1000000 < -v := by omega
      simp [h2, h3]
  · rw [if_neg h0]
    have h1 : -1000000 ≤ v := by omega
    by_cases h2 : v ≤ 1000000
    · have h3 : ¬ 1000000 < v := by omega
      simp [h1, h2, h3]
    · have h3 : 1000000 < v := by omega
      simp [h2, h3]
/-! ### threes -/
theorem rg_succ (lo : Int) (n : Nat) : rg lo (n + 1) = rg lo n ++ [lo + (n : Nat)] := by
  unfold rg
  rw [List.range_succ, List.map_append]
  rfl
def thr (n : Nat) : List (List Int) := (rg 0 n).flatMap fun a => (beh a n).flatMap fun b => (beh b n).map fun c => [a, b, c]
def args__law_threes {K : PySem.W.Frag} {mg : Str → Option Value} (T : Tx K mg) : Nat → List PV := fun a => [dv K (.int a)]
def dom__law_threes : Nat → Prop := fun a => a ≤ 10
def out__law_threes {K : PySem.W.Frag} {mg : Str → Option Value} (T : Tx K mg) : Nat → Out := fun a => .ok (dv K (.list ((subsL a 3).map tupI)))
theorem rg_lo {lo : Int} {n i : Nat} {d : PyData} (h : ((rg lo n).map PyData.int)[i]? = some d) : i < n ∧ d = .int (lo + (i : Nat)) := by
  have hl := (List.getElem?_eq_some_iff.mp h).1
  rw [List.length_map, rg_length] at hl
  rw [List.getElem?_map, rg_get hl] at h
  cases h
  exact ⟨hl, rfl⟩
theorem flat_snoc {α β : Type} (f : α → List β) (l : List α) (x : α) : (l ++ [x]).flatMap f = l.flatMap f ++ f x := by
  rw [List.flatMap_append]
  simp
theorem thr_len : ∀ n : Nat, n < 11 → (thr n).length ≤ 200 := by decide +kernel
theorem rg_pre (lo : Int) (m i : Nat) (h : i ≤ m) : ∃ z, rg lo m = rg lo i ++ z := by
  unfold rg
  refine ⟨((List.range m).drop i).map fun j => lo + (j : Nat), ?_⟩
  rw [← List.map_append]
  congr 1
  have : List.range i = (List.range m).take i := by rw [List.take_range, Nat.min_eq_left h]
  rw [this, List.take_append_drop]
theorem flat_le {α β : Type} (f : α → List β) (a b z : List α) (h : a = b ++ z) : (b.flatMap f).length ≤ (a.flatMap f).length := by
  rw [h, List.flatMap_append, List.length_append]
  omega
theorem ok__law_threes {P : Program} {w : World} {K : PySem.W.Frag} {mg : Str → Option Value} {base : Heap} (T : Tx K mg) : FnOk P w K mg base (L2.CX P w) 1 T.a__law_threes T.fd__law_threes ["many"] (Prm K T.M (args__law_threes T) dom__law_threes (out__law_threes T)) := by
  refine T.F__law_threes.okX sc__law_threes (fun vs H Q E h => by obtain ⟨a, F, _, al, _⟩ := h; exact al.length) (fun cdv A outer s H vs Q E hr h => ?_)
  have tk : Takes (cxOf (L2.CX P w) P w K mg base N__law_threes "_law_threes" (defScope s__law_threes) T.a__law_threes cdv A outer s H E) (fun cls d _ H => E cls d H) := takes_of rfl rfl rfl rfl
  obtain ⟨a, F, fh, al, hd, th⟩ := h
  refine ⟨_, (pss_cons (ps_set (i := 1) sc__law_threes.nd rfl (by first | exact Or.inl rfl | exact Or.inr rfl) (pe_lst pa_nil))
      (pss_cons (ps_for (passes_of rfl) rfl (pi_range1 (by rfl) T.z_range (pa_cons (pv 0) pa_nil)) (pg_name (i := 2) sc__law_threes.nd rfl (by first | exact Or.inl rfl | exact Or.inr rfl)) (pss_one (ps_for (passes_of rfl) rfl (pi_range2 (by rfl) T.z_range (pa_cons (pe_op op_add (pv 2) pe_int) (pa_cons (pv 0) pa_nil))) (pg_name (i := 3) sc__law_threes.nd rfl (by first | exact Or.inl rfl | exact Or.inr rfl)) (pss_one (ps_for (passes_of rfl) rfl (pi_range2 (by rfl) T.z_range (pa_cons (pe_op op_add (pv 3) pe_int) (pa_cons (pv 0) pa_nil))) (pg_name (i := 4) sc__law_threes.nd rfl (by first | exact Or.inl rfl | exact Or.inr rfl)) (pss_one (ps_expr (pe_bm PySem.F.plainAttrs_list PySem.F.slot_list_append PySem.F.type_list_append mt_append (pv 1) (pa_cons (pe_tup (pa_cons (pv 2) (pa_cons (pv 3) (pa_cons (pv 4) pa_nil)))) pa_nil)))))))))
      (pss_one (ps_ret (pv 1))))), ?_⟩
  have hn : a ≤ 10 := hd
  let W0 : WX := fun cls d _ H => E cls d H
  have ho : out__law_threes T a = .ok (dv K (.list ((thr a).map tupI))) := by
    show Out.ok (dv K (.list ((subsL a 3).map tupI))) = _
    rw [subs3_eq a (by omega)] <;> rfl
  rw [ho] at th
  refine fin_ok (r := .rt (dv K (.list ((thr a).map tupI)))) (jl_new fun D F1 H1 hD => ?_) (by exact rfl) fh al th
  let f2 : Int → Int → List (List Int) := fun u v => (beh v a).map fun c => [u, v, c]
  let f1 : Int → List (List Int) := fun u => (beh u a).flatMap (f2 u)
  have f2l : ∀ u v : Int, 0 ≤ v → (f2 u v).length ≤ 10 := fun u v h => by
    show (List.map _ (beh v a)).length ≤ 10
    rw [List.length_map, rg_length]
    omega
  have tl := thr_len a (by omega)
  let ps : Option PV → Option PV → Option PV → Kn := fun x y z => [some (dv K (.int a)), some (xv (.ref D)), x, y, z]
  refine jl_seq (qs := ps none none none) (es := (thr a).map tupI) (jl_is (jl_for (vs := [2]) ((rg 0 a).map .int) (fun _ => ps none none none) (fun j => ((rg 0 j).flatMap f1).map tupI) (ji_is (ji_rng1 (n := (a : Nat)) (ja_cons (je_var (i := 0) rfl) ja_nil) ⟨by omega, by omega⟩) (by rw [Int.toNat_natCast])) rfl rfl fun j d hj => ?_) (by rw [List.length_map, rg_length]; rfl)) (jl_ret rfl hD)
  obtain ⟨hj1, rfl⟩ := rg_lo hj
  have big1 : ((rg 0 j).flatMap f1 ++ f1 (0 + (j : Nat))).length ≤ 200 := by
    rw [← flat_snoc, ← rg_succ]
    obtain ⟨z, hz⟩ := rg_pre 0 a (j + 1) hj1
    exact Nat.le_trans (flat_le f1 _ _ z hz) tl
  refine ⟨ps (some (dv K (.int (0 + (j : Nat))))) none none, jg_name, ?_⟩
  refine jl_weak (jl_is (jl_for (vs := [3]) ((beh (0 + (j : Nat)) a).map .int) (fun _ => ps (some (dv K (.int (0 + (j : Nat))))) none none) (fun i => ((rg 0 j).flatMap f1 ++ (rg (0 + (j : Nat) + 1) i).flatMap (f2 (0 + (j : Nat)))).map tupI) (ji_rng2 (ja_cons (je_add (je_var (i := 2) rfl) je_int) (ja_cons (je_var (i := 0) rfl) ja_nil)) ⟨by omega, by omega⟩) rfl (by simp [rg]) fun i d hi => ?_) ?_) ⟨.inr rfl, .inr rfl, .inl rfl, .inr rfl, .inr rfl, trivial⟩
  · obtain ⟨hi1, rfl⟩ := rg_lo hi
    have big2 : ((rg 0 j).flatMap f1 ++ (rg (0 + (j : Nat) + 1) i).flatMap (f2 (0 + (j : Nat))) ++ f2 (0 + (j : Nat)) (0 + (j : Nat) + 1 + (i : Nat))).length ≤ 200 := by
      rw [List.append_assoc, ← flat_snoc, ← rg_succ]
      obtain ⟨z, hz⟩ := rg_pre (0 + (j : Nat) + 1) _ (i + 1) hi1
      have := flat_le (f2 (0 + (j : Nat))) _ _ z hz
      rw [List.length_append] at big1 ⊢
      have e : (f1 (0 + (j : Nat))).length = ((rg (0 + (j : Nat) + 1) ((a : Int) - (0 + (j : Nat) + 1)).toNat).flatMap (f2 (0 + (j : Nat)))).length := rfl
      omega
    refine ⟨ps (some (dv K (.int (0 + (j : Nat))))) (some (dv K (.int (0 + (j : Nat) + 1 + (i : Nat))))) none, jg_name, ?_⟩
    refine jl_weak (jl_is (jl_for (vs := [4]) ((beh (0 + (j : Nat) + 1 + (i : Nat)) a).map .int) (fun _ => ps (some (dv K (.int (0 + (j : Nat))))) (some (dv K (.int (0 + (j : Nat) + 1 + (i : Nat))))) none) (fun h => ((rg 0 j).flatMap f1 ++ (rg (0 + (j : Nat) + 1) i).flatMap (f2 (0 + (j : Nat))) ++ (rg (0 + (j : Nat) + 1 + (i : Nat) + 1) h).map fun c => [0 + ((j : Nat) : Int), 0 + (j : Nat) + 1 + (i : Nat), c]).map tupI) (ji_rng2 (ja_cons (je_add (je_var (i := 3) rfl) je_int) (ja_cons (je_var (i := 0) rfl) ja_nil)) ⟨by omega, by omega⟩) rfl (by simp [rg]) fun h d hh => ?_) ?_) ⟨.inr rfl, .inr rfl, .inr rfl, .inl rfl, .inr rfl, trivial⟩
    · obtain ⟨hh1, rfl⟩ := rg_lo hh
      refine ⟨ps (some (dv K (.int (0 + (j : Nat))))) (some (dv K (.int (0 + (j : Nat) + 1 + (i : Nat))))) (some (dv K (.int (0 + (j : Nat) + 1 + (i : Nat) + 1 + (h : Nat))))), jg_name, ?_⟩
      refine jl_weak (jl_is (jl_app (d := tupI [0 + ((j : Nat) : Int), 0 + (j : Nat) + 1 + (i : Nat), 0 + (j : Nat) + 1 + (i : Nat) + 1 + (h : Nat)]) rfl hD (ja_cons (je_tup (ds := [.int (0 + (j : Nat)), .int (0 + (j : Nat) + 1 + (i : Nat)), .int (0 + (j : Nat) + 1 + (i : Nat) + 1 + (h : Nat))]) (ja_cons (je_var (i := 2) rfl) (ja_cons (je_var (i := 3) rfl) (ja_cons (je_var (i := 4) rfl) ja_nil)))) ja_nil) ?_) ?_) ⟨.inr rfl, .inr rfl, .inr rfl, .inr rfl, .inl rfl, trivial⟩
      · rw [List.length_map, List.length_append, List.length_map, rg_length]
        rw [List.length_append] at big2
        have : (f2 (0 + (j : Nat)) (0 + (j : Nat) + 1 + (i : Nat))).length = ((a : Int) - (0 + (j : Nat) + 1 + (i : Nat) + 1)).toNat := by
          show (List.map _ (beh _ a)).length = _
          rw [List.length_map, rg_length]
        omega
      · rw [rg_succ (0 + (j : Nat) + 1 + (i : Nat) + 1) h]
        simp only [List.map_append, List.append_assoc]
        rfl
    · rw [List.length_map, rg_length, rg_succ (0 + (j : Nat) + 1) i, flat_snoc, ← List.append_assoc]
  · rw [List.length_map, rg_length, rg_succ 0 j, flat_snoc]
end K13

namespace K13
open PySem PySem.Spec PyProof.Rows L2 Evl EB
/-! ### the flaw told, the floor made -/
def flawE (e : Er) : PyData := match e.c with
  | .TooFar => .tuple [.str "TooFar", e.val, .bool true]
  | _ => .tuple [.str "OnLine", e.val, .bool true]
def flawO : Option Er → PyData
  | none => .none
  | some e => flawE e
def fltell (K : PySem.W.Frag) (e : Er) : Out := .ok (dv K (flawE e))
def args__law_flaw {K : PySem.W.Frag} {mg : Str → Option Value} (T : Tx K mg) : List (Int × Int) → List PV := fun a => [dv K (.list (a.map pD))]
def dom__law_flaw : List (Int × Int) → Prop := fun a => a.length ≤ 10
def out__law_flaw {K : PySem.W.Frag} {mg : Str → Option Value} (T : Tx K mg) : List (Int × Int) → Out := fun a => .ok (dv K (flawO ((badPts a).or (onLine a))))
theorem subs_no {n : Nat} (hn : n ≤ 10) {x : List Int} (hx : x ∈ subsL n 3) : ∃ a b c, x = [a, b, c] ∧ isNo a n = true ∧ isNo b n = true ∧ isNo c n = true := by
  have h := List.all_eq_true.mp (subs3 n (by omega)) x hx
  match x, h with
  | [a, b, c], h =>
    simp only [Bool.and_eq_true] at h
    exact ⟨a, b, c, rfl, h.1.1, h.1.2, h.2⟩
theorem js_flA {K : PySem.W.Frag} {M : EC → Addr} {W : WX} {ts tu : TS} {ps : Kn} {o o2 : Option Er} (h : JS K M W ts ps (ends ps (o.map (fltell K)))) (h2 : o = none → JS K M W tu ps (.rt (dv K (flawO o2)))) : JS K M W (tSeq ts tu) ps (.rt (dv K (flawO (o.or o2)))) := by
  cases o with
  | none => exact js_seq h (h2 rfl)
  | some e => exact js_rt h
theorem ok__law_flaw {P : Program} {w : World} {K : PySem.W.Frag} {mg : Str → Option Value} {base : Heap} (T : Tx K mg) : FnOk P w K mg base (L2.CX P w) 2 T.a__law_flaw T.fd__law_flaw ["points"] (Prm K T.M (args__law_flaw T) dom__law_flaw (out__law_flaw T)) := by
  refine T.F__law_flaw.okX sc__law_flaw (fun vs H Q E h => by obtain ⟨a, F, _, al, _⟩ := h; exact al.length) (fun cdv A outer s H vs Q E hr h => ?_)
  have tk : Takes (cxOf (L2.CX P w) P w K mg base N__law_flaw "_law_flaw" (defScope s__law_flaw) T.a__law_flaw cdv A outer s H E) (fun cls d _ H => E cls d H) := takes_of rfl rfl rfl rfl
  obtain ⟨a, F, fh, al, hd, th⟩ := h
  refine ⟨_, (pss_cons (ps_for (passes_of rfl) rfl (pi_list (pv 0)) (pg_name (i := 1) sc__law_flaw.nd rfl (by first | exact Or.inl rfl | exact Or.inr rfl)) (pss_one (ps_for (passes_of rfl) rfl (pi_tup (pv 1)) (pg_name (i := 2) sc__law_flaw.nd rfl (by first | exact Or.inl rfl | exact Or.inr rfl)) (pss_one (ps_if (pt_cmpR op_gt (pe_callB call_abs (by rfl) T.z_abs (by decide +kernel) (pa_cons (pv 2) pa_nil)) pe_int (nomark _)) (pss_one (ps_ret (pe_tup (pa_cons pe_str (pa_cons (pv 2) (pa_cons pe_bl pa_nil)))))) pss_nil)))))
      (pss_cons (ps_for (passes_of rfl) rfl (pi_list (pe_callS (ok__law_threes T) (hr.mono (by decide)) (by rfl) T.g__law_threes T.F__law_threes.kp (b__law_threes T) (fun σ => passAt tk σ) (pa_cons (pe_callB call_len_seq (by rfl) T.z_len PySem.boot_len (pa_cons (pv 0) pa_nil)) pa_nil))) (pg_name (i := 3) sc__law_flaw.nd rfl (by first | exact Or.inl rfl | exact Or.inr rfl)) (pss_one (ps_if (pt_cmpR op_eq (pe_callS (ok__law_area T) (hr.mono (by decide)) (by rfl) T.g__law_area T.F__law_area.kp (b__law_area T) (fun σ => passAt tk σ) (pa_cons (pe_ix ix_list (pv 0) (pe_ix ix_tup (pv 3) pe_int (fun _ _ => rfl)) (fun _ _ => rfl)) (pa_cons (pe_ix ix_list (pv 0) (pe_ix ix_tup (pv 3) pe_int (fun _ _ => rfl)) (fun _ _ => rfl)) (pa_cons (pe_ix ix_list (pv 0) (pe_ix ix_tup (pv 3) pe_int (fun _ _ => rfl)) (fun _ _ => rfl)) pa_nil)))) pe_int (nomark _)) (pss_one (ps_ret (pe_tup (pa_cons pe_str (pa_cons (pv 3) (pa_cons pe_bl pa_nil)))))) pss_nil)))
      (pss_one (ps_ret pe_non)))), ?_⟩
  have hl : a.length ≤ 10 := hd
  let W0 : WX := fun cls d _ H => E cls d H
  let ps0 : Kn := [some (dv K (.list (a.map pD))), none, none, none]
  refine fin_ok (r := .rt (dv K (flawO ((badPts a).or (onLine a))))) (js_flA (o := badPts a) ?_ (fun hb => ?_)) (by exact rfl) fh al th
  · refine js_first (vs := [1]) a pD badXY (fltell K) (ji_list (je_var (i := 0) rfl)) fun p hp => ⟨_, jg_name, ?_⟩
    rw [badXY_two]
    refine js_endsO (js_first (vs := [2]) [p.1, p.2] .int tf (fltell K) (ji_tup (ds := [.int p.1, .int p.2]) (je_var (i := 1) rfl)) fun v hv => ⟨_, jg_name, ?_⟩) ⟨.inr rfl, .inl rfl, .inr rfl, .inr rfl, trivial⟩
    have ht := jt_is (jt_test (je_gt (je_abs (je_var (M := T.M) (W := W0) (ps := [some (dv K (.list (a.map pD))), some (dv K (pD p)), some (dv K (.int v)), none]) (i := 2) rfl)) (je_int (i := 1000000)))) (far_not v)
    unfold tf
    cases h1 : inR (-FAR) v FAR with
    | false =>
      rw [h1] at ht
      exact js_if (b := true) ht (fun _ => js_ret (P := dv K (flawE ⟨.TooFar, .int v⟩)) (je_tup (ds := [.str "TooFar", .int v, .bool true]) (ja_cons je_str (ja_cons (je_var (i := 2) rfl) (ja_cons je_bl ja_nil))))) (fun z => Bool.noConfusion z)
    | true =>
      rw [h1] at ht
      exact js_if (b := false) ht (fun z => Bool.noConfusion z) (fun _ => js_weak js_next ⟨.inr rfl, .inr rfl, .inl rfl, .inr rfl, trivial⟩)
  · have hnear := near_of hb
    have key : onLine a = (onLine a).or none := by cases onLine a <;> rfl
    rw [key]
    refine js_flA (o := onLine a) ?_ (fun _ => js_ret je_non)
    refine js_first (vs := [3]) (subsL a.length 3) tupI (lineOf a) (fltell K) (ji_list (je_call (args := args__law_threes T) (dom := dom__law_threes) (out := out__law_threes T) a.length (ja_cons (je_is (je_lenL (je_var (i := 0) rfl)) (by rw [List.length_map])) ja_nil) hl)) fun x hx => ?_
    obtain ⟨u, v, z, rfl, h1, h2, h3⟩ := subs_no hl hx
    have hv : JD K T.M W0 (tVar 3) [some (dv K (.list (a.map pD))), none, none, some (dv K (tupI [u, v, z]))] (.tuple [.int u, .int v, .int z]) := je_var (i := 3) rfl
    have har := je_call (K := K) (M := T.M) (W := W0) (ps := [some (dv K (.list (a.map pD))), none, none, some (dv K (tupI [u, v, z]))]) (args := args__law_area T) (dom := dom__law_area) (out := out__law_area T) (pt a u, pt a v, pt a z)
      (ja_cons (je_ixL (je_var (i := 0) rfl) (je_ixT hv (je_int (i := 0)) rfl) (at_pt h1)) (ja_cons (je_ixL (je_var (i := 0) rfl) (je_ixT hv (je_int (i := 1)) rfl) (at_pt h2)) (ja_cons (je_ixL (je_var (i := 0) rfl) (je_ixT hv (je_int (i := 2)) rfl) (at_pt h3)) ja_nil))) ⟨near_pt hnear _, near_pt hnear _, near_pt hnear _⟩
    refine ⟨_, jg_name, ?_⟩
    by_cases h0 : area (pt a u) (pt a v) (pt a z) = 0
    · rw [show lineOf a [u, v, z] = some ⟨.OnLine, tupI [u, v, z]⟩ from if_pos h0]
      exact js_if (b := true) (jt_is (jt_test (je_eqI har je_int)) (decide_eq_true h0)) (fun _ => js_ret (P := dv K (flawE ⟨.OnLine, tupI [u, v, z]⟩)) (je_tup (ds := [.str "OnLine", tupI [u, v, z], .bool true]) (ja_cons je_str (ja_cons (je_var (i := 3) rfl) (ja_cons je_bl ja_nil))))) (fun q => Bool.noConfusion q)
    · rw [show lineOf a [u, v, z] = none from if_neg h0]
      exact js_if (b := false) (jt_is (jt_test (je_eqI har je_int)) (decide_eq_false h0)) (fun q => Bool.noConfusion q) (fun _ => js_weak js_next ⟨.inr rfl, .inr rfl, .inr rfl, .inl rfl, trivial⟩)
/-- the pair that _law_floor tells -/
def madeP (K : PySem.W.Frag) (C : Addr) (pts : List (Int × Int)) : PV := match floorE pts with
  | none => tpP [ob1 K C "points" (.tuple (pts.map pD)), dv K .none]
  | some e => tpP [dv K .none, dv K (flawE e)]
def args__law_floor {K : PySem.W.Frag} {mg : Str → Option Value} (T : Tx K mg) : Bool × List (Int × Int) → List PV := fun a => [dv K (sq a.1 (a.2.map pD))]
def dom__law_floor : Bool × List (Int × Int) → Prop := fun a => 3 ≤ a.2.length ∧ a.2.length ≤ 10
def out__law_floor {K : PySem.W.Frag} {mg : Str → Option Value} (T : Tx K mg) : Bool × List (Int × Int) → Out := fun a => .ok (madeP K T.a_Floor a.2)
theorem floorE_in {pts : List (Int × Int)} (h3 : 3 ≤ pts.length) (hl : pts.length ≤ 10) : floorE pts = (badPts pts).or (onLine pts) := by
  rw [floorE_eq]
  have : inR 3 pts.length 10 = true := by
    unfold inR
    rw [decide_eq_true (by omega), decide_eq_true (by omega)]
    rfl
  rw [this]
  rfl
abbrev tbF {K : PySem.W.Frag} {mg : Str → Option Value} (T : Tx K mg) : WX → TS := fun W => tAsg (tMakeS T.a_Floor (spMake K T.M T.a_Floor "points" (args_Floor___init__ T) dom_Floor___init__ out_Floor___init__) (WE W) (tCons (tVar 0) tNil)) (gName 1)
theorem floorE_two {pts : List (Int × Int)} (h3 : 3 ≤ pts.length) (hl : pts.length ≤ 10) {e : Er} (h : floorE pts = some e) : (∃ v, e = ⟨.TooFar, .int v⟩) ∨ ∃ xs, e = ⟨.OnLine, tupI xs⟩ := by
  rw [floorE_in h3 hl] at h
  cases hb : badPts pts with
  | some e2 =>
    rw [hb] at h
    cases h
    obtain ⟨p, _, hp⟩ := List.exists_of_findSome?_eq_some hb
    exact .inl (badXY_c hp)
  | none =>
    rw [hb] at h
    exact .inr (onLine_c h)
theorem ok__law_floor {P : Program} {w : World} {K : PySem.W.Frag} {mg : Str → Option Value} {base : Heap} (T : Tx K mg) : FnOk P w K mg base (L2.CX P w) 7 T.a__law_floor T.fd__law_floor ["handed"] (Prm K T.M (args__law_floor T) dom__law_floor (out__law_floor T)) := by
  refine T.F__law_floor.okX sc__law_floor (fun vs H Q E h => by obtain ⟨a, F, _, al, _⟩ := h; exact al.length) (fun cdv A outer s H vs Q E hr h => ?_)
  have tk : Takes (cxOf (L2.CX P w) P w K mg base N__law_floor "_law_floor" (defScope s__law_floor) T.a__law_floor cdv A outer s H E) (fun cls d _ H => E cls d H) := takes_of rfl rfl rfl rfl
  obtain ⟨a, F, fh, al, hd, th⟩ := h
  refine ⟨_, (pss_cons (ps_set (i := 1) sc__law_floor.nd rfl (by first | exact Or.inl rfl | exact Or.inr rfl) pe_non)
      (pss_cons (ps_set (i := 2) sc__law_floor.nd rfl (by first | exact Or.inl rfl | exact Or.inr rfl) pe_non)
      (pss_cons (ps_try_named (tb := fun W => _) rfl rfl sc__law_floor.nd tk (fun W pn xe tkb pob => (pss_one (ps_set (i := 1) sc__law_floor.nd rfl (by first | exact Or.inl rfl | exact Or.inr rfl) (pe_makeS T.M_Floor (ok_Floor___init__ T) (hr.mono (by decide)) (by rfl) T.g_Floor (b_Floor___init__ T) (fun σ => passAt tkb σ) (pa_cons (pv 0) pa_nil))))) (Clauses.cons (c := .ref T.a_BowlError) (i := 3) ⟨rfl, by decide, .inl T.g_BowlError⟩ rfl rfl (fun a ob cls d pn hz hf => (pss_cons (ps_set (i := 2) sc__law_floor.nd rfl (by first | exact Or.inl rfl | exact Or.inr rfl) (pe_tup (pa_cons pe_str (pa_cons pe_int (pa_cons pe_bl pa_nil)))))
      (pss_cons (ps_if (PW.pt (pw_and (pt_val (pe_callB (call_isEx hz hf) (by rfl) T.z_isinstance PyProof.Rows.boot_isinstance (pa_cons (pv 3) (pa_cons (pe_glob (v := .ref T.a_TooFar) (by rfl) T.g_TooFar rfl) pa_nil)))) (pw_and1 (pt_not (pt_val (pe_callB (call_isEx hz hf) (by rfl) T.z_isinstance PyProof.Rows.boot_isinstance (pa_cons (pv 3) (pa_cons (pe_glob (v := .ref T.a_OnLine) (by rfl) T.g_OnLine rfl) pa_nil)))))))) (pss_one (ps_set (i := 2) sc__law_floor.nd rfl (by first | exact Or.inl rfl | exact Or.inr rfl) (pe_tup (pa_cons pe_str (pa_cons (pe_xf (T.X_TooFar).xf (T.X_TooFar).nf hz hf (pv 3)) (pa_cons (pe_callB (call_isEx hz hf) (by rfl) T.z_isinstance PyProof.Rows.boot_isinstance (pa_cons (pv 3) (pa_cons (pe_bltn (v := .ty "ValueError") (by rfl) T.z_ValueError PyProof.Rows.Boot.«ValueError» rfl) pa_nil))) pa_nil)))))) pss_nil)
      (pss_one (ps_if (PW.pt (pw_and (pt_val (pe_callB (call_isEx hz hf) (by rfl) T.z_isinstance PyProof.Rows.boot_isinstance (pa_cons (pv 3) (pa_cons (pe_glob (v := .ref T.a_OnLine) (by rfl) T.g_OnLine rfl) pa_nil)))) (pw_and1 (pt_not (pt_val (pe_callB (call_isEx hz hf) (by rfl) T.z_isinstance PyProof.Rows.boot_isinstance (pa_cons (pv 3) (pa_cons (pe_glob (v := .ref T.a_TooFar) (by rfl) T.g_TooFar rfl) pa_nil)))))))) (pss_one (ps_set (i := 2) sc__law_floor.nd rfl (by first | exact Or.inl rfl | exact Or.inr rfl) (pe_tup (pa_cons pe_str (pa_cons (pe_xf (T.X_OnLine).xf (T.X_OnLine).nf hz hf (pv 3)) (pa_cons (pe_callB (call_isEx hz hf) (by rfl) T.z_isinstance PyProof.Rows.boot_isinstance (pa_cons (pv 3) (pa_cons (pe_bltn (v := .ty "ValueError") (by rfl) T.z_ValueError PyProof.Rows.Boot.«ValueError» rfl) pa_nil))) pa_nil)))))) pss_nil))))) Clauses.nil))
      (pss_one (ps_ret (pe_tup (pa_cons (pv 1) (pa_cons (pv 2) pa_nil)))))))), ?_⟩
  obtain ⟨b, pts⟩ := a
  obtain ⟨h3, hl⟩ := hd
  simp only at h3 hl
  let W0 : WX := fun cls d _ H => E cls d H
  let ps0 : Kn := [some (dv K (sq b (pts.map pD))), some (dv K .none), some (dv K .none), none]
  have mk : ∀ W' : WX, JE K T.M W' _ ps0 (outO K T.a_Floor (floorE pts) (.tuple (pts.map pD))) := fun W' => mk_floor T (ja_cons (je_var (i := 0) rfl) ja_nil)
  have ho : out__law_floor T (b, pts) = .ok (madeP K T.a_Floor pts) := rfl
  rw [ho] at th
  unfold madeP at th
  cases hq : floorE pts with
  | none =>
    rw [hq] at th mk
    exact fin_ok (K := K) (M := T.M) (Ps := args__law_floor T (b, pts)) (r := .rt (tpP [ob1 K T.a_Floor "points" (.tuple (pts.map pD)), dv K .none])) (js_seq (js_set (i := 1) je_non) (js_seq (js_set (i := 2) je_non) (js_seq (js_try_ok (tb := tbF T) (r := .nx (ps0.set 1 (some (ob1 K T.a_Floor "points" (.tuple (pts.map pD)))))) (fun W' => js_set (mk W')) (fun _ q => nomatch q))
      (js_ret (je_tupP (ja_cons (je_var (i := 1) rfl) (ja_cons (je_var (i := 2) rfl) ja_nil)) (by show 2 ≤ 100000; decide)))))) (by exact rfl) fh al th
  | some e =>
    rw [hq] at th mk
    have hx : PySem.W.exmOne K (.ref (T.M e.c)) (.ref T.a_BowlError) = some true := by
      rcases floorE_two h3 hl hq with ⟨v, rfl⟩ | ⟨xs, rfl⟩
      · exact T.x_TooFar_BowlError
      · exact T.x_OnLine_BowlError
    refine fin_ok (K := K) (M := T.M) (Ps := args__law_floor T (b, pts)) (r := .rt (tpP [dv K .none, dv K (flawE e)])) (js_seq (js_set (i := 1) je_non) (js_seq (js_set (i := 2) je_non) (js_seq (js_try_erK (tb := tbF T) (rs := [some (dv K (sq b (pts.map pD))), some (dv K .none), some (dv K (flawE e)), none]) (fun W' => jse_set (mk W')) hx (fun xa dd => ?_))
      (js_ret (je_tupP (ja_cons (je_var (i := 1) rfl) (ja_cons (je_var (i := 2) rfl) ja_nil)) (by show 2 ≤ 100000; decide)))))) (by exact rfl) fh al th
    let psE : Er → Option PV → Kn := fun e x => [some (dv K (sq b (pts.map pD))), some (dv K .none), x, some (exv K xa dd e.c.fld e.val)]
    rcases floorE_two h3 hl hq with ⟨v, rfl⟩ | ⟨xs, rfl⟩
    · have isA : ∀ x : Option PV, JT K T.M (fun _ _ _ _ => False) (tB (tCB (rIsEx K xa (.ref T.a_TooFar) (some dd)) (tCons (tVar 3) (tCons (tC (.ref T.a_TooFar)) tNil)))) (psE ⟨.TooFar, .int v⟩ x) true := fun x => jt_B (je_isEx (je_var (i := 3) rfl) T.X_TooFar.ek (.own _) EB.kit_refl)
      have isB : ∀ x : Option PV, JT K T.M (fun _ _ _ _ => False) (tB (tCB (rIsEx K xa (.ref T.a_TooFar) (some dd)) (tCons (tVar 3) (tCons (tC (.ref T.a_OnLine)) tNil)))) (psE ⟨.TooFar, .int v⟩ x) false := fun x => jt_B (je_isEx (je_var (i := 3) rfl) T.X_TooFar.ek (.own _) T.k0_TooFar_OnLine)
      exact js_weak (js_seq (js_set (i := 2) (je_tup (ds := [.str "other", .int 0, .bool false]) (ja_cons je_str (ja_cons je_int (ja_cons je_bl ja_nil))))) (js_seq (js_if (b := true) (jt_is (jt_and (isA _) (fun _ => jt_not (isB _))) rfl) (fun _ => js_set (i := 2) (P := dv K (flawE ⟨.TooFar, .int v⟩)) (je_tup (ds := [.str "TooFar", .int v, .bool true]) (ja_cons je_str (ja_cons (je_xf (je_var (i := 3) rfl)) (ja_cons (je_isEx (je_var (i := 3) rfl) T.X_TooFar.ek (.ty _) T.k_TooFar_ValueError) ja_nil))))) (fun z => Bool.noConfusion z))
        (js_if (b := false) (jt_and (b := false) (isB _) (fun z => Bool.noConfusion z)) (fun z => Bool.noConfusion z) (fun _ => js_next)))) ⟨.inr rfl, .inr rfl, .inr rfl, .inl rfl, trivial⟩
    · have isA : ∀ x : Option PV, JT K T.M (fun _ _ _ _ => False) (tB (tCB (rIsEx K xa (.ref T.a_OnLine) (some dd)) (tCons (tVar 3) (tCons (tC (.ref T.a_OnLine)) tNil)))) (psE ⟨.OnLine, tupI xs⟩ x) true := fun x => jt_B (je_isEx (je_var (i := 3) rfl) T.X_OnLine.ek (.own _) EB.kit_refl)
      have isB : ∀ x : Option PV, JT K T.M (fun _ _ _ _ => False) (tB (tCB (rIsEx K xa (.ref T.a_OnLine) (some dd)) (tCons (tVar 3) (tCons (tC (.ref T.a_TooFar)) tNil)))) (psE ⟨.OnLine, tupI xs⟩ x) false := fun x => jt_B (je_isEx (je_var (i := 3) rfl) T.X_OnLine.ek (.own _) T.k0_OnLine_TooFar)
      exact js_weak (js_seq (js_set (i := 2) (je_tup (ds := [.str "other", .int 0, .bool false]) (ja_cons je_str (ja_cons je_int (ja_cons je_bl ja_nil))))) (js_seq (js_if (b := false) (jt_and (b := false) (isB _) (fun z => Bool.noConfusion z)) (fun z => Bool.noConfusion z) (fun _ => js_next))
        (js_if (b := true) (jt_is (jt_and (isA _) (fun _ => jt_not (isB _))) rfl) (fun _ => js_set (i := 2) (P := dv K (flawE ⟨.OnLine, tupI xs⟩)) (je_tup (ds := [.str "OnLine", tupI xs, .bool true]) (ja_cons je_str (ja_cons (je_xf (je_var (i := 3) rfl)) (ja_cons (je_isEx (je_var (i := 3) rfl) T.X_OnLine.ek (.ty _) T.k_OnLine_ValueError) ja_nil))))) (fun z => Bool.noConfusion z)))) ⟨.inr rfl, .inr rfl, .inr rfl, .inl rfl, trivial⟩
end K13

namespace K13
open PySem PySem.Spec PyProof.Rows L2 Evl EB
theorem onLine_eq {pts : List (Int × Int)} (hl : pts.length ≤ 10) : onLine pts = (rg 0 pts.length).findSome? fun a => (beh a pts.length).findSome? fun b => (beh b pts.length).findSome? fun c => lineOf pts [a, b, c] := by
  unfold onLine
  rw [subs3_eq _ (by omega), first_flat]
  congr 1
  funext a
  rw [first_flat]
  congr 1
  funext b
  rw [List.findSome?_map]
  rfl
theorem area_ppr (p r : Int × Int) : area p r p = 0 := by
  unfold area
  grind
theorem area_pqq (p q : Int × Int) : area p q q = 0 := by
  unfold area
  grind
theorem area_ppq (p q : Int × Int) : area p p q = 0 := by
  unfold area
  grind
theorem area_sw (p q r : Int × Int) : area q p r = -area p q r := by
  unfold area
  grind
theorem area_ro (p q r : Int × Int) : area q r p = area p q r := by
  unfold area
  grind
structure Gp (xs : List (Int × Int)) : Prop where
  nd : xs.Nodup
  ne : ∀ p q r, p ∈ xs → q ∈ xs → r ∈ xs → p ≠ q → r ≠ p → r ≠ q → area p q r ≠ 0
theorem mem_rg {lo x : Int} {m : Nat} (h1 : lo ≤ x) (h2 : x < lo + m) : x ∈ rg lo m := by
  unfold rg
  exact List.mem_map.mpr ⟨(x - lo).toNat, List.mem_range.mpr (by omega), by omega⟩
theorem pt_nat {pts : List (Int × Int)} {i : Nat} (h : i < pts.length) : pt pts (i : Int) = pts[i] := by
  unfold pt
  simp [h]
theorem pt_mem {pts : List (Int × Int)} {i : Int} (h : 0 ≤ i ∧ i < pts.length) : pt pts i ∈ pts := by
  obtain ⟨j, rfl⟩ := Int.eq_ofNat_of_zero_le h.1
  rw [pt_nat (by omega)]
  exact List.getElem_mem _
/-- what no line through three says of the numbers -/
theorem asc_of {pts : List (Int × Int)} (h : onLine pts = none) (hl : pts.length ≤ 10) : ∀ i j k : Nat, i < j → j < k → (hk : k < pts.length) → area (pt pts i) (pt pts j) (pt pts k) ≠ 0 := fun i j k h1 h2 h3 z => by
  rw [onLine_eq hl] at h
  have a1 := List.findSome?_eq_none_iff.mp h i (mem_rg (by omega) (by omega))
  have a2 := List.findSome?_eq_none_iff.mp a1 j (mem_rg (by omega) (by omega))
  have a3 := List.findSome?_eq_none_iff.mp a2 k (mem_rg (by omega) (by omega))
  unfold lineOf at a3
  dsimp only at a3
  rw [if_pos z] at a3
  cases a3
theorem asc_to {pts : List (Int × Int)} (hl : pts.length ≤ 10) (h : ∀ i j k : Nat, i < j → j < k → k < pts.length → area (pt pts i) (pt pts j) (pt pts k) ≠ 0) : onLine pts = none := by
  rw [onLine_eq hl]
  refine List.findSome?_eq_none_iff.mpr fun a ha => List.findSome?_eq_none_iff.mpr fun b hb => List.findSome?_eq_none_iff.mpr fun c hc => ?_
  have ha2 := rg_mem ha
  have hb2 := rg_mem hb
  have hc2 := rg_mem hc
  obtain ⟨i, rfl⟩ := Int.eq_ofNat_of_zero_le (by omega : (0:Int) ≤ a)
  obtain ⟨j, rfl⟩ := Int.eq_ofNat_of_zero_le (by omega : (0:Int) ≤ b)
  obtain ⟨k, rfl⟩ := Int.eq_ofNat_of_zero_le (by omega : (0:Int) ≤ c)
  unfold lineOf
  dsimp only
  exact if_neg (h i j k (by omega) (by omega) (by omega))
/-- any three numbers that are different -/
theorem any_of {pts : List (Int × Int)} (h : ∀ i j k : Nat, i < j → j < k → k < pts.length → area (pt pts i) (pt pts j) (pt pts k) ≠ 0) : ∀ i j k : Nat, i < pts.length → j < pts.length → k < pts.length → i ≠ j → k ≠ i → k ≠ j → area (pt pts i) (pt pts j) (pt pts k) ≠ 0 := fun i j k hi hj hk h1 h2 h3 => by
  have sw := area_sw
  have ro := area_ro
  rcases Nat.lt_or_gt_of_ne h1 with a | a <;> rcases Nat.lt_or_gt_of_ne h2 with b | b <;> rcases Nat.lt_or_gt_of_ne h3 with c | c
  · rw [← ro]; rw [← ro]; exact h k i j b a hj
  · omega
  · have := h i k j (by omega) (by omega) hj
    have e := sw (pt pts i) (pt pts k) (pt pts j)
    have e2 := ro (pt pts i) (pt pts j) (pt pts k)
    have e3 := ro (pt pts j) (pt pts k) (pt pts i)
    omega
  · exact h i j k a c hk
  · have := h k j i c a hi
    have e := sw (pt pts k) (pt pts j) (pt pts i)
    have e2 := ro (pt pts i) (pt pts j) (pt pts k)
    have e3 := ro (pt pts j) (pt pts k) (pt pts i)
    omega
  · have := h j k i (by omega) (by omega) hi
    have e2 := ro (pt pts i) (pt pts j) (pt pts k)
    omega
  · omega
  · have := h j i k a (by omega) hk
    have e := sw (pt pts j) (pt pts i) (pt pts k)
    omega
theorem third {n i j : Nat} (h : 3 ≤ n) : ∃ k, k < n ∧ k ≠ i ∧ k ≠ j := by
  by_cases h0 : i = 0 ∨ j = 0
  · by_cases h1 : i = 1 ∨ j = 1
    · exact ⟨2, by omega, by omega, by omega⟩
    · exact ⟨1, by omega, by omega, by omega⟩
  · exact ⟨0, by omega, by omega, by omega⟩
theorem gp_of {pts : List (Int × Int)} (h : onLine pts = none) (hl : pts.length ≤ 10) (h3 : 3 ≤ pts.length) : Gp pts := by
  have key := any_of (asc_of h hl)
  have inj : ∀ i j : Nat, (hi : i < pts.length) → (hj : j < pts.length) → i ≠ j → pts[i] ≠ pts[j] := fun i j hi hj ne e => by
    obtain ⟨k, hk, k1, k2⟩ := third (n := pts.length) (i := i) (j := j) h3
    have := key i j k hi hj hk ne k1 k2
    rw [pt_nat hi, pt_nat hj, e, area_ppq] at this
    exact this rfl
  refine ⟨List.nodup_iff_pairwise_ne.mpr (List.pairwise_iff_getElem.mpr fun i j hi hj hij => inj i j hi hj (by omega)), fun p q r hp hq hr h1 h2 h4 => ?_⟩
  obtain ⟨i, hi, rfl⟩ := List.getElem_of_mem hp
  obtain ⟨j, hj, rfl⟩ := List.getElem_of_mem hq
  obtain ⟨k, hk, rfl⟩ := List.getElem_of_mem hr
  have := key i j k hi hj hk (fun z => h1 (by subst z; rfl)) (fun z => h2 (by subst z; rfl)) (fun z => h4 (by subst z; rfl))
  rw [pt_nat hi, pt_nat hj, pt_nat hk] at this
  exact this
theorem gp_to {pts : List (Int × Int)} (g : Gp pts) (hl : pts.length ≤ 10) : onLine pts = none := by
  refine asc_to hl fun i j k h1 h2 h3 => ?_
  have inj : ∀ i j : Nat, (hi : i < pts.length) → (hj : j < pts.length) → i < j → pts[i] ≠ pts[j] := fun i j hi hj ij => List.pairwise_iff_getElem.mp (List.nodup_iff_pairwise_ne.mp g.nd) i j hi hj ij
  rw [pt_nat (by omega), pt_nat (by omega), pt_nat h3]
  exact g.ne _ _ _ (List.getElem_mem _) (List.getElem_mem _) (List.getElem_mem _) (inj i j (by omega) (by omega) h1) (fun z => inj i k (by omega) h3 (by omega) z.symm) (fun z => inj j k (by omega) h3 h2 z.symm)
/-! ### the rim of drawn points -/
abbrev AR (pts : List (Int × Int)) (a b c : Nat) : Int := area (pt pts (a : Int)) (pt pts (b : Int)) (pt pts (c : Int))
def arB (pts : List (Int × Int)) (x : List Int) (d : Nat) : Bool := match x with
  | [u, v, z] => (decide (0 < area (pt pts u) (pt pts v) (pt pts d)) == decide (0 < area (pt pts v) (pt pts z) (pt pts d))) && (decide (0 < area (pt pts v) (pt pts z) (pt pts d)) == decide (0 < area (pt pts z) (pt pts u) (pt pts d)))
  | _ => false
def innB (pts : List (Int × Int)) (d : Nat) : Bool := (subsL pts.length 3).any fun x => !x.contains (d : Int) && arB pts x d
def ahB (pts : List (Int × Int)) (a b : Nat) : Bool := !((List.range pts.length).any fun c => decide (c ≠ a) && decide (c ≠ b) && decide (AR pts a b c < 0)) && decide (a ≠ b)
def dueN (pts : List (Int × Int)) : List Nat := (List.range pts.length).filter fun d => !innB pts d
def stN (pts : List (Int × Int)) (a : Nat) : List Nat := (List.range pts.length).filter (ahB pts a)
def nxN (pts : List (Int × Int)) (a : Nat) : Nat := (stN pts a).headD 0
def wN (pts : List (Int × Int)) : Nat → Nat
  | 0 => (dueN pts).headD 0
  | i + 1 => nxN pts (wN pts i)
def flB (pts : List (Int × Int)) (a b : Nat) : Bool := decide (a ≠ b) && (leftN pts b a).isEmpty
structure Ok3 (pts : List (Int × Int)) : Prop where
  l3 : 3 ≤ pts.length
  l10 : pts.length ≤ 10
  nr : ∀ p ∈ pts, near p
  pl : RM.Pl pts.length (AR pts)
theorem pl_p4 (p q r s : Int × Int) : area q r s - area p r s + area p q s - area p q r = 0 := by
  unfold area
  grind
theorem pl_p5 (p q r s t : Int × Int) : area p q r * area p s t - area p q s * area p r t + area p q t * area p r s = 0 := by
  unfold area
  grind
theorem ok3_of {pts : List (Int × Int)} (h3 : 3 ≤ pts.length) (hl : pts.length ≤ 10) (h : floorE pts = none) : Ok3 pts := by
  rw [floorE_in h3 hl] at h
  have hb : badPts pts = none := by
    cases q : badPts pts with
    | none => rfl
    | some e => rw [q] at h; cases h
  rw [hb] at h
  have h : onLine pts = none := h
  have key := any_of (asc_of h hl)
  exact ⟨h3, hl, near_of hb, fun a b c => area_ro _ _ _, fun a b c => area_sw _ _ _, fun a b c ha hb hc h1 h2 h3 => key a b c ha hb hc h1 (fun z => h2 z.symm) (fun z => h3 z.symm), fun a b c d => pl_p4 _ _ _ _, fun a b c d e => pl_p5 _ _ _ _ _⟩
theorem rev_ok {pts : List (Int × Int)} (h3 : 3 ≤ pts.length) (hl : pts.length ≤ 10) (h : floorE pts = none) : floorE pts.reverse = none := by
  have l2 : pts.reverse.length = pts.length := List.length_reverse
  rw [floorE_in h3 hl] at h
  rw [floorE_in (by omega) (by omega)]
  have hb : badPts pts = none := by
    cases q : badPts pts with
    | none => rfl
    | some e => rw [q] at h; cases h
  rw [hb] at h
  have h : onLine pts = none := h
  have hb2 : badPts pts.reverse = none := List.findSome?_eq_none_iff.mpr fun p hp => List.findSome?_eq_none_iff.mp hb p (List.mem_reverse.mp hp)
  have g := gp_of h hl h3
  have g2 : Gp pts.reverse := ⟨g.nd.perm (List.reverse_perm pts).symm, fun p q r hp hq hr => g.ne p q r (List.mem_reverse.mp hp) (List.mem_reverse.mp hq) (List.mem_reverse.mp hr)⟩
  rw [hb2, gp_to g2 (by omega)]
  rfl
/-! what the tests say -/
section
variable {pts : List (Int × Int)}
theorem mem_subs {n : Nat} (hn : n ≤ 10) {u v z : Nat} (h1 : u < v) (h2 : v < z) (h3 : z < n) : [(u : Int), (v : Int), (z : Int)] ∈ subsL n 3 := by
  rw [subs3_eq n (by omega)]
  refine List.mem_flatMap.mpr ⟨u, mem_rg (by omega) (by omega), List.mem_flatMap.mpr ⟨v, mem_rg (by omega) (by omega), List.mem_map.mpr ⟨z, mem_rg (by omega) (by omega), rfl⟩⟩⟩
theorem of_subs {n : Nat} (hn : n ≤ 10) {x : List Int} (h : x ∈ subsL n 3) : ∃ u v z : Nat, x = [(u : Int), (v : Int), (z : Int)] ∧ u < v ∧ v < z ∧ z < n := by
  rw [subs3_eq n (by omega)] at h
  obtain ⟨a, ha, h⟩ := List.mem_flatMap.mp h
  obtain ⟨b, hb, h⟩ := List.mem_flatMap.mp h
  obtain ⟨c, hc, rfl⟩ := List.mem_map.mp h
  have a1 := rg_mem ha
  have b1 := rg_mem hb
  have c1 := rg_mem hc
  obtain ⟨u, rfl⟩ := Int.eq_ofNat_of_zero_le (show 0 ≤ a by omega)
  obtain ⟨v, rfl⟩ := Int.eq_ofNat_of_zero_le (show 0 ≤ b by omega)
  obtain ⟨z, rfl⟩ := Int.eq_ofNat_of_zero_le (show 0 ≤ c by omega)
  exact ⟨u, v, z, rfl, by omega, by omega, by omega⟩
theorem arB_nat (u v z d : Nat) : arB pts [(u : Int), (v : Int), (z : Int)] d = ((decide (0 < AR pts u v d) == decide (0 < AR pts v z d)) && (decide (0 < AR pts v z d) == decide (0 < AR pts z u d))) := rfl
theorem inn_of (k : Ok3 pts) {d : Nat} (hd : d < pts.length) (h : innB pts d = true) : RM.Inn pts.length (AR pts) d := by
  obtain ⟨x, hx, hb⟩ := List.any_eq_true.mp h
  obtain ⟨u, v, z, rfl, h1, h2, h3⟩ := of_subs k.l10 hx
  obtain ⟨hn, ha⟩ := Bool.and_eq_true_iff.mp hb
  rw [arB_nat] at ha
  have nd : u ≠ d ∧ v ≠ d ∧ z ≠ d := by
    refine ⟨fun e => ?_, fun e => ?_, fun e => ?_⟩ <;> subst e <;> simp at hn
  have n1 := k.pl.ne u v d (by omega) (by omega) hd (by omega) nd.1 nd.2.1
  have n2 := k.pl.ne v z d (by omega) (by omega) hd (by omega) nd.2.1 nd.2.2
  have n3 := k.pl.ne z u d (by omega) (by omega) hd (by omega) nd.2.2 nd.1
  have c1 := k.pl.cy d u v
  have c2 := k.pl.cy d v z
  have c3 := k.pl.cy d z u
  have e1 := k.pl.a2 d u v
  have e2 := k.pl.a2 d v z
  have e3 := k.pl.a2 d z u
  by_cases p1 : 0 < AR pts u v d
  · have p2 : 0 < AR pts v z d := by
      by_cases q : 0 < AR pts v z d
      · exact q
      · rw [decide_eq_true p1, decide_eq_false q] at ha
        cases ha
    have p3 : 0 < AR pts z u d := by
      by_cases q : 0 < AR pts z u d
      · exact q
      · rw [decide_eq_true p1, decide_eq_true p2, decide_eq_false q] at ha
        cases ha
    exact ⟨u, v, z, by omega, by omega, by omega, nd.1, nd.2.1, nd.2.2, by omega, by omega, by omega⟩
  · have p2 : ¬ 0 < AR pts v z d := fun q => by
      rw [decide_eq_false p1, decide_eq_true q] at ha
      cases ha
    have p3 : ¬ 0 < AR pts z u d := fun q => by
      rw [decide_eq_false p1, decide_eq_false p2, decide_eq_true q] at ha
      cases ha
    exact ⟨v, u, z, by omega, by omega, by omega, nd.2.1, nd.1, nd.2.2, by omega, by omega, by omega⟩
theorem inn_to (k : Ok3 pts) {d : Nat} (hd : d < pts.length) (h : RM.Inn pts.length (AR pts) d) : innB pts d = true := by
  have key : ∀ q r s : Nat, q < r → q < s → r < pts.length → s < pts.length → q ≠ d → r ≠ d → s ≠ d → 0 < AR pts d q r → 0 < AR pts d r s → 0 < AR pts d s q → innB pts d = true := by
    intro q r s qr qs hr hs nq nr ns h1 h2 h3
    have rs : r ≠ s := fun z => by
      subst z
      have := k.pl.z2 d r
      omega
    have c1 := k.pl.cy d q r
    have c2 := k.pl.cy d r s
    have c3 := k.pl.cy d s q
    have c4 := k.pl.cy d q s
    have c5 := k.pl.cy d s r
    have c6 := k.pl.cy d r q
    have e1 := k.pl.a2 d q r
    have e2 := k.pl.a2 d r s
    have e3 := k.pl.a2 d s q
    rcases Nat.lt_or_gt_of_ne rs with y | y
    · refine List.any_eq_true.mpr ⟨_, mem_subs k.l10 qr y hs, Bool.and_eq_true_iff.mpr ⟨?_, ?_⟩⟩
      · simp
        omega
      · rw [arB_nat, decide_eq_true (show 0 < AR pts q r d by omega), decide_eq_true (show 0 < AR pts r s d by omega), decide_eq_true (show 0 < AR pts s q d by omega)]
        rfl
    · refine List.any_eq_true.mpr ⟨_, mem_subs k.l10 qs y hr, Bool.and_eq_true_iff.mpr ⟨?_, ?_⟩⟩
      · simp
        omega
      · rw [arB_nat, decide_eq_false (show ¬ 0 < AR pts q s d by omega), decide_eq_false (show ¬ 0 < AR pts s r d by omega), decide_eq_false (show ¬ 0 < AR pts r q d by omega)]
        rfl
  obtain ⟨q, r, s, hq, hr, hs, nq, nr, ns, h1, h2, h3⟩ := h
  have qr : q ≠ r := fun z => by
    subst z
    have := k.pl.z2 d q
    omega
  have rs : r ≠ s := fun z => by
    subst z
    have := k.pl.z2 d r
    omega
  have sq' : s ≠ q := fun z => by
    subst z
    have := k.pl.z2 d s
    omega
  by_cases a : q < r ∧ q < s
  · exact key q r s a.1 a.2 hr hs nq nr ns h1 h2 h3
  · by_cases b : r < s ∧ r < q
    · exact key r s q b.1 b.2 hs hq nr ns nq h2 h3 h1
    · exact key s q r (by omega) (by omega) hq hr ns nq nr h3 h1 h2
theorem ah_iff (k : Ok3 pts) {a b : Nat} (ha : a < pts.length) (hb : b < pts.length) : ahB pts a b = true ↔ RM.Fol pts.length (AR pts) a b := by
  unfold ahB
  rw [Bool.and_eq_true, Bool.not_eq_true', decide_eq_true_eq, List.any_eq_false]
  constructor
  · rintro ⟨h1, h2⟩
    refine ⟨hb, h2, fun c hc ca cb => ?_⟩
    have := h1 c (List.mem_range.mpr hc)
    rw [decide_eq_true ca, decide_eq_true cb] at this
    have n0 := k.pl.ne a b c ha hb hc h2 (fun z => ca z.symm) (fun z => cb z.symm)
    have : ¬ AR pts a b c < 0 := fun z => this (by rw [decide_eq_true z]; rfl)
    omega
  · rintro ⟨_, h2, h3⟩
    refine ⟨fun c hc h => ?_, h2⟩
    simp only [Bool.and_eq_true, decide_eq_true_eq] at h
    have := h3 c (List.mem_range.mp hc) h.1.1 h.1.2
    omega
theorem fl_iff (k : Ok3 pts) {a b : Nat} (ha : a < pts.length) (hb : b < pts.length) : flB pts a b = true ↔ RM.Fol pts.length (AR pts) a b := by
  unfold flB leftN
  rw [Bool.and_eq_true, decide_eq_true_eq, List.isEmpty_iff, List.filter_eq_nil_iff]
  constructor
  · rintro ⟨h2, h1⟩
    refine ⟨hb, h2, fun c hc ca cb => ?_⟩
    have := h1 c (List.mem_range.mpr hc)
    have n0 := k.pl.ne a b c ha hb hc h2 (fun z => ca z.symm) (fun z => cb z.symm)
    have e := k.pl.an a b c
    have : ¬ 0 < AR pts b a c := fun z => this (decide_eq_true z)
    omega
  · rintro ⟨_, h2, h3⟩
    refine ⟨h2, fun c hc h => ?_⟩
    have h : 0 < AR pts b a c := of_decide_eq_true h
    have e := k.pl.an a b c
    by_cases ca : c = a
    · subst ca
      have := k.pl.z2 b c
      omega
    by_cases cb : c = b
    · subst cb
      have := k.pl.z3 c a
      omega
    have := h3 c (List.mem_range.mp hc) ca cb
    omega
theorem filter_one {n : Nat} {p : Nat → Bool} {b : Nat} (hb : b < n) (h1 : p b = true) (h2 : ∀ c, c < n → p c = true → c = b) : (List.range n).filter p = [b] := by
  have nd : ((List.range n).filter p).Nodup := List.Pairwise.filter _ List.nodup_range
  have perm : ((List.range n).filter p).Perm [b] := (List.perm_ext_iff_of_nodup nd (List.nodup_cons.mpr ⟨by simp, List.nodup_nil⟩)).mpr fun c => by
    rw [List.mem_filter, List.mem_range, List.mem_singleton]
    constructor
    · rintro ⟨x, y⟩
      exact h2 c x y
    · rintro rfl
      exact ⟨hb, h1⟩
  exact List.perm_singleton.mp perm
theorem due_mem (k : Ok3 pts) (d : Nat) : d ∈ dueN pts ↔ d < pts.length ∧ ¬ RM.Inn pts.length (AR pts) d := by
  unfold dueN
  rw [List.mem_filter, List.mem_range, Bool.not_eq_true']
  constructor
  · rintro ⟨h1, h2⟩
    refine ⟨h1, fun z => ?_⟩
    rw [inn_to k h1 z] at h2
    cases h2
  · rintro ⟨h1, h2⟩
    refine ⟨h1, ?_⟩
    cases q : innB pts d with
    | false => rfl
    | true => exact (h2 (inn_of k h1 q)).elim
theorem st_one (k : Ok3 pts) {a : Nat} (h : a ∈ dueN pts) : stN pts a = [nxN pts a] ∧ RM.Fol pts.length (AR pts) a (nxN pts a) := by
  obtain ⟨ha, hi⟩ := (due_mem k a).mp h
  obtain ⟨b, hb⟩ := RM.fol_ex k.pl k.l3 ha hi
  have e : stN pts a = [b] := filter_one hb.1 ((ah_iff k ha hb.1).mpr hb) fun c hc hp => RM.fol_one k.pl ((ah_iff k ha hc).mp hp) hb
  have e2 : nxN pts a = b := by
    unfold nxN
    rw [e]
    rfl
  rw [e2]
  exact ⟨e, hb⟩
theorem fl_one (k : Ok3 pts) {a : Nat} (h : a ∈ dueN pts) : (List.range pts.length).filter (flB pts a) = [nxN pts a] := by
  obtain ⟨ha, _⟩ := (due_mem k a).mp h
  obtain ⟨_, hb⟩ := st_one k h
  exact filter_one hb.1 ((fl_iff k ha hb.1).mpr hb) fun c hc hp => RM.fol_one k.pl ((fl_iff k ha hc).mp hp) hb
theorem fl_none (k : Ok3 pts) {a : Nat} (ha : a < pts.length) (h : a ∉ dueN pts) : (List.range pts.length).filter (flB pts a) = [] := by
  refine List.filter_eq_nil_iff.mpr fun c hc hp => h ((due_mem k a).mpr ⟨ha, ?_⟩)
  exact RM.fol_corner k.pl ((fl_iff k ha (List.mem_range.mp hc)).mp hp)
/-- a point that is farthest to one side is no inner one -/
theorem side (p q r s : Int × Int) : area p r s * (q.1 - p.1) + area p s q * (r.1 - p.1) + area p q r * (s.1 - p.1) = 0 := by
  unfold area
  grind
theorem far_x (f : Nat → Int) : ∀ n : Nat, 0 < n → ∃ i, i < n ∧ ∀ j, j < n → f i ≤ f j
  | 0, h => absurd h (by decide)
  | 1, _ => ⟨0, by decide, fun j hj => by
    have : j = 0 := by omega
    subst this
    exact Int.le_refl _⟩
  | n + 2, _ => by
    obtain ⟨i, hi, h⟩ := far_x f (n + 1) (by omega)
    by_cases z : f i ≤ f (n + 1)
    · refine ⟨i, by omega, fun j hj => ?_⟩
      by_cases y : j = n + 1
      · subst y; exact z
      · exact h j (by omega)
    · refine ⟨n + 1, by omega, fun j hj => ?_⟩
      by_cases y : j = n + 1
      · subst y; exact Int.le_refl _
      · have := h j (by omega)
        omega
theorem due_ne (k : Ok3 pts) : ∃ d, d ∈ dueN pts := by
  obtain ⟨d, hd, h⟩ := far_x (fun i => (pt pts (i : Int)).1) pts.length (by have := k.l3; omega)
  refine ⟨d, (due_mem k d).mpr ⟨hd, ?_⟩⟩
  rintro ⟨q, r, s, hq, hr, hs, _, _, _, h1, h2, h3⟩
  have e := side (pt pts (d : Int)) (pt pts (q : Int)) (pt pts (r : Int)) (pt pts (s : Int))
  have x1 : (pt pts (d : Int)).1 ≤ (pt pts (q : Int)).1 := h q hq
  have x2 : (pt pts (d : Int)).1 ≤ (pt pts (r : Int)).1 := h r hr
  have x3 : (pt pts (d : Int)).1 ≤ (pt pts (s : Int)).1 := h s hs
  have m1 := Int.mul_nonneg (Int.le_of_lt h2) (show 0 ≤ (pt pts (q : Int)).1 - (pt pts (d : Int)).1 by omega)
  have m2 := Int.mul_nonneg (Int.le_of_lt h3) (show 0 ≤ (pt pts (r : Int)).1 - (pt pts (d : Int)).1 by omega)
  have m3 := Int.mul_nonneg (Int.le_of_lt h1) (show 0 ≤ (pt pts (s : Int)).1 - (pt pts (d : Int)).1 by omega)
  have z1 : area (pt pts (d : Int)) (pt pts (r : Int)) (pt pts (s : Int)) * ((pt pts (q : Int)).1 - (pt pts (d : Int)).1) = 0 := by
    have m1 : 0 ≤ area (pt pts (d : Int)) (pt pts (r : Int)) (pt pts (s : Int)) * ((pt pts (q : Int)).1 - (pt pts (d : Int)).1) := m1
    have m2 : 0 ≤ area (pt pts (d : Int)) (pt pts (s : Int)) (pt pts (q : Int)) * ((pt pts (r : Int)).1 - (pt pts (d : Int)).1) := m2
    have m3 : 0 ≤ area (pt pts (d : Int)) (pt pts (q : Int)) (pt pts (r : Int)) * ((pt pts (s : Int)).1 - (pt pts (d : Int)).1) := m3
    omega
  have z2 : area (pt pts (d : Int)) (pt pts (s : Int)) (pt pts (q : Int)) * ((pt pts (r : Int)).1 - (pt pts (d : Int)).1) = 0 := by
    have m1 : 0 ≤ area (pt pts (d : Int)) (pt pts (r : Int)) (pt pts (s : Int)) * ((pt pts (q : Int)).1 - (pt pts (d : Int)).1) := m1
    have m2 : 0 ≤ area (pt pts (d : Int)) (pt pts (s : Int)) (pt pts (q : Int)) * ((pt pts (r : Int)).1 - (pt pts (d : Int)).1) := m2
    have m3 : 0 ≤ area (pt pts (d : Int)) (pt pts (q : Int)) (pt pts (r : Int)) * ((pt pts (s : Int)).1 - (pt pts (d : Int)).1) := m3
    omega
  have y1 : (pt pts (q : Int)).1 - (pt pts (d : Int)).1 = 0 := by
    rcases Int.mul_eq_zero.mp z1 with y | y
    · have h2 : 0 < area (pt pts (d : Int)) (pt pts (r : Int)) (pt pts (s : Int)) := h2
      rw [y] at h2
      exact absurd h2 (by decide)
    · exact y
  have y2 : (pt pts (r : Int)).1 - (pt pts (d : Int)).1 = 0 := by
    rcases Int.mul_eq_zero.mp z2 with y | y
    · have h3 : 0 < area (pt pts (d : Int)) (pt pts (s : Int)) (pt pts (q : Int)) := h3
      rw [y] at h3
      exact absurd h3 (by decide)
    · exact y
  have h1 : 0 < area (pt pts (d : Int)) (pt pts (q : Int)) (pt pts (r : Int)) := h1
  unfold area at h1
  rw [y1, y2] at h1
  simp at h1
theorem w_zero (k : Ok3 pts) : wN pts 0 ∈ dueN pts := by
  obtain ⟨d, hd⟩ := due_ne k
  show (dueN pts).headD 0 ∈ dueN pts
  cases q : dueN pts with
  | nil => rw [q] at hd; cases hd
  | cons a r => exact List.mem_cons_self
theorem w_due (k : Ok3 pts) : ∀ i, wN pts i ∈ dueN pts
  | 0 => w_zero k
  | i + 1 => by
    obtain ⟨ha, _⟩ := (due_mem k _).mp (w_due k i)
    obtain ⟨_, hb⟩ := st_one k (w_due k i)
    exact (due_mem k _).mpr ⟨hb.1, RM.fol_corner2 k.pl ha hb⟩
theorem w_way (k : Ok3 pts) : RM.Way pts.length (AR pts) (wN pts) := ⟨((due_mem k _).mp (w_due k 0)).1, fun i => (st_one k (w_due k i)).2⟩
theorem due_nd : (dueN pts).Nodup := List.Pairwise.filter _ List.nodup_range
theorem due_up : (dueN pts).Pairwise (· < ·) := List.Pairwise.filter _ List.pairwise_lt_range
theorem around_all (k : Ok3 pts) : wN pts (dueN pts).length = wN pts 0 ∧ ((List.range (dueN pts).length).map (wN pts)).Nodup ∧ (∀ x, x ∈ dueN pts ↔ x ∈ (List.range (dueN pts).length).map (wN pts)) ∧ 3 ≤ (dueN pts).length :=
  RM.cycle k.pl k.l3 (w_way k) due_nd (due_mem k)
theorem due_perm (k : Ok3 pts) : (dueN pts).Perm ((List.range (dueN pts).length).map (wN pts)) := (List.perm_ext_iff_of_nodup due_nd (around_all k).2.1).mpr (around_all k).2.2.1
theorem due_le : (dueN pts).length ≤ pts.length := by
  have := List.length_filter_le (fun d => !innB pts d) (List.range pts.length)
  rw [List.length_range] at this
  exact this
theorem w_ne (k : Ok3 pts) {i : Nat} (h0 : 0 < i) (hi : i < (dueN pts).length) : wN pts i ≠ wN pts 0 := fun e => by
  have nd := (around_all k).2.1
  have := List.pairwise_iff_getElem.mp (List.nodup_iff_pairwise_ne.mp nd) 0 i (by rw [List.length_map, List.length_range]; omega) (by rw [List.length_map, List.length_range]; exact hi) h0
  rw [List.getElem_map, List.getElem_map, List.getElem_range, List.getElem_range] at this
  exact this e.symm
end
end K13

namespace K13
open PySem PySem.Spec PyProof.Rows L2 Evl EB
/-! ### inner points, steps, the way -/
def intN (l : List Nat) : List PyData := l.map fun c : Nat => .int (c : Int)
theorem rg_nat (n : Nat) : (rg 0 n).map PyData.int = (List.range n).map fun c : Nat => PyData.int (c : Int) := by
  unfold rg
  rw [List.map_map]
  apply List.map_congr_left
  intro c _
  show PyData.int (0 + (c : Int)) = _
  rw [Int.zero_add]
theorem intN_eq (l : List Nat) : intN l = (l.map fun c : Nat => (c : Int)).map PyData.int := by
  unfold intN
  rw [List.map_map]
  rfl
theorem ji_n {K : PySem.W.Frag} {M : EC → Addr} {W : WX} {ps : Kn} {te : TE} {n : Nat} (h : JD K M W te ps (.int n)) (hn : n ≤ 1000) : JI K M W (iRng1 (tCons te tNil)) ps ((List.range n).map fun c : Nat => PyData.int (c : Int)) := by
  rw [← rg_nat]
  exact ji_upto h hn
theorem je_n {K : PySem.W.Frag} {M : EC → Addr} {W : WX} {ps : Kn} {te : TE} {pts : List (Int × Int)} (h : JD K M W te ps (.list (pts.map pD))) : JD K M W (tCB (rLenS K) (tCons te tNil)) ps (.int pts.length) := je_is (je_lenL h) (by rw [List.length_map])
theorem first_if {α : Type} (p : α → Bool) : ∀ L : List α, (L.findSome? fun x => if p x = true then some () else none) = if L.any p = true then some () else none
  | [] => rfl
  | x :: r => by
    rw [List.findSome?_cons, List.any_cons, first_if p r]
    cases p x <;> rfl
/-- a loop that is left with d at the first x with p x -/
theorem js_any {K : PySem.W.Frag} {M : EC → Addr} {W : WX} {ps : Kn} {vs : List Nat} {wi : TI} {g : TG} {tb : TS} {α : Type} (L : List α) (enc : α → PyData) (p : α → Bool) (d : PyData) (hi : JI K M W wi ps (L.map enc))
    (hs : ∀ x ∈ L, ∃ qs, JG vs g ps (dv K (enc x)) qs ∧ JS K M W tb qs (cond (p x) (.rt (dv K d)) (.nx ps))) : JS K M W (tFor wi g tb) ps (cond (L.any p) (.rt (dv K d)) (.nx ps)) := by
  have key := js_first (M := M) (W := W) (ps := ps) (vs := vs) (wi := wi) (g := g) (tb := tb) L enc (fun x => if p x = true then some () else none) (fun _ => .ok (dv K d)) hi fun x hx => by
    obtain ⟨qs, h1, h2⟩ := hs x hx
    refine ⟨qs, h1, ?_⟩
    cases hp : p x with
    | true => rw [hp] at h2; exact h2
    | false => rw [hp] at h2; exact h2
  rw [first_if] at key
  cases ha : L.any p with
  | true => rw [ha] at key; exact key
  | false => rw [ha] at key; exact key
/-- .. and what stands behind it -/
theorem js_anyR {K : PySem.W.Frag} {M : EC → Addr} {W : WX} {ps : Kn} {vs : List Nat} {wi : TI} {g : TG} {tb tu : TS} {α : Type} (L : List α) (enc : α → PyData) (p : α → Bool) (d d2 : PyData) (hi : JI K M W wi ps (L.map enc))
    (hs : ∀ x ∈ L, ∃ qs, JG vs g ps (dv K (enc x)) qs ∧ JS K M W tb qs (cond (p x) (.rt (dv K d)) (.nx ps))) (h2 : L.any p = false → JS K M W tu ps (.rt (dv K d2))) : JS K M W (tSeq (tFor wi g tb) tu) ps (.rt (dv K (cond (L.any p) d d2))) := by
  have key := js_any (M := M) (W := W) L enc p d hi hs
  cases ha : L.any p with
  | true => rw [ha] at key; exact js_rt key
  | false => rw [ha] at key; exact js_seq key (h2 ha)
theorem js_seqC {K : PySem.W.Frag} {M : EC → Addr} {W : WX} {ps qs rs : Kn} {ts tu : TS} {b : Bool} {d : PyData} (h : JS K M W ts ps (.nx qs)) (h2 : JS K M W tu qs (cond b (.rt (dv K d)) (.nx rs))) (hq : qs.length = ps.length := by first | rfl | (simp; done)) : JS K M W (tSeq ts tu) ps (cond b (.rt (dv K d)) (.nx rs)) := js_seq h h2 hq
/-- if t: return d -/
theorem js_ifC {K : PySem.W.Frag} {M : EC → Addr} {W : WX} {ps qs : Kn} {t : TT} {te : TE} {b : Bool} {d : PyData} (h : JT K M W t ps b) (h1 : JD K M W te ps d) (w : Weak ps qs) : JS K M W (tIfS t (tRet te) tNext) ps (cond b (.rt (dv K d)) (.nx qs)) := by
  cases b with
  | true => exact js_if h (fun _ => js_ret h1) (fun z => Bool.noConfusion z)
  | false => exact js_if h (fun z => Bool.noConfusion z) (fun _ => js_weak js_next w)
def args__law_around {K : PySem.W.Frag} {mg : Str → Option Value} (T : Tx K mg) : List (Int × Int) × List Int × Nat → List PV := fun a => [dv K (.list (a.1.map pD)), dv K (tupI a.2.1), dv K (.int a.2.2)]
def dom__law_around : List (Int × Int) × List Int × Nat → Prop := fun a => a.1.length ≤ 10 ∧ (∀ p ∈ a.1, near p) ∧ a.2.1 ∈ subsL a.1.length 3 ∧ a.2.2 < a.1.length
def out__law_around {K : PySem.W.Frag} {mg : Str → Option Value} (T : Tx K mg) : List (Int × Int) × List Int × Nat → Out := fun a => .ok (dv K (.bool (arB a.1 a.2.1 a.2.2)))
theorem ok__law_around {P : Program} {w : World} {K : PySem.W.Frag} {mg : Str → Option Value} {base : Heap} (T : Tx K mg) : FnOk P w K mg base (L2.CX P w) 2 T.a__law_around T.fd__law_around ["points", "t", "d"] (Prm K T.M (args__law_around T) dom__law_around (out__law_around T)) := by
  refine T.F__law_around.okX sc__law_around (fun vs H Q E h => by obtain ⟨a, F, _, al, _⟩ := h; exact al.length) (fun cdv A outer s H vs Q E hr h => ?_)
  have tk : Takes (cxOf (L2.CX P w) P w K mg base N__law_around "_law_around" (defScope s__law_around) T.a__law_around cdv A outer s H E) (fun cls d _ H => E cls d H) := takes_of rfl rfl rfl rfl
  obtain ⟨a, F, fh, al, hd, th⟩ := h
  refine ⟨_, (pss_cons (ps_set (i := 3) sc__law_around.nd rfl (by first | exact Or.inl rfl | exact Or.inr rfl) (pe_cmpR op_gt (pe_callS (ok__law_area T) (hr.mono (by decide)) (by rfl) T.g__law_area T.F__law_area.kp (b__law_area T) (fun σ => passAt tk σ) (pa_cons (pe_ix ix_list (pv 0) (pe_ix ix_tup (pv 1) pe_int (fun _ _ => rfl)) (fun _ _ => rfl)) (pa_cons (pe_ix ix_list (pv 0) (pe_ix ix_tup (pv 1) pe_int (fun _ _ => rfl)) (fun _ _ => rfl)) (pa_cons (pe_ix ix_list (pv 0) (pv 2) (fun _ _ => rfl)) pa_nil)))) pe_int (nomark _)))
      (pss_cons (ps_set (i := 4) sc__law_around.nd rfl (by first | exact Or.inl rfl | exact Or.inr rfl) (pe_cmpR op_gt (pe_callS (ok__law_area T) (hr.mono (by decide)) (by rfl) T.g__law_area T.F__law_area.kp (b__law_area T) (fun σ => passAt tk σ) (pa_cons (pe_ix ix_list (pv 0) (pe_ix ix_tup (pv 1) pe_int (fun _ _ => rfl)) (fun _ _ => rfl)) (pa_cons (pe_ix ix_list (pv 0) (pe_ix ix_tup (pv 1) pe_int (fun _ _ => rfl)) (fun _ _ => rfl)) (pa_cons (pe_ix ix_list (pv 0) (pv 2) (fun _ _ => rfl)) pa_nil)))) pe_int (nomark _)))
      (pss_cons (ps_set (i := 5) sc__law_around.nd rfl (by first | exact Or.inl rfl | exact Or.inr rfl) (pe_cmpR op_gt (pe_callS (ok__law_area T) (hr.mono (by decide)) (by rfl) T.g__law_area T.F__law_area.kp (b__law_area T) (fun σ => passAt tk σ) (pa_cons (pe_ix ix_list (pv 0) (pe_ix ix_tup (pv 1) pe_int (fun _ _ => rfl)) (fun _ _ => rfl)) (pa_cons (pe_ix ix_list (pv 0) (pe_ix ix_tup (pv 1) pe_int (fun _ _ => rfl)) (fun _ _ => rfl)) (pa_cons (pe_ix ix_list (pv 0) (pv 2) (fun _ _ => rfl)) pa_nil)))) pe_int (nomark _)))
      (pss_one (ps_ret (pe_and (pe_cmpR op_eq (pv 3) (pv 4) (nomark _)) (pe_one (pe_cmpR op_eq (pv 4) (pv 5) (nomark _))))))))), ?_⟩
  obtain ⟨pts, x, d⟩ := a
  obtain ⟨hl, hnear, hx, hdl⟩ := hd
  simp only at hl hnear hx hdl
  obtain ⟨u, v, z, rfl, h1, h2, h3⟩ := subs_no hl hx
  let W0 : WX := fun cls d _ H => E cls d H
  let ps0 : Option PV → Option PV → Option PV → Kn := fun a b c => [some (dv K (.list (pts.map pD))), some (dv K (tupI [u, v, z])), some (dv K (.int d)), a, b, c]
  have hv : ∀ a b c, JD K T.M W0 (tVar 1) (ps0 a b c) (.tuple [.int u, .int v, .int z]) := fun a b c => je_var (i := 1) rfl
  have pu : ∀ a b c, JD K T.M W0 _ (ps0 a b c) (pD (pt pts u)) := fun a b c => je_ixL (je_var (i := 0) rfl) (je_ixT (hv a b c) (je_int (i := 0)) rfl) (at_pt h1)
  have pv : ∀ a b c, JD K T.M W0 _ (ps0 a b c) (pD (pt pts v)) := fun a b c => je_ixL (je_var (i := 0) rfl) (je_ixT (hv a b c) (je_int (i := 1)) rfl) (at_pt h2)
  have pz : ∀ a b c, JD K T.M W0 _ (ps0 a b c) (pD (pt pts z)) := fun a b c => je_ixL (je_var (i := 0) rfl) (je_ixT (hv a b c) (je_int (i := 2)) rfl) (at_pt h3)
  have pd : ∀ a b c, JD K T.M W0 _ (ps0 a b c) (pD (pt pts (d : Int))) := fun a b c => je_ixL (je_var (i := 0) rfl) (je_var (i := 2) rfl) (nat_pt hdl)
  have ar3 : ∀ {a b c : Option PV} {t1 t2 t3 : TE} {p q r : Int × Int}, near p → near q → near r → JD K T.M W0 t1 (ps0 a b c) (pD p) → JD K T.M W0 t2 (ps0 a b c) (pD q) → JD K T.M W0 t3 (ps0 a b c) (pD r) → JD K T.M W0 (tOp (rI0 fun i j => .bl (decide (j < i))) (tCallS (Prm K T.M (args__law_area T) dom__law_area (out__law_area T)) (WE W0) (tCons t1 (tCons t2 (tCons t3 tNil)))) (tC (.int 0))) (ps0 a b c) (.bool (decide (0 < area p q r))) :=
    fun n1 n2 n3 j1 j2 j3 => je_gt (je_call (args := args__law_area T) (dom := dom__law_area) (out := out__law_area T) (_, _, _) (ja_cons j1 (ja_cons j2 (ja_cons j3 ja_nil))) ⟨n1, n2, n3⟩) je_int
  have nn := near_pt hnear
  exact fin_ok (K := K) (M := T.M) (Ps := args__law_around T (pts, [u, v, z], d)) (r := .rt (dv K (.bool (arB pts [u, v, z] d)))) (js_seq (js_set (i := 3) (ar3 (nn _) (nn _) (nn _) (pu none none none) (pv none none none) (pd none none none))) (js_seq (js_set (i := 4) (ar3 (nn _) (nn _) (nn _) (pv _ none none) (pz _ none none) (pd _ none none))) (js_seq (js_set (i := 5) (ar3 (nn _) (nn _) (nn _) (pz _ _ none) (pu _ _ none) (pd _ _ none)))
    (js_ret (je_andV (je_eqB (je_var (i := 3) rfl) (je_var (i := 4) rfl)) (fun _ => je_eqB (je_var (i := 4) rfl) (je_var (i := 5) rfl))))))) (by exact rfl) fh al th
def args__law_inner {K : PySem.W.Frag} {mg : Str → Option Value} (T : Tx K mg) : List (Int × Int) × Nat → List PV := fun a => [dv K (.list (a.1.map pD)), dv K (.int a.2)]
def dom__law_inner : List (Int × Int) × Nat → Prop := fun a => a.1.length ≤ 10 ∧ (∀ p ∈ a.1, near p) ∧ a.2 < a.1.length
def out__law_inner {K : PySem.W.Frag} {mg : Str → Option Value} (T : Tx K mg) : List (Int × Int) × Nat → Out := fun a => .ok (dv K (.bool (innB a.1 a.2)))
def args__law_outer {K : PySem.W.Frag} {mg : Str → Option Value} (T : Tx K mg) : List (Int × Int) → List PV := fun a => [dv K (.list (a.map pD))]
def dom__law_outer : List (Int × Int) → Prop := fun a => a.length ≤ 10 ∧ (∀ p ∈ a, near p)
def out__law_outer {K : PySem.W.Frag} {mg : Str → Option Value} (T : Tx K mg) : List (Int × Int) → Out := fun a => .ok (dv K (.list (intN (dueN a))))
def args__law_ahead {K : PySem.W.Frag} {mg : Str → Option Value} (T : Tx K mg) : List (Int × Int) × Nat × Nat → List PV := fun a => [dv K (.list (a.1.map pD)), dv K (.int a.2.1), dv K (.int a.2.2)]
def dom__law_ahead : List (Int × Int) × Nat × Nat → Prop := fun a => a.1.length ≤ 10 ∧ (∀ p ∈ a.1, near p) ∧ a.2.1 < a.1.length ∧ a.2.2 < a.1.length
def out__law_ahead {K : PySem.W.Frag} {mg : Str → Option Value} (T : Tx K mg) : List (Int × Int) × Nat × Nat → Out := fun a => .ok (dv K (.bool (ahB a.1 a.2.1 a.2.2)))
theorem je_neN {K : PySem.W.Frag} {M : EC → Addr} {W : WX} {ps : Kn} {ta tb : TE} {i j : Nat} (ha : JD K M W ta ps (.int i)) (hb : JD K M W tb ps (.int j)) : JD K M W (tOp rNe ta tb) ps (.bool (decide (i ≠ j))) := je_is (je_neI ha hb) (by
  by_cases h : i = j
  · subst h
    simp
  · have : ¬ (i : Int) = (j : Int) := fun z => h (by omega)
    simp [h, this])
def args__law_steps {K : PySem.W.Frag} {mg : Str → Option Value} (T : Tx K mg) : List (Int × Int) × Nat → List PV := fun a => [dv K (.list (a.1.map pD)), dv K (.int a.2)]
def dom__law_steps : List (Int × Int) × Nat → Prop := fun a => a.1.length ≤ 10 ∧ (∀ p ∈ a.1, near p) ∧ a.2 < a.1.length
def out__law_steps {K : PySem.W.Frag} {mg : Str → Option Value} (T : Tx K mg) : List (Int × Int) × Nat → Out := fun a => .ok (dv K (.list (intN (stN a.1 a.2))))
/-- the way around, from its lowest number -/
def args__law_way {K : PySem.W.Frag} {mg : Str → Option Value} (T : Tx K mg) : List (Int × Int) → List PV := fun a => [dv K (.list (a.map pD)), dv K (.int (wN a 0))]
def dom__law_way : List (Int × Int) → Prop := fun a => Ok3 a
def wayN (pts : List (Int × Int)) : List Nat := (List.range (dueN pts).length).map (wN pts)
def out__law_way {K : PySem.W.Frag} {mg : Str → Option Value} (T : Tx K mg) : List (Int × Int) → Out := fun a => .ok (dv K (.list (intN (wayN a))))
theorem at_end {w : Nat → Nat} (j : Nat) : atI (intN ((List.range (j + 1)).map w)) (-1) = some (.int (w j : Int)) := by
  have : intN ((List.range (j + 1)).map w) = intN ((List.range j).map w) ++ [.int (w j : Int)] := by
    rw [List.range_succ, List.map_append]
    unfold intN
    rw [List.map_append]
    rfl
  rw [this]
  exact atI_last _ _
end K13

namespace K13
open PySem PySem.Spec PyProof.Rows L2 Evl EB
/-! ### fans -/
def pre (m i : Nat) : Nat := if i = 0 then m - 1 else i - 1
def fanL (s : Int × Int) (pts : List (Int × Int)) (way : List Nat) : List Int := (List.range way.length).map fun i => area s (pt pts (way.getD (pre way.length i) 0 : Nat)) (pt pts (way.getD i 0 : Nat))
theorem at_N1 {way : List Nat} {i : Nat} (h : i < way.length) : atI (intN way) (i : Int) = some (.int (way.getD i 0 : Nat)) := by
  refine atI_nat ?_
  unfold intN
  rw [List.getElem?_map, List.getElem?_eq_getElem h]
  simp [h]
theorem at_pre {way : List Nat} {i : Nat} (h : i < way.length) : atI (intN way) ((i : Int) - 1) = some (.int (way.getD (pre way.length i) 0 : Nat)) := by
  unfold pre
  by_cases z : i = 0
  · subst z
    rw [if_pos rfl]
    have hl : (intN way).length = way.length := by unfold intN; rw [List.length_map]
    unfold atI ixN
    rw [hl, if_neg (by omega), if_pos (by omega)]
    have e : (((0 : Nat) : Int) - 1 + (way.length : Nat)).toNat = way.length - 1 := by omega
    rw [e]
    have h2 : way.length - 1 < way.length := by omega
    show (intN way)[way.length - 1]? = _
    unfold intN
    rw [List.getElem?_map, List.getElem?_eq_getElem h2]
    simp [h2]
  · rw [if_neg z, show ((i : Nat) : Int) - 1 = ((i - 1 : Nat) : Int) by omega]
    exact at_N1 (by omega)
theorem pre_lt {m i : Nat} (h : i < m) : pre m i < m := by
  unfold pre
  by_cases z : i = 0
  · rw [if_pos z]; omega
  · rw [if_neg z]; omega
def args__law_fan {K : PySem.W.Frag} {mg : Str → Option Value} (T : Tx K mg) : (Int × Int) × List (Int × Int) × List Nat → List PV := fun a => [dv K (pD a.1), dv K (.list (a.2.1.map pD)), dv K (.list (intN a.2.2))]
def dom__law_fan : (Int × Int) × List (Int × Int) × List Nat → Prop := fun a => near a.1 ∧ (∀ p ∈ a.2.1, near p) ∧ a.2.2.length ≤ 10 ∧ ∀ x ∈ a.2.2, x < a.2.1.length
def out__law_fan {K : PySem.W.Frag} {mg : Str → Option Value} (T : Tx K mg) : (Int × Int) × List (Int × Int) × List Nat → Out := fun a => .ok (dv K (.list ((fanL a.1 a.2.1 a.2.2).map .int)))
theorem getD_mem {way : List Nat} {i : Nat} (h : i < way.length) : way.getD i 0 ∈ way := by
  have : way.getD i 0 = way[i] := by simp [h]
  rw [this]
  exact List.getElem_mem h
def args__law_fans {K : PySem.W.Frag} {mg : Str → Option Value} (T : Tx K mg) : List (Int × Int) × List Nat × Int → List PV := fun a => [dv K (.list (a.1.map pD)), dv K (.list (intN a.2.1)), dv K (.int a.2.2)]
def dom__law_fans : List (Int × Int) × List Nat × Int → Prop := fun a => 0 < a.2.2 ∧ (∀ p ∈ a.1, near p) ∧ (0 < a.2.1.length ∧ a.2.1.length ≤ 10) ∧ (∀ x ∈ a.2.1, x < a.1.length) ∧ ∀ p ∈ a.1, (∀ y ∈ fanL p a.1 a.2.1, 0 ≤ y) ∧ (fanL p a.1 a.2.1).sum = a.2.2
def out__law_fans {K : PySem.W.Frag} {mg : Str → Option Value} (T : Tx K mg) : List (Int × Int) × List Nat × Int → Out := fun a => .ok (dv K (.bool true))
theorem min_of : ∀ {l : List Int}, l ≠ [] → ∃ m, m ∈ l ∧ ∀ y ∈ l, m ≤ y
  | [], h => (h rfl).elim
  | [x], _ => ⟨x, List.mem_cons_self, fun y hy => by
    have := List.mem_singleton.mp hy
    omega⟩
  | x :: y :: r, _ => by
    obtain ⟨m, h1, h2⟩ := min_of (l := y :: r) (fun z => by cases z)
    by_cases z : x ≤ m
    · refine ⟨x, List.mem_cons_self, fun u hu => ?_⟩
      rcases List.mem_cons.mp hu with rfl | q
      · exact Int.le_refl _
      · have := h2 u q
        omega
    · refine ⟨m, List.mem_cons_of_mem _ h1, fun u hu => ?_⟩
      rcases List.mem_cons.mp hu with rfl | q
      · omega
      · exact h2 u q
/-! ### the program: followers, rim, corners, area -/
theorem badNos_two {n : Nat} {a b : Int} (ha : 0 ≤ a ∧ a < n) (hb : 0 ≤ b ∧ b < n) (h : b ≠ a) : badNos n [a, b] = none := by
  have na : isNo a n = true := by unfold isNo; simp [ha.1, ha.2]
  have nb : isNo b n = true := by unfold isNo; simp [hb.1, hb.2]
  unfold badNos
  show [0, 1].findSome? _ = none
  simp only [List.findSome?_cons, List.findSome?_nil]
  unfold badNo
  simp [na, nb, h]
theorem je_left {K : PySem.W.Frag} {mg : Str → Option Value} (T : Tx K mg) {W : WX} {ps : Kn} {te t1 t2 : TE} {pts : List (Int × Int)} {a b : Int} (h : JV K T.M W te ps (ob1 K T.a_Floor "points" (.tuple (pts.map pD)))) (h1 : JD K T.M W t1 ps (.int a)) (h2 : JD K T.M W t2 ps (.int b)) (hl : pts.length ≤ 10) (hn : ∀ p ∈ pts, near p) (hb : badNos pts.length [a, b] = none) :
    JD K T.M W (tMethW T.a_Floor "left_of" (Prm K T.M (args_Floor_left_of T) dom_Floor_left_of (out_Floor_left_of T)) (WE W) te (tCons t1 (tCons t2 tNil))) ps (leftD pts a b) := by
  have := je_meth (args := args_Floor_left_of T) (dom := dom_Floor_left_of) (out := out_Floor_left_of T) (C := T.a_Floor) (m := "left_of") (f := "points") (pts, a, b) h (by decide) _ (ja_cons h1 (ja_cons h2 ja_nil)) rfl ⟨hl, hn⟩
  have e : out_Floor_left_of T (pts, a, b) = .ok (dv K (leftD pts a b)) := by
    unfold out_Floor_left_of
    dsimp only
    rw [hb]
    rfl
  rw [e] at this
  exact this
theorem eqv_empty (l : List PyData) : PyData.eqv (.list l) (.list []) = l.isEmpty := by
  cases l <;> simp [PyData.eqv, PyData.eqvAll]
def esN (pts : List (Int × Int)) : List (Int × Int) := (dueN pts).map fun a : Nat => ((a : Int), (nxN pts a : Int))
theorem flat_if {α β : Type} (p : α → Bool) (f : α → β) : ∀ L : List α, (L.flatMap fun x => if p x = true then [f x] else []) = (L.filter p).map f
  | [] => rfl
  | x :: r => by
    rw [List.flatMap_cons, flat_if p f r, List.filter_cons]
    cases p x <;> rfl
theorem flatMap_congr2 {α β : Type} {f g : α → List β} : ∀ {L : List α}, (∀ x ∈ L, f x = g x) → L.flatMap f = L.flatMap g
  | [], _ => rfl
  | x :: r, h => by
    rw [List.flatMap_cons, List.flatMap_cons, h x List.mem_cons_self, flatMap_congr2 fun y hy => h y (List.mem_cons_of_mem _ hy)]
theorem es_eq {pts : List (Int × Int)} (k : Ok3 pts) : ((List.range pts.length).flatMap fun x : Nat => ((List.range pts.length).filter (flB pts x)).map fun y : Nat => ((x : Int), (y : Int))) = esN pts := by
  unfold esN dueN
  rw [← flat_if (fun d => !innB pts d) (fun a : Nat => ((a : Int), (nxN pts a : Int)))]
  refine flatMap_congr2 fun x hx => ?_
  have hl := List.mem_range.mp hx
  cases q : innB pts x with
  | true =>
    have : x ∉ dueN pts := fun z => by
      unfold dueN at z
      have := (List.mem_filter.mp z).2
      rw [q] at this
      cases this
    rw [fl_none k hl this]
    rfl
  | false =>
    have : x ∈ dueN pts := by
      unfold dueN
      refine List.mem_filter.mpr ⟨hx, ?_⟩
      rw [q] <;> rfl
    rw [fl_one k this]
    rfl
theorem es_keys (pts : List (Int × Int)) : (esN pts).map (·.1) = (dueN pts).map fun c : Nat => (c : Int) := by
  unfold esN
  rw [List.map_map]
  rfl
theorem cast_nd {l : List Nat} (h : l.Nodup) : (l.map fun c : Nat => (c : Int)).Nodup := by
  refine List.nodup_iff_pairwise_ne.mpr (List.pairwise_map.mpr (List.Pairwise.imp (fun {a b} q z => q ?_) (List.nodup_iff_pairwise_ne.mp h)))
  omega
theorem es_nd (pts : List (Int × Int)) : ((esN pts).map (·.1)).Nodup := by
  rw [es_keys]
  exact cast_nd due_nd
def args_followers {K : PySem.W.Frag} {mg : Str → Option Value} (T : Tx K mg) : List (Int × Int) → List PV := args_Floor___len__ T
def dom_followers : List (Int × Int) → Prop := Ok3
def out_followers {K : PySem.W.Frag} {mg : Str → Option Value} (T : Tx K mg) : List (Int × Int) → Out := fun a => .ok (mp (esN a))
theorem ok_ns {n : Nat} (l : List Nat) : Ok (.list (l.map fun c : Nat => .int (c : Int))) (n + 1) := ok_lst (n := n) fun d hd => by
  obtain ⟨i, _, rfl⟩ := List.mem_map.mp hd
  exact ok_int
theorem ok_followers {P : Program} {w : World} {K : PySem.W.Frag} {mg : Str → Option Value} {base : Heap} (T : Tx K mg) : FnOk P w K mg base (L2.CX P w) 6 T.a_followers T.fd_followers ["floor"] (Prm K T.M (args_followers T) dom_followers (out_followers T)) := by
  refine T.F_followers.okX sc_followers (fun vs H Q E h => by obtain ⟨a, F, _, al, _⟩ := h; exact al.length) (fun cdv A outer s H vs Q E hr h => ?_)
  have tk : Takes (cxOf (L2.CX P w) P w K mg base N_followers "followers" (defScope s_followers) T.a_followers cdv A outer s H E) (fun cls d _ H => E cls d H) := takes_of rfl rfl rfl rfl
  obtain ⟨a, F, fh, al, hd, th⟩ := h
  refine ⟨_, (pss_cons (ps_set (i := 1) sc_followers.nd rfl (by first | exact Or.inl rfl | exact Or.inr rfl) (pe_callB (call_lenOwn (ok_Floor___len__ T) (hr.mono (by decide)) T.m_Floor___len__.1 T.m_Floor___len__.2 (b_Floor___len__ T) passF) (by rfl) T.z_len PySem.boot_len (pa_cons (pv 0) pa_nil)))
      (pss_one (ps_ret (pe_dc2 (own := [("a", 2), ("b", 3)]) (ws := [3]) (g := (gName 2)) (tt := tYes) (wi1 := (iRng1 (tCons (tVar 1) tNil))) (g1 := (gName 3)) (tt1 := (tAnd (tTest (tOp rNe (tVar 2) (tVar 3))) (tTest (tOp (rEqD K) (tMethW T.a_Floor "left_of" (Prm K T.M (args_Floor_left_of T) dom_Floor_left_of (out_Floor_left_of T)) (WE fun _ _ _ _ => False) (tVar 0) (tCons (tVar 3) (tCons (tVar 2) tNil))) (tLst tNil))))) (tk := (tVar 2)) (tv := (tVar 3)) rfl sc_followers.nd (pi_range1 (by rfl) T.z_range (pa_cons (pv 1) pa_nil)) (blkOk_by (N := N_followers) (sc := defScope s_followers) (own := [("a", 2), ("b", 3)]) (by decide +kernel)) (by decide) (fun _ _ _ _ _ => (pg_name (i := 2) sc_followers.nd rfl (by first | exact Or.inl rfl | exact Or.inr rfl))) (fun _ _ _ _ _ => by exact pts_nil) (fun _ _ _ _ _ => by exact (pi_range1 (by rfl) T.z_range (pa_cons (pv 1) pa_nil))) (fun _ _ _ _ _ => (pg_name (i := 3) sc_followers.nd rfl (by first | exact Or.inl rfl | exact Or.inr rfl))) (fun _ _ _ _ _ => by exact pts_one (PW.pt (pw_and (pt_cmpR op_ne (pv 2) (pv 3) (nomark _)) (pw_and1 (pt_cmpR (op_eqD hr.units) (pe_methW (pv 0) T.C_Floor T.m_Floor_left_of (ok_Floor_left_of T) (hr.mono (by decide)) (b_Floor_left_of T) (fun σ => passAt takes0 σ) (pa_cons (pv 3) (pa_cons (pv 2) pa_nil))) (pe_lst pa_nil) (nomark _)))))) (fun _ _ _ _ _ => by exact (pv 2)) (fun _ _ _ _ _ => by exact (pv 3)))))), ?_⟩
  have k : Ok3 a := hd
  have hl := k.l10
  refine fin_ok (K := K) (M := T.M) (Ps := args_followers T a) (r := .rt (mp (esN a))) (js_seq (js_set (i := 1) (je_lenF T (je_var (i := 0) rfl) (by omega))) (js_ret ?_)) (by exact rfl) fh al th
  rw [← es_eq k]
  refine je_dc2 (W' := fun _ _ _ _ => False) (List.range a.length) (fun _ => List.range a.length) (fun c : Nat => .int (c : Int)) (fun c : Nat => .int (c : Int)) (flB a) (fun (x y : Nat) => ((x : Int), (y : Int))) (ji_n (je_var (i := 1) rfl) (by omega)) ?_ ?_ fun x hx => ⟨_, jg_name, jt_yes, ji_n (je_var (i := 1) rfl) (by omega), fun y hy => ⟨_, jg_name, ?_, fun _ => ⟨je_var (i := 2) rfl, je_var (i := 3) rfl⟩⟩⟩
  · rw [es_eq k]
    unfold esN
    rw [List.length_map]
    have := @due_le a
    omega
  · rw [es_eq k]
    exact es_nd a
  · have x1 := List.mem_range.mp hx
    have y1 := List.mem_range.mp hy
    refine jt_is (jt_and (b := (leftN a y x).isEmpty) (jt_test (je_neN (je_var (i := 2) rfl) (je_var (i := 3) rfl))) (fun hne => jt_is (jt_test (je_eqD (je_left T (je_var (i := 0) rfl) (je_var (i := 3) rfl) (je_var (i := 2) rfl) hl k.nr (badNos_two ⟨by omega, by omega⟩ ⟨by omega, by omega⟩ ?_)) (je_lst (ds := []) ja_nil) ((ok_ns (n := 0) _).sh (by decide)) ((ok_lst (n := 0) (ds := []) (fun d h => by cases h)).sh (by decide)))) ?_)) rfl
    · have := of_decide_eq_true hne
      omega
    · show PyData.eqv (.list ((leftN a y x).map fun c : Nat => .int (c : Int))) (.list []) = _
      rw [eqv_empty]
      cases leftN a y x <;> rfl
theorem min_due {pts : List (Int × Int)} (k : Ok3 pts) : ((wN pts 0 : Nat) : Int) ∈ (esN pts).map (·.1) ∧ ∀ y ∈ (esN pts).map (·.1), ((wN pts 0 : Nat) : Int) ≤ y := by
  rw [es_keys]
  refine ⟨List.mem_map.mpr ⟨_, w_zero k, rfl⟩, fun y hy => ?_⟩
  obtain ⟨c, hc, rfl⟩ := List.mem_map.mp hy
  have up := @due_up pts
  show (((dueN pts).headD 0 : Nat) : Int) ≤ _
  cases q : dueN pts with
  | nil => rw [q] at hc; cases hc
  | cons b r =>
    rw [q] at hc up
    rcases List.mem_cons.mp hc with rfl | z
    · exact Int.le_refl _
    · have := (List.pairwise_cons.mp up).1 c z
      show (b : Int) ≤ _
      omega
def args_rim {K : PySem.W.Frag} {mg : Str → Option Value} (T : Tx K mg) : List (Int × Int) → List PV := args_Floor___len__ T
def dom_rim : List (Int × Int) → Prop := Ok3
def out_rim : List (Int × Int) → List PyData := fun a => intN (wayN a)
theorem ok_rim {P : Program} {w : World} {K : PySem.W.Frag} {mg : Str → Option Value} {base : Heap} (T : Tx K mg) : FnOk P w K mg base (L2.CX P w) 7 T.a_rim T.fd_rim ["floor"] (PrmN K (args_rim T) dom_rim out_rim) := by
  refine T.F_rim.okX sc_rim (fun vs H Q E h => by obtain ⟨a, F, _, al, _⟩ := h; exact al.length) (fun cdv A outer s H vs Q E hr h => ?_)
  have tk : Takes (cxOf (L2.CX P w) P w K mg base N_rim "rim" (defScope s_rim) T.a_rim cdv A outer s H E) (fun cls d _ H => E cls d H) := takes_of rfl rfl rfl rfl
  obtain ⟨a, F, fh, al, hd, th⟩ := h
  refine ⟨_, (pss_cons (ps_set (i := 1) sc_rim.nd rfl (by first | exact Or.inl rfl | exact Or.inr rfl) (pe_callS (ok_followers T) (hr.mono (by decide)) (by rfl) T.g_followers T.F_followers.kp (b_followers T) (fun σ => passAt tk σ) (pa_cons (pv 0) pa_nil)))
      (pss_cons (ps_set (i := 2) sc_rim.nd rfl (by first | exact Or.inl rfl | exact Or.inr rfl) (pe_lst (pa_cons (pe_callB (cr_min rfl) (by rfl) T.z_min (by decide +kernel) (pa_cons (pe_callTy (call_list_dK rfl) (by rfl) T.z_list PyProof.Rows.boot_list (pa_cons (pv 1) pa_nil)) pa_nil)) pa_nil)))
      (pss_cons (ps_while (passes_of rfl) (pt_cmpR op_lt (pe_callB call_len_seq (by rfl) T.z_len PySem.boot_len (pa_cons (pv 2) pa_nil)) (pe_callB call_lenD1 (by rfl) T.z_len PySem.boot_len (pa_cons (pv 1) pa_nil)) (nomark _)) (pss_one (ps_expr (pe_bm PySem.F.plainAttrs_list PySem.F.slot_list_append PySem.F.type_list_append mt_append (pv 2) (pa_cons (pe_dget (hu_of hr) (pv 1) (pe_ix ix_list (pv 2) (pe_un un_neg pe_int) (fun _ _ => rfl)) (fun _ _ => rfl)) pa_nil)))))
      (pss_one (ps_ret (pv 2)))))), ?_⟩
  have k : Ok3 a := hd
  let W0 : WX := fun cls d _ H => E cls d H
  obtain ⟨c1, c2, c3, c4⟩ := around_all k
  have cle : (dueN a).length ≤ a.length := due_le
  have hl := k.l10
  have elen : (esN a).length = (dueN a).length := by unfold esN; rw [List.length_map]
  have e : (dueN a).length - 1 + 1 = (dueN a).length := by omega
  refine fin_neO (K := K) (M := T.M) (Ps := args_rim T a) (ds := intN (wayN a)) (jsn_seq (js_set (i := 1) (je_call (args := args_followers T) (dom := dom_followers) (out := out_followers T) a (ja_cons (je_var (i := 0) rfl) ja_nil) k)) (jsn_own (i := 2) (ds := [.int (wN a 0 : Int)]) (jn_lst (M := T.M) (W := W0) (ja_cons (je_minI (je_listM (je_var (i := 1) rfl)) (min_due k).1 (min_due k).2) ja_nil) (by show 1 ≤ 100000; decide)) fun D F1 H1 hD => jq_seq (jl_is (jl_while ((dueN a).length - 1) (fun j => intN ((List.range (j + 1)).map (wN a))) (i := 2) rfl rfl (fun j hj => jt_is (jt_test (je_lt (je_lenL (je_var (i := 2) rfl)) (je_lenM (je_var (i := 1) rfl)))) ?_) (fun j hj => ?_)) ?_) (jq_ret rfl hD))) fh al th
  · rw [elen]
    unfold intN
    rw [List.length_map, List.length_map, List.length_range]
    by_cases z : j < (dueN a).length - 1
    · rw [decide_eq_true z, decide_eq_true (by omega)]
    · rw [decide_eq_false z, decide_eq_false (by omega)]
  · refine jl_is (jl_appX (d := .int (wN a (j + 1) : Int)) rfl hD (jlx_ro (M := T.M) (W := W0) (i := 2) rfl (je_dget (es := esN a) (k := (wN a j : Int)) (je_var (i := 1) rfl) (je_ixL (je_var (i := 2) rfl) (je_neg je_int) (at_end j)) (es_nd a) (List.mem_map.mpr ⟨wN a j, w_due k j, rfl⟩)) (ro_dv rfl)) ?_) ?_
    · unfold intN
      rw [List.length_map, List.length_map, List.length_range]
      omega
    · rw [List.range_succ (n := j + 1), List.map_append]
      unfold intN
      rw [List.map_append]
      rfl
  · rw [e] <;> rfl
def args_corners {K : PySem.W.Frag} {mg : Str → Option Value} (T : Tx K mg) : List (Int × Int) → List PV := args_Floor___len__ T
def dom_corners : List (Int × Int) → Prop := Ok3
def out_corners : List (Int × Int) → List PyData := fun a => intN (dueN a)
theorem due_srt (pts : List (Int × Int)) : ((dueN pts).map fun c : Nat => (c : Int)).Pairwise (· ≤ ·) := List.pairwise_map.mpr (List.Pairwise.imp (fun {a b} h => by omega) due_up)
end K13

namespace K13
open PySem PySem.Spec PyProof.Rows L2 Evl EB
/-! ### the rim's area, fans around it -/
def rimA (pts : List (Int × Int)) : Int := ((List.range ((dueN pts).length - 2)).map fun i => AR pts (wN pts 0) (wN pts (1 + i)) (wN pts (2 + i))).sum
theorem at_way {pts : List (Int × Int)} {j : Nat} (h : j < (dueN pts).length) : atI (intN (wayN pts)) (j : Int) = some (.int (wN pts j : Nat)) := by
  refine atI_nat ?_
  unfold intN wayN
  rw [List.getElem?_map, List.getElem?_map, List.getElem?_range h]
  rfl
theorem badNos_three {n : Nat} {a b c : Int} (ha : 0 ≤ a ∧ a < n) (hb : 0 ≤ b ∧ b < n) (hc : 0 ≤ c ∧ c < n) (h : b ≠ a) (h2 : c ≠ a) (h3 : c ≠ b) : badNos n [a, b, c] = none := by
  have na : isNo a n = true := by unfold isNo; simp [ha.1, ha.2]
  have nb : isNo b n = true := by unfold isNo; simp [hb.1, hb.2]
  have nc : isNo c n = true := by unfold isNo; simp [hc.1, hc.2]
  unfold badNos
  show [0, 1, 2].findSome? _ = none
  simp only [List.findSome?_cons, List.findSome?_nil]
  unfold badNo
  simp [na, nb, nc, h, h2, h3]
theorem je_area {K : PySem.W.Frag} {mg : Str → Option Value} (T : Tx K mg) {W : WX} {ps : Kn} {te t1 t2 t3 : TE} {pts : List (Int × Int)} {a b c : Int} (h : JV K T.M W te ps (ob1 K T.a_Floor "points" (.tuple (pts.map pD)))) (h1 : JD K T.M W t1 ps (.int a)) (h2 : JD K T.M W t2 ps (.int b)) (h3 : JD K T.M W t3 ps (.int c)) (hl : pts.length ≤ 10) (hn : ∀ p ∈ pts, near p) (hb : badNos pts.length [a, b, c] = none) :
    JD K T.M W (tMethW T.a_Floor "area" (Prm K T.M (args_Floor_area T) dom_Floor_area (out_Floor_area T)) (WE W) te (tCons t1 (tCons t2 (tCons t3 tNil)))) ps (.int (area (pt pts a) (pt pts b) (pt pts c))) := by
  have := je_meth (args := args_Floor_area T) (dom := dom_Floor_area) (out := out_Floor_area T) (C := T.a_Floor) (m := "area") (f := "points") (pts, a, b, c) h (by decide) _ (ja_cons h1 (ja_cons h2 (ja_cons h3 ja_nil))) rfl ⟨hl, hn⟩
  have e : out_Floor_area T (pts, a, b, c) = .ok (dv K (.int (area (pt pts a) (pt pts b) (pt pts c)))) := by
    unfold out_Floor_area
    dsimp only
    rw [hb]
    rfl
  rw [e] at this
  exact this
theorem w_inj {pts : List (Int × Int)} (k : Ok3 pts) {i j : Nat} (hi : i < (dueN pts).length) (hj : j < (dueN pts).length) (h : i ≠ j) : wN pts i ≠ wN pts j := by
  have nd := (around_all k).2.1
  have key : ∀ i j : Nat, i < (dueN pts).length → j < (dueN pts).length → i < j → wN pts i ≠ wN pts j := fun i j hi hj hij => by
    have := List.pairwise_iff_getElem.mp (List.nodup_iff_pairwise_ne.mp nd) i j (by rw [List.length_map, List.length_range]; exact hi) (by rw [List.length_map, List.length_range]; exact hj) hij
    rw [List.getElem_map, List.getElem_map, List.getElem_range, List.getElem_range] at this
    exact this
  rcases Nat.lt_or_gt_of_ne h with z | z
  · exact key i j hi hj z
  · exact fun e => key j i hj hi z e.symm
def args_rim_area {K : PySem.W.Frag} {mg : Str → Option Value} (T : Tx K mg) : List (Int × Int) → List PV := args_Floor___len__ T
def dom_rim_area : List (Int × Int) → Prop := Ok3
def out_rim_area {K : PySem.W.Frag} {mg : Str → Option Value} (T : Tx K mg) : List (Int × Int) → Out := fun a => .ok (dv K (.int (rimA a)))
section
variable {pts : List (Int × Int)}
theorem rimA_Z (k : Ok3 pts) : rimA pts = KM.Z (dueN pts).length (fun i => AR pts (wN pts 0) (wN pts i) (wN pts (i + 1))) := by
  obtain ⟨c1, _, _, c4⟩ := around_all k
  obtain ⟨p, hp⟩ : ∃ p, (dueN pts).length = p + 2 := ⟨(dueN pts).length - 2, by omega⟩
  unfold rimA
  rw [hp] at c1 ⊢
  rw [KM.Z_front, KM.Z_succ]
  have z1 := k.pl.z1 (wN pts 0) (wN pts (0 + 1))
  have z3 := k.pl.z3 (wN pts 0) (wN pts (p + 1))
  have e : AR pts (wN pts 0) (wN pts (p + 1)) (wN pts (p + 1 + 1)) = 0 := by
    rw [show p + 1 + 1 = p + 2 from rfl, c1]
    exact z3
  rw [z1, e, show p + 2 - 2 = p by omega]
  have : KM.Z p (fun i => AR pts (wN pts 0) (wN pts (1 + i)) (wN pts (2 + i))) = KM.Z p (fun i => AR pts (wN pts 0) (wN pts (i + 1)) (wN pts (i + 1 + 1))) := KM.Z_congr fun i _ => by rw [show 1 + i = i + 1 by omega, show 2 + i = i + 1 + 1 by omega]
  show KM.Z p _ = _
  rw [this]
  omega
theorem seg_nn (k : Ok3 pts) {s : Nat} (hs : s < pts.length) (i : Nat) : 0 ≤ AR pts s (wN pts i) (wN pts (i + 1)) := by
  have f := (w_way k).2 i
  by_cases a : s = wN pts i
  · rw [← a, k.pl.z1]
    exact Int.le_refl _
  by_cases b : s = wN pts (i + 1)
  · rw [← b, k.pl.z3]
    exact Int.le_refl _
  have := f.2.2 s hs a b
  have e := k.pl.cy s (wN pts i) (wN pts (i + 1))
  omega
theorem Z_nn {f : Nat → Int} : ∀ n : Nat, (∀ i, i < n → 0 ≤ f i) → 0 ≤ KM.Z n f
  | 0, _ => Int.le_refl _
  | n + 1, h => by
    have := Z_nn n fun i hi => h i (by omega)
    have := h n (by omega)
    rw [KM.Z_succ]
    omega
theorem rimA_pos (k : Ok3 pts) : 0 < rimA pts := by
  obtain ⟨c1, _, _, c4⟩ := around_all k
  obtain ⟨p, hp⟩ : ∃ p, (dueN pts).length - 2 = p + 1 := ⟨(dueN pts).length - 3, by omega⟩
  have pos : 0 < AR pts (wN pts 0) (wN pts (1 + 0)) (wN pts (2 + 0)) := by
    have f := ((w_way k).2 1).2.2 (wN pts 0) ((w_way k).1) (fun z => w_inj k (i := 0) (j := 1) (by omega) (by omega) (by decide) z) (fun z => w_inj k (i := 0) (j := 2) (by omega) (by omega) (by decide) z)
    have e := k.pl.cy (wN pts 0) (wN pts 1) (wN pts 2)
    show 0 < AR pts (wN pts 0) (wN pts 1) (wN pts 2)
    have f : 0 < AR pts (wN pts 1) (wN pts 2) (wN pts 0) := f
    omega
  unfold rimA
  rw [hp]
  show 0 < KM.Z (p + 1) _
  rw [KM.Z_front]
  have := Z_nn (f := fun i => AR pts (wN pts 0) (wN pts (1 + (i + 1))) (wN pts (2 + (i + 1)))) p fun i hi => by
    have h := seg_nn k ((w_way k).1) (1 + (i + 1))
    rw [show 2 + (i + 1) = 1 + (i + 1) + 1 by omega]
    exact h
  omega
theorem way_len : (wayN pts).length = (dueN pts).length := by unfold wayN; rw [List.length_map, List.length_range]
theorem way_get {i : Nat} (h : i < (dueN pts).length) : (wayN pts).getD i 0 = wN pts i := by
  unfold wayN
  simp [h]
theorem fan_way (k : Ok3 pts) {s : Nat} (hs : s < pts.length) : (∀ y ∈ fanL (pt pts (s : Int)) pts (wayN pts), 0 ≤ y) ∧ (fanL (pt pts (s : Int)) pts (wayN pts)).sum = rimA pts := by
  obtain ⟨c1, _, _, c4⟩ := around_all k
  have term : ∀ i, i < (dueN pts).length → area (pt pts (s : Int)) (pt pts ((wayN pts).getD (pre (wayN pts).length i) 0 : Nat)) (pt pts ((wayN pts).getD i 0 : Nat)) = AR pts s (wN pts (pre (dueN pts).length i)) (wN pts i) := fun i hi => by
    rw [way_len, way_get hi, way_get (pre_lt hi)]
  have first : AR pts s (wN pts (pre (dueN pts).length 0)) (wN pts 0) = AR pts s (wN pts ((dueN pts).length - 1)) (wN pts ((dueN pts).length - 1 + 1)) := by
    rw [show (dueN pts).length - 1 + 1 = (dueN pts).length by omega, c1] <;> rfl
  have later : ∀ i, AR pts s (wN pts (pre (dueN pts).length (i + 1))) (wN pts (i + 1)) = AR pts s (wN pts i) (wN pts (i + 1)) := fun i => by
    unfold pre
    rw [if_neg (by omega), Nat.add_sub_cancel]
  constructor
  · intro y hy
    unfold fanL at hy
    obtain ⟨i, hi, rfl⟩ := List.mem_map.mp hy
    have hi := List.mem_range.mp hi
    rw [way_len] at hi
    rw [term i hi]
    cases i with
    | zero =>
      rw [first]
      exact seg_nn k hs _
    | succ i =>
      rw [later]
      exact seg_nn k hs _
  · have e1 : (fanL (pt pts (s : Int)) pts (wayN pts)).sum = KM.Z (dueN pts).length (fun i => AR pts s (wN pts (pre (dueN pts).length i)) (wN pts i)) := by
      unfold fanL
      rw [way_len]
      exact KM.Z_congr (n := (dueN pts).length) (f := fun i => area (pt pts (s : Int)) (pt pts ((wayN pts).getD (pre (dueN pts).length i) 0 : Nat)) (pt pts ((wayN pts).getD i 0 : Nat))) fun i hi => by
        have := term i hi
        rw [way_len] at this
        exact this
    have e2 := RM.fan k.pl (wN pts) s (dueN pts).length
    have e3 := rimA_Z k
    have z := k.pl.z2 s (wN pts 0)
    have z2 : AR pts s (wN pts 0) (wN pts (dueN pts).length) = 0 := by
      rw [c1]
      exact z
    obtain ⟨p, hp⟩ : ∃ p, (dueN pts).length = p + 1 := ⟨(dueN pts).length - 1, by omega⟩
    have e4 : KM.Z (dueN pts).length (fun i => AR pts s (wN pts (pre (dueN pts).length i)) (wN pts i)) = KM.Z (dueN pts).length (fun i => AR pts s (wN pts i) (wN pts (i + 1))) := by
      have first2 := first
      rw [hp] at first2 ⊢
      rw [KM.Z_front, KM.Z_succ]
      have : KM.Z p (fun i => AR pts s (wN pts (pre (p + 1) (i + 1))) (wN pts (i + 1))) = KM.Z p (fun i => AR pts s (wN pts i) (wN pts (i + 1))) := KM.Z_congr fun i _ => by
        have := later i
        rw [hp] at this
        exact this
      rw [this, first2, Nat.add_sub_cancel]
      omega
    rw [e1, e4, e3]
    omega
end
end K13

namespace K13
open PySem PySem.Spec PyProof.Rows L2 Evl EB
/-! ### the triangle around a point, its weights -/
abbrev Pt := Int × Int
def winB (p q r s : Pt) : Bool := (decide (0 < area p q s) == decide (0 < area q r s)) && (decide (0 < area q r s) == decide (0 < area r p s))
def args_is_within {K : PySem.W.Frag} {mg : Str → Option Value} (T : Tx K mg) : Pt × Pt × Pt × Pt → List PV := fun a => [dv K (pD a.1), dv K (pD a.2.1), dv K (pD a.2.2.1), dv K (pD a.2.2.2)]
def dom_is_within : Pt × Pt × Pt × Pt → Prop := fun a => near a.1 ∧ near a.2.1 ∧ near a.2.2.1 ∧ near a.2.2.2
def out_is_within {K : PySem.W.Frag} {mg : Str → Option Value} (T : Tx K mg) : Pt × Pt × Pt × Pt → Out := fun a => .ok (dv K (.bool (winB a.1 a.2.1 a.2.2.1 a.2.2.2)))
theorem je_bare {K : PySem.W.Frag} {mg : Str → Option Value} (T : Tx K mg) {W : WX} {ps : Kn} {t1 t2 t3 : TE} {p q r : Pt} (h1 : JD K T.M W t1 ps (pD p)) (h2 : JD K T.M W t2 ps (pD q)) (h3 : JD K T.M W t3 ps (pD r)) (n1 : near p) (n2 : near q) (n3 : near r) : JD K T.M W (tCallS (Prm K T.M (args_bare_area T) dom_bare_area (out_bare_area T)) (WE W) (tCons t1 (tCons t2 (tCons t3 tNil)))) ps (.int (area p q r)) :=
  je_call (args := args_bare_area T) (dom := dom_bare_area) (out := out_bare_area T) (p, q, r) (ja_cons h1 (ja_cons h2 (ja_cons h3 ja_nil))) ⟨n1, n2, n3⟩
theorem je_lawA {K : PySem.W.Frag} {mg : Str → Option Value} (T : Tx K mg) {W : WX} {ps : Kn} {t1 t2 t3 : TE} {p q r : Pt} (h1 : JD K T.M W t1 ps (pD p)) (h2 : JD K T.M W t2 ps (pD q)) (h3 : JD K T.M W t3 ps (pD r)) (n1 : near p) (n2 : near q) (n3 : near r) : JD K T.M W (tCallS (Prm K T.M (args__law_area T) dom__law_area (out__law_area T)) (WE W) (tCons t1 (tCons t2 (tCons t3 tNil)))) ps (.int (area p q r)) :=
  je_call (args := args__law_area T) (dom := dom__law_area) (out := out__law_area T) (p, q, r) (ja_cons h1 (ja_cons h2 (ja_cons h3 ja_nil))) ⟨n1, n2, n3⟩
theorem ok_is_within {P : Program} {w : World} {K : PySem.W.Frag} {mg : Str → Option Value} {base : Heap} (T : Tx K mg) : FnOk P w K mg base (L2.CX P w) 2 T.a_is_within T.fd_is_within ["p", "q", "r", "s"] (Prm K T.M (args_is_within T) dom_is_within (out_is_within T)) := by
  refine T.F_is_within.okX sc_is_within (fun vs H Q E h => by obtain ⟨a, F, _, al, _⟩ := h; exact al.length) (fun cdv A outer s H vs Q E hr h => ?_)
  have tk : Takes (cxOf (L2.CX P w) P w K mg base N_is_within "is_within" (defScope s_is_within) T.a_is_within cdv A outer s H E) (fun cls d _ H => E cls d H) := takes_of rfl rfl rfl rfl
  obtain ⟨a, F, fh, al, hd, th⟩ := h
  refine ⟨_, (pss_one (ps_ret (pe_chain op_eq op_eq (pe_cmpR op_gt (pe_callS (ok_bare_area T) (hr.mono (by decide)) (by rfl) T.g_bare_area T.F_bare_area.kp (b_bare_area T) (fun σ => passAt tk σ) (pa_cons (pv 0) (pa_cons (pv 1) (pa_cons (pv 3) pa_nil)))) pe_int (nomark _)) (pe_cmpR op_gt (pe_callS (ok_bare_area T) (hr.mono (by decide)) (by rfl) T.g_bare_area T.F_bare_area.kp (b_bare_area T) (fun σ => passAt tk σ) (pa_cons (pv 1) (pa_cons (pv 2) (pa_cons (pv 3) pa_nil)))) pe_int (nomark _)) (pe_cmpR op_gt (pe_callS (ok_bare_area T) (hr.mono (by decide)) (by rfl) T.g_bare_area T.F_bare_area.kp (b_bare_area T) (fun σ => passAt tk σ) (pa_cons (pv 2) (pa_cons (pv 0) (pa_cons (pv 3) pa_nil)))) pe_int (nomark _))))), ?_⟩
  obtain ⟨p, q, r, s0⟩ := a
  obtain ⟨h1, h2, h3, h4⟩ := hd
  exact fin_ok (r := .rt (dv K (.bool (winB p q r s0)))) (js_ret (je_chainB (je_gt (je_bare T (je_var (i := 0) rfl) (je_var (i := 1) rfl) (je_var (i := 3) rfl) h1 h2 h4) je_int) (je_gt (je_bare T (je_var (i := 1) rfl) (je_var (i := 2) rfl) (je_var (i := 3) rfl) h2 h3 h4) je_int) (je_gt (je_bare T (je_var (i := 2) rfl) (je_var (i := 0) rfl) (je_var (i := 3) rfl) h3 h1 h4) je_int))) (by exact rfl) fh al th
def args_is_around {K : PySem.W.Frag} {mg : Str → Option Value} (T : Tx K mg) : List Pt × List Int × Nat → List PV := fun a => [ob1 K T.a_Floor "points" (.tuple (a.1.map pD)), dv K (tupI a.2.1), dv K (.int a.2.2)]
def dom_is_around : List Pt × List Int × Nat → Prop := dom__law_around
def out_is_around {K : PySem.W.Frag} {mg : Str → Option Value} (T : Tx K mg) : List Pt × List Int × Nat → Out := fun a => .ok (dv K (.bool (arB a.1 a.2.1 a.2.2)))
theorem ok_is_around {P : Program} {w : World} {K : PySem.W.Frag} {mg : Str → Option Value} {base : Heap} (T : Tx K mg) : FnOk P w K mg base (L2.CX P w) 3 T.a_is_around T.fd_is_around ["floor", "three", "number"] (Prm K T.M (args_is_around T) dom_is_around (out_is_around T)) := by
  refine T.F_is_around.okX sc_is_around (fun vs H Q E h => by obtain ⟨a, F, _, al, _⟩ := h; exact al.length) (fun cdv A outer s H vs Q E hr h => ?_)
  have tk : Takes (cxOf (L2.CX P w) P w K mg base N_is_around "is_around" (defScope s_is_around) T.a_is_around cdv A outer s H E) (fun cls d _ H => E cls d H) := takes_of rfl rfl rfl rfl
  obtain ⟨a, F, fh, al, hd, th⟩ := h
  refine ⟨_, (pss_cons (ps_asg (pv 1) (pg_tup rfl (pgs_cons (pg_name (i := 3) sc_is_around.nd rfl (by first | exact Or.inl rfl | exact Or.inr rfl)) (pgs_cons (pg_name (i := 4) sc_is_around.nd rfl (by first | exact Or.inl rfl | exact Or.inr rfl)) (pgs_cons (pg_name (i := 5) sc_is_around.nd rfl (by first | exact Or.inl rfl | exact Or.inr rfl)) pgs_nil)))))
      (pss_one (ps_ret (pe_callS (ok_is_within T) (hr.mono (by decide)) (by rfl) T.g_is_within T.F_is_within.kp (b_is_within T) (fun σ => passAt tk σ) (pa_cons (pe_ix ix_tup (pe_fld (pv 0) rfl) (pv 3) (fun _ _ => rfl)) (pa_cons (pe_ix ix_tup (pe_fld (pv 0) rfl) (pv 4) (fun _ _ => rfl)) (pa_cons (pe_ix ix_tup (pe_fld (pv 0) rfl) (pv 5) (fun _ _ => rfl)) (pa_cons (pe_ix ix_tup (pe_fld (pv 0) rfl) (pv 2) (fun _ _ => rfl)) pa_nil)))))))), ?_⟩
  obtain ⟨pts, x, d⟩ := a
  obtain ⟨hl, hn, hx, hdl⟩ := hd
  simp only at hl hn hx hdl
  obtain ⟨u, v, z, rfl, h1, h2, h3⟩ := subs_no hl hx
  have pf : ∀ ps : Kn, ps[0]? = some (some (ob1 K T.a_Floor "points" (.tuple (pts.map pD)))) → JD K T.M (fun cls d _ H => E cls d H) (tFld K (tVar 0) "points") ps (.tuple (pts.map pD)) := fun ps h => je_pts T (je_var (i := 0) h)
  exact fin_ok (K := K) (M := T.M) (Ps := args_is_around T (pts, [u, v, z], d)) (r := .rt (dv K (.bool (arB pts [u, v, z] d)))) (js_seq (js_asg (vs := [3, 4, 5]) (je_var (i := 1) rfl) (jg_tup (ds := [.int u, .int v, .int z]) (jgs_cons jg_name (jgs_cons jg_name (jgs_cons jg_name jgs_nil)))))
    (js_ret (je_call (args := args_is_within T) (dom := dom_is_within) (out := out_is_within T) (pt pts u, pt pts v, pt pts z, pt pts (d : Int)) (ja_cons (je_ixT (pf _ rfl) (je_var (i := 3) rfl) (at_pt h1)) (ja_cons (je_ixT (pf _ rfl) (je_var (i := 4) rfl) (at_pt h2)) (ja_cons (je_ixT (pf _ rfl) (je_var (i := 5) rfl) (at_pt h3)) (ja_cons (je_ixT (pf _ rfl) (je_var (i := 2) rfl) (nat_pt hdl)) ja_nil)))) ⟨near_pt hn _, near_pt hn _, near_pt hn _, near_pt hn _⟩))) (by exact rfl) fh al th
def absI (i : Int) : Int := if i < 0 then -i else i
def uI (pts : List Pt) (x : List Int) (d : Nat) : Int := match x with
  | [a, b, c] => area (pt pts (d : Int)) (pt pts b) (pt pts c)
  | _ => 0
def vI (pts : List Pt) (x : List Int) (d : Nat) : Int := match x with
  | [a, b, c] => area (pt pts a) (pt pts (d : Int)) (pt pts c)
  | _ => 0
def wI (pts : List Pt) (x : List Int) (d : Nat) : Int := match x with
  | [a, b, c] => area (pt pts a) (pt pts b) (pt pts (d : Int))
  | _ => 0
def gI (pts : List Pt) (x : List Int) (d : Nat) : Nat := ((uI pts x d).natAbs.gcd (vI pts x d).natAbs).gcd (wI pts x d).natAbs
def wts (pts : List Pt) (x : List Int) (d : Nat) : List Int := [absI (uI pts x d) / (gI pts x d : Nat), absI (vI pts x d) / (gI pts x d : Nat), absI (wI pts x d) / (gI pts x d : Nat)]
theorem area_big {p q r : Pt} (hp : near p) (hq : near q) (hr : near r) : (area p q r).natAbs < 2 ^ 200 := by
  obtain ⟨⟨p1, p2⟩, p3, p4⟩ := hp
  obtain ⟨⟨q1, q2⟩, q3, q4⟩ := hq
  obtain ⟨⟨r1, r2⟩, r3, r4⟩ := hr
  unfold area
  have key : ∀ a b : Int, a.natAbs ≤ 2 ^ 63 → b.natAbs ≤ 2 ^ 63 → (a * b).natAbs ≤ 2 ^ 126 := fun a b ha hb => by
    rw [Int.natAbs_mul]
    exact Nat.le_trans (Nat.mul_le_mul ha hb) (by decide)
  have m1 := key (q.1 - p.1) (r.2 - p.2) (by omega) (by omega)
  have m2 := key (q.2 - p.2) (r.1 - p.1) (by omega) (by omega)
  omega
theorem gI_pos {pts : List Pt} (k : Ok3 pts) {x : List Int} (hx : x ∈ subsL pts.length 3) {d : Nat} (hd : d < pts.length) (hn : x.contains (d : Int) = false) : 0 < gI pts x d ∧ gI pts x d < 2 ^ 200 := by
  obtain ⟨u, v, z, rfl, h1, h2, h3⟩ := of_subs k.l10 hx
  have nd : u ≠ d ∧ v ≠ d ∧ z ≠ d := by
    refine ⟨fun e => ?_, fun e => ?_, fun e => ?_⟩ <;> subst e <;> simp at hn
  have n3 := k.pl.ne u v d (by omega) (by omega) hd (by omega) nd.1 nd.2.1
  have e : wI pts [(u : Int), (v : Int), (z : Int)] d = AR pts u v d := rfl
  have p : 0 < (wI pts [(u : Int), (v : Int), (z : Int)] d).natAbs := by
    rw [e]
    omega
  have b : (wI pts [(u : Int), (v : Int), (z : Int)] d).natAbs < 2 ^ 200 := area_big (near_pt k.nr _) (near_pt k.nr _) (near_pt k.nr _)
  have le := Nat.gcd_le_right ((uI pts [(u : Int), (v : Int), (z : Int)] d).natAbs.gcd (vI pts [(u : Int), (v : Int), (z : Int)] d).natAbs) p
  unfold gI
  exact ⟨Nat.gcd_pos_of_pos_right _ p, Nat.lt_of_le_of_lt le b⟩
theorem divW_of {i : Int} {g : Nat} (h : 0 < g ∧ g < 2 ^ 200) : CDivW i (g : Nat) := by
  refine ⟨by omega, ?_⟩
  rw [Int.natAbs_natCast]
  exact Nat.lt_trans (log_lt (by decide) h.2) (by decide)
def args_weights {K : PySem.W.Frag} {mg : Str → Option Value} (T : Tx K mg) : List Pt × List Int × Nat → List PV := args_is_around T
def dom_weights : List Pt × List Int × Nat → Prop := fun a => Ok3 a.1 ∧ a.2.1 ∈ subsL a.1.length 3 ∧ a.2.2 < a.1.length ∧ a.2.1.contains (a.2.2 : Int) = false
def out_weights {K : PySem.W.Frag} {mg : Str → Option Value} (T : Tx K mg) : List Pt × List Int × Nat → Out := fun a => .ok (dv K (tupI (wts a.1 a.2.1 a.2.2)))
theorem ok_weights {P : Program} {w : World} {K : PySem.W.Frag} {mg : Str → Option Value} {base : Heap} (T : Tx K mg) : FnOk P w K mg base (L2.CX P w) 2 T.a_weights T.fd_weights ["floor", "three", "number"] (Prm K T.M (args_weights T) dom_weights (out_weights T)) := by
  refine T.F_weights.okX sc_weights (fun vs H Q E h => by obtain ⟨a, F, _, al, _⟩ := h; exact al.length) (fun cdv A outer s H vs Q E hr h => ?_)
  have tk : Takes (cxOf (L2.CX P w) P w K mg base N_weights "weights" (defScope s_weights) T.a_weights cdv A outer s H E) (fun cls d _ H => E cls d H) := takes_of rfl rfl rfl rfl
  obtain ⟨a, F, fh, al, hd, th⟩ := h
  refine ⟨_, (pss_cons (ps_asg (pe_lc (own := [("corner", 6)]) (g := (gName 6)) (tt := tYes) (te := (tOp (rIxT K) (tFld K (tVar 0) "points") (tVar 6))) rfl sc_weights.nd (pi_tup (pv 1)) (blkOk_by (N := N_weights) (sc := defScope s_weights) (own := [("corner", 6)]) (by decide +kernel)) (fun _ _ _ _ _ => (pg_name (i := 6) sc_weights.nd rfl (by first | exact Or.inl rfl | exact Or.inr rfl))) (fun _ _ _ _ _ => by exact pts_nil) (fun _ _ _ _ _ => by exact (pe_ix ix_tup (pe_fld (pv 0) rfl) (pv 6) (fun _ _ => rfl)))) (pg_unl rfl (pgs_cons (pg_name (i := 3) sc_weights.nd rfl (by first | exact Or.inl rfl | exact Or.inr rfl)) (pgs_cons (pg_name (i := 4) sc_weights.nd rfl (by first | exact Or.inl rfl | exact Or.inr rfl)) (pgs_cons (pg_name (i := 5) sc_weights.nd rfl (by first | exact Or.inl rfl | exact Or.inr rfl)) pgs_nil)))))
      (pss_cons (ps_set (i := 7) sc_weights.nd rfl (by first | exact Or.inl rfl | exact Or.inr rfl) (pe_ix ix_tup (pe_fld (pv 0) rfl) (pv 2) (fun _ _ => rfl)))
      (pss_cons (ps_par3 (i := 8) (j := 9) (l := 10) rfl sc_weights.nd rfl rfl rfl (by decide) (by decide) (by decide) rfl rfl rfl (pa_cons (pe_callS (ok_bare_area T) (hr.mono (by decide)) (by rfl) T.g_bare_area T.F_bare_area.kp (b_bare_area T) (fun σ => passAt tk σ) (pa_cons (pv 7) (pa_cons (pv 4) (pa_cons (pv 5) pa_nil)))) (pa_cons (pe_callS (ok_bare_area T) (hr.mono (by decide)) (by rfl) T.g_bare_area T.F_bare_area.kp (b_bare_area T) (fun σ => passAt tk σ) (pa_cons (pv 3) (pa_cons (pv 7) (pa_cons (pv 5) pa_nil)))) (pa_cons (pe_callS (ok_bare_area T) (hr.mono (by decide)) (by rfl) T.g_bare_area T.F_bare_area.kp (b_bare_area T) (fun σ => passAt tk σ) (pa_cons (pv 3) (pa_cons (pv 4) (pa_cons (pv 7) pa_nil)))) pa_nil))) (by rfl))
      (pss_cons (ps_set (i := 11) sc_weights.nd rfl (by first | exact Or.inl rfl | exact Or.inr rfl) (pe_callG (id := "math.gcd") cr_gcd3 (by rfl) T.g_gcd (pa_cons (pv 8) (pa_cons (pv 9) (pa_cons (pv 10) pa_nil)))))
      (pss_one (ps_ret (pe_tup (pa_cons (pe_op op_fdivW (pe_callB call_abs (by rfl) T.z_abs (by decide +kernel) (pa_cons (pv 8) pa_nil)) (pv 11)) (pa_cons (pe_op op_fdivW (pe_callB call_abs (by rfl) T.z_abs (by decide +kernel) (pa_cons (pv 9) pa_nil)) (pv 11)) (pa_cons (pe_op op_fdivW (pe_callB call_abs (by rfl) T.z_abs (by decide +kernel) (pa_cons (pv 10) pa_nil)) (pv 11)) pa_nil)))))))))), ?_⟩
  obtain ⟨pts, x, d⟩ := a
  obtain ⟨k, hx, hdl, hc⟩ := hd
  simp only at k hx hdl hc
  have hg := gI_pos k hx hdl hc
  obtain ⟨u, v, z, rfl, h1, h2, h3⟩ := subs_no k.l10 hx
  have nn := near_pt k.nr
  refine fin_ok (K := K) (M := T.M) (Ps := args_weights T (pts, [u, v, z], d)) (r := .rt (dv K (tupI (wts pts [u, v, z] d)))) (js_seq (js_asg (vs := [3, 4, 5]) (je_lc (W' := fun _ _ _ _ => False) [u, v, z] .int (fun _ => true) (fun i => pD (pt pts i)) (ji_tup (ds := [.int u, .int v, .int z]) (je_var (i := 1) rfl)) (by show 3 ≤ 90000; decide) fun i hi => ⟨_, jg_name, jt_yes, fun _ => je_ixT (je_pts T (je_var (i := 0) rfl)) (je_var (i := 6) rfl) (at_pt ?_)⟩) (jg_unl (ds := [pD (pt pts u), pD (pt pts v), pD (pt pts z)]) (jgs_cons jg_name (jgs_cons jg_name (jgs_cons jg_name jgs_nil)))))
    (js_seq (js_set (i := 7) (je_ixT (je_pts T (je_var (i := 0) rfl)) (je_var (i := 2) rfl) (nat_pt hdl)))
    (js_seq (js_par3 (i := 8) (j := 9) (l := 10) (P := dv K (.int (uI pts [u, v, z] d))) (R := dv K (.int (vI pts [u, v, z] d))) (S' := dv K (.int (wI pts [u, v, z] d))) (ja_cons (je_bare T (je_var (i := 7) rfl) (je_var (i := 4) rfl) (je_var (i := 5) rfl) (nn _) (nn _) (nn _)) (ja_cons (je_bare T (je_var (i := 3) rfl) (je_var (i := 7) rfl) (je_var (i := 5) rfl) (nn _) (nn _) (nn _)) (ja_cons (je_bare T (je_var (i := 3) rfl) (je_var (i := 4) rfl) (je_var (i := 7) rfl) (nn _) (nn _) (nn _)) ja_nil))))
    (js_seq (js_set (i := 11) (P := dv K (.int (gI pts [u, v, z] d : Nat))) (je_gcd3 (je_var (i := 8) rfl) (je_var (i := 9) rfl) (je_var (i := 10) rfl)))
    (js_ret (je_tup (ds := (wts pts [u, v, z] d).map .int) (ja_cons (je_divW (je_abs (je_var (i := 8) rfl)) (je_var (i := 11) rfl) (divW_of hg)) (ja_cons (je_divW (je_abs (je_var (i := 9) rfl)) (je_var (i := 11) rfl) (divW_of hg)) (ja_cons (je_divW (je_abs (je_var (i := 10) rfl)) (je_var (i := 11) rfl) (divW_of hg)) ja_nil))) (by show 3 ≤ 100000; decide))))))) (by exact rfl) fh al th
  simp only [List.mem_cons, List.not_mem_nil, or_false] at hi
  rcases hi with rfl | rfl | rfl
  · exact h1
  · exact h2
  · exact h3
def hold (pts : List Pt) (d : Nat) : Option (List Int) := (subsL pts.length 3).findSome? fun x => if (!x.contains (d : Int) && arB pts x d) = true then some x else none
def heldT (pts : List Pt) (d : Nat) (x : List Int) : PyData := .tuple [tupI x, tupI (wts pts x d)]
def heldD (pts : List Pt) (d : Nat) : PyData := match hold pts d with
  | none => .none
  | some x => heldT pts d x
def args_held_by {K : PySem.W.Frag} {mg : Str → Option Value} (T : Tx K mg) : List Pt × Int → List PV := fun a => [ob1 K T.a_Floor "points" (.tuple (a.1.map pD)), dv K (.int a.2)]
def dom_held_by : List Pt × Int → Prop := fun a => Ok3 a.1
def out_held_by {K : PySem.W.Frag} {mg : Str → Option Value} (T : Tx K mg) : List Pt × Int → Out := fun a => match isNo a.2 a.1.length with
  | false => .er ⟨.NoPoint, .int a.2⟩
  | true => .ok (dv K (heldD a.1 a.2.toNat))
theorem isNo_nat {n : Nat} {i : Int} (h : isNo i n = true) : ∃ j : Nat, i = (j : Int) ∧ j < n := by
  unfold isNo at h
  have h1 : 0 ≤ i := of_decide_eq_true (Bool.and_eq_true_iff.mp h).1
  have h2 : i < n := of_decide_eq_true (Bool.and_eq_true_iff.mp h).2
  obtain ⟨j, rfl⟩ := Int.eq_ofNat_of_zero_le h1
  exact ⟨j, rfl, by omega⟩
theorem ok_held_by {P : Program} {w : World} {K : PySem.W.Frag} {mg : Str → Option Value} {base : Heap} (T : Tx K mg) : FnOk P w K mg base (L2.CX P w) 4 T.a_held_by T.fd_held_by ["floor", "number"] (Prm K T.M (args_held_by T) dom_held_by (out_held_by T)) := by
  refine T.F_held_by.okX sc_held_by (fun vs H Q E h => by obtain ⟨a, F, _, al, _⟩ := h; exact al.length) (fun cdv A outer s H vs Q E hr h => ?_)
  have tk : Takes (cxOf (L2.CX P w) P w K mg base N_held_by "held_by" (defScope s_held_by) T.a_held_by cdv A outer s H E) (fun cls d _ H => E cls d H) := takes_of rfl rfl rfl rfl
  obtain ⟨a, F, fh, al, hd, th⟩ := h
  refine ⟨_, (pss_cons (ps_expr (pe_callS (ok_check_number T) (hr.mono (by decide)) (by rfl) T.g_check_number T.F_check_number.kp (b_check_number T) (fun σ => passAt tk σ) (pa_cons (pv 1) (pa_cons (pe_callB (call_lenOwn (ok_Floor___len__ T) (hr.mono (by decide)) T.m_Floor___len__.1 T.m_Floor___len__.2 (b_Floor___len__ T) passF) (by rfl) T.z_len PySem.boot_len (pa_cons (pv 0) pa_nil)) pa_nil))))
      (pss_cons (ps_for (passes_of rfl) rfl (pi_list (pe_callS (ok_subset_list T) (hr.mono (by decide)) (by rfl) T.g_subset_list T.F_subset_list.kp (b_subset_list T) (fun σ => passAt tk σ) (pa_cons (pe_callB (call_lenOwn (ok_Floor___len__ T) (hr.mono (by decide)) T.m_Floor___len__.1 T.m_Floor___len__.2 (b_Floor___len__ T) passF) (by rfl) T.z_len PySem.boot_len (pa_cons (pv 0) pa_nil)) (pa_cons pe_int pa_nil)))) (pg_name (i := 2) sc_held_by.nd rfl (by first | exact Or.inl rfl | exact Or.inr rfl)) (pss_one (ps_if (PW.pt (pw_and (pt_cmpR op_notIn_seq (pv 1) (pv 2) (by rfl)) (pw_and1 (pt_val (pe_callS (ok_is_around T) (hr.mono (by decide)) (by rfl) T.g_is_around T.F_is_around.kp (b_is_around T) (fun σ => passAt tk σ) (pa_cons (pv 0) (pa_cons (pv 2) (pa_cons (pv 1) pa_nil)))))))) (pss_one (ps_ret (pe_tup (pa_cons (pv 2) (pa_cons (pe_callS (ok_weights T) (hr.mono (by decide)) (by rfl) T.g_weights T.F_weights.kp (b_weights T) (fun σ => passAt tk σ) (pa_cons (pv 0) (pa_cons (pv 2) (pa_cons (pv 1) pa_nil)))) pa_nil))))) pss_nil)))
      (pss_one (ps_ret pe_non)))), ?_⟩
  obtain ⟨pts, i⟩ := a
  have k : Ok3 pts := hd
  let W0 : WX := fun cls d _ H => E cls d H
  have c1 := je_call (K := K) (M := T.M) (W := W0) (ps := entry N_held_by (args_held_by T (pts, i))) (args := args_check_number T) (dom := dom_check_number) (out := out_check_number T) (i, (pts.length : Int)) (ja_cons (je_var (i := 1) rfl) (ja_cons (je_lenF T (je_var (i := 0) rfl) (by have := k.l10; omega)) ja_nil)) trivial
  have ho : out_held_by T (pts, i) = (match isNo i pts.length with
    | false => .er ⟨.NoPoint, .int i⟩
    | true => .ok (dv K (heldD pts i.toNat))) := rfl
  rw [ho] at th
  cases hq : isNo i pts.length with
  | false =>
    rw [hq] at th
    rw [show out_check_number T (i, (pts.length : Int)) = .er ⟨.NoPoint, .int i⟩ by unfold out_check_number; dsimp only; rw [hq]] at c1
    exact fin_ok (K := K) (M := T.M) (Ps := args_held_by T (pts, i)) (r := .er ⟨.NoPoint, .int i⟩) (js_er (js_drop c1)) (by exact rfl) fh al th
  | true =>
    rw [hq] at th
    rw [show out_check_number T (i, (pts.length : Int)) = .ok (dv K .none) by unfold out_check_number; dsimp only; rw [hq]] at c1
    obtain ⟨d, rfl, hdl⟩ := isNo_nat hq
    rw [Int.toNat_natCast] at th
    have key := fun tb hs => js_first (K := K) (M := T.M) (W := W0) (ps := entry N_held_by (args_held_by T (pts, (d : Int)))) (vs := [2]) (g := gName 2) (tb := tb) (subsL pts.length 3) tupI (fun x => if (!x.contains (d : Int) && arB pts x d) = true then some x else none) (fun x => .ok (dv K (heldT pts d x))) (ji_list (je_call (args := args_subset_list T) (dom := dom_subset_list) (out := out_subset_list T) (pts.length, 3) (ja_cons (je_lenF T (je_var (i := 0) rfl) (by have := k.l10; omega)) (ja_cons je_int ja_nil)) ⟨k.l10, (show (3:Nat) ≤ 4 by decide)⟩)) hs
    have body : ∀ x ∈ subsL pts.length 3, JS K T.M W0 (tIfS (tAnd (tTest (tOp (rIn K true) (tVar 1) (tVar 2))) (tB (tCallS (Prm K T.M (args_is_around T) dom_is_around (out_is_around T)) (WE W0) (tCons (tVar 0) (tCons (tVar 2) (tCons (tVar 1) tNil)))))) (tRet (tTup (tCons (tVar 2) (tCons (tCallS (Prm K T.M (args_weights T) dom_weights (out_weights T)) (WE W0) (tCons (tVar 0) (tCons (tVar 2) (tCons (tVar 1) tNil)))) tNil)))) tNext) ((entry N_held_by (args_held_by T (pts, (d : Int)))).set 2 (some (dv K (tupI x)))) (ends (entry N_held_by (args_held_by T (pts, (d : Int)))) ((if (!x.contains (d : Int) && arB pts x d) = true then some x else none).map fun x => .ok (dv K (heldT pts d x)))) := fun x hx => by
      have tst : JT K T.M W0 (tAnd (tTest (tOp (rIn K true) (tVar 1) (tVar 2))) (tB (tCallS (Prm K T.M (args_is_around T) dom_is_around (out_is_around T)) (WE W0) (tCons (tVar 0) (tCons (tVar 2) (tCons (tVar 1) tNil)))))) ((entry N_held_by (args_held_by T (pts, (d : Int)))).set 2 (some (dv K (tupI x)))) (!x.contains (d : Int) && arB pts x d) := jt_and (jt_test (je_notInT (je_var (i := 1) rfl) (je_var (i := 2) rfl))) (fun _ => jt_B (je_call (args := args_is_around T) (dom := dom_is_around) (out := out_is_around T) (pts, x, d) (ja_cons (je_var (i := 0) rfl) (ja_cons (je_var (i := 2) rfl) (ja_cons (je_var (i := 1) rfl) ja_nil))) ⟨k.l10, k.nr, hx, hdl⟩))
      cases hb : (!x.contains (d : Int) && arB pts x d) with
      | true =>
        rw [hb] at tst
        have hc : x.contains (d : Int) = false := by
          have := (Bool.and_eq_true_iff.mp hb).1
          rwa [Bool.not_eq_true'] at this
        exact js_if (b := true) tst (fun _ => js_ret (P := dv K (heldT pts d x)) (je_tup (ds := [tupI x, tupI (wts pts x d)]) (ja_cons (je_var (i := 2) rfl) (ja_cons (je_call (args := args_weights T) (dom := dom_weights) (out := out_weights T) (pts, x, d) (ja_cons (je_var (i := 0) rfl) (ja_cons (je_var (i := 2) rfl) (ja_cons (je_var (i := 1) rfl) ja_nil))) ⟨k, hx, hdl, hc⟩) ja_nil)))) (fun z => Bool.noConfusion z)
      | false =>
        rw [hb] at tst
        exact js_if (b := false) tst (fun z => Bool.noConfusion z) (fun _ => js_weak js_next ⟨.inr rfl, .inr rfl, .inl rfl, trivial⟩)
    have loop := key _ fun x hx => ⟨_, jg_name (i := 2), body x hx⟩
    rw [show ((subsL pts.length 3).findSome? fun x => if (!x.contains (d : Int) && arB pts x d) = true then some x else none) = hold pts d from rfl] at loop
    unfold heldD at th
    cases hh : hold pts d with
    | none =>
      rw [hh] at loop th
      exact fin_ok (K := K) (M := T.M) (Ps := args_held_by T (pts, (d : Int))) (r := .rt (dv K .none)) (js_seq (js_drop c1) (js_seq loop (js_ret je_non))) (by exact rfl) fh al th
    | some x =>
      rw [hh] at loop th
      exact fin_ok (K := K) (M := T.M) (Ps := args_held_by T (pts, (d : Int))) (r := .rt (dv K (heldT pts d x))) (js_seq (js_drop c1) (js_rt loop)) (by exact rfl) fh al th
end K13

namespace K13
open PySem PySem.Spec PyProof.Rows L2 Evl EB
/-! ### the line past a corner -/
section
variable {pts : List (Int × Int)}
theorem w_per (k : Ok3 pts) : ∀ i, wN pts (i + (dueN pts).length) = wN pts i
  | 0 => by
    rw [Nat.zero_add]
    exact (around_all k).1
  | i + 1 => by
    rw [show i + 1 + (dueN pts).length = i + (dueN pts).length + 1 by omega]
    show nxN pts (wN pts (i + (dueN pts).length)) = nxN pts (wN pts i)
    rw [w_per k i]
theorem w_mod (k : Ok3 pts) : ∀ i, wN pts (i % (dueN pts).length) = wN pts i := by
  intro i
  have h3 := (around_all k).2.2.2
  induction i using Nat.strongRecOn with
  | ind i ih =>
    by_cases h : i < (dueN pts).length
    · rw [Nat.mod_eq_of_lt h]
    · rw [Nat.mod_eq_sub_mod (by omega), ih (i - (dueN pts).length) (by omega)]
      have := w_per k (i - (dueN pts).length)
      rw [Nat.sub_add_cancel (by omega)] at this
      exact this.symm
def idxN (pts : List (Int × Int)) (d : Nat) : Nat := ((List.range (dueN pts).length).find? fun i => decide (wN pts i = d)).getD 0
theorem idx_of (k : Ok3 pts) {d : Nat} (h : d ∈ dueN pts) : idxN pts d < (dueN pts).length ∧ wN pts (idxN pts d) = d := by
  obtain ⟨i, hi, he⟩ := List.mem_map.mp (((around_all k).2.2.1 d).mp h)
  unfold idxN
  cases q : (List.range (dueN pts).length).find? fun i => decide (wN pts i = d) with
  | none => exact absurd (decide_eq_true he) (List.find?_eq_none.mp q i hi)
  | some j => exact ⟨List.mem_range.mp (List.mem_of_find?_eq_some q), of_decide_eq_true (List.find?_some (p := fun i => decide (wN pts i = d)) q)⟩
def lineI (bf c bh : Int × Int) : List Int := [2 * (bh.2 - bf.2), 2 * (bf.1 - bh.1), 1 - 2 * (bh.2 - bf.2) * c.1 - 2 * (bf.1 - bh.1) * c.2]
def lineD (pts : List (Int × Int)) (d : Nat) : List Int := lineI (pt pts (wN pts (idxN pts d + (dueN pts).length - 1) : Nat)) (pt pts (wN pts (idxN pts d) : Nat)) (pt pts (wN pts (idxN pts d + 1) : Nat))
def lineV (l : List Int) (p : Int × Int) : Int := l.getD 0 0 * p.1 + l.getD 1 0 * p.2 + l.getD 2 0
theorem line_val (bf c bh s : Int × Int) : lineV (lineI bf c bh) s = 1 - 2 * (area s bf c + area s c bh) := by
  show 2 * (bh.2 - bf.2) * s.1 + 2 * (bf.1 - bh.1) * s.2 + (1 - 2 * (bh.2 - bf.2) * c.1 - 2 * (bf.1 - bh.1) * c.2) = _
  unfold area
  grind
theorem seg_pos (k : Ok3 pts) {s : Nat} (hs : s < pts.length) (i : Nat) (h1 : s ≠ wN pts i) (h2 : s ≠ wN pts (i + 1)) : 0 < AR pts s (wN pts i) (wN pts (i + 1)) := by
  have := ((w_way k).2 i).2.2 s hs h1 h2
  have e := k.pl.cy s (wN pts i) (wN pts (i + 1))
  omega
theorem w_two (k : Ok3 pts) (j : Nat) : wN pts j ≠ wN pts (j + 1 + 1) := fun e => by
  obtain ⟨c, hc, c1, c2⟩ := third (n := pts.length) (i := wN pts j) (j := wN pts (j + 1)) k.l3
  have a := ((w_way k).2 j).2.2 c hc c1 c2
  have b := ((w_way k).2 (j + 1)).2.2 c hc c2 (by rw [← e]; exact c1)
  rw [← e] at b
  have := k.pl.an (wN pts j) (wN pts (j + 1)) c
  omega
theorem line_ok (k : Ok3 pts) {d : Nat} (h : d ∈ dueN pts) {s : Nat} (hs : s < pts.length) : (s = d → 0 < lineV (lineD pts d) (pt pts (s : Int))) ∧ (s ≠ d → lineV (lineD pts d) (pt pts (s : Int)) < 0) := by
  obtain ⟨i1, i2⟩ := idx_of k h
  have h3 := (around_all k).2.2.2
  obtain ⟨j, hj⟩ : ∃ j, idxN pts d + (dueN pts).length - 1 = j := ⟨_, rfl⟩
  have e1 : wN pts (j + 1) = d := by
    rw [← i2, ← w_per k (idxN pts d)]
    congr 1
    omega
  have e2 : wN pts (j + 1 + 1) = wN pts (idxN pts d + 1) := by
    rw [← w_per k (idxN pts d + 1)]
    congr 1
    omega
  unfold lineD
  rw [line_val, hj, i2, ← e2, ← e1]
  show (s = wN pts (j + 1) → 0 < 1 - 2 * (AR pts s (wN pts j) (wN pts (j + 1)) + AR pts s (wN pts (j + 1)) (wN pts (j + 1 + 1)))) ∧ (s ≠ wN pts (j + 1) → 1 - 2 * (AR pts s (wN pts j) (wN pts (j + 1)) + AR pts s (wN pts (j + 1)) (wN pts (j + 1 + 1))) < 0)
  have n1 := seg_nn k hs j
  have n2 := seg_nn k hs (j + 1)
  constructor
  · intro e
    have z1 := k.pl.z3 s (wN pts j)
    have z2 := k.pl.z1 s (wN pts (j + 1 + 1))
    rw [← e]
    omega
  · intro ne
    by_cases z : s = wN pts j
    · have := seg_pos k hs (j + 1) ne (fun y => w_two k j (z.symm.trans y))
      omega
    · have := seg_pos k hs j z ne
      omega
theorem mul_lt {a b : Int} {m n : Nat} (h1 : a.natAbs ≤ m) (h2 : b.natAbs ≤ n) : (a * b).natAbs ≤ m * n := by
  rw [Int.natAbs_mul]
  exact Nat.mul_le_mul h1 h2
theorem line_small {bf c bh : Int × Int} (h1 : near bf) (h2 : near c) (h3 : near bh) : ∀ v ∈ lineI bf c bh, v.natAbs < 2 ^ 200 := by
  obtain ⟨⟨a1, a2⟩, a3, a4⟩ := h1
  obtain ⟨⟨b1, b2⟩, b3, b4⟩ := h2
  obtain ⟨⟨c1, c2⟩, c3, c4⟩ := h3
  have p : (2 * (bh.2 - bf.2)).natAbs ≤ 2 ^ 64 := by omega
  have q : (2 * (bf.1 - bh.1)).natAbs ≤ 2 ^ 64 := by omega
  have m1 := mul_lt (b := c.1) (n := 2 ^ 62) p (by omega)
  have m2 := mul_lt (b := c.2) (n := 2 ^ 62) q (by omega)
  intro v hv
  unfold lineI at hv
  simp only [List.mem_cons, List.not_mem_nil, or_false] at hv
  rcases hv with rfl | rfl | rfl
  · omega
  · omega
  · omega
theorem hold_none (pts : List (Int × Int)) (d : Nat) : hold pts d = none ↔ innB pts d = false := by
  unfold hold innB
  generalize subsL pts.length 3 = L
  induction L with
  | nil => simp
  | cons x r ih =>
    rw [List.findSome?_cons, List.any_cons]
    cases q : (!x.contains (d : Int) && arB pts x d) with
    | true => simp
    | false =>
      rw [if_neg (by decide), Bool.false_or]
      exact ih
theorem hold_due {d : Nat} (hd : d < pts.length) (h : hold pts d = none) : d ∈ dueN pts := by
  have := (hold_none pts d).mp h
  unfold dueN
  exact List.mem_filter.mpr ⟨List.mem_range.mpr hd, by rw [this] <;> rfl⟩
theorem hold_some {d : Nat} {x : List Int} (h : hold pts d = some x) : x ∈ subsL pts.length 3 ∧ x.contains (d : Int) = false := by
  obtain ⟨y, hy, e⟩ := List.exists_of_findSome?_eq_some h
  split at e
  · cases e
    rename_i hb
    refine ⟨hy, ?_⟩
    have := (Bool.and_eq_true_iff.mp hb).1
    rwa [Bool.not_eq_true'] at this
  · cases e
end
theorem ok_Within {P : Program} {w : World} {K : PySem.W.Frag} {mg : Str → Option Value} {base : Heap} (T : Tx K mg) : FnOk P w K mg base CX0 1 T.i_Within T.fd_Within ["self", "triangle"] (spErr T.a_Within "triangle") := by
  refine T.F_Within.ok sc_Within (fun vs H Q E h => by obtain ⟨a, u, rfl, _⟩ := h; rfl) (fun cdv A outer s H vs Q E hr h => ?_)
  obtain ⟨a, u, rfl, ha, k⟩ := h
  refine ⟨_, pss_one (ps_ost (pv 0) (pv 1)), ?_⟩
  exact ⟨_, rfl, _, rfl, a, T.a_Within, rfl, T.X_Within.ox, T.X_Within.nf, .inl ⟨ha, k⟩⟩
def args_line_past {K : PySem.W.Frag} {mg : Str → Option Value} (T : Tx K mg) : List Pt × Int → List PV := args_held_by T
def dom_line_past : List Pt × Int → Prop := dom_held_by
def pastE (pts : List Pt) (i : Int) : Except Er PyData := match isNo i pts.length with
  | false => .error ⟨.NoPoint, .int i⟩
  | true => match hold pts i.toNat with
    | some x => .error ⟨.Within, tupI x⟩
    | none => .ok (tupI (lineD pts i.toNat))
def outX (K : PySem.W.Frag) : Except Er PyData → Out
  | .ok d => .ok (dv K d)
  | .error e => .er e
def out_line_past {K : PySem.W.Frag} {mg : Str → Option Value} (T : Tx K mg) : List Pt × Int → Out := fun a => outX K (pastE a.1 a.2)
theorem ok_line_past {P : Program} {w : World} {K : PySem.W.Frag} {mg : Str → Option Value} {base : Heap} (T : Tx K mg) : FnOk P w K mg base (L2.CX P w) 8 T.a_line_past T.fd_line_past ["floor", "number"] (Prm K T.M (args_line_past T) dom_line_past (out_line_past T)) := by
  refine T.F_line_past.okX sc_line_past (fun vs H Q E h => by obtain ⟨a, F, _, al, _⟩ := h; exact al.length) (fun cdv A outer s H vs Q E hr h => ?_)
  have tk : Takes (cxOf (L2.CX P w) P w K mg base N_line_past "line_past" (defScope s_line_past) T.a_line_past cdv A outer s H E) (fun cls d _ H => E cls d H) := takes_of rfl rfl rfl rfl
  obtain ⟨a, F, fh, al, hd, th⟩ := h
  refine ⟨_, (pss_cons (ps_set (i := 2) sc_line_past.nd rfl (by first | exact Or.inl rfl | exact Or.inr rfl) (pe_callS (ok_held_by T) (hr.mono (by decide)) (by rfl) T.g_held_by T.F_held_by.kp (b_held_by T) (fun σ => passAt tk σ) (pa_cons (pv 0) (pa_cons (pv 1) pa_nil))))
      (pss_cons (ps_if (pt_cmpR op_notN1 (pv 2) pe_non (nomark _)) (pss_one (ps_raise rfl tk (pmk_oex (T.X_Within).ox (T.X_Within).iC (T.X_Within).tI (ok_Within T) (hr.mono (by decide)) (b_Within T) .nil pass0 (by rfl) T.g_Within (pa_cons (pe_ix ix_tup (pv 2) pe_int (fun _ _ => rfl)) pa_nil)))) pss_nil)
      (pss_cons (ps_set (i := 3) sc_line_past.nd rfl (by first | exact Or.inl rfl | exact Or.inr rfl) (pe_callS (ok_rim T) (hr.mono (by decide)) (by rfl) T.g_rim T.F_rim.kp (b_rim T) (fun σ => passAt tk σ) (pa_cons (pv 0) pa_nil)))
      (pss_cons (ps_set (i := 4) sc_line_past.nd rfl (by first | exact Or.inl rfl | exact Or.inr rfl) (pe_bm PySem.F.plainAttrs_list PySem.F.slot_list_index PySem.F.type_list_index mt_index (pv 3) (pa_cons (pv 1) pa_nil)))
      (pss_cons (ps_asg (pe_lc (own := [("step", 8)]) (g := (gName 8)) (tt := tYes) (te := (tOp (rIxT K) (tFld K (tVar 0) "points") (tOp (rIxL K) (tVar 3) (tOp (rI (fun _ j => 0 < j) fun i j => .int (i % j)) (tOp (rI0 fun i j => .int (i + j)) (tVar 4) (tVar 8)) (tCB (rLenS K) (tCons (tVar 3) tNil)))))) rfl sc_line_past.nd (pi_tup (pe_tup (pa_cons (pe_un un_neg pe_int) (pa_cons pe_int (pa_cons pe_int pa_nil))))) (blkOk_by (N := N_line_past) (sc := defScope s_line_past) (own := [("step", 8)]) (by decide +kernel)) (fun _ _ _ _ _ => (pg_name (i := 8) sc_line_past.nd rfl (by first | exact Or.inl rfl | exact Or.inr rfl))) (fun _ _ _ _ _ => by exact pts_nil) (fun _ _ _ _ _ => by exact (pe_ix ix_tup (pe_fld (pv 0) rfl) (pe_ix ix_list (pv 3) (pe_op op_mod (pe_op op_add (pv 4) (pv 8)) (pe_callB call_len_seq (by rfl) T.z_len PySem.boot_len (pa_cons (pv 3) pa_nil))) (fun _ _ => rfl)) (fun _ _ => rfl)))) (pg_unl rfl (pgs_cons (pg_name (i := 5) sc_line_past.nd rfl (by first | exact Or.inl rfl | exact Or.inr rfl)) (pgs_cons (pg_name (i := 6) sc_line_past.nd rfl (by first | exact Or.inl rfl | exact Or.inr rfl)) (pgs_cons (pg_name (i := 7) sc_line_past.nd rfl (by first | exact Or.inl rfl | exact Or.inr rfl)) pgs_nil)))))
      (pss_cons (ps_par (i := 9) (j := 10) rfl sc_line_past.nd rfl rfl (by decide) rfl rfl (pa_cons (pe_op op_mul pe_int (pe_op op_sub (pe_ix ix_tup (pv 7) pe_int (fun _ _ => rfl)) (pe_ix ix_tup (pv 5) pe_int (fun _ _ => rfl)))) (pa_cons (pe_op op_mul pe_int (pe_op op_sub (pe_ix ix_tup (pv 5) pe_int (fun _ _ => rfl)) (pe_ix ix_tup (pv 7) pe_int (fun _ _ => rfl)))) pa_nil)) (by rfl))
      (pss_one (ps_ret (pe_tup (pa_cons (pv 9) (pa_cons (pv 10) (pa_cons (pe_op op_sub (pe_op op_sub pe_int (pe_op op_mul (pv 9) (pe_ix ix_tup (pv 6) pe_int (fun _ _ => rfl)))) (pe_op op_mul (pv 10) (pe_ix ix_tup (pv 6) pe_int (fun _ _ => rfl)))) pa_nil)))))))))))), ?_⟩
  obtain ⟨pts, i⟩ := a
  have k : Ok3 pts := hd
  let W0 : WX := fun cls d _ H => E cls d H
  have c1 := je_call (K := K) (M := T.M) (W := W0) (ps := entry N_line_past (args_line_past T (pts, i))) (args := args_held_by T) (dom := dom_held_by) (out := out_held_by T) (pts, i) (ja_cons (je_var (i := 0) rfl) (ja_cons (je_var (i := 1) rfl) ja_nil)) k
  have ho : out_line_past T (pts, i) = outX K (pastE pts i) := rfl
  rw [ho] at th
  unfold pastE at th
  cases hq : isNo i pts.length with
  | false =>
    rw [hq] at th
    rw [show out_held_by T (pts, i) = .er ⟨.NoPoint, .int i⟩ by unfold out_held_by; dsimp only; rw [hq]] at c1
    exact fin_ok (K := K) (M := T.M) (Ps := args_line_past T (pts, i)) (r := .er ⟨.NoPoint, .int i⟩) (js_er (js_set_er c1)) (by exact rfl) fh al th
  | true =>
    rw [hq] at th
    rw [show out_held_by T (pts, i) = .ok (dv K (heldD pts i.toNat)) by unfold out_held_by; dsimp only; rw [hq]] at c1
    obtain ⟨d, rfl, hdl⟩ := isNo_nat hq
    rw [Int.toNat_natCast] at th c1
    dsimp only at th
    unfold heldD at c1
    cases hh : hold pts d with
    | some x =>
      rw [hh] at c1 th
      exact fin_ok (K := K) (M := T.M) (Ps := args_line_past T (pts, (d : Int))) (r := .er ⟨.Within, tupI x⟩) (js_seq (js_set (i := 2) (P := dv K (heldT pts d x)) c1) (js_er (js_if (b := true) (jt_test (je_notNone (b := true) (je_var (i := 2) rfl) (.inl ⟨fun z => (nomatch z), rfl⟩))) (fun _ => js_raise (M := T.M) (c := .Within) (ja_cons (je_ixT (ds := [tupI x, tupI (wts pts x d)]) (i := ((0 : Nat) : Int)) (je_var (i := 2) rfl) je_int rfl) ja_nil)) (fun z => Bool.noConfusion z)))) (by exact rfl) fh al th
    | none =>
      rw [hh] at c1 th
      have hdue := hold_due hdl hh
      obtain ⟨i1, i2⟩ := idx_of k hdue
      have h3 := (around_all k).2.2.2
      have wlt := RM.way_lt (w_way k)
      let m := (dueN pts).length
      let ix := idxN pts d
      have hm0 : (0 : Int) < (m : Nat) := by omega
      -- the three places
      have f1 : ((ix : Int) + (-1)) % (m : Nat) = (((ix + m - 1) % m : Nat) : Int) := by
        rw [Int.natCast_emod, ← Int.add_emod_right ((ix : Int) + (-1)) (m : Nat)]
        congr 1
        omega
      have f2 : ((ix : Int) + 0) % (m : Nat) = ((ix % m : Nat) : Int) := by
        rw [Int.natCast_emod, Int.add_zero]
      have f3 : ((ix : Int) + 1) % (m : Nat) = (((ix + 1) % m : Nat) : Int) := by
        rw [Int.natCast_emod]
        congr 1
      have jlt : ∀ j, j % m < m := fun j => Nat.mod_lt _ (by omega)
      have wlen : (intN (wayN pts)).length = m := by unfold intN; rw [List.length_map, way_len]
      refine fin_ok (K := K) (M := T.M) (Ps := args_line_past T (pts, (d : Int))) (r := .rt (dv K (tupI (lineD pts d)))) (js_seq (js_set (i := 2) (P := dv K .none) c1) (js_seq (js_if (b := false) (jt_test (je_notNone (b := false) (je_var (i := 2) rfl) (.inr ⟨rfl, rfl⟩))) (fun z => Bool.noConfusion z) (fun _ => js_next))
        (js_seq (js_set (i := 3) (P := dv K (.list (intN (wayN pts)))) (jn_told (jn_call (M := T.M) (W := W0) (args := args_rim T) (dom := dom_rim) (out := out_rim) pts (ja_cons (je_var (i := 0) rfl) ja_nil) k)))
        (js_seq (js_set (i := 4) (P := dv K (.int (ix : Nat))) (je_index (ns := (wayN pts).map fun c : Nat => (c : Int)) (i := (d : Int)) (j := ix) (je_is (je_var (i := 3) rfl) (congrArg PyData.list (intN_eq _))) (je_var (i := 1) rfl) ?h1 ?h2))
        (js_seq (js_asg (vs := [5, 6, 7]) (P := dv K (.list [pD (pt pts (wN pts (ix + m - 1) : Nat)), pD (pt pts (wN pts ix : Nat)), pD (pt pts (wN pts (ix + 1) : Nat))])) (je_is (je_lc (W' := fun _ _ _ _ => False) [-1, 0, 1] .int (fun _ => true) (fun st => pD (pt pts (wN pts (((ix : Int) + st) % (m : Nat)).toNat : Nat))) (ji_tup (ds := [.int (-1), .int 0, .int 1]) (je_tup (ds := [.int (-1), .int 0, .int 1]) (ja_cons (je_neg je_int) (ja_cons je_int (ja_cons je_int ja_nil))))) (by show 3 ≤ 90000; decide) fun st hst => ⟨_, jg_name, jt_yes, fun _ => je_ixT (je_pts T (je_var (i := 0) rfl)) (je_ixL (i := ((ix : Int) + st) % (m : Nat)) (d := .int (wN pts (((ix : Int) + st) % (m : Nat)).toNat : Nat)) (je_var (i := 3) rfl) (je_is (je_mod (je_add (je_var (i := 4) rfl) (je_var (i := 8) rfl)) (je_lenL (je_var (i := 3) rfl)) (by rw [wlen]; exact hm0)) (by rw [wlen])) ?h3) (nat_pt (wlt _))⟩) ?h4) (jg_unl (ds := [pD (pt pts (wN pts (ix + m - 1) : Nat)), pD (pt pts (wN pts ix : Nat)), pD (pt pts (wN pts (ix + 1) : Nat))]) (jgs_cons jg_name (jgs_cons jg_name (jgs_cons jg_name jgs_nil)))))
        (js_seq (js_par (i := 9) (j := 10) (P := dv K (.int (2 * ((pt pts (wN pts (ix + 1) : Nat)).2 - (pt pts (wN pts (ix + m - 1) : Nat)).2)))) (R := dv K (.int (2 * ((pt pts (wN pts (ix + m - 1) : Nat)).1 - (pt pts (wN pts (ix + 1) : Nat)).1)))) (ja_cons (je_mul je_int (je_sub (je_p2 (je_var (i := 7) rfl)) (je_p2 (je_var (i := 5) rfl))) (mul_c (by decide))) (ja_cons (je_mul je_int (je_sub (je_p1 (je_var (i := 5) rfl)) (je_p1 (je_var (i := 7) rfl))) (mul_c (by decide))) ja_nil)))
        (js_ret (je_tup (ds := (lineD pts d).map .int) (ja_cons (je_var (i := 9) rfl) (ja_cons (je_var (i := 10) rfl) (ja_cons (je_sub (je_sub je_int (je_mul (je_var (i := 9) rfl) (je_p1 (je_var (i := 6) rfl)) ?h5)) (je_mul (je_var (i := 10) rfl) (je_p2 (je_var (i := 6) rfl)) ?h6)) ja_nil))) (by show 3 ≤ 100000; decide))))))))) (by exact rfl) fh al th
      case h1 =>
        show ((wayN pts).map fun c : Nat => (c : Int))[ix]? = some (d : Int)
        unfold wayN
        rw [List.getElem?_map, List.getElem?_map, List.getElem?_range i1]
        show some ((wN pts (idxN pts d) : Nat) : Int) = _
        rw [i2]
      case h2 =>
        intro j hj e
        have jl : j < (dueN pts).length := Nat.lt_trans hj i1
        unfold wayN at e
        rw [List.getElem?_map, List.getElem?_map, List.getElem?_range jl] at e
        have e2 : ((wN pts j : Nat) : Int) = (d : Int) := Option.some.inj e
        exact w_inj k jl i1 (by omega) (by omega)
      case h3 =>
        have nn : 0 ≤ ((ix : Int) + st) % (m : Nat) := Int.emod_nonneg _ (by omega)
        have lt : ((ix : Int) + st) % (m : Nat) < (m : Nat) := Int.emod_lt_of_pos _ hm0
        generalize ((ix : Int) + st) % (m : Nat) = z at nn lt
        obtain ⟨j, rfl⟩ := Int.eq_ofNat_of_zero_le nn
        rw [Int.toNat_natCast]
        exact at_way (by omega)
      case h4 =>
        rw [List.filter_eq_self.mpr fun _ _ => rfl]
        simp only [List.map_cons, List.map_nil]
        rw [f1, f2, f3, Int.toNat_natCast, Int.toNat_natCast, Int.toNat_natCast, w_mod k, w_mod k, w_mod k]
      case h5 =>
        have := near_pt k.nr (wN pts (idxN pts d) : Nat)
        obtain ⟨⟨a1, a2⟩, _, _⟩ := this
        exact .inr ⟨by omega, by omega⟩
      case h6 =>
        have := near_pt k.nr (wN pts (idxN pts d) : Nat)
        obtain ⟨_, a1, a2⟩ := this
        exact .inr ⟨by omega, by omega⟩
end K13

namespace K13
open PySem PySem.Spec PyProof.Rows L2 Evl EB
/-! ### the law's own weights -/
def eu : Nat → Nat → Nat → Nat × Nat
  | 0, a, b => (a, b)
  | j + 1, a, b => eu j b (a % b)
theorem eu_step : ∀ (j a b : Nat), eu (j + 1) a b = ((eu j a b).2, (eu j a b).1 % (eu j a b).2)
  | 0, a, b => rfl
  | j + 1, a, b => eu_step j b (a % b)
theorem eu_gcd : ∀ (j a b : Nat), Nat.gcd (eu j a b).1 (eu j a b).2 = Nat.gcd a b
  | 0, a, b => rfl
  | j + 1, a, b => by
    show Nat.gcd (eu j b (a % b)).1 (eu j b (a % b)).2 = _
    rw [eu_gcd j b (a % b), Nat.gcd_comm b, ← Nat.gcd_rec, Nat.gcd_comm]
theorem eu_end : ∀ b a : Nat, ∃ m, (eu m a b).2 = 0 ∧ ∀ j, j < m → 0 < (eu j a b).2 := by
  intro b
  induction b using Nat.strongRecOn with
  | ind b ih =>
    intro a
    by_cases z : b = 0
    · exact ⟨0, z, fun j hj => by omega⟩
    · obtain ⟨m, h1, h2⟩ := ih (a % b) (Nat.mod_lt _ (by omega)) b
      refine ⟨m + 1, h1, fun j hj => ?_⟩
      cases j with
      | zero => show 0 < b; omega
      | succ j => exact h2 j (by omega)
def args__law_gcd {K : PySem.W.Frag} {mg : Str → Option Value} (T : Tx K mg) : Nat × Nat → List PV := fun a => [dv K (.int a.1), dv K (.int a.2)]
def dom__law_gcd : Nat × Nat → Prop := fun _ => True
def out__law_gcd {K : PySem.W.Frag} {mg : Str → Option Value} (T : Tx K mg) : Nat × Nat → Out := fun a => .ok (dv K (.int (Nat.gcd a.1 a.2 : Nat)))
theorem ok__law_gcd {P : Program} {w : World} {K : PySem.W.Frag} {mg : Str → Option Value} {base : Heap} (T : Tx K mg) : FnOk P w K mg base (L2.CX P w) 1 T.a__law_gcd T.fd__law_gcd ["a", "b"] (Prm K T.M (args__law_gcd T) dom__law_gcd (out__law_gcd T)) := by
  refine T.F__law_gcd.okX sc__law_gcd (fun vs H Q E h => by obtain ⟨a, F, _, al, _⟩ := h; exact al.length) (fun cdv A outer s H vs Q E hr h => ?_)
  have tk : Takes (cxOf (L2.CX P w) P w K mg base N__law_gcd "_law_gcd" (defScope s__law_gcd) T.a__law_gcd cdv A outer s H E) (fun cls d _ H => E cls d H) := takes_of rfl rfl rfl rfl
  obtain ⟨a, F, fh, al, hd, th⟩ := h
  refine ⟨_, (pss_cons (ps_while (passes_of rfl) (pt_cmpR op_gt (pv 1) pe_int (nomark _)) (pss_cons (ps_set (i := 2) sc__law_gcd.nd rfl (by first | exact Or.inl rfl | exact Or.inr rfl) (pe_op op_mod (pe_callTy call_int1 (by rfl) T.z_int PyProof.Rows.boot_int (pa_cons (pv 0) pa_nil)) (pv 1)))
      (pss_cons (ps_set (i := 0) sc__law_gcd.nd rfl (by first | exact Or.inl rfl | exact Or.inr rfl) (pv 1))
      (pss_one (ps_set (i := 1) sc__law_gcd.nd rfl (by first | exact Or.inl rfl | exact Or.inr rfl) (pv 2))))))
      (pss_one (ps_ret (pv 0)))), ?_⟩
  obtain ⟨x, y⟩ := a
  obtain ⟨m, h1, h2⟩ := eu_end y x
  have hg := eu_gcd m x y
  rw [h1, Nat.gcd_zero_right] at hg
  let f : Nat → Kn := fun j => [some (dv K (.int ((eu j x y).1 : Nat))), some (dv K (.int ((eu j x y).2 : Nat))), none]
  refine fin_ok (K := K) (M := T.M) (Ps := args__law_gcd T (x, y)) (r := .rt (dv K (.int (Nat.gcd x y : Nat)))) (js_seq (js_while m f rfl (fun j hj => jt_is (jt_test (je_gt (je_var (i := 1) rfl) je_int)) ?_) (fun j hj => ?_)) (js_ret (by rw [← hg]; exact je_var (i := 0) rfl))) (by exact rfl) fh al th
  · by_cases z : j < m
    · have := h2 j z
      rw [decide_eq_true z, decide_eq_true (by omega)]
    · have : j = m := by omega
      subst this
      rw [decide_eq_false z, h1]
      rfl
  · have pos := h2 j hj
    have e1 : (eu (j + 1) x y).1 = (eu j x y).2 := by rw [eu_step]
    have e2 : (eu (j + 1) x y).2 = (eu j x y).1 % (eu j x y).2 := by rw [eu_step]
    refine js_weak (qs := [some (dv K (.int ((eu j x y).2 : Nat))), some (dv K (.int (((eu j x y).1 % (eu j x y).2 : Nat) : Int))), some (dv K (.int (((eu j x y).1 % (eu j x y).2 : Nat) : Int)))]) (js_seq (js_set (i := 2) (je_is (je_mod (je_intI (je_var (i := 0) rfl)) (je_var (i := 1) rfl) (by omega)) (congrArg PyData.int (Int.natCast_emod _ _).symm))) (js_seq (js_set (i := 0) (je_var (i := 1) rfl)) (js_set (i := 1) (je_var (i := 2) rfl)))) ?_
    show Weak _ [some (dv K (.int ((eu (j + 1) x y).1 : Nat))), some (dv K (.int ((eu (j + 1) x y).2 : Nat))), none]
    rw [e1, e2]
    exact ⟨.inr rfl, .inr rfl, .inl rfl, trivial⟩
theorem absI_nat (i : Int) : absI i = (i.natAbs : Nat) := by
  unfold absI
  by_cases h : i < 0
  · rw [if_pos h]; omega
  · rw [if_neg h]; omega
def args__law_weights {K : PySem.W.Frag} {mg : Str → Option Value} (T : Tx K mg) : List Pt × List Int × Nat → List PV := args__law_around T
def dom__law_weights : List Pt × List Int × Nat → Prop := dom_weights
def out__law_weights {K : PySem.W.Frag} {mg : Str → Option Value} (T : Tx K mg) : List Pt × List Int × Nat → Out := out_weights T
theorem ok__law_weights {P : Program} {w : World} {K : PySem.W.Frag} {mg : Str → Option Value} {base : Heap} (T : Tx K mg) : FnOk P w K mg base (L2.CX P w) 2 T.a__law_weights T.fd__law_weights ["points", "t", "d"] (Prm K T.M (args__law_weights T) dom__law_weights (out__law_weights T)) := by
  refine T.F__law_weights.okX sc__law_weights (fun vs H Q E h => by obtain ⟨a, F, _, al, _⟩ := h; exact al.length) (fun cdv A outer s H vs Q E hr h => ?_)
  have tk : Takes (cxOf (L2.CX P w) P w K mg base N__law_weights "_law_weights" (defScope s__law_weights) T.a__law_weights cdv A outer s H E) (fun cls d _ H => E cls d H) := takes_of rfl rfl rfl rfl
  obtain ⟨a, F, fh, al, hd, th⟩ := h
  refine ⟨_, (pss_cons (ps_set (i := 3) sc__law_weights.nd rfl (by first | exact Or.inl rfl | exact Or.inr rfl) (pe_ix ix_list (pv 0) (pe_ix ix_tup (pv 1) pe_int (fun _ _ => rfl)) (fun _ _ => rfl)))
      (pss_cons (ps_set (i := 4) sc__law_weights.nd rfl (by first | exact Or.inl rfl | exact Or.inr rfl) (pe_ix ix_list (pv 0) (pe_ix ix_tup (pv 1) pe_int (fun _ _ => rfl)) (fun _ _ => rfl)))
      (pss_cons (ps_set (i := 5) sc__law_weights.nd rfl (by first | exact Or.inl rfl | exact Or.inr rfl) (pe_ix ix_list (pv 0) (pe_ix ix_tup (pv 1) pe_int (fun _ _ => rfl)) (fun _ _ => rfl)))
      (pss_cons (ps_set (i := 6) sc__law_weights.nd rfl (by first | exact Or.inl rfl | exact Or.inr rfl) (pe_callB call_abs (by rfl) T.z_abs (by decide +kernel) (pa_cons (pe_callS (ok__law_area T) (hr.mono (by decide)) (by rfl) T.g__law_area T.F__law_area.kp (b__law_area T) (fun σ => passAt tk σ) (pa_cons (pe_ix ix_list (pv 0) (pv 2) (fun _ _ => rfl)) (pa_cons (pv 4) (pa_cons (pv 5) pa_nil)))) pa_nil)))
      (pss_cons (ps_set (i := 7) sc__law_weights.nd rfl (by first | exact Or.inl rfl | exact Or.inr rfl) (pe_callB call_abs (by rfl) T.z_abs (by decide +kernel) (pa_cons (pe_callS (ok__law_area T) (hr.mono (by decide)) (by rfl) T.g__law_area T.F__law_area.kp (b__law_area T) (fun σ => passAt tk σ) (pa_cons (pv 3) (pa_cons (pe_ix ix_list (pv 0) (pv 2) (fun _ _ => rfl)) (pa_cons (pv 5) pa_nil)))) pa_nil)))
      (pss_cons (ps_set (i := 8) sc__law_weights.nd rfl (by first | exact Or.inl rfl | exact Or.inr rfl) (pe_callB call_abs (by rfl) T.z_abs (by decide +kernel) (pa_cons (pe_callS (ok__law_area T) (hr.mono (by decide)) (by rfl) T.g__law_area T.F__law_area.kp (b__law_area T) (fun σ => passAt tk σ) (pa_cons (pv 3) (pa_cons (pv 4) (pa_cons (pe_ix ix_list (pv 0) (pv 2) (fun _ _ => rfl)) pa_nil)))) pa_nil)))
      (pss_cons (ps_set (i := 9) sc__law_weights.nd rfl (by first | exact Or.inl rfl | exact Or.inr rfl) (pe_callS (ok__law_gcd T) (hr.mono (by decide)) (by rfl) T.g__law_gcd T.F__law_gcd.kp (b__law_gcd T) (fun σ => passAt tk σ) (pa_cons (pe_callS (ok__law_gcd T) (hr.mono (by decide)) (by rfl) T.g__law_gcd T.F__law_gcd.kp (b__law_gcd T) (fun σ => passAt tk σ) (pa_cons (pv 6) (pa_cons (pv 7) pa_nil))) (pa_cons (pv 8) pa_nil))))
      (pss_one (ps_ret (pe_tup (pa_cons (pe_op op_fdivW (pv 6) (pv 9)) (pa_cons (pe_op op_fdivW (pv 7) (pv 9)) (pa_cons (pe_op op_fdivW (pv 8) (pv 9)) pa_nil))))))))))))), ?_⟩
  obtain ⟨pts, x, d⟩ := a
  obtain ⟨k, hx, hdl, hc⟩ := hd
  simp only at k hx hdl hc
  have hg := gI_pos k hx hdl hc
  obtain ⟨u, v, z, rfl, h1, h2, h3⟩ := subs_no k.l10 hx
  have nn := near_pt k.nr
  let W0 : WX := fun cls d _ H => E cls d H
  have hv : ∀ ps : Kn, ps[1]? = some (some (dv K (tupI [u, v, z]))) → JD K T.M W0 (tVar 1) ps (.tuple [.int u, .int v, .int z]) := fun ps h => je_var (i := 1) h
  refine fin_ok (K := K) (M := T.M) (Ps := args__law_weights T (pts, [u, v, z], d)) (r := .rt (dv K (tupI (wts pts [u, v, z] d)))) (js_seq (js_set (i := 3) (je_ixL (je_var (i := 0) rfl) (je_ixT (hv _ rfl) (je_int (i := 0)) rfl) (at_pt h1)))
    (js_seq (js_set (i := 4) (je_ixL (je_var (i := 0) rfl) (je_ixT (hv _ rfl) (je_int (i := 1)) rfl) (at_pt h2)))
    (js_seq (js_set (i := 5) (je_ixL (je_var (i := 0) rfl) (je_ixT (hv _ rfl) (je_int (i := 2)) rfl) (at_pt h3)))
    (js_seq (js_set (i := 6) (P := dv K (.int ((uI pts [u, v, z] d).natAbs : Nat))) (je_is (je_abs (je_lawA T (je_ixL (je_var (i := 0) rfl) (je_var (i := 2) rfl) (nat_pt hdl)) (je_var (i := 4) rfl) (je_var (i := 5) rfl) (nn _) (nn _) (nn _))) (congrArg PyData.int (absI_nat _))))
    (js_seq (js_set (i := 7) (P := dv K (.int ((vI pts [u, v, z] d).natAbs : Nat))) (je_is (je_abs (je_lawA T (je_var (i := 3) rfl) (je_ixL (je_var (i := 0) rfl) (je_var (i := 2) rfl) (nat_pt hdl)) (je_var (i := 5) rfl) (nn _) (nn _) (nn _))) (congrArg PyData.int (absI_nat _))))
    (js_seq (js_set (i := 8) (P := dv K (.int ((wI pts [u, v, z] d).natAbs : Nat))) (je_is (je_abs (je_lawA T (je_var (i := 3) rfl) (je_var (i := 4) rfl) (je_ixL (je_var (i := 0) rfl) (je_var (i := 2) rfl) (nat_pt hdl)) (nn _) (nn _) (nn _))) (congrArg PyData.int (absI_nat _))))
    (js_seq (js_set (i := 9) (P := dv K (.int (gI pts [u, v, z] d : Nat))) (je_call (args := args__law_gcd T) (dom := dom__law_gcd) (out := out__law_gcd T) (Nat.gcd (uI pts [u, v, z] d).natAbs (vI pts [u, v, z] d).natAbs, (wI pts [u, v, z] d).natAbs) (ja_cons (je_call (args := args__law_gcd T) (dom := dom__law_gcd) (out := out__law_gcd T) ((uI pts [u, v, z] d).natAbs, (vI pts [u, v, z] d).natAbs) (ja_cons (je_var (i := 6) rfl) (ja_cons (je_var (i := 7) rfl) ja_nil)) trivial) (ja_cons (je_var (i := 8) rfl) ja_nil)) trivial))
    (js_ret (je_tup (ds := (wts pts [u, v, z] d).map .int) (ja_cons (je_is (je_divW (je_var (i := 6) rfl) (je_var (i := 9) rfl) (divW_of hg)) (by rw [← absI_nat])) (ja_cons (je_is (je_divW (je_var (i := 7) rfl) (je_var (i := 9) rfl) (divW_of hg)) (by rw [← absI_nat])) (ja_cons (je_is (je_divW (je_var (i := 8) rfl) (je_var (i := 9) rfl) (divW_of hg)) (by rw [← absI_nat])) ja_nil))) (by show 3 ≤ 100000; decide)))))))))) (by exact rfl) fh al th
def optD {α : Type} (d : PyData) (f : α → PyData) : Option α → PyData
  | none => d
  | some x => f x
def firstD (pts : List Pt) (d : Nat) : PyData := optD .none tupI (hold pts d)
def args__law_first {K : PySem.W.Frag} {mg : Str → Option Value} (T : Tx K mg) : List Pt × Nat → List PV := args__law_inner T
def dom__law_first : List Pt × Nat → Prop := dom__law_inner
def out__law_first {K : PySem.W.Frag} {mg : Str → Option Value} (T : Tx K mg) : List Pt × Nat → Out := fun a => .ok (dv K (firstD a.1 a.2))
theorem js_endR {K : PySem.W.Frag} {M : EC → Addr} {W : WX} {ps : Kn} {ts tu : TS} {α : Type} {o : Option α} {f : α → PyData} {d : PyData} (h : JS K M W ts ps (ends ps (o.map fun x => .ok (dv K (f x))))) (h2 : o = none → JS K M W tu ps (.rt (dv K d))) : JS K M W (tSeq ts tu) ps (.rt (dv K (optD d f o))) := by
  cases o with
  | none => exact js_seq h (h2 rfl)
  | some x => exact js_rt h
theorem ok__law_first {P : Program} {w : World} {K : PySem.W.Frag} {mg : Str → Option Value} {base : Heap} (T : Tx K mg) : FnOk P w K mg base (L2.CX P w) 3 T.a__law_first T.fd__law_first ["points", "d"] (Prm K T.M (args__law_first T) dom__law_first (out__law_first T)) := by
  refine T.F__law_first.okX sc__law_first (fun vs H Q E h => by obtain ⟨a, F, _, al, _⟩ := h; exact al.length) (fun cdv A outer s H vs Q E hr h => ?_)
  have tk : Takes (cxOf (L2.CX P w) P w K mg base N__law_first "_law_first" (defScope s__law_first) T.a__law_first cdv A outer s H E) (fun cls d _ H => E cls d H) := takes_of rfl rfl rfl rfl
  obtain ⟨a, F, fh, al, hd, th⟩ := h
  refine ⟨_, (pss_cons (ps_for (passes_of rfl) rfl (pi_list (pe_callS (ok__law_threes T) (hr.mono (by decide)) (by rfl) T.g__law_threes T.F__law_threes.kp (b__law_threes T) (fun σ => passAt tk σ) (pa_cons (pe_callB call_len_seq (by rfl) T.z_len PySem.boot_len (pa_cons (pv 0) pa_nil)) pa_nil))) (pg_name (i := 2) sc__law_first.nd rfl (by first | exact Or.inl rfl | exact Or.inr rfl)) (pss_one (ps_if (PW.pt (pw_and (pt_cmpR op_notIn_seq (pv 1) (pv 2) (by rfl)) (pw_and1 (pt_val (pe_callS (ok__law_around T) (hr.mono (by decide)) (by rfl) T.g__law_around T.F__law_around.kp (b__law_around T) (fun σ => passAt tk σ) (pa_cons (pv 0) (pa_cons (pv 2) (pa_cons (pv 1) pa_nil)))))))) (pss_one (ps_ret (pv 2))) pss_nil)))
      (pss_one (ps_ret pe_non))), ?_⟩
  obtain ⟨pts, d⟩ := a
  obtain ⟨hl, hnear, hdl⟩ := hd
  simp only at hl hnear hdl
  refine fin_ok (K := K) (M := T.M) (Ps := args__law_first T (pts, d)) (r := .rt (dv K (firstD pts d))) (js_endR (o := hold pts d) (f := tupI) (js_first (vs := [2]) (subsL pts.length 3) tupI (fun x => if (!x.contains (d : Int) && arB pts x d) = true then some x else none) (fun x => .ok (dv K (tupI x))) (ji_list (je_call (args := args__law_threes T) (dom := dom__law_threes) (out := out__law_threes T) pts.length (ja_cons (je_n (je_var (i := 0) rfl)) ja_nil) hl)) fun x hx => ⟨_, jg_name, ?_⟩) (fun _ => js_ret je_non)) (by exact rfl) fh al th
  have tst := jt_and (jt_test (je_notInT (K := K) (M := T.M) (W := fun cls d _ H => E cls d H) (ps := (entry N__law_first (args__law_first T (pts, d))).set 2 (some (dv K (tupI x)))) (je_var (i := 1) rfl) (je_var (i := 2) rfl))) (fun _ => jt_B (je_call (args := args__law_around T) (dom := dom__law_around) (out := out__law_around T) (pts, x, d) (ja_cons (je_var (i := 0) rfl) (ja_cons (je_var (i := 2) rfl) (ja_cons (je_var (i := 1) rfl) ja_nil))) ⟨hl, hnear, hx, hdl⟩))
  cases hb : (!x.contains (d : Int) && arB pts x d) with
  | true =>
    rw [hb] at tst
    exact js_if (b := true) tst (fun _ => js_ret (P := dv K (tupI x)) (je_var (i := 2) rfl)) (fun z => Bool.noConfusion z)
  | false =>
    rw [hb] at tst
    exact js_if (b := false) tst (fun z => Bool.noConfusion z) (fun _ => js_weak js_next ⟨.inr rfl, .inr rfl, .inl rfl, trivial⟩)
/-! ### held, past: what is told, or what is raised -/
theorem je_tup2_er {K : PySem.W.Frag} {M : EC → Addr} {W : WX} {ps : Kn} {te : TE} {c : V} {e : Er} (h : JE K M W te ps (.er e)) : JE K M W (tTup (tCons (tC c) (tCons te tNil))) ps (.er e) := fun σ F H Q fh S k => h σ F H _ fh S k
def nopD (i : Int) : PyData := .tuple [.str "NoPoint", .int i, .bool true]
def heldR (pts : List Pt) (i : Int) : PyData := match isNo i pts.length with
  | false => nopD i
  | true => .tuple [.str "held", heldD pts i.toNat]
def args__law_held {K : PySem.W.Frag} {mg : Str → Option Value} (T : Tx K mg) : List Pt × Int → List PV := args_held_by T
def dom__law_held : List Pt × Int → Prop := dom_held_by
def out__law_held {K : PySem.W.Frag} {mg : Str → Option Value} (T : Tx K mg) : List Pt × Int → Out := fun a => .ok (dv K (heldR a.1 a.2))
abbrev tbHeld {K : PySem.W.Frag} {mg : Str → Option Value} (T : Tx K mg) : WX → TS := fun W => tRet (tTup (tCons (tC (.str "held")) (tCons (tCallS (Prm K T.M (args_held_by T) dom_held_by (out_held_by T)) (WE W) (tCons (tVar 0) (tCons (tVar 1) tNil))) tNil)))
theorem ok__law_held {P : Program} {w : World} {K : PySem.W.Frag} {mg : Str → Option Value} {base : Heap} (T : Tx K mg) : FnOk P w K mg base (L2.CX P w) 5 T.a__law_held T.fd__law_held ["floor", "number"] (Prm K T.M (args__law_held T) dom__law_held (out__law_held T)) := by
  refine T.F__law_held.okX sc__law_held (fun vs H Q E h => by obtain ⟨a, F, _, al, _⟩ := h; exact al.length) (fun cdv A outer s H vs Q E hr h => ?_)
  have tk : Takes (cxOf (L2.CX P w) P w K mg base N__law_held "_law_held" (defScope s__law_held) T.a__law_held cdv A outer s H E) (fun cls d _ H => E cls d H) := takes_of rfl rfl rfl rfl
  obtain ⟨a, F, fh, al, hd, th⟩ := h
  refine ⟨_, (pss_cons (ps_try_named (tb := fun W => _) rfl rfl sc__law_held.nd tk (fun W pn xe tkb pob => (pss_one (ps_ret (pe_tup (pa_cons pe_str (pa_cons (pe_callS (ok_held_by T) (hr.mono (by decide)) (by rfl) T.g_held_by T.F_held_by.kp (b_held_by T) (fun σ => passAt tkb σ) (pa_cons (pv 0) (pa_cons (pv 1) pa_nil))) pa_nil)))))) (Clauses.cons (c := .ref T.a_BowlError) (i := 2) ⟨rfl, by decide, .inl T.g_BowlError⟩ rfl rfl (fun a ob cls d pn hz hf => (pss_one (ps_if (PW.pt (pw_and (pt_val (pe_callB (call_isEx hz hf) (by rfl) T.z_isinstance PyProof.Rows.boot_isinstance (pa_cons (pv 2) (pa_cons (pe_glob (v := .ref T.a_NoPoint) (by rfl) T.g_NoPoint rfl) pa_nil)))) (pw_and1 (pt_not (pt_val (pe_callB (call_isEx hz hf) (by rfl) T.z_isinstance PyProof.Rows.boot_isinstance (pa_cons (pv 2) (pa_cons (pe_glob (v := .ref T.a_Within) (by rfl) T.g_Within rfl) pa_nil)))))))) (pss_one (ps_ret (pe_tup (pa_cons pe_str (pa_cons (pe_xf (T.X_NoPoint).xf (T.X_NoPoint).nf hz hf (pv 2)) (pa_cons (pe_callB (call_isEx hz hf) (by rfl) T.z_isinstance PyProof.Rows.boot_isinstance (pa_cons (pv 2) (pa_cons (pe_bltn (v := .ty "ValueError") (by rfl) T.z_ValueError PyProof.Rows.Boot.«ValueError» rfl) pa_nil))) pa_nil)))))) pss_nil))) Clauses.nil))
      (pss_one (ps_ret (pe_tup (pa_cons pe_str (pa_cons pe_non pa_nil)))))), ?_⟩
  obtain ⟨pts, i⟩ := a
  have k : Ok3 pts := hd
  have c1 : ∀ W' : WX, _ := fun W' => je_call (K := K) (M := T.M) (W := W') (ps := entry N__law_held (args__law_held T (pts, i))) (args := args_held_by T) (dom := dom_held_by) (out := out_held_by T) (pts, i) (ja_cons (je_var (i := 0) rfl) (ja_cons (je_var (i := 1) rfl) ja_nil)) k
  have ho : out__law_held T (pts, i) = .ok (dv K (heldR pts i)) := rfl
  rw [ho] at th
  unfold heldR at th
  cases hq : isNo i pts.length with
  | false =>
    rw [hq] at th
    rw [show out_held_by T (pts, i) = .er ⟨.NoPoint, .int i⟩ by unfold out_held_by; dsimp only; rw [hq]] at c1
    exact fin_ok (K := K) (M := T.M) (Ps := args__law_held T (pts, i)) (r := .rt (dv K (nopD i))) (js_rt (js_try_er (tb := tbHeld T) (e := ⟨.NoPoint, .int i⟩) (fun W' => js_ret_er (je_tup2_er (c1 W'))) (.inl ⟨T.x_NoPoint_BowlError, fun xa dd => js_if (b := true) (jt_is (jt_and (jt_B (je_isEx (je_var (i := 2) rfl) T.X_NoPoint.ek (.own _) EB.kit_refl)) (fun _ => jt_not (jt_B (je_isEx (je_var (i := 2) rfl) T.X_NoPoint.ek (.own _) T.k0_NoPoint_Within)))) rfl) (fun _ => js_ret (P := dv K (nopD i)) (je_tup (ds := [.str "NoPoint", .int i, .bool true]) (ja_cons je_str (ja_cons (je_xf (je_var (i := 2) rfl)) (ja_cons (je_isEx (je_var (i := 2) rfl) T.X_NoPoint.ek (.ty _) T.k_NoPoint_ValueError) ja_nil))))) (fun z => Bool.noConfusion z)⟩))) (by exact rfl) fh al th
  | true =>
    rw [hq] at th
    rw [show out_held_by T (pts, i) = .ok (dv K (heldD pts i.toNat)) by unfold out_held_by; dsimp only; rw [hq]] at c1
    exact fin_ok (K := K) (M := T.M) (Ps := args__law_held T (pts, i)) (r := .rt (dv K (.tuple [.str "held", heldD pts i.toNat]))) (js_rt (js_try_ok (tb := tbHeld T) (fun W' => js_ret (je_tup (ds := [.str "held", heldD pts i.toNat]) (ja_cons je_str (ja_cons (c1 W') ja_nil)))) (fun _ q => nomatch q))) (by exact rfl) fh al th
def pastR (pts : List Pt) (i : Int) : PyData := match isNo i pts.length with
  | false => nopD i
  | true => match hold pts i.toNat with
    | some x => .tuple [.str "Within", tupI x, .bool true]
    | none => .tuple [.str "line", tupI (lineD pts i.toNat)]
def args__law_past {K : PySem.W.Frag} {mg : Str → Option Value} (T : Tx K mg) : List Pt × Int → List PV := args_held_by T
def dom__law_past : List Pt × Int → Prop := dom_held_by
def out__law_past {K : PySem.W.Frag} {mg : Str → Option Value} (T : Tx K mg) : List Pt × Int → Out := fun a => .ok (dv K (pastR a.1 a.2))
abbrev tbPast {K : PySem.W.Frag} {mg : Str → Option Value} (T : Tx K mg) : WX → TS := fun W => tRet (tTup (tCons (tC (.str "line")) (tCons (tCallS (Prm K T.M (args_line_past T) dom_line_past (out_line_past T)) (WE W) (tCons (tVar 0) (tCons (tVar 1) tNil))) tNil)))
theorem ok__law_past {P : Program} {w : World} {K : PySem.W.Frag} {mg : Str → Option Value} {base : Heap} (T : Tx K mg) : FnOk P w K mg base (L2.CX P w) 9 T.a__law_past T.fd__law_past ["floor", "number"] (Prm K T.M (args__law_past T) dom__law_past (out__law_past T)) := by
  refine T.F__law_past.okX sc__law_past (fun vs H Q E h => by obtain ⟨a, F, _, al, _⟩ := h; exact al.length) (fun cdv A outer s H vs Q E hr h => ?_)
  have tk : Takes (cxOf (L2.CX P w) P w K mg base N__law_past "_law_past" (defScope s__law_past) T.a__law_past cdv A outer s H E) (fun cls d _ H => E cls d H) := takes_of rfl rfl rfl rfl
  obtain ⟨a, F, fh, al, hd, th⟩ := h
  refine ⟨_, (pss_cons (ps_try_named (tb := fun W => _) rfl rfl sc__law_past.nd tk (fun W pn xe tkb pob => (pss_one (ps_ret (pe_tup (pa_cons pe_str (pa_cons (pe_callS (ok_line_past T) (hr.mono (by decide)) (by rfl) T.g_line_past T.F_line_past.kp (b_line_past T) (fun σ => passAt tkb σ) (pa_cons (pv 0) (pa_cons (pv 1) pa_nil))) pa_nil)))))) (Clauses.cons (c := .ref T.a_BowlError) (i := 2) ⟨rfl, by decide, .inl T.g_BowlError⟩ rfl rfl (fun a ob cls d pn hz hf => (pss_cons (ps_if (PW.pt (pw_and (pt_val (pe_callB (call_isEx hz hf) (by rfl) T.z_isinstance PyProof.Rows.boot_isinstance (pa_cons (pv 2) (pa_cons (pe_glob (v := .ref T.a_Within) (by rfl) T.g_Within rfl) pa_nil)))) (pw_and1 (pt_not (pt_val (pe_callB (call_isEx hz hf) (by rfl) T.z_isinstance PyProof.Rows.boot_isinstance (pa_cons (pv 2) (pa_cons (pe_glob (v := .ref T.a_NoPoint) (by rfl) T.g_NoPoint rfl) pa_nil)))))))) (pss_one (ps_ret (pe_tup (pa_cons pe_str (pa_cons (pe_xf (T.X_Within).xf (T.X_Within).nf hz hf (pv 2)) (pa_cons (pe_callB (call_isEx hz hf) (by rfl) T.z_isinstance PyProof.Rows.boot_isinstance (pa_cons (pv 2) (pa_cons (pe_bltn (v := .ty "ValueError") (by rfl) T.z_ValueError PyProof.Rows.Boot.«ValueError» rfl) pa_nil))) pa_nil)))))) pss_nil)
      (pss_one (ps_if (PW.pt (pw_and (pt_val (pe_callB (call_isEx hz hf) (by rfl) T.z_isinstance PyProof.Rows.boot_isinstance (pa_cons (pv 2) (pa_cons (pe_glob (v := .ref T.a_NoPoint) (by rfl) T.g_NoPoint rfl) pa_nil)))) (pw_and1 (pt_not (pt_val (pe_callB (call_isEx hz hf) (by rfl) T.z_isinstance PyProof.Rows.boot_isinstance (pa_cons (pv 2) (pa_cons (pe_glob (v := .ref T.a_Within) (by rfl) T.g_Within rfl) pa_nil)))))))) (pss_one (ps_ret (pe_tup (pa_cons pe_str (pa_cons (pe_xf (T.X_NoPoint).xf (T.X_NoPoint).nf hz hf (pv 2)) (pa_cons (pe_callB (call_isEx hz hf) (by rfl) T.z_isinstance PyProof.Rows.boot_isinstance (pa_cons (pv 2) (pa_cons (pe_bltn (v := .ty "ValueError") (by rfl) T.z_ValueError PyProof.Rows.Boot.«ValueError» rfl) pa_nil))) pa_nil)))))) pss_nil)))) Clauses.nil))
      (pss_one (ps_ret (pe_tup (pa_cons pe_str (pa_cons pe_non pa_nil)))))), ?_⟩
  obtain ⟨pts, i⟩ := a
  have k : Ok3 pts := hd
  have c1 : ∀ W' : WX, _ := fun W' => je_call (K := K) (M := T.M) (W := W') (ps := entry N__law_past (args__law_past T (pts, i))) (args := args_line_past T) (dom := dom_line_past) (out := out_line_past T) (pts, i) (ja_cons (je_var (i := 0) rfl) (ja_cons (je_var (i := 1) rfl) ja_nil)) k
  have ho : out__law_past T (pts, i) = .ok (dv K (pastR pts i)) := rfl
  rw [ho] at th
  rw [show out_line_past T (pts, i) = outX K (pastE pts i) from rfl] at c1
  unfold pastR at th
  unfold pastE at c1
  cases hq : isNo i pts.length with
  | false =>
    rw [hq] at th c1
    exact fin_ok (K := K) (M := T.M) (Ps := args__law_past T (pts, i)) (r := .rt (dv K (nopD i))) (js_rt (js_try_er (tb := tbPast T) (e := ⟨.NoPoint, .int i⟩) (fun W' => js_ret_er (je_tup2_er (c1 W'))) (.inl ⟨T.x_NoPoint_BowlError, fun xa dd => js_seq (js_if (b := false) (jt_and (b := false) (jt_B (je_isEx (je_var (i := 2) rfl) T.X_NoPoint.ek (.own _) T.k0_NoPoint_Within)) (fun z => Bool.noConfusion z)) (fun z => Bool.noConfusion z) (fun _ => js_next)) (js_if (b := true) (jt_is (jt_and (jt_B (je_isEx (je_var (i := 2) rfl) T.X_NoPoint.ek (.own _) EB.kit_refl)) (fun _ => jt_not (jt_B (je_isEx (je_var (i := 2) rfl) T.X_NoPoint.ek (.own _) T.k0_NoPoint_Within)))) rfl) (fun _ => js_ret (P := dv K (nopD i)) (je_tup (ds := [.str "NoPoint", .int i, .bool true]) (ja_cons je_str (ja_cons (je_xf (je_var (i := 2) rfl)) (ja_cons (je_isEx (je_var (i := 2) rfl) T.X_NoPoint.ek (.ty _) T.k_NoPoint_ValueError) ja_nil))))) (fun z => Bool.noConfusion z))⟩))) (by exact rfl) fh al th
  | true =>
    rw [hq] at th c1
    dsimp only at th c1
    cases hh : hold pts i.toNat with
    | some x =>
      rw [hh] at th c1
      exact fin_ok (K := K) (M := T.M) (Ps := args__law_past T (pts, i)) (r := .rt (dv K (.tuple [.str "Within", tupI x, .bool true]))) (js_rt (js_try_er (tb := tbPast T) (e := ⟨.Within, tupI x⟩) (fun W' => js_ret_er (je_tup2_er (c1 W'))) (.inl ⟨T.x_Within_BowlError, fun xa dd => js_rt (js_if (b := true) (jt_is (jt_and (jt_B (je_isEx (je_var (i := 2) rfl) T.X_Within.ek (.own _) EB.kit_refl)) (fun _ => jt_not (jt_B (je_isEx (je_var (i := 2) rfl) T.X_Within.ek (.own _) T.k0_Within_NoPoint)))) rfl) (fun _ => js_ret (P := dv K (.tuple [.str "Within", tupI x, .bool true])) (je_tup (ds := [.str "Within", tupI x, .bool true]) (ja_cons je_str (ja_cons (je_xf (je_var (i := 2) rfl)) (ja_cons (je_isEx (je_var (i := 2) rfl) T.X_Within.ek (.ty _) T.k_Within_ValueError) ja_nil))))) (fun z => Bool.noConfusion z))⟩))) (by exact rfl) fh al th
    | none =>
      rw [hh] at th c1
      exact fin_ok (K := K) (M := T.M) (Ps := args__law_past T (pts, i)) (r := .rt (dv K (.tuple [.str "line", tupI (lineD pts i.toNat)]))) (js_rt (js_try_ok (tb := tbPast T) (fun W' => js_ret (je_tup (ds := [.str "line", tupI (lineD pts i.toNat)]) (ja_cons je_str (ja_cons (c1 W') ja_nil)))) (fun _ q => nomatch q))) (by exact rfl) fh al th
end K13

namespace K13
open PySem PySem.Spec PyProof.Rows L2 Evl EB
/-! ### the line held, one point held -/
theorem js_allP {K : PySem.W.Frag} {M : EC → Addr} {W : WX} {ps : Kn} {vs : List Nat} {wi : TI} {g : TG} {tb : TS} {α : Type} (L : List α) (enc : α → PyData) (hi : JI K M W wi ps (L.map enc))
    (hs : ∀ x ∈ L, ∃ qs, JG vs g ps (dv K (enc x)) qs ∧ JS K M W tb qs (.nx ps)) : JS K M W (tFor wi g tb) ps (.nx ps) := by
  have := js_first (K := K) (M := M) (W := W) (g := g) (tb := tb) (vs := vs) L enc (fun _ => (none : Option Er)) Out.er hi fun x hx => by
    obtain ⟨qs, hg, hb⟩ := hs x hx
    exact ⟨qs, hg, hb⟩
  rw [List.findSome?_eq_none_iff.mpr (fun _ _ => rfl)] at this
  exact this
def args__law_parts {K : PySem.W.Frag} {mg : Str → Option Value} (T : Tx K mg) : List Pt × Nat → List PV := fun a => [dv K (tupI (lineD a.1 a.2)), dv K (.list (a.1.map pD)), dv K (.int a.2)]
def dom__law_parts : List Pt × Nat → Prop := fun a => Ok3 a.1 ∧ a.2 ∈ dueN a.1
def out__law_parts {K : PySem.W.Frag} {mg : Str → Option Value} (T : Tx K mg) : List Pt × Nat → Out := fun a => .ok (dv K (.bool true))
theorem je_eqN {K : PySem.W.Frag} {M : EC → Addr} {W : WX} {ps : Kn} {ta tb : TE} {i j : Nat} (ha : JD K M W ta ps (.int i)) (hb : JD K M W tb ps (.int j)) : JD K M W (tOp rEq ta tb) ps (.bool (decide (i = j))) := je_is (je_eqI ha hb) (by
  by_cases h : i = j
  · subst h
    simp
  · have : ¬ (i : Int) = (j : Int) := fun z => h (by omega)
    simp [h, this])
theorem big90 : (2 : Int) ^ 200 ≤ 10 ^ (50 : Int).toNat * 10 ^ (40 : Int).toNat := by decide +kernel
theorem ok__law_parts {P : Program} {w : World} {K : PySem.W.Frag} {mg : Str → Option Value} {base : Heap} (T : Tx K mg) : FnOk P w K mg base (L2.CX P w) 1 T.a__law_parts T.fd__law_parts ["line", "points", "d"] (Prm K T.M (args__law_parts T) dom__law_parts (out__law_parts T)) := by
  refine T.F__law_parts.okX sc__law_parts (fun vs H Q E h => by obtain ⟨a, F, _, al, _⟩ := h; exact al.length) (fun cdv A outer s H vs Q E hr h => ?_)
  have tk : Takes (cxOf (L2.CX P w) P w K mg base N__law_parts "_law_parts" (defScope s__law_parts) T.a__law_parts cdv A outer s H E) (fun cls d _ H => E cls d H) := takes_of rfl rfl rfl rfl
  obtain ⟨a, F, fh, al, hd, th⟩ := h
  refine ⟨_, (pss_cons (ps_if (PW.pt (pw_or (pt_not (pt_val (pe_callB call_isi (by rfl) T.z_isinstance PyProof.Rows.boot_isinstance (pa_cons (pv 0) (pa_cons (pe_bltn (v := .ty "tuple") (by rfl) T.z_tuple PyProof.Rows.boot_tuple rfl) pa_nil))))) (pw_or1 (pt_cmpR op_ne (pe_callB call_len_seq (by rfl) T.z_len PySem.boot_len (pa_cons (pv 0) pa_nil)) pe_int (nomark _))))) (pss_one (ps_ret pe_bl)) pss_nil)
      (pss_cons (ps_for (passes_of rfl) rfl (pi_tup (pv 0)) (pg_name (i := 3) sc__law_parts.nd rfl (by first | exact Or.inl rfl | exact Or.inr rfl)) (pss_cons (ps_if (PW.pt (pw_or (pt_not (pt_val (pe_callB call_isi (by rfl) T.z_isinstance PyProof.Rows.boot_isinstance (pa_cons (pv 3) (pa_cons (pe_bltn (v := .ty "int") (by rfl) T.z_int PyProof.Rows.boot_int rfl) pa_nil))))) (pw_or1 (pt_val (pe_callB call_isi (by rfl) T.z_isinstance PyProof.Rows.boot_isinstance (pa_cons (pv 3) (pa_cons (pe_bltn (v := .ty "bool") (by rfl) T.z_bool PyProof.Rows.boot_bool rfl) pa_nil))))))) (pss_one (ps_ret pe_bl)) pss_nil)
      (pss_one (ps_if (pt_cmpR op_ge (pe_callB call_abs (by rfl) T.z_abs (by decide +kernel) (pa_cons (pv 3) pa_nil)) (pe_op op_mulW (pe_op op_pow pe_int pe_int) (pe_op op_pow pe_int pe_int)) (nomark _)) (pss_one (ps_ret pe_bl)) pss_nil))))
      (pss_cons (ps_for (passes_of rfl) rfl (pi_range1 (by rfl) T.z_range (pa_cons (pe_callB call_len_seq (by rfl) T.z_len PySem.boot_len (pa_cons (pv 1) pa_nil)) pa_nil)) (pg_name (i := 4) sc__law_parts.nd rfl (by first | exact Or.inl rfl | exact Or.inr rfl)) (pss_cons (ps_set (i := 5) sc__law_parts.nd rfl (by first | exact Or.inl rfl | exact Or.inr rfl) (pe_ix ix_list (pv 1) (pv 4) (fun _ _ => rfl)))
      (pss_cons (ps_set (i := 6) sc__law_parts.nd rfl (by first | exact Or.inl rfl | exact Or.inr rfl) (pe_op op_add (pe_op op_add (pe_op op_mul (pe_ix ix_tup (pv 0) pe_int (fun _ _ => rfl)) (pe_ix ix_tup (pv 5) pe_int (fun _ _ => rfl))) (pe_op op_mul (pe_ix ix_tup (pv 0) pe_int (fun _ _ => rfl)) (pe_ix ix_tup (pv 5) pe_int (fun _ _ => rfl)))) (pe_ix ix_tup (pv 0) pe_int (fun _ _ => rfl))))
      (pss_one (ps_if (PW.pt (pw_or (PW.pt (pw_and (pt_cmpR op_eq (pv 4) (pv 2) (nomark _)) (pw_and1 (pt_cmpR op_le (pv 6) pe_int (nomark _))))) (pw_or1 (PW.pt (pw_and (pt_cmpR op_ne (pv 4) (pv 2) (nomark _)) (pw_and1 (pt_cmpR op_ge (pv 6) pe_int (nomark _)))))))) (pss_one (ps_ret pe_bl)) pss_nil)))))
      (pss_one (ps_ret pe_bl))))), ?_⟩
  obtain ⟨pts, d⟩ := a
  obtain ⟨k, hdue⟩ := hd
  simp only at k hdue
  have nn := near_pt k.nr
  have sml : ∀ v ∈ lineD pts d, v.natAbs < 2 ^ 200 := line_small (nn _) (nn _) (nn _)
  obtain ⟨l0, l1, l2, hl⟩ : ∃ l0 l1 l2, lineD pts d = [l0, l1, l2] := ⟨_, _, _, rfl⟩
  have lok := fun {s : Nat} (hs : s < pts.length) => line_ok k hdue hs
  have eP : args__law_parts T (pts, d) = [dv K (tupI [l0, l1, l2]), dv K (.list (pts.map pD)), dv K (.int d)] := by
    rw [← hl] <;> rfl
  rw [eP] at al
  rw [hl] at sml lok
  let W0 : WX := fun cls d _ H => E cls d H
  have hln : ∀ ps : Kn, ps[0]? = some (some (dv K (tupI [l0, l1, l2]))) → JD K T.M W0 (tVar 0) ps (.tuple [.int l0, .int l1, .int l2]) := fun ps h => je_var (i := 0) h
  refine fin_ok (K := K) (M := T.M) (Ps := [dv K (tupI [l0, l1, l2]), dv K (.list (pts.map pD)), dv K (.int d)]) (r := .rt (dv K (.bool true))) (js_seq (js_if (b := false) (jt_is (jt_or (jt_not (jt_B (je_isTp (b := true) (hln _ rfl) (by decide)))) (fun _ => jt_test (je_neI (je_lenT (hln _ rfl)) je_int))) rfl) (fun z => Bool.noConfusion z) (fun _ => js_next))
    (js_seq (js_allP (vs := [3]) [l0, l1, l2] .int (ji_tup (ds := [.int l0, .int l1, .int l2]) (hln _ rfl)) fun v hv => ⟨_, jg_name, ?_⟩)
    (js_seq (js_allP (vs := [4]) (List.range pts.length) (fun c : Nat => .int (c : Int)) (ji_n (je_n (je_var (i := 1) rfl)) (by have := k.l10; omega)) fun s hs => ⟨_, jg_name, ?_⟩) (js_ret je_bl)))) (by exact rfl) fh al th
  · refine js_weak (js_seq (js_if (b := false) (jt_is (jt_or (jt_not (jt_B (je_isTyI (b := true) (je_var (i := 3) rfl) (by decide)))) (fun _ => jt_B (je_isTyI (b := false) (je_var (i := 3) rfl) (by decide)))) rfl) (fun z => Bool.noConfusion z) (fun _ => js_next)) (js_if (b := false) (jt_is (jt_test (je_ge (je_abs (je_var (i := 3) rfl)) (je_mulW (je_pow je_int je_int ⟨by decide, by decide, by decide⟩) (je_pow je_int je_int ⟨by decide, by decide, by decide⟩) (by show _ < _; decide +kernel)))) ?_) (fun z => Bool.noConfusion z) (fun _ => js_next))) ⟨.inr rfl, .inr rfl, .inr rfl, .inl rfl, .inr rfl, .inr rfl, .inr rfl, trivial⟩
    have h1 := sml v hv
    have h2 := absI_nat v
    have h3 := big90
    have h4 : absI v < 2 ^ 200 := by
      rw [h2]
      have : ((v.natAbs : Nat) : Int) < ((2 ^ 200 : Nat) : Int) := Int.ofNat_lt.mpr h1
      simpa using this
    unfold absI at h4
    exact decide_eq_false (by omega)
  · have hs2 := List.mem_range.mp hs
    obtain ⟨o1, o2⟩ := lok hs2
    obtain ⟨⟨b1, b2⟩, b3, b4⟩ := nn (s : Int)
    refine js_weak (js_seq (js_set (i := 5) (je_ixL (je_var (i := 1) rfl) (je_var (i := 4) rfl) (nat_pt hs2))) (js_seq (js_set (i := 6) (P := dv K (.int (lineV [l0, l1, l2] (pt pts (s : Int))))) (je_add (je_add (je_mul (je_ixT (hln _ rfl) (je_int (i := 0)) rfl) (je_p1 (je_var (i := 5) rfl)) (.inr ⟨by omega, by omega⟩)) (je_mul (je_ixT (hln _ rfl) (je_int (i := 1)) rfl) (je_p2 (je_var (i := 5) rfl)) (.inr ⟨by omega, by omega⟩))) (je_ixT (hln _ rfl) (je_int (i := 2)) rfl)))
      (js_if (b := false) (jt_is (jt_or (jt_and (jt_test (je_eqN (je_var (i := 4) rfl) (je_var (i := 2) rfl))) (fun _ => jt_test (je_le (je_var (i := 6) rfl) je_int))) (fun _ => jt_and (jt_test (je_neN (je_var (i := 4) rfl) (je_var (i := 2) rfl))) (fun _ => jt_test (je_ge (je_var (i := 6) rfl) je_int)))) ?_) (fun z => Bool.noConfusion z) (fun _ => js_next)))) ⟨.inr rfl, .inr rfl, .inr rfl, .inr rfl, .inl rfl, .inl rfl, .inl rfl, trivial⟩
    by_cases e : s = d
    · have := o1 e
      rw [decide_eq_true e, decide_eq_false (show ¬ lineV [l0, l1, l2] (pt pts (s : Int)) ≤ 0 by omega), decide_eq_false (show ¬ s ≠ d from fun z => z e)]
      rfl
    · have := o2 e
      rw [decide_eq_false e, decide_eq_true e, decide_eq_false (show ¬ 0 ≤ lineV [l0, l1, l2] (pt pts (s : Int)) by omega)]
      rfl
def fitsM (p : Int × Int) : Prop := (-1000000 ≤ p.1 ∧ p.1 ≤ 1000000) ∧ (-1000000 ≤ p.2 ∧ p.2 ≤ 1000000)
theorem area_13 {p q r : Int × Int} (hp : fitsM p) (hq : fitsM q) (hr : fitsM r) : (area p q r).natAbs ≤ 8000000000000 := by
  obtain ⟨⟨p1, p2⟩, p3, p4⟩ := hp
  obtain ⟨⟨q1, q2⟩, q3, q4⟩ := hq
  obtain ⟨⟨r1, r2⟩, r3, r4⟩ := hr
  unfold area
  have m1 := mul_lt (a := q.1 - p.1) (b := r.2 - p.2) (m := 2000000) (n := 2000000) (by omega) (by omega)
  have m2 := mul_lt (a := q.2 - p.2) (b := r.1 - p.1) (m := 2000000) (n := 2000000) (by omega) (by omega)
  omega
theorem fitsM_pt {pts : List Pt} (h : ∀ p ∈ pts, fitsM p) (i : Int) : fitsM (pt pts i) := by
  unfold pt
  by_cases hl : i.toNat < pts.length
  · rw [List.getD_eq_getElem?_getD, List.getElem?_eq_getElem hl]
    exact h _ (List.getElem_mem hl)
  · rw [List.getD_eq_getElem?_getD, List.getElem?_eq_none (by omega)]
    exact ⟨by decide, by decide⟩
theorem div_b {i : Int} (h : i.natAbs ≤ 8000000000000) {g : Nat} (hg : 0 < g) : 0 ≤ absI i / (g : Nat) ∧ absI i / (g : Nat) ≤ 8000000000000 := by
  rw [absI_nat, ← Int.natCast_ediv]
  have := Nat.div_le_self i.natAbs g
  generalize i.natAbs / g = q at this
  exact ⟨by omega, by omega⟩
theorem sb_heldT {pts : List Pt} (k : Ok3 pts) (hf : ∀ p ∈ pts, fitsM p) {d : Nat} (hd : d < pts.length) {x : List Int} (hx : x ∈ subsL pts.length 3) (hc : x.contains (d : Int) = false) : Sb (heldT pts d x) 3 1000 := by
  have hg := gI_pos k hx hd hc
  have l10 := k.l10
  obtain ⟨u, v, z, rfl, h1, h2, h3⟩ := of_subs k.l10 hx
  have ff := fitsM_pt hf
  refine (sb_tup (n := 2) (w := 201) (ds := [tupI [(u : Int), (v : Int), (z : Int)], tupI (wts pts [(u : Int), (v : Int), (z : Int)] d)]) fun e he => ?_).up (by decide) (by show 2 * 202 ≤ 1000; decide)
  simp only [List.mem_cons, List.not_mem_nil, or_false] at he
  rcases he with rfl | rfl
  · refine (sb_tup (n := 1) (w := 66) (ds := [(u : Int), (v : Int), (z : Int)].map .int) fun e he => ?_).up (by decide) (by show 3 * 67 ≤ 201; decide)
    obtain ⟨i, hi, rfl⟩ := List.mem_map.mp he
    simp only [List.mem_cons, List.not_mem_nil, or_false] at hi
    rcases hi with rfl | rfl | rfl <;> exact sb_int ⟨by omega, by omega⟩
  · refine (sb_tup (n := 1) (w := 66) (ds := (wts pts [(u : Int), (v : Int), (z : Int)] d).map .int) fun e he => ?_).up (by decide) (by show 3 * 67 ≤ 201; decide)
    obtain ⟨i, hi, rfl⟩ := List.mem_map.mp he
    unfold wts at hi
    simp only [List.mem_cons, List.not_mem_nil, or_false] at hi
    rcases hi with rfl | rfl | rfl
    · have := div_b (i := uI pts [(u : Int), (v : Int), (z : Int)] d) (area_13 (ff _) (ff _) (ff _)) hg.1
      exact sb_int ⟨by omega, by omega⟩
    · have := div_b (i := vI pts [(u : Int), (v : Int), (z : Int)] d) (area_13 (ff _) (ff _) (ff _)) hg.1
      exact sb_int ⟨by omega, by omega⟩
    · have := div_b (i := wI pts [(u : Int), (v : Int), (z : Int)] d) (area_13 (ff _) (ff _) (ff _)) hg.1
      exact sb_int ⟨by omega, by omega⟩
theorem sb_win {n : Nat} (hn : n ≤ 10) {x : List Int} (hx : x ∈ subsL n 3) : Sb (.tuple [.str "Within", tupI x, .bool true]) 3 1000 := by
  obtain ⟨u, v, z, rfl, h1, h2, h3⟩ := of_subs hn hx
  refine (sb_tup (n := 2) (w := 201) (ds := [.str "Within", tupI [(u : Int), (v : Int), (z : Int)], .bool true]) fun e he => ?_).up (by decide) (by show 3 * 202 ≤ 1000; decide)
  simp only [List.mem_cons, List.not_mem_nil, or_false] at he
  rcases he with rfl | rfl | rfl
  · exact (sb_str (by decide +kernel) (by decide +kernel)).up (by decide) (by decide)
  · refine (sb_tup (n := 1) (w := 66) (ds := [(u : Int), (v : Int), (z : Int)].map .int) fun e he => ?_).up (by decide) (by show 3 * 67 ≤ 201; decide)
    obtain ⟨i, hi, rfl⟩ := List.mem_map.mp he
    simp only [List.mem_cons, List.not_mem_nil, or_false] at hi
    rcases hi with rfl | rfl | rfl <;> exact sb_int ⟨by omega, by omega⟩
  · exact sb_bl.up (by decide) (by decide)
def args__law_right {K : PySem.W.Frag} {mg : Str → Option Value} (T : Tx K mg) : List Pt × Nat → List PV := fun a => [ob1 K T.a_Floor "points" (.tuple (a.1.map pD)), dv K (.list (a.1.map pD)), dv K (.int a.2)]
def dom__law_right : List Pt × Nat → Prop := fun a => Ok3 a.1 ∧ (∀ p ∈ a.1, fitsM p) ∧ a.2 < a.1.length
def out__law_right {K : PySem.W.Frag} {mg : Str → Option Value} (T : Tx K mg) : List Pt × Nat → Out := fun a => .ok (dv K (.bool true))
theorem ok__law_right {P : Program} {w : World} {K : PySem.W.Frag} {mg : Str → Option Value} {base : Heap} (T : Tx K mg) : FnG P w K mg base (L2.CX P w) 10 T.a__law_right T.fd__law_right ["floor", "points", "d"] (Prm K T.M (args__law_right T) dom__law_right (out__law_right T)) := by
  refine okG T.F__law_right sc__law_right (fun vs H Q E h => by obtain ⟨a, F, _, al, _⟩ := h; exact al.length) (fun cdv A outer s H vs Q E hr h => ?_)
  have tk : Takes (cxOf (L2.CX P w) P w K mg base N__law_right "_law_right" (defScope s__law_right) T.a__law_right cdv A outer s H E) (fun cls d _ H => E cls d H) := takes_of rfl rfl rfl rfl
  obtain ⟨a, F, fh, al, hd, th⟩ := h
  refine ⟨_, (pss_cons (ps_set (i := 3) sc__law_right.nd rfl (by first | exact Or.inl rfl | exact Or.inr rfl) (pe_callS (ok__law_first T) (hr.rm.mono (by decide)) (by rfl) T.g__law_first T.F__law_first.kp (b__law_first T) (fun σ => passAt tk σ) (pa_cons (pv 1) (pa_cons (pv 2) pa_nil))))
      (pss_cons (ps_set (i := 4) sc__law_right.nd rfl (by first | exact Or.inl rfl | exact Or.inr rfl) (pe_callS (ok__law_held T) (hr.rm.mono (by decide)) (by rfl) T.g__law_held T.F__law_held.kp (b__law_held T) (fun σ => passAt tk σ) (pa_cons (pv 0) (pa_cons (pv 2) pa_nil))))
      (pss_cons (ps_set (i := 5) sc__law_right.nd rfl (by first | exact Or.inl rfl | exact Or.inr rfl) (pe_callS (ok__law_past T) (hr.rm.mono (by decide)) (by rfl) T.g__law_past T.F__law_past.kp (b__law_past T) (fun σ => passAt tk σ) (pa_cons (pv 0) (pa_cons (pv 2) pa_nil))))
      (pss_cons (ps_if (pt_cmpR op_isN1 (pv 3) pe_non (nomark _)) (pss_cons (ps_if (PW.pt (pw_or (pt_cmpR op_ne (pe_ix ix_tup (pv 4) pe_int (fun _ _ => rfl)) pe_str (nomark _)) (pw_or (pt_cmpR op_notN1 (pe_ix ix_tup (pv 4) pe_int (fun _ _ => rfl)) pe_non (nomark _)) (pw_or1 (pt_cmpR op_ne (pe_ix ix_tup (pv 5) pe_int (fun _ _ => rfl)) pe_str (nomark _)))))) (pss_one (ps_ret pe_bl)) pss_nil)
      (pss_one (ps_ret (pe_callS (ok__law_parts T) (hr.rm.mono (by decide)) (by rfl) T.g__law_parts T.F__law_parts.kp (b__law_parts T) (fun σ => passAt tk σ) (pa_cons (pe_ix ix_tup (pv 5) pe_int (fun _ _ => rfl)) (pa_cons (pv 1) (pa_cons (pv 2) pa_nil))))))) pss_nil)
      (pss_cons (ps_set (i := 6) sc__law_right.nd rfl (by first | exact Or.inl rfl | exact Or.inr rfl) (pe_tup (pa_cons pe_str (pa_cons (pe_tup (pa_cons (pv 3) (pa_cons (pe_callS (ok__law_weights T) (hr.rm.mono (by decide)) (by rfl) T.g__law_weights T.F__law_weights.kp (b__law_weights T) (fun σ => passAt tk σ) (pa_cons (pv 1) (pa_cons (pv 3) (pa_cons (pv 2) pa_nil)))) pa_nil))) pa_nil))))
      (pss_cons (ps_if (pt_cmpR op_ne (pe_callB (cr_repr hr) (by rfl) T.z_repr (by decide +kernel) (pa_cons (pv 4) pa_nil)) (pe_callB (cr_repr hr) (by rfl) T.z_repr (by decide +kernel) (pa_cons (pv 6) pa_nil)) (nomark _)) (pss_one (ps_ret pe_bl)) pss_nil)
      (pss_one (ps_ret (pe_cmpR op_eq (pe_callB (cr_repr hr) (by rfl) T.z_repr (by decide +kernel) (pa_cons (pv 5) pa_nil)) (pe_callB (cr_repr hr) (by rfl) T.z_repr (by decide +kernel) (pa_cons (pe_tup (pa_cons pe_str (pa_cons (pv 3) (pa_cons pe_bl pa_nil)))) pa_nil)) (nomark _)))))))))), ?_⟩
  obtain ⟨pts, d⟩ := a
  obtain ⟨k, hf, hdl⟩ := hd
  simp only at k hf hdl
  let W0 : WX := fun cls d _ H => E cls d H
  have hno : isNo (d : Int) pts.length = true := by
    unfold isNo
    rw [decide_eq_true (by omega), decide_eq_true (by omega)]
    rfl
  have eh : heldR pts (d : Int) = .tuple [.str "held", heldD pts d] := by
    unfold heldR
    rw [hno, Int.toNat_natCast]
  have ep : pastR pts (d : Int) = optD (.tuple [.str "line", tupI (lineD pts d)]) (fun x => .tuple [.str "Within", tupI x, .bool true]) (hold pts d) := by
    unfold pastR
    rw [hno, Int.toNat_natCast]
    dsimp only
    cases hold pts d <;> rfl
  have j1 : ∀ ps : Kn, ps[1]? = some (some (dv K (.list (pts.map pD)))) → ps[2]? = some (some (dv K (.int d))) → JD K T.M W0 (tCallS (Prm K T.M (args__law_first T) dom__law_first (out__law_first T)) (WE W0) (tCons (tVar 1) (tCons (tVar 2) tNil))) ps (firstD pts d) := fun ps h1 h2 => je_call (args := args__law_first T) (dom := dom__law_first) (out := out__law_first T) (pts, d) (ja_cons (je_var (i := 1) h1) (ja_cons (je_var (i := 2) h2) ja_nil)) ⟨k.l10, k.nr, hdl⟩
  have j2 : ∀ ps : Kn, ps[0]? = some (some (ob1 K T.a_Floor "points" (.tuple (pts.map pD)))) → ps[2]? = some (some (dv K (.int d))) → JD K T.M W0 (tCallS (Prm K T.M (args__law_held T) dom__law_held (out__law_held T)) (WE W0) (tCons (tVar 0) (tCons (tVar 2) tNil))) ps (.tuple [.str "held", heldD pts d]) := fun ps h1 h2 => by
    rw [← eh]
    exact je_call (args := args__law_held T) (dom := dom__law_held) (out := out__law_held T) (pts, (d : Int)) (ja_cons (je_var (i := 0) h1) (ja_cons (je_var (i := 2) h2) ja_nil)) k
  have j3 : ∀ ps : Kn, ps[0]? = some (some (ob1 K T.a_Floor "points" (.tuple (pts.map pD)))) → ps[2]? = some (some (dv K (.int d))) → JD K T.M W0 (tCallS (Prm K T.M (args__law_past T) dom__law_past (out__law_past T)) (WE W0) (tCons (tVar 0) (tCons (tVar 2) tNil))) ps (optD (.tuple [.str "line", tupI (lineD pts d)]) (fun x => .tuple [.str "Within", tupI x, .bool true]) (hold pts d)) := fun ps h1 h2 => by
    rw [← ep]
    exact je_call (args := args__law_past T) (dom := dom__law_past) (out := out__law_past T) (pts, (d : Int)) (ja_cons (je_var (i := 0) h1) (ja_cons (je_var (i := 2) h2) ja_nil)) k
  unfold firstD at j1
  unfold heldD at j2
  cases hh : hold pts d with
  | none =>
    rw [hh] at j1 j2 j3
    have hdue := hold_due hdl hh
    exact fin_ok (K := K) (M := T.M) (Ps := args__law_right T (pts, d)) (r := .rt (dv K (.bool true))) (js_seq (js_set (i := 3) (P := dv K .none) (j1 _ rfl rfl)) (js_seq (js_set (i := 4) (P := dv K (.tuple [.str "held", .none])) (j2 _ rfl rfl)) (js_seq (js_set (i := 5) (P := dv K (.tuple [.str "line", tupI (lineD pts d)])) (j3 _ rfl rfl))
      (js_rt (js_if (b := true) (jt_test (je_isN (je_var (i := 3) rfl) (.inr ⟨rfl, rfl⟩))) (fun _ => js_seq (js_if (b := false) (jt_is (jt_or (jt_test (je_neS (je_ixT (ds := [.str "held", .none]) (i := ((0 : Nat) : Int)) (je_var (i := 4) rfl) je_int rfl) je_str)) (fun _ => jt_or (jt_test (je_notNone (b := false) (je_ixT (ds := [.str "held", .none]) (i := ((1 : Nat) : Int)) (je_var (i := 4) rfl) je_int rfl) (.inr ⟨rfl, rfl⟩))) (fun _ => jt_test (je_neS (je_ixT (ds := [.str "line", tupI (lineD pts d)]) (i := ((0 : Nat) : Int)) (je_var (i := 5) rfl) je_int rfl) je_str)))) (by simp)) (fun z => Bool.noConfusion z) (fun _ => js_next))
        (js_ret (je_call (args := args__law_parts T) (dom := dom__law_parts) (out := out__law_parts T) (pts, d) (ja_cons (je_ixT (ds := [.str "line", tupI (lineD pts d)]) (i := ((1 : Nat) : Int)) (je_var (i := 5) rfl) je_int rfl) (ja_cons (je_var (i := 1) rfl) (ja_cons (je_var (i := 2) rfl) ja_nil))) ⟨k, hdue⟩))) (fun z => Bool.noConfusion z)))))) (by exact rfl) fh al th
  | some x =>
    rw [hh] at j1 j2 j3
    obtain ⟨hx, hc⟩ := hold_some hh
    have s1 := sb_heldT k hf hdl hx hc
    have s2 := sb_win k.l10 hx
    have s3 : Sb (.tuple [.str "held", heldT pts d x]) 4 3000 := (sb_tup (n := 3) (w := 1000) (ds := [.str "held", heldT pts d x]) fun e he => by
      simp only [List.mem_cons, List.not_mem_nil, or_false] at he
      rcases he with rfl | rfl
      · exact (sb_str (by decide +kernel) (by decide +kernel)).up (by decide) (by decide)
      · exact s1).up (by decide) (by show 2 * 1001 ≤ 3000; decide)
    exact fin_ok (K := K) (M := T.M) (Ps := args__law_right T (pts, d)) (r := .rt (dv K (.bool true))) (js_seq (js_set (i := 3) (P := dv K (tupI x)) (j1 _ rfl rfl)) (js_seq (js_set (i := 4) (P := dv K (.tuple [.str "held", heldT pts d x])) (j2 _ rfl rfl)) (js_seq (js_set (i := 5) (P := dv K (.tuple [.str "Within", tupI x, .bool true])) (j3 _ rfl rfl))
      (js_seq (js_if (b := false) (jt_test (je_isN (je_var (i := 3) rfl) (.inl ⟨fun z => (nomatch z), rfl⟩))) (fun z => Bool.noConfusion z) (fun _ => js_next))
      (js_seq (js_set (i := 6) (P := dv K (.tuple [.str "held", heldT pts d x])) (je_tup (ds := [.str "held", heldT pts d x]) (ja_cons je_str (ja_cons (je_tup (ds := [tupI x, tupI (wts pts x d)]) (ja_cons (je_var (i := 3) rfl) (ja_cons (je_call (args := args__law_weights T) (dom := dom__law_weights) (out := out__law_weights T) (pts, x, d) (ja_cons (je_var (i := 1) rfl) (ja_cons (je_var (i := 3) rfl) (ja_cons (je_var (i := 2) rfl) ja_nil))) ⟨k, hx, hdl, hc⟩) ja_nil))) ja_nil))))
      (js_seq (js_if (b := false) (jt_is (jt_test (je_neS (je_reprB (je_var (i := 4) rfl) (.inr ⟨_, rfl⟩) s3) (je_reprB (je_var (i := 6) rfl) (.inr ⟨_, rfl⟩) s3))) (by simp)) (fun z => Bool.noConfusion z) (fun _ => js_next))
      (js_ret (je_is (je_eqS (je_reprB (je_var (i := 5) rfl) (.inr ⟨_, rfl⟩) s2) (je_reprB (je_tup (ds := [.str "Within", tupI x, .bool true]) (ja_cons je_str (ja_cons (je_var (i := 3) rfl) (ja_cons je_bl ja_nil)))) (.inr ⟨_, rfl⟩) s2)) (by simp))))))))) (by exact rfl) fh al th
end K13

namespace K13
open PySem PySem.Spec PyProof.Rows L2 Evl EB
/-! ### how far the drawn points lie -/
def fits (m : Int) (p : Int × Int) : Prop := (-m ≤ p.1 ∧ p.1 ≤ m) ∧ (-m ≤ p.2 ∧ p.2 ≤ m)
theorem dx_b : ∀ i : Nat, i < 10 → (0 ≤ atN dxs i ∧ atN dxs i ≤ 100) ∧ (0 ≤ atN dys i ∧ atN dys i ≤ 100) := by decide
theorem ptC_fits (c : Int) {i : Nat} (hi : i < 10) (w : Bool) : fits 1000000 (ptC c i w) := by
  have h := dx_b i hi
  unfold fits ptC
  cases w <;> simp only [cond_true, cond_false] <;> omega
theorem pt0_fits (ns : List Int) : ∀ p ∈ pt0 ns, fits 1000000 p := fun p hp => by
  obtain ⟨i, hi, rfl⟩ := List.mem_map.mp hp
  have h := many_nb ns
  exact ptC_fits _ (by have := List.mem_range.mp hi; omega) _
theorem fits_up {m n : Int} (h : m ≤ n) {p : Int × Int} (f : fits m p) : fits n p := by
  unfold fits at *
  omega
theorem mem_set {l : List (Int × Int)} {j : Nat} {p q : Int × Int} (h : q ∈ l.set j p) : q ∈ l ∨ q = p := List.mem_or_eq_of_mem_set h
theorem ptN_mem {l : List (Int × Int)} {j : Nat} (h : j < l.length) : ptN l j ∈ l := by
  have : ptN l j = l[j] := by unfold ptN; simp [h]
  rw [this]
  exact List.getElem_mem h
theorem one_fits (ns : List Int) (j : Nat) : fits 1000000 (ptN (pt0 ns) (kk ns j)) := pt0_fits ns _ (ptN_mem (by rw [pt0_len]; exact kk_lt ns j))
theorem mir_fits (ns : List Int) : fits 3000000 (2 * (pOne ns).1 - (pTwo ns).1, 2 * (pOne ns).2 - (pTwo ns).2) := by
  have a := one_fits ns 1
  have b := one_fits ns 2
  have a : fits 1000000 (pOne ns) := a
  have b : fits 1000000 (pTwo ns) := b
  unfold fits at *
  dsimp only
  omega
theorem pt1_fits (ns : List Int) : ∀ p ∈ pt1 ns, fits 3000000 p := fun p hp => by
  have up : ∀ q : Int × Int, fits 1000000 q → fits 3000000 q := fun q h => fits_up (by decide) h
  have b0 : ∀ q ∈ pt0 ns, fits 3000000 q := fun q hq => up q (pt0_fits ns q hq)
  have b1 : ∀ q ∈ (pt0 ns).set (kz ns) (2 * (pOne ns).1 - (pTwo ns).1, 2 * (pOne ns).2 - (pTwo ns).2), fits 3000000 q := fun q hq => by
    rcases mem_set hq with h | rfl
    · exact b0 q h
    · exact mir_fits ns
  unfold pt1 at hp
  cases h1 : decide (c0 ns / 5 % 5 = 2) with
  | false => rw [h1] at hp; exact b0 p hp
  | true =>
    rw [h1] at hp
    cases h2 : decide (c0 ns / 700 % 2 = 1) with
    | false => rw [h2] at hp; exact b1 p hp
    | true =>
      rw [h2] at hp
      rcases mem_set hp with h | rfl
      · exact b1 p h
      · exact up _ (one_fits ns 1)
theorem pt2_fits (ns : List Int) : ∀ p ∈ pt2 ns, fits 3000000 p := fun p hp => by
  have l : fits 3000000 (pLast ns) := fits_up (by decide) (one_fits ns 3)
  have b2 : ∀ q ∈ pt2a ns, fits 3000000 q := fun q hq => by
    rcases mem_set hq with h | rfl
    · exact pt1_fits ns q h
    · have := pt1_fits ns _ (ptN_mem (l := pt1 ns) (j := kz ns) (by rw [pt1_len]; exact kz_lt ns))
      exact ⟨l.1, this.2⟩
  unfold pt2 at hp
  cases h1 : (decide (c0 ns / 5 % 5 = 3) && decide (3 < manyI ns)) with
  | false => rw [h1] at hp; exact pt1_fits ns p hp
  | true =>
    rw [h1] at hp
    rcases mem_set hp with h | rfl
    · exact b2 p h
    · have := b2 _ (ptN_mem (l := pt2a ns) (j := kz ns) (by rw [pt2a_len]; exact kz_lt ns))
      exact ⟨this.1, l.2⟩
/-! ### the law -/
theorem badXY_v {p : Int × Int} {e : Er} (f : fits 3000000 p) (h : badXY p = some e) : ∃ v : Int, e = ⟨.TooFar, .int v⟩ ∧ -10000000000 < v ∧ v < 10000000000 := by
  unfold badXY at h
  unfold fits at f
  cases h1 : inR (-FAR) p.1 FAR with
  | false => rw [h1] at h; cases h; exact ⟨p.1, rfl, by omega, by omega⟩
  | true =>
    rw [h1] at h
    cases h2 : inR (-FAR) p.2 FAR with
    | false => rw [h2] at h; cases h; exact ⟨p.2, rfl, by omega, by omega⟩
    | true => rw [h2] at h; cases h
theorem sm_flaw {pts : List (Int × Int)} (h3 : 3 ≤ pts.length) (hl : pts.length ≤ 10) (hf : ∀ p ∈ pts, fits 3000000 p) {e : Er} (h : floorE pts = some e) : Sm (flawE e) 3 1000 ∧ (∃ ds, flawE e = .tuple ds) := by
  rw [floorE_in h3 hl] at h
  cases hb : badPts pts with
  | some e2 =>
    rw [hb] at h
    cases h
    obtain ⟨p, hp, hx⟩ := List.exists_of_findSome?_eq_some hb
    obtain ⟨v, rfl, v1⟩ := badXY_v (hf p hp) hx
    refine ⟨(sm_tup (n := 1) (w := 36) (ds := [.str "TooFar", .int v, .bool true]) fun d hd => ?_).up (by decide) (by show 3 * 37 ≤ 1000; decide), _, rfl⟩
    simp only [List.mem_cons, List.not_mem_nil, or_false] at hd
    rcases hd with rfl | rfl | rfl
    · exact sm_str (by decide +kernel) (by decide +kernel)
    · exact sm_int v1
    · exact sm_bl
  | none =>
    rw [hb] at h
    have h : onLine pts = some e := h
    obtain ⟨x, hx, hy⟩ := List.exists_of_findSome?_eq_some h
    obtain ⟨u, v, z, rfl, h1, h2, h3⟩ := of_subs hl hx
    unfold lineOf at hy
    dsimp only at hy
    split at hy
    · cases hy
      refine ⟨(sm_tup (n := 2) (w := 111) (ds := [.str "OnLine", tupI [(u : Int), (v : Int), (z : Int)], .bool true]) fun d hd => ?_).up (by decide) (by show 3 * 112 ≤ 1000; decide), _, rfl⟩
      simp only [List.mem_cons, List.not_mem_nil, or_false] at hd
      rcases hd with rfl | rfl | rfl
      · exact (sm_str (by decide +kernel) (by decide +kernel)).up (by decide) (by decide)
      · refine (sm_tup (n := 1) (w := 36) (ds := [(u : Int), (v : Int), (z : Int)].map .int) fun d hd => ?_).up (by decide) (by show 3 * 37 ≤ 111; decide)
        obtain ⟨i, hi, rfl⟩ := List.mem_map.mp hd
        simp only [List.mem_cons, List.not_mem_nil, or_false] at hi
        rcases hi with rfl | rfl | rfl <;> exact sm_int ⟨by omega, by omega⟩
      · exact sm_bl.up (by decide) (by decide)
    · cases hy
theorem flawO_floor {pts : List (Int × Int)} (h3 : 3 ≤ pts.length) (hl : pts.length ≤ 10) : flawO ((badPts pts).or (onLine pts)) = flawO (floorE pts) := by rw [floorE_in h3 hl]
def sp_law (K : PySem.W.Frag) : Sp := fun vs H Q _ => ∃ (a : Addr) (ns : List Int), vs = [.ref a] ∧ SqL K H a (ns.map V.int) ∧ ns.length ≤ 63 ∧ ∀ H', Q (.bl true) H'
theorem sp_start {K : PySem.W.Frag} {H : Hp} {a : Addr} {ns : List Int} (hl : ns.length ≤ 63) (hS : SqL K H a (ns.map V.int)) : sp_law K [.ref a] H (fun v _ => v = .bl true) fun _ _ _ => False := ⟨a, ns, rfl, hS, hl, fun _ => rfl⟩
theorem js_run {K : PySem.W.Frag} {M : EC → Addr} {W : WX} {ts : TS} {ps : Kn} {r : Res} {D : Ends} {σ : L2.St} {F H : Hp} (h : JS K M W ts ps r) (fh : Ex F H) (S : Sl F σ ps) (k : Wsh K M W ps.length D F H r) : ts D σ H := h D σ F H fh S k
theorem ok_pl (l : List (Int × Int)) : Ok (.list (l.map pD)) 2 := ok_lst (n := 1) (ok_pts (n := 0) l)
theorem rev_get {l : List (Int × Int)} {i : Nat} (h : i < l.length) : pt l ((l.length : Nat) - 1 - (i : Int)) = pt l.reverse (i : Int) := by
  have e : ((l.length : Nat) : Int) - 1 - (i : Int) = ((l.length - 1 - i : Nat) : Int) := by omega
  rw [e, pt_nat (by omega), pt_nat (by rw [List.length_reverse]; exact h), List.getElem_reverse]
theorem rev_list (l : List (Int × Int)) : ((List.range l.length).map fun i : Nat => pD (pt l ((l.length : Nat) - 1 - (i : Int)))) = l.reverse.map pD := by
  apply List.ext_getElem?
  intro i
  by_cases h : i < l.length
  · rw [List.getElem?_map, List.getElem?_range h, List.getElem?_map, List.getElem?_eq_getElem (by rw [List.length_reverse]; exact h)]
    show some (pD (pt l ((l.length : Nat) - 1 - (i : Int)))) = _
    rw [rev_get h, pt_nat (by rw [List.length_reverse]; exact h)]
    rfl
  · rw [List.getElem?_eq_none (by rw [List.length_map, List.length_range]; omega), List.getElem?_eq_none (by rw [List.length_map, List.length_reverse]; omega)]
theorem ro_made (K : PySem.W.Frag) (C : Addr) (pts : List (Int × Int)) (h3 : 3 ≤ pts.length) (hl : pts.length ≤ 10) : Ro (madeP K C pts) := by
  unfold madeP
  cases h : floorE pts with
  | none =>
    refine ro_tpP fun P hP => ?_
    · simp only [List.mem_cons, List.not_mem_nil, or_false] at hP
      rcases hP with rfl | rfl
      · exact ro_ob1 (by simp only [noL]; exact noLs_pD pts)
      · exact ro_dv rfl
  | some e =>
    refine ro_tpP fun P hP => ?_
    · simp only [List.mem_cons, List.not_mem_nil, or_false] at hP
      rcases hP with rfl | rfl
      · exact ro_dv rfl
      · rcases floorE_two h3 hl h with ⟨v, rfl⟩ | ⟨xs, rfl⟩
        · exact ro_dv rfl
        · refine ro_dv ?_
          show noL (.tuple [.str "OnLine", tupI xs, .bool true]) = true
          simp only [noL, noLs, tupI, noLs_ints]
          rfl
theorem js_allL {K : PySem.W.Frag} {M : EC → Addr} {W : WX} {ps : Kn} {vs : List Nat} {wi : TI} {g : TG} {tb : TS} {α : Type} (L : List α) (enc : α → PyData) (hi : JI K M W wi ps (L.map enc))
    (hs : ∀ x ∈ L, ∃ qs, JG vs g ps (dv K (enc x)) qs ∧ JS K M W tb qs (.nx ps)) : JS K M W (tFor wi g tb) ps (.nx ps) := by
  have := js_first (K := K) (M := M) (W := W) (g := g) (tb := tb) (vs := vs) L enc (fun _ => (none : Option Er)) Out.er hi fun x hx => by
    obtain ⟨qs, hg, hb⟩ := hs x hx
    exact ⟨qs, hg, hb⟩
  rw [List.findSome?_eq_none_iff.mpr (fun _ _ => rfl)] at this
  exact this
theorem fitsM_of {pts : List (Int × Int)} (h : badPts pts = none) : ∀ p ∈ pts, fitsM p := fun p hp => by
  have q := List.findSome?_eq_none_iff.mp h p hp
  unfold badXY at q
  cases h1 : inR (-FAR) p.1 FAR with
  | false => rw [h1] at q; cases q
  | true =>
    rw [h1] at q
    cases h2 : inR (-FAR) p.2 FAR with
    | false => rw [h2] at q; cases q
    | true =>
      unfold inR at h1 h2
      simp only [Bool.and_eq_true, decide_eq_true_eq] at h1 h2
      unfold FAR at h1 h2
      exact ⟨h1, h2⟩
theorem bad_none {pts : List (Int × Int)} (h3 : 3 ≤ pts.length) (hl : pts.length ≤ 10) (h : floorE pts = none) : badPts pts = none := by
  rw [floorE_in h3 hl] at h
  cases q : badPts pts with
  | none => rfl
  | some e => rw [q] at h; cases h
def qI (ns : List Int) : Int := cell ns 11 / 2 % 10 ^ (12 : Int).toNat
def offI (ns : List Int) (n : Nat) : Int := cond (decide (cell ns 11 % 2 = 1)) (-1 - qI ns) ((n : Int) + qI ns)
theorem qI_b (ns : List Int) : 0 ≤ qI ns ∧ qI ns < 1000000000000 := by
  unfold qI
  have e : (10 : Int) ^ (12 : Int).toNat = 1000000000000 := by decide +kernel
  rw [e]
  omega
theorem off_no (ns : List Int) (n : Nat) : isNo (offI ns n) n = false := by
  have q := qI_b ns
  unfold isNo offI
  cases decide (cell ns 11 % 2 = 1) with
  | true => rw [cond_true, decide_eq_false (by omega)]; rfl
  | false => rw [cond_false, decide_eq_false (show ¬ (n : Int) + qI ns < n by omega), Bool.and_false]
theorem sb_nop (ns : List Int) {n : Nat} (hn : n ≤ 10) : Sb (nopD (offI ns n)) 2 1000 := by
  have q := qI_b ns
  have b : -10000000000000000000 < offI ns n ∧ offI ns n < 10000000000000000000 := by
    unfold offI
    cases decide (cell ns 11 % 2 = 1) with
    | true => rw [cond_true]; omega
    | false => rw [cond_false]; omega
  refine (sb_tup (n := 1) (w := 66) (ds := [.str "NoPoint", .int (offI ns n), .bool true]) fun e he => ?_).up (by decide) (by show 3 * 67 ≤ 1000; decide)
  simp only [List.mem_cons, List.not_mem_nil, or_false] at he
  rcases he with rfl | rfl | rfl
  · exact sb_str (by decide +kernel) (by decide +kernel)
  · exact sb_int b
  · exact sb_bl
theorem ok_law {P : Program} {w : World} {K : PySem.W.Frag} {mg : Str → Option Value} {base : Heap} (T : Tx K mg) : FnG P w K mg base CX0 11 T.a_law T.fd_law ["script"] (sp_law K) := by
  refine okG T.F_law sc_law (fun vs H Q E h => by obtain ⟨a, ns, rfl, _⟩ := h; rfl) (fun cdv A outer s H vs Q E hr h => ?_)
  refine ⟨_, (pss_cons (ps_set (i := 1) sc_law.nd rfl (by first | exact Or.inl rfl | exact Or.inr rfl) (pe_slice sl_list (pv 0) po_none (po_some pe_int)))
      (pss_cons (ps_set (i := 2) sc_law.nd rfl (by first | exact Or.inl rfl | exact Or.inr rfl) (pe_callS (ok__law_points T) (hr.rm.mono (by decide)) (by rfl) T.g__law_points T.F__law_points.kp (b__law_points T) (fun σ => passAt takes0 σ) (pa_cons (pv 1) pa_nil)))
      (pss_cons (ps_set (i := 3) sc_law.nd rfl (by first | exact Or.inl rfl | exact Or.inr rfl) (pe_callB call_len_seq (by rfl) T.z_len PySem.boot_len (pa_cons (pv 2) pa_nil)))
      (pss_cons (ps_set (i := 4) sc_law.nd rfl (by first | exact Or.inl rfl | exact Or.inr rfl) (pe_callTy call_list_of (by rfl) T.z_list PyProof.Rows.boot_list (pa_cons (pv 2) pa_nil)))
      (pss_cons (ps_set (i := 5) sc_law.nd rfl (by first | exact Or.inl rfl | exact Or.inr rfl) (pe_callS (ok__law_floor T) (hr.rm.mono (by decide)) (by rfl) T.g__law_floor T.F__law_floor.kp (b__law_floor T) (fun σ => passAt takes0 σ) (pa_cons (pv 4) pa_nil)))
      (pss_cons (ps_set (i := 6) sc_law.nd rfl (by first | exact Or.inl rfl | exact Or.inr rfl) (pe_callS (ok__law_flaw T) (hr.rm.mono (by decide)) (by rfl) T.g__law_flaw T.F__law_flaw.kp (b__law_flaw T) (fun σ => passAt takes0 σ) (pa_cons (pv 2) pa_nil)))
      (pss_cons (ps_if (PW.pt (pw_or (pt_cmpR (op_neD hr.rm.units) (pv 4) (pv 2) (nomark _)) (pw_or (pt_cmpR op_notN1 (pe_ix ix_tup (pv 5) pe_int (fun _ _ => rfl)) pe_non (nomark _)) (pw_or1 (pt_cmpR op_notN1 (pv 6) pe_non (nomark _)))))) (pss_one (ps_ret (pe_and (pe_cmpR (op_eqD hr.rm.units) (pv 4) (pv 2) (nomark _)) (pe_one (pe_cmpR op_eq (pe_callB (cr_repr hr) (by rfl) T.z_repr (by decide +kernel) (pa_cons (pe_ix ix_tup (pv 5) pe_int (fun _ _ => rfl)) pa_nil)) (pe_callB (cr_repr hr) (by rfl) T.z_repr (by decide +kernel) (pa_cons (pv 6) pa_nil)) (nomark _)))))) pss_nil)
      (pss_cons (ps_asg (pe_ix ix_list (pv 4) pe_int (fun _ _ => rfl)) (pg_sub (pv 4) pe_int set_list))
      (pss_cons (ps_setLc (i := 7) (own := [("i", 8)]) (g := (gName 8)) (tt := tYes) (te := (tOp (rIxL K) (tVar 2) (tOp (rI0 fun i j => .int (i - j)) (tOp (rI0 fun i j => .int (i - j)) (tVar 3) (tC (.int 1))) (tVar 8)))) rfl sc_law.nd rfl rfl (sw_true rfl rfl rfl (by decide +kernel)) (pi_range1 (by rfl) T.z_range (pa_cons (pv 3) pa_nil)) (blkOk_by (N := N_law) (sc := defScope s_law) (own := [("i", 8)]) (by decide +kernel)) (fun _ _ _ _ _ => (pg_name (i := 8) sc_law.nd rfl (by first | exact Or.inl rfl | exact Or.inr rfl))) (fun _ _ _ _ _ => by exact pts_nil) (fun _ _ _ _ _ => by exact (pe_ix ix_list (pv 2) (pe_op op_sub (pe_op op_sub (pv 3) pe_int) (pv 8)) (fun _ _ => rfl))))
      (pss_cons (ps_set (i := 9) sc_law.nd rfl (by first | exact Or.inl rfl | exact Or.inr rfl) (pe_callS (ok__law_floor T) (hr.rm.mono (by decide)) (by rfl) T.g__law_floor T.F__law_floor.kp (b__law_floor T) (fun σ => passAt takes0 σ) (pa_cons (pe_callTy call_tuple_of (by rfl) T.z_tuple PyProof.Rows.boot_tuple (pa_cons (pv 7) pa_nil)) pa_nil)))
      (pss_cons (ps_if (pt_cmpR op_notN1 (pe_ix ix_tup (pv 9) pe_int (fun _ _ => rfl)) pe_non (nomark _)) (pss_one (ps_ret pe_bl)) pss_nil)
      (pss_cons (ps_for (passes_of rfl) rfl (pi_range1 (by rfl) T.z_range (pa_cons (pv 3) pa_nil)) (pg_name (i := 10) sc_law.nd rfl (by first | exact Or.inl rfl | exact Or.inr rfl)) (pss_cons (ps_if (pt_not (pt_val (pe_callSG (ok__law_right T) (hr.mono (by decide)) (by rfl) T.g__law_right T.F__law_right.kp (b__law_right T) (fun σ => passAt takes0 σ) (pa_cons (pe_ix ix_tup (pv 5) pe_int (fun _ _ => rfl)) (pa_cons (pv 2) (pa_cons (pv 10) pa_nil)))))) (pss_one (ps_ret pe_bl)) pss_nil)
      (pss_one (ps_if (pt_not (pt_val (pe_callSG (ok__law_right T) (hr.mono (by decide)) (by rfl) T.g__law_right T.F__law_right.kp (b__law_right T) (fun σ => passAt takes0 σ) (pa_cons (pe_ix ix_tup (pv 9) pe_int (fun _ _ => rfl)) (pa_cons (pv 7) (pa_cons (pv 10) pa_nil)))))) (pss_one (ps_ret pe_bl)) pss_nil))))
      (pss_cons (ps_set (i := 11) sc_law.nd rfl (by first | exact Or.inl rfl | exact Or.inr rfl) (pe_callS (ok__law_cell T) (hr.rm.mono (by decide)) (by rfl) T.g__law_cell T.F__law_cell.kp (b__law_cell T) (fun σ => passAt takes0 σ) (pa_cons (pv 1) (pa_cons pe_int pa_nil))))
      (pss_cons (ps_set (i := 12) sc_law.nd rfl (by first | exact Or.inl rfl | exact Or.inr rfl) (pe_op op_add (pv 3) (pe_op op_mod (pe_op op_fdiv (pe_callTy call_int1 (by rfl) T.z_int PyProof.Rows.boot_int (pa_cons (pv 11) pa_nil)) pe_int) (pe_op op_pow pe_int pe_int))))
      (pss_cons (ps_if (pt_cmpR op_eq (pe_op op_mod (pe_callTy call_int1 (by rfl) T.z_int PyProof.Rows.boot_int (pa_cons (pv 11) pa_nil)) pe_int) pe_int (nomark _)) (pss_one (ps_set (i := 12) sc_law.nd rfl (by first | exact Or.inl rfl | exact Or.inr rfl) (pe_op op_sub (pe_un un_neg pe_int) (pe_op op_mod (pe_op op_fdiv (pe_callTy call_int1 (by rfl) T.z_int PyProof.Rows.boot_int (pa_cons (pv 11) pa_nil)) pe_int) (pe_op op_pow pe_int pe_int))))) pss_nil)
      (pss_cons (ps_set (i := 13) sc_law.nd rfl (by first | exact Or.inl rfl | exact Or.inr rfl) (pe_callB (cr_repr hr) (by rfl) T.z_repr (by decide +kernel) (pa_cons (pe_tup (pa_cons pe_str (pa_cons (pv 12) (pa_cons pe_bl pa_nil)))) pa_nil)))
      (pss_cons (ps_if (pt_cmpR op_ne (pe_callB (cr_repr hr) (by rfl) T.z_repr (by decide +kernel) (pa_cons (pe_callS (ok__law_held T) (hr.rm.mono (by decide)) (by rfl) T.g__law_held T.F__law_held.kp (b__law_held T) (fun σ => passAt takes0 σ) (pa_cons (pe_ix ix_tup (pv 5) pe_int (fun _ _ => rfl)) (pa_cons (pv 12) pa_nil))) pa_nil)) (pv 13) (nomark _)) (pss_one (ps_ret pe_bl)) pss_nil)
      (pss_cons (ps_if (pt_cmpR op_ne (pe_callB (cr_repr hr) (by rfl) T.z_repr (by decide +kernel) (pa_cons (pe_callS (ok__law_past T) (hr.rm.mono (by decide)) (by rfl) T.g__law_past T.F__law_past.kp (b__law_past T) (fun σ => passAt takes0 σ) (pa_cons (pe_ix ix_tup (pv 9) pe_int (fun _ _ => rfl)) (pa_cons (pv 12) pa_nil))) pa_nil)) (pv 13) (nomark _)) (pss_one (ps_ret pe_bl)) pss_nil)
      (pss_one (ps_ret (pe_callSG (ok__law_right T) (hr.mono (by decide)) (by rfl) T.g__law_right T.F__law_right.kp (b__law_right T) (fun σ => passAt takes0 σ) (pa_cons (pe_ix ix_tup (pv 5) pe_int (fun _ _ => rfl)) (pa_cons (pv 2) (pa_cons pe_int pa_nil)))))))))))))))))))))))), ?_⟩
  obtain ⟨a0, ns0, rfl, hS, hlen, hQ⟩ := h
  let W0 : WX := fun _ _ _ _ => False
  let ns := ns0.take 63
  let P := pt2 ns
  have hn := many_nb ns
  have hPl : P.length = manyN ns := pt2_len ns
  have hP3 : 3 ≤ P.length := by omega
  have hP10 : P.length ≤ 10 := by omega
  have hPf : ∀ p ∈ P, fits 3000000 p := pt2_fits ns
  have S0 : Sl H (L2.start N_law [.ref a0]) (entry N_law [dv K (.list (intsD ns0))]) := Sl.start (.cons (.lst hS (dpAll_ints ns0)) .nil)
  refine js_run (K := K) (M := T.M) (W := W0) (r := .rt (dv K (.bool true))) ?_ (Ex.refl H) S0 (fun v F' H' g p => by rw [dp_bl p]; exact hQ H')
  refine js_seq (js_set (i := 1) (P := dv K (.list (intsD ns))) (je_is (je_slL (ds := intsD ns0) (je_var (i := 0) rfl) jo_none (jo_some (je_int (i := ((63 : Nat) : Int))))) (congrArg PyData.list (cutD_map _ _ _))))
    (js_seq (js_set (i := 2) (P := dv K (.list (P.map pD))) (je_call (args := args__law_points T) (dom := dom__law_points) (out := out__law_points T) ns (ja_cons (je_var (i := 1) rfl) ja_nil) trivial))
    (js_seq (js_set (i := 3) (P := dv K (.int P.length)) (je_n (je_var (i := 2) rfl)))
    (jl_own (i := 4) (ds := P.map pD) (jn_listL (M := T.M) (W := W0) (je_var (i := 2) rfl)) fun D F1 H1 hD => ?_)))
  let psX : Option PV → Option PV → Option PV → Option PV → Kn := fun x5 x6 x7 x9 => [some (dv K (.list (intsD ns0))), some (dv K (.list (intsD ns))), some (dv K (.list (P.map pD))), some (dv K (.int P.length)), some (xv (.ref D)), x5, x6, x7, none, x9, none, none, none, none]
  have mk : JL K T.M W0 D F1 H1 _ (psX none none none none) (P.map pD) (.nx (psX (some (madeP K T.a_Floor P)) none none none) (P.map pD)) := jl_setX (j := 5) (jlx_ro (M := T.M) (W := W0) (i := 4) rfl (je_call (args := args__law_floor T) (dom := dom__law_floor) (out := out__law_floor T) (true, P) (ja_cons (je_var (i := 4) rfl) ja_nil) ⟨hP3, hP10⟩) (ro_made K _ P hP3 hP10))
  have fl : ∀ x : Option PV, JL K T.M W0 D F1 H1 _ (psX x none none none) (P.map pD) (.nx (psX x (some (dv K (flawO (floorE P)))) none none) (P.map pD)) := fun x => jl_js (js_set (i := 6) (P := dv K (flawO (floorE P))) (je_is (je_call (args := args__law_flaw T) (dom := dom__law_flaw) (out := out__law_flaw T) P (ja_cons (je_var (i := 2) rfl) ja_nil) hP10) (flawO_floor hP3 hP10)))
  refine jl_seq mk (jl_seq (fl _) ?_)
  have okP := ok_pl P
  cases hq : floorE P with
  | some e =>
    -- refused, as told
    obtain ⟨sm, ds, hds⟩ := sm_flaw hP3 hP10 hPf hq
    have em : madeP K T.a_Floor P = tpP [dv K .none, dv K (flawE e)] := by unfold madeP; rw [hq]
    rw [em]
    refine jl_tell (i := 4) rfl hD ?_
    let psT : Kn := [some (dv K (.list (intsD ns0))), some (dv K (.list (intsD ns))), some (dv K (.list (P.map pD))), some (dv K (.int P.length)), some (lv K (P.map pD)), some (tpP [dv K .none, dv K (flawE e)]), some (dv K (flawE e)), none, none, none, none, none, none, none]
    have m1 : JD K T.M W0 (tOp (rIxT K) (tVar 5) (tC (.int 1))) psT (flawE e) := je_ixTP (j := 1) (je_var (i := 5) rfl) je_int rfl
    have h4 : JD K T.M W0 (tVar 4) psT (.list (P.map pD)) := je_lvd (je_var (i := 4) rfl)
    have rp : ∀ te : TE, JD K T.M W0 te psT (flawE e) → JD K T.M W0 _ psT (.str (flawE e).shown) := fun te h => je_reprS h (.inr ⟨ds, hds⟩) sm (by decide) (by decide)
    refine js_rt (js_if (b := true) (jt_is (jt_or (jt_test (je_neR h4 (je_var (i := 2) rfl) okP)) (fun _ => jt_or (b := true) (jt_test (je_notNone (b := true) m1 (.inl ⟨by rw [hds]; exact fun z => (nomatch z), rfl⟩))) (fun z => Bool.noConfusion z))) rfl) (fun _ => js_ret ?_) (fun z => Bool.noConfusion z))
    exact je_is (je_andV (a := true) (je_eqR h4 (je_var (i := 2) rfl) okP) (fun _ => je_eqS (rp _ m1) (rp _ (je_var (i := 6) rfl)))) (by simp)
  | none =>
    have em : madeP K T.a_Floor P = tpP [ob1 K T.a_Floor "points" (.tuple (P.map pD)), dv K .none] := by unfold madeP; rw [hq]
    rw [em]
    have k1 : Ok3 P := ok3_of hP3 hP10 hq
    have hq2 := rev_ok hP3 hP10 hq
    have lr : P.reverse.length = P.length := List.length_reverse
    have k2 : Ok3 P.reverse := ok3_of (by omega) (by omega) hq2
    have em2 : madeP K T.a_Floor P.reverse = tpP [ob1 K T.a_Floor "points" (.tuple (P.reverse.map pD)), dv K .none] := by unfold madeP; rw [hq2]
    let psY : Option PV → Option PV → Kn := psX (some (tpP [ob1 K T.a_Floor "points" (.tuple (P.map pD)), dv K .none])) (some (dv K .none))
    refine jl_seq (qs := psY none none) (es := P.map pD) (jl_ifR (i := 4) (b := false) rfl (jt_is (jt_or (jt_test (je_neR (je_var (i := 4) rfl) (je_var (i := 2) rfl) okP)) (fun _ => jt_or (jt_test (je_notNone (b := false) (je_ixTP (j := 1) (je_var (i := 5) rfl) je_int rfl) (.inr ⟨rfl, rfl⟩))) (fun _ => jt_test (je_notNone (b := false) (je_var (i := 6) rfl) (.inr ⟨rfl, rfl⟩))))) rfl) (fun z => Bool.noConfusion z) (fun _ => jl_next)) ?_
    refine jl_seq (jl_setXL (m := 0) (d := pD (ptN P 1)) (i := 4) rfl hD (jlx_ro (M := T.M) (W := W0) (i := 4) rfl (je_ixL (je_var (i := 4) rfl) (je_int (i := ((1 : Nat) : Int))) (ptN_at (by omega))) (ro_dv rfl)) (je_int (i := ((0 : Nat) : Int))) (by rw [List.length_map]; omega)) (jl_leave ?_)
    have turned : JS K T.M W0 _ (psY none none) (.nx (psY (some (dv K (.list (P.reverse.map pD)))) none)) := js_set (i := 7) (P := dv K (.list (P.reverse.map pD))) (je_is (je_lc (W' := fun _ _ _ _ => False) (vs := [8]) (g := gName 8) (t := tYes) (te := tOp (rIxL K) (tVar 2) (tOp (rI0 fun i j => .int (i - j)) (tOp (rI0 fun i j => .int (i - j)) (tVar 3) (tC (.int 1))) (tVar 8))) (List.range P.length) (fun c : Nat => .int (c : Int)) (fun _ => true) (fun i : Nat => pD (pt P ((P.length : Nat) - 1 - (i : Int)))) (ji_n (je_var (i := 3) rfl) (by omega)) (by rw [List.length_range]; omega)
      fun i hi => ⟨_, jg_name (i := 8), jt_yes, fun _ => je_ixL (je_var (i := 2) rfl) (je_sub (je_sub (je_var (i := 3) rfl) je_int) (je_var (i := 8) rfl)) (at_pt (by
        have := List.mem_range.mp hi
        unfold isNo
        rw [decide_eq_true (by omega), decide_eq_true (by omega)]
        rfl))⟩) (by rw [List.filter_eq_self.mpr fun _ _ => rfl, rev_list]))
    refine js_seq turned (js_seq (qs := psY (some (dv K (.list (P.reverse.map pD)))) (some (tpP [ob1 K T.a_Floor "points" (.tuple (P.reverse.map pD)), dv K .none]))) (js_set (i := 9) (by
      rw [← em2]
      exact je_call (args := args__law_floor T) (dom := dom__law_floor) (out := out__law_floor T) (false, P.reverse) (ja_cons (je_tupL (je_var (i := 7) rfl)) ja_nil) ⟨by show 3 ≤ P.reverse.length; omega, by show P.reverse.length ≤ 10; omega⟩)) ?_)
    have f1 := fitsM_of (bad_none hP3 hP10 hq)
    have f2 := fitsM_of (bad_none (pts := P.reverse) (by omega) (by omega) hq2)
    let o1 : PV := ob1 K T.a_Floor "points" (.tuple (P.map pD))
    let o2 : PV := ob1 K T.a_Floor "points" (.tuple (P.reverse.map pD))
    let psZ : Option PV → Option PV → Option PV → Option PV → Kn := fun x10 x11 x12 x13 => [some (dv K (.list (intsD ns0))), some (dv K (.list (intsD ns))), some (dv K (.list (P.map pD))), some (dv K (.int P.length)), some (xv (.ref D)), some (tpP [o1, dv K .none]), some (dv K .none), some (dv K (.list (P.reverse.map pD))), none, some (tpP [o2, dv K .none]), x10, x11, x12, x13]
    have c1 : ∀ (x11 x12 x13 : Option PV) (te : TE) (d : Nat), d < P.length → ∀ x10, JD K T.M W0 te (psZ x10 x11 x12 x13) (.int d) → JD K T.M W0 (tCallS (Prm K T.M (args__law_right T) dom__law_right (out__law_right T)) (WE W0) (tCons (tOp (rIxT K) (tVar 5) (tC (.int 0))) (tCons (tVar 2) (tCons te tNil)))) (psZ x10 x11 x12 x13) (.bool true) := fun x11 x12 x13 te d hd x10 h => je_call (args := args__law_right T) (dom := dom__law_right) (out := out__law_right T) (P, d) (ja_cons (je_ixTP (Ps := [o1, dv K .none]) (j := 0) (je_var (i := 5) rfl) je_int rfl) (ja_cons (je_var (i := 2) rfl) (ja_cons h ja_nil))) ⟨k1, f1, hd⟩
    refine js_seq (qs := psZ none none none none) (js_if (b := false) (jt_test (je_notNone (b := false) (je_ixTP (j := 1) (je_var (i := 9) rfl) je_int rfl) (.inr ⟨rfl, rfl⟩))) (fun z => Bool.noConfusion z) (fun _ => js_next)) (js_seq (qs := psZ none none none none) (js_allL (vs := [10]) (List.range P.length) (fun c : Nat => .int (c : Int)) (ji_n (n := P.length) (je_var (i := 3) rfl) (by omega)) fun d hd => ⟨_, jg_name, ?_⟩) ?_)
    · have hd2 := List.mem_range.mp hd
      exact js_weak (js_seq (js_if (b := false) (jt_is (jt_not (jt_B (c1 none none none (tVar 10) d hd2 _ (je_var (i := 10) rfl)))) rfl) (fun z => Bool.noConfusion z) (fun _ => js_next)) (js_if (b := false) (jt_is (jt_not (jt_B (je_call (args := args__law_right T) (dom := dom__law_right) (out := out__law_right T) (P.reverse, d) (ja_cons (je_ixTP (j := 0) (je_var (i := 9) rfl) je_int rfl) (ja_cons (je_var (i := 7) rfl) (ja_cons (je_var (i := 10) rfl) ja_nil))) ⟨k2, f2, by rw [lr]; exact hd2⟩))) rfl) (fun z => Bool.noConfusion z) (fun _ => js_next))) ⟨.inr rfl, .inr rfl, .inr rfl, .inr rfl, .inr rfl, .inr rfl, .inr rfl, .inr rfl, .inr rfl, .inr rfl, .inl rfl, .inr rfl, .inr rfl, .inr rfl, trivial⟩
    let off := offI ns P.length
    have ho1 := off_no ns P.length
    have ho2 : isNo off P.reverse.length = false := by rw [lr]; exact ho1
    have sn := sb_nop ns hP10
    have jq : ∀ ps : Kn, ps[11]? = some (some (dv K (.int (cell ns 11)))) → JD K T.M W0 (tOp (rI (fun _ j => 0 < j) fun i j => .int (i % j)) (tOp (rI CDiv fun i j => .int (i / j)) (tCB rInt1 (tCons (tVar 11) tNil)) (tC (.int 2))) (tOp (rI CPow fun i j => .int (i ^ j.toNat)) (tC (.int 10)) (tC (.int 12)))) ps (.int (qI ns)) := fun ps h => je_mod (je_div (je_intI (je_var (i := 11) h)) je_int ⟨by decide, by decide⟩) (je_pow je_int je_int ⟨by decide, by decide, by decide⟩) (by decide +kernel)
    have h1 : ∀ x13 : Option PV, JD K T.M W0 (tCallS (Prm K T.M (args__law_held T) dom__law_held (out__law_held T)) (WE W0) (tCons (tOp (rIxT K) (tVar 5) (tC (.int 0))) (tCons (tVar 12) tNil))) (psZ none (some (dv K (.int (cell ns 11)))) (some (dv K (.int off))) x13) (nopD off) := fun x13 => by
      have := je_call (K := K) (M := T.M) (W := W0) (ps := psZ none (some (dv K (.int (cell ns 11)))) (some (dv K (.int off))) x13) (args := args__law_held T) (dom := dom__law_held) (out := out__law_held T) (P, off) (ja_cons (je_ixTP (Ps := [o1, dv K .none]) (j := 0) (je_var (i := 5) rfl) je_int rfl) (ja_cons (je_var (i := 12) rfl) ja_nil)) k1
      rw [show out__law_held T (P, off) = .ok (dv K (nopD off)) by unfold out__law_held heldR; dsimp only; rw [ho1]] at this
      exact this
    have h2 : ∀ x13 : Option PV, JD K T.M W0 (tCallS (Prm K T.M (args__law_past T) dom__law_past (out__law_past T)) (WE W0) (tCons (tOp (rIxT K) (tVar 9) (tC (.int 0))) (tCons (tVar 12) tNil))) (psZ none (some (dv K (.int (cell ns 11)))) (some (dv K (.int off))) x13) (nopD off) := fun x13 => by
      have := je_call (K := K) (M := T.M) (W := W0) (ps := psZ none (some (dv K (.int (cell ns 11)))) (some (dv K (.int off))) x13) (args := args__law_past T) (dom := dom__law_past) (out := out__law_past T) (P.reverse, off) (ja_cons (je_ixTP (Ps := [o2, dv K .none]) (j := 0) (je_var (i := 9) rfl) je_int rfl) (ja_cons (je_var (i := 12) rfl) ja_nil)) k2
      rw [show out__law_past T (P.reverse, off) = .ok (dv K (nopD off)) by unfold out__law_past pastR; dsimp only; rw [ho2]] at this
      exact this
    refine js_seq (qs := psZ none (some (dv K (.int (cell ns 11)))) none none) (js_set (i := 11) (je_call (args := args__law_cell T) (dom := dom__law_cell) (out := out__law_cell T) (ns, 11) (ja_cons (je_var (i := 1) rfl) (ja_cons (je_int (i := ((11 : Nat) : Int))) ja_nil)) trivial))
      (js_seq (qs := psZ none (some (dv K (.int (cell ns 11)))) (some (dv K (.int ((P.length : Int) + qI ns)))) none) (js_set (i := 12) (je_add (je_var (i := 3) rfl) (jq _ rfl)))
      (js_seq (qs := psZ none (some (dv K (.int (cell ns 11)))) (some (dv K (.int off))) none) (js_if (b := decide (cell ns 11 % 2 = 1)) (jt_test (je_eqI (je_mod (je_intI (je_var (i := 11) rfl)) je_int (by decide)) je_int)) (fun hb => ?_) (fun hb => ?_))
      (js_seq (js_set (i := 13) (P := dv K (.str (nopD off).shown)) (je_reprB (je_tup (ds := [.str "NoPoint", .int off, .bool true]) (ja_cons je_str (ja_cons (je_var (i := 12) rfl) (ja_cons je_bl ja_nil)))) (.inr ⟨_, rfl⟩) sn))
      (js_seq (js_if (b := false) (jt_is (jt_test (je_neS (je_reprB (h1 _) (.inr ⟨_, rfl⟩) sn) (je_var (i := 13) rfl))) (by simp)) (fun z => Bool.noConfusion z) (fun _ => js_next))
      (js_seq (js_if (b := false) (jt_is (jt_test (je_neS (je_reprB (h2 _) (.inr ⟨_, rfl⟩) sn) (je_var (i := 13) rfl))) (by simp)) (fun z => Bool.noConfusion z) (fun _ => js_next))
      (js_ret (c1 _ _ _ _ 0 (by omega) _ je_int)))))))
    · have e : off = -1 - qI ns := by show offI ns P.length = _; unfold offI; rw [hb] <;> rfl
      rw [e]
      exact js_set (i := 12) (je_sub (je_neg je_int) (jq _ rfl))
    · have e : off = (P.length : Int) + qI ns := by show offI ns P.length = _; unfold offI; rw [hb] <;> rfl
      rw [e]
      exact js_next
end K13

namespace K13
open PySem PySem.Spec PyProof.Rows L2 Evl EB
theorem bt {K : PySem.W.Frag} {mg : Str → Option Value} (T : Tx K mg) (s : Shared) (v : Value) : BindsTo s T.fd_law ⟨[v], []⟩ [("script", v)] := by
  obtain ⟨oc, od, kV, doc, pm, an, cdv, ct, osl, e, _⟩ := T.F_law.ex
  rw [e]
  exact BindsTo.of_eq rfl
theorem close {l : PySem.W.OpenLaw} {w : World} {K : PySem.W.Frag} {mg : Str → Option Value} {fa : Addr} (h : ∃ T : Tx K mg, mg "law" = some (.ref T.a_law)) (hm : mg "law" = some (.ref fa)) :
    ∃ fd : FuncData, (∀ (s : Shared) (v : Value), BindsTo s fd ⟨[v], []⟩ [("script", v)]) ∧ ∀ base : Heap, K.In base → base.Ns mainGlobals mg → FnG l.prog w K mg base L2.CX0 11 fa fd ["script"] (sp_law K) := by
  obtain ⟨T, hl⟩ := h
  rw [hm] at hl
  cases hl
  exact ⟨T.fd_law, bt T, fun base _ _ => ok_law T⟩
end K13

open PySem PySem.W PyProof.Rows
set_option maxRecDepth 100000 in
set_option maxHeartbeats 0 in
theorem PySem.Challenge.cw_everybowl_k13_corner_or_within_holds : PySem.Challenge.rw_everybowl_k13_corner_or_within.Holds := by
  w_on; o_law; k_head; (case hw => w_witness2)
  k_fill
  refine EB.walk_ofG (l := PySem.Challenge.rw_everybowl_k13_corner_or_within) (n := 63) (k := 11) (x := "script") (CX := L2.CX0) (sp := K13.sp_law) rfl (by decide) rfl ⟨rfl, by decide, by decide⟩ (fun w h Y => PySem.W.kIn_of Y) ?F (fun _ _ a ns hl _ hS => K13.sp_start hl hS) (fun _ _ _ _ z => z)
  case F =>
    intro w mg fa h KX G LX hmg
    refine K13.close ?mk hmg
    case mk =>
      refine' K13.mk_tx KX G  ?n_Repeated ?o_Repeated ?v_Repeated ?sa_Repeated ?sb_Repeated ?ty_Repeated ?kc_Repeated ?ii_Repeated ?ti_Repeated ?nf_Repeated ?ga_Repeated ?gt_Repeated ?hd_Repeated ?is_Repeated ?ca_Repeated ?mo_Repeated ?l_Repeated ?c_Repeated ?kp_Repeated ?n_NoPoint ?o_NoPoint ?v_NoPoint ?sa_NoPoint ?sb_NoPoint ?ty_NoPoint ?kc_NoPoint ?ii_NoPoint ?ti_NoPoint ?nf_NoPoint ?ga_NoPoint ?gt_NoPoint ?hd_NoPoint ?is_NoPoint ?ca_NoPoint ?mo_NoPoint ?l_NoPoint ?c_NoPoint ?kp_NoPoint ?n_Within ?o_Within ?v_Within ?sa_Within ?sb_Within ?ty_Within ?kc_Within ?ii_Within ?ti_Within ?nf_Within ?ga_Within ?gt_Within ?hd_Within ?is_Within ?ca_Within ?mo_Within ?l_Within ?c_Within ?kp_Within ?n_OnLine ?o_OnLine ?v_OnLine ?sa_OnLine ?sb_OnLine ?ty_OnLine ?kc_OnLine ?ii_OnLine ?ti_OnLine ?nf_OnLine ?ga_OnLine ?gt_OnLine ?hd_OnLine ?is_OnLine ?ca_OnLine ?mo_OnLine ?l_OnLine ?c_OnLine ?kp_OnLine ?n_TooFar ?o_TooFar ?v_TooFar ?sa_TooFar ?sb_TooFar ?ty_TooFar ?kc_TooFar ?ii_TooFar ?ti_TooFar ?nf_TooFar ?ga_TooFar ?gt_TooFar ?hd_TooFar ?is_TooFar ?ca_TooFar ?mo_TooFar ?l_TooFar ?c_TooFar ?kp_TooFar ?n_WrongCount ?o_WrongCount ?v_WrongCount ?sa_WrongCount ?sb_WrongCount ?ty_WrongCount ?kc_WrongCount ?ii_WrongCount ?ti_WrongCount ?nf_WrongCount ?ga_WrongCount ?gt_WrongCount ?hd_WrongCount ?is_WrongCount ?ca_WrongCount ?mo_WrongCount ?l_WrongCount ?c_WrongCount ?kp_WrongCount ?n_BowlError ?is_BowlError ?ty_BowlError ?gn ?tkc ?n_Floor ?pg_Floor ?hd_Floor ?po_Floor ?sa_Floor ?tc_Floor ?rd_Floor ?gc_Floor ?na_Floor_points ?cv_Floor_LEAST ?cv_Floor_MOST ?cv_Floor_FAR ?ca_Floor ?mo_Floor ?n__law_gcd ?l__law_gcd ?c__law_gcd ?kp__law_gcd ?n__law_area ?l__law_area ?c__law_area ?kp__law_area ?n__law_weights ?l__law_weights ?c__law_weights ?kp__law_weights ?n__law_parts ?l__law_parts ?c__law_parts ?kp__law_parts ?n_bare_area ?l_bare_area ?c_bare_area ?kp_bare_area ?n_check_number ?l_check_number ?c_check_number ?kp_check_number ?n_check_numbers ?l_check_numbers ?c_check_numbers ?kp_check_numbers ?f_Floor_left_of ?fi_Floor_left_of ?l_Floor_left_of ?c_Floor_left_of ?kp_Floor_left_of ?f_Floor___len__ ?fi_Floor___len__ ?l_Floor___len__ ?c_Floor___len__ ?kp_Floor___len__ ?n_followers ?l_followers ?c_followers ?kp_followers ?n_rim ?l_rim ?c_rim ?kp_rim ?n_first_behind ?l_first_behind ?c_first_behind ?kp_first_behind ?n_subset_list ?l_subset_list ?c_subset_list ?kp_subset_list ?n_is_within ?l_is_within ?c_is_within ?kp_is_within ?n_is_around ?l_is_around ?c_is_around ?kp_is_around ?n_weights ?l_weights ?c_weights ?kp_weights ?n_held_by ?l_held_by ?c_held_by ?kp_held_by ?n_line_past ?l_line_past ?c_line_past ?kp_line_past ?n__law_past ?l__law_past ?c__law_past ?kp__law_past ?n__law_held ?l__law_held ?c__law_held ?kp__law_held ?n__law_threes ?l__law_threes ?c__law_threes ?kp__law_threes ?n__law_around ?l__law_around ?c__law_around ?kp__law_around ?n__law_first ?l__law_first ?c__law_first ?kp__law_first ?n__law_right ?l__law_right ?c__law_right ?kp__law_right ?n__law_cell ?l__law_cell ?c__law_cell ?kp__law_cell ?n_check_turns ?l_check_turns ?c_check_turns ?kp_check_turns ?n_check_range ?l_check_range ?c_check_range ?kp_check_range ?n_check_point ?l_check_point ?c_check_point ?kp_check_point ?n_check_count ?l_check_count ?c_check_count ?kp_check_count ?f_Floor___init__ ?fi_Floor___init__ ?l_Floor___init__ ?c_Floor___init__ ?kp_Floor___init__ ?mk_Floor ?kc_Floor ?n__law_floor ?l__law_floor ?c__law_floor ?kp__law_floor ?n__law_flaw ?l__law_flaw ?c__law_flaw ?kp__law_flaw ?n__law_point ?l__law_point ?c__law_point ?kp__law_point ?n__law_points ?l__law_points ?c__law_points ?kp__law_points ?n_law ?l_law ?c_law ?kp_law ?n_gcd ?z_ValueError ?z_abs ?z_bool ?z_enumerate ?z_int ?z_isinstance ?z_len ?z_list ?z_min ?z_range ?z_repr ?z_tuple ?s_TooFar_BowlError ?s_TooFar_ValueError ?s_OnLine_BowlError ?s_OnLine_ValueError ?s_NoPoint_BowlError ?s_NoPoint_ValueError ?s_Within_BowlError ?s_Within_ValueError ?sb_BowlError ?s_TooFar_TooFar ?s_TooFar_OnLine ?s_OnLine_OnLine ?s_OnLine_TooFar ?s_NoPoint_NoPoint ?s_NoPoint_Within ?s_Within_Within ?s_Within_NoPoint
      (case n_Repeated => k_is)
      (case o_Repeated => k_is)
      (case v_Repeated => exact (by decide +kernel))
      (case sa_Repeated => k_is)
      (case sb_Repeated => k_is)
      (case ty_Repeated => k_is)
      (case kc_Repeated => k_is)
      (case ii_Repeated => k_is)
      (case ti_Repeated => k_is)
      (case nf_Repeated => k_is)
      (case ga_Repeated => k_is)
      (case gt_Repeated => k_is)
      (case hd_Repeated => k_is)
      (case is_Repeated => k_is)
      (case ca_Repeated => k_is)
      (case mo_Repeated => k_is)
      (case l_Repeated => k_is)
      (case c_Repeated => k_is)
      (case kp_Repeated => k_is)
      (case n_NoPoint => k_is)
      (case o_NoPoint => k_is)
      (case v_NoPoint => exact (by decide +kernel))
      (case sa_NoPoint => k_is)
      (case sb_NoPoint => k_is)
      (case ty_NoPoint => k_is)
      (case kc_NoPoint => k_is)
      (case ii_NoPoint => k_is)
      (case ti_NoPoint => k_is)
      (case nf_NoPoint => k_is)
      (case ga_NoPoint => k_is)
      (case gt_NoPoint => k_is)
      (case hd_NoPoint => k_is)
      (case is_NoPoint => k_is)
      (case ca_NoPoint => k_is)
      (case mo_NoPoint => k_is)
      (case l_NoPoint => k_is)
      (case c_NoPoint => k_is)
      (case kp_NoPoint => k_is)
      (case n_Within => k_is)
      (case o_Within => k_is)
      (case v_Within => exact (by decide +kernel))
      (case sa_Within => k_is)
      (case sb_Within => k_is)
      (case ty_Within => k_is)
      (case kc_Within => k_is)
      (case ii_Within => k_is)
      (case ti_Within => k_is)
      (case nf_Within => k_is)
      (case ga_Within => k_is)
      (case gt_Within => k_is)
      (case hd_Within => k_is)
      (case is_Within => k_is)
      (case ca_Within => k_is)
      (case mo_Within => k_is)
      (case l_Within => k_is)
      (case c_Within => k_is)
      (case kp_Within => k_is)
      (case n_OnLine => k_is)
      (case o_OnLine => k_is)
      (case v_OnLine => exact (by decide +kernel))
      (case sa_OnLine => k_is)
      (case sb_OnLine => k_is)
      (case ty_OnLine => k_is)
      (case kc_OnLine => k_is)
      (case ii_OnLine => k_is)
      (case ti_OnLine => k_is)
      (case nf_OnLine => k_is)
      (case ga_OnLine => k_is)
      (case gt_OnLine => k_is)
      (case hd_OnLine => k_is)
      (case is_OnLine => k_is)
      (case ca_OnLine => k_is)
      (case mo_OnLine => k_is)
      (case l_OnLine => k_is)
      (case c_OnLine => k_is)
      (case kp_OnLine => k_is)
      (case n_TooFar => k_is)
      (case o_TooFar => k_is)
      (case v_TooFar => exact (by decide +kernel))
      (case sa_TooFar => k_is)
      (case sb_TooFar => k_is)
      (case ty_TooFar => k_is)
      (case kc_TooFar => k_is)
      (case ii_TooFar => k_is)
      (case ti_TooFar => k_is)
      (case nf_TooFar => k_is)
      (case ga_TooFar => k_is)
      (case gt_TooFar => k_is)
      (case hd_TooFar => k_is)
      (case is_TooFar => k_is)
      (case ca_TooFar => k_is)
      (case mo_TooFar => k_is)
      (case l_TooFar => k_is)
      (case c_TooFar => k_is)
      (case kp_TooFar => k_is)
      (case n_WrongCount => k_is)
      (case o_WrongCount => k_is)
      (case v_WrongCount => exact (by decide +kernel))
      (case sa_WrongCount => k_is)
      (case sb_WrongCount => k_is)
      (case ty_WrongCount => k_is)
      (case kc_WrongCount => k_is)
      (case ii_WrongCount => k_is)
      (case ti_WrongCount => k_is)
      (case nf_WrongCount => k_is)
      (case ga_WrongCount => k_is)
      (case gt_WrongCount => k_is)
      (case hd_WrongCount => k_is)
      (case is_WrongCount => k_is)
      (case ca_WrongCount => k_is)
      (case mo_WrongCount => k_is)
      (case l_WrongCount => k_is)
      (case c_WrongCount => k_is)
      (case kp_WrongCount => k_is)
      (case n_BowlError => k_is)
      (case is_BowlError => k_is)
      (case ty_BowlError => k_is)
      (case gn => k_is)
      (case tkc => k_is)
      (case n_Floor => k_is)
      (case pg_Floor => k_is)
      (case hd_Floor => k_is)
      (case po_Floor => k_is)
      (case sa_Floor => k_is)
      (case tc_Floor => k_is)
      (case rd_Floor => k_is)
      (case gc_Floor => k_is)
      (case na_Floor_points => k_is)
      (case cv_Floor_LEAST => k_is)
      (case cv_Floor_MOST => k_is)
      (case cv_Floor_FAR => k_is)
      (case ca_Floor => k_is)
      (case mo_Floor => k_is)
      (case n__law_gcd => k_is)
      (case l__law_gcd => k_is)
      (case c__law_gcd => k_is)
      (case kp__law_gcd => k_is)
      (case n__law_area => k_is)
      (case l__law_area => k_is)
      (case c__law_area => k_is)
      (case kp__law_area => k_is)
      (case n__law_weights => k_is)
      (case l__law_weights => k_is)
      (case c__law_weights => k_is)
      (case kp__law_weights => k_is)
      (case n__law_parts => k_is)
      (case l__law_parts => k_is)
      (case c__law_parts => k_is)
      (case kp__law_parts => k_is)
      (case n_bare_area => k_is)
      (case l_bare_area => k_is)
      (case c_bare_area => k_is)
      (case kp_bare_area => k_is)
      (case n_check_number => k_is)
      (case l_check_number => k_is)
      (case c_check_number => k_is)
      (case kp_check_number => k_is)
      (case n_check_numbers => k_is)
      (case l_check_numbers => k_is)
      (case c_check_numbers => k_is)
      (case kp_check_numbers => k_is)
      (case f_Floor_left_of => k_is)
      (case fi_Floor_left_of => k_is)
      (case l_Floor_left_of => k_is)
      (case c_Floor_left_of => k_is)
      (case kp_Floor_left_of => k_is)
      (case f_Floor___len__ => k_is)
      (case fi_Floor___len__ => k_is)
      (case l_Floor___len__ => k_is)
      (case c_Floor___len__ => k_is)
      (case kp_Floor___len__ => k_is)
      (case n_followers => k_is)
      (case l_followers => k_is)
      (case c_followers => k_is)
      (case kp_followers => k_is)
      (case n_rim => k_is)
      (case l_rim => k_is)
      (case c_rim => k_is)
      (case kp_rim => k_is)
      (case n_first_behind => k_is)
      (case l_first_behind => k_is)
      (case c_first_behind => k_is)
      (case kp_first_behind => k_is)
      (case n_subset_list => k_is)
      (case l_subset_list => k_is)
      (case c_subset_list => k_is)
      (case kp_subset_list => k_is)
      (case n_is_within => k_is)
      (case l_is_within => k_is)
      (case c_is_within => k_is)
      (case kp_is_within => k_is)
      (case n_is_around => k_is)
      (case l_is_around => k_is)
      (case c_is_around => k_is)
      (case kp_is_around => k_is)
      (case n_weights => k_is)
      (case l_weights => k_is)
      (case c_weights => k_is)
      (case kp_weights => k_is)
      (case n_held_by => k_is)
      (case l_held_by => k_is)
      (case c_held_by => k_is)
      (case kp_held_by => k_is)
      (case n_line_past => k_is)
      (case l_line_past => k_is)
      (case c_line_past => k_is)
      (case kp_line_past => k_is)
      (case n__law_past => k_is)
      (case l__law_past => k_is)
      (case c__law_past => k_is)
      (case kp__law_past => k_is)
      (case n__law_held => k_is)
      (case l__law_held => k_is)
      (case c__law_held => k_is)
      (case kp__law_held => k_is)
      (case n__law_threes => k_is)
      (case l__law_threes => k_is)
      (case c__law_threes => k_is)
      (case kp__law_threes => k_is)
      (case n__law_around => k_is)
      (case l__law_around => k_is)
      (case c__law_around => k_is)
      (case kp__law_around => k_is)
      (case n__law_first => k_is)
      (case l__law_first => k_is)
      (case c__law_first => k_is)
      (case kp__law_first => k_is)
      (case n__law_right => k_is)
      (case l__law_right => k_is)
      (case c__law_right => k_is)
      (case kp__law_right => k_is)
      (case n__law_cell => k_is)
      (case l__law_cell => k_is)
      (case c__law_cell => k_is)
      (case kp__law_cell => k_is)
      (case n_check_turns => k_is)
      (case l_check_turns => k_is)
      (case c_check_turns => k_is)
      (case kp_check_turns => k_is)
      (case n_check_range => k_is)
      (case l_check_range => k_is)
      (case c_check_range => k_is)
      (case kp_check_range => k_is)
      (case n_check_point => k_is)
      (case l_check_point => k_is)
      (case c_check_point => k_is)
      (case kp_check_point => k_is)
      (case n_check_count => k_is)
      (case l_check_count => k_is)
      (case c_check_count => k_is)
      (case kp_check_count => k_is)
      (case f_Floor___init__ => k_is)
      (case fi_Floor___init__ => k_is)
      (case l_Floor___init__ => k_is)
      (case c_Floor___init__ => k_is)
      (case kp_Floor___init__ => k_is)
      (case mk_Floor => k_is)
      (case kc_Floor => k_is)
      (case n__law_floor => k_is)
      (case l__law_floor => k_is)
      (case c__law_floor => k_is)
      (case kp__law_floor => k_is)
      (case n__law_flaw => k_is)
      (case l__law_flaw => k_is)
      (case c__law_flaw => k_is)
      (case kp__law_flaw => k_is)
      (case n__law_point => k_is)
      (case l__law_point => k_is)
      (case c__law_point => k_is)
      (case kp__law_point => k_is)
      (case n__law_points => k_is)
      (case l__law_points => k_is)
      (case c__law_points => k_is)
      (case kp__law_points => k_is)
      (case n_law => k_is)
      (case l_law => k_is)
      (case c_law => k_is)
      (case kp_law => k_is)
      (case n_gcd => k_is)
      (case z_ValueError => k_is)
      (case z_abs => k_is)
      (case z_bool => k_is)
      (case z_enumerate => k_is)
      (case z_int => k_is)
      (case z_isinstance => k_is)
      (case z_len => k_is)
      (case z_list => k_is)
      (case z_min => k_is)
      (case z_range => k_is)
      (case z_repr => k_is)
      (case z_tuple => k_is)
      (case s_TooFar_BowlError => k_is)
      (case s_TooFar_ValueError => k_is)
      (case s_OnLine_BowlError => k_is)
      (case s_OnLine_ValueError => k_is)
      (case s_NoPoint_BowlError => k_is)
      (case s_NoPoint_ValueError => k_is)
      (case s_Within_BowlError => k_is)
      (case s_Within_ValueError => k_is)
      (case sb_BowlError => k_is)
      (case s_TooFar_TooFar => k_is)
      (case s_TooFar_OnLine => k_is)
      (case s_OnLine_OnLine => k_is)
      (case s_OnLine_TooFar => k_is)
      (case s_NoPoint_NoPoint => k_is)
      (case s_NoPoint_Within => k_is)
      (case s_Within_Within => k_is)
      (case s_Within_NoPoint => k_is)

